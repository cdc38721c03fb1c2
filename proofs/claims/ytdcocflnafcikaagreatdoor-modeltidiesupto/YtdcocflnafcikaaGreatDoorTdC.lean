import Derived.Test.YtdcocflnafcikaaGreatDoorMvBAll
import Derived.Test.YtdcocflnafcikaaGreatDoorApVAll
import Derived.Test.YtdcocflnafcikaaGreatDoorQAll
namespace Go.Proofs.YtdcocflnafcikaaGreatDoor
open Go.RowKit
theorem wp_cutD {P:Program} {c:Code} {Q:Exit→Act→World→Prop} {a:Act} {w:World} (J:Act→Act→World→Prop) (h1:c.wp P (fun e a' w'=>e = .normal∧J a a' w') a w) (h2:∀ a' w',J a a' w'→Q .normal a' w'):c.wp P Q a w :=
 Code.wp_mono (fun e a' w' h=>by obtain ⟨rfl,h⟩:=h;exact h2 a' w' h) h1
theorem rowI7:(Tryz.prog.info? 60).map (·.size)=some 10:=by kernel_rfl
theorem Gath.nil1 (t:Nat→PT) (nt:Nat) (u:Nat→PT):Gath t nt 0 u 0:=⟨fun i hi=>by omega,fun i j _ hj=>by omega,fun i hi=>by omega,fun x h0 h1 _=>by omega⟩
theorem Gath.skip1 {t:Nat→PT} {nt j:Nat} {u:Nat→PT} {m:Nat} (h:Gath t nt j u m) (h0:bJ t nt (j:Int)=0):Gath t nt (j+1) u m:=by
 refine ⟨fun i hi=>?_,h.up,h.co,fun x hx0 hx1 hx=>?_⟩
 ·obtain ⟨a,b⟩:=h.lt i hi
  exact ⟨a,by omega⟩
 ·by_cases e:x=(j:Int)
  ·subst e;exact absurd h0 hx
  ·exact h.all x hx0 (by omega) hx
theorem Gath.snoc1 {t:Nat→PT} {nt j:Nat} {u:Nat→PT} {m:Nat} (h:Gath t nt j u m) (h0:bJ t nt (j:Int)≠0):Gath t nt (j+1) (fun q=>if q<m then u q else ⟨(j:Int),bJ t nt (j:Int)⟩) (m+1):=by
 refine ⟨fun i hi=>?_,fun i i' hi hi'=>?_,fun i hi=>?_,fun x hx0 hx1 hx=>?_⟩
 ·by_cases e:i<m
  ·simp only [e,if_true]
   obtain ⟨a,b⟩:=h.lt i e
   exact ⟨a,by omega⟩
  ·simp only [e,if_false]
   exact ⟨by omega,by omega⟩
 ·by_cases e:i'<m
  ·have e2:i<m:=by omega
   simp only [e,e2,if_true]
   exact h.up i i' hi e
  ·have e2:i<m:=by omega
   simp only [e,e2,if_true,if_false]
   exact (h.lt i e2).2
 ·by_cases e:i<m
  ·simp only [e,if_true];exact h.co i e
  ·simp only [e,if_false];exact ⟨trivial,h0⟩
 ·by_cases e:x=(j:Int)
  ·refine ⟨m,by omega,?_⟩
   simp only [Nat.lt_irrefl,if_false]
   exact e.symm
  ·obtain ⟨i,hi,ei⟩:=h.all x hx0 (by omega) hx
   exact ⟨i,by omega,by simp only [hi,if_true];exact ei⟩
set_option maxRecDepth 100000 in
set_option maxHeartbeats 16000000 in
theorem tidyD (P:Prob) (w:World) (hP:PQ w P) (hK:P.K≤1048576) :
 Calls Tryz.prog 9 #[P.val] w fun e w'=>∃ v,e = .returned v∧TO w' w.heap.size P v∧Below w.heap.size w w':=by
 have hS:P.S≤5999998:=by have:=hP.all;omega
 have hvn:P.vn≤1048576:=by have:=hP.all;have:=aZ P.ZV P.vn;omega
 have hrn:P.rn≤1048576:=by have:=hP.all;have:=aZ P.ZR P.rn;omega
 have hZR:∀ i,i<P.rn→P.ZR i≤1048576:=fun i hi=>by have:=dF (Z:=P.ZR) hi;have:=hP.all;omega
 have hZV:∀ i,i<P.vn→P.ZV i≤1048576:=fun i hi=>by have:=dF (Z:=P.ZV) hi;have:=hP.all;omega
 have P0:=aN w #[.bool P.mx,.string P.nm,.bool P.p,.slice P.a P.na P.ca,.slice P.d P.nd P.cd,.slice P.va P.vn P.vc,.slice P.ra P.rn P.rc] 31
 have hb0:=aG w (.cells #[.bool P.mx,.string P.nm,.bool P.p,.slice P.a P.na P.ca,.slice P.d P.nd P.cd,.slice P.va P.vn P.vc,.slice P.ra P.rn P.rc] 31)
 have hs0:(w.alloc (.cells #[.bool P.mx,.string P.nm,.bool P.p,.slice P.a P.na P.ca,.slice P.d P.nd P.cd,.slice P.va P.vn P.vc,.slice P.ra P.rn P.rc] 31)).heap.size=w.heap.size+1:=by simp
 have R2:=Rw.new 31 (w.alloc (.cells #[.bool P.mx,.string P.nm,.bool P.p,.slice P.a P.na P.ca,.slice P.d P.nd P.cd,.slice P.va P.vn P.vc,.slice P.ra P.rn P.rc] 31)) #[.bool false,.string ⟨#[]⟩,.bool false,.slice none 0 0,.slice none 0 0,.slice none 0 0,.slice none 0 0]
 rw [hs0] at R2
 have hb1:=aF hb0 (aG (w.alloc (.cells #[.bool P.mx,.string P.nm,.bool P.p,.slice P.a P.na P.ca,.slice P.d P.nd P.cd,.slice P.va P.vn P.vc,.slice P.ra P.rn P.rc] 31)) (.cells #[.bool false,.string ⟨#[]⟩,.bool false,.slice none 0 0,.slice none 0 0,.slice none 0 0,.slice none 0 0] 31))
 replace P0:=P0.below (aG (w.alloc (.cells #[.bool P.mx,.string P.nm,.bool P.p,.slice P.a P.na P.ca,.slice P.d P.nd P.cd,.slice P.va P.vn P.vc,.slice P.ra P.rn P.rc] 31)) (.cells #[.bool false,.string ⟨#[]⟩,.bool false,.slice none 0 0,.slice none 0 0,.slice none 0 0,.slice none 0 0] 31))
 have hs1:((w.alloc (.cells #[.bool P.mx,.string P.nm,.bool P.p,.slice P.a P.na P.ca,.slice P.d P.nd P.cd,.slice P.va P.vn P.vc,.slice P.ra P.rn P.rc] 31)).alloc (.cells #[.bool false,.string ⟨#[]⟩,.bool false,.slice none 0 0,.slice none 0 0,.slice none 0 0,.slice none 0 0] 31)).heap.size=w.heap.size+2:=by simp
 clear hs0 hb0
 unfold Prob.val
 go_enter Tryz.func9,Tryz.ntmps9
 go_wp2_with fail
 generalize (w.alloc (.cells #[.bool P.mx,.string P.nm,.bool P.p,.slice P.a P.na P.ca,.slice P.d P.nd P.cd,.slice P.va P.vn P.vc,.slice P.ra P.rn P.rc] 31)).alloc (.cells #[.bool false,.string ⟨#[]⟩,.bool false,.slice none 0 0,.slice none 0 0,.slice none 0 0,.slice none 0 0] 31)=W1 at *
 refine (ofD 0 W1 (by decide) (by decide)).mono ?_
 rintro e v1 ⟨fn,cn,nn,kn,dn,mn,ln,rfl,GN,hx1⟩
 have hzz:=aG v1 (.cells #[.bool fn,.slice cn nn kn,.slice dn mn ln] 27)
 have NB:=aN v1 #[.bool fn,.slice cn nn kn,.slice dn mn ln] 27
 replace GN:=(GN.below hzz).val (show ((0:Int):Rat)=0 from rfl)
 have hs2:(v1.alloc (.cells #[.bool fn,.slice cn nn kn,.slice dn mn ln] 27)).heap.size=v1.heap.size+1:=by simp
 have hs3:=hx1.size
 replace P0:=(P0.below hx1).below hzz
 replace R2:=(R2.below hx1).below hzz
 replace hb1:=aF (aF hb1 hx1) hzz
 clear hx1 hzz
 go_wp2_with fail
 obtain ⟨BN,hBN⟩:∃ B,B=v1.heap.size:=⟨_,rfl⟩
 rw [← hBN] at NB hs2 hs3 ⊢
 have hBN1:w.heap.size+2≤BN:=by omega
 have hW1:w.heap.size≤W1.heap.size:=by omega
 clear hBN
 generalize v1.alloc (.cells #[.bool fn,.slice cn nn kn,.slice dn mn ln] 27)=U at *
 have hk1:=hP.k.below hb1
 have HBX:∀ w',Below U.heap.size U w'→(w'.cell? ⟨w.heap.size,0,none⟩=some (.bool P.mx)∧w'.cell? ⟨w.heap.size,1,none⟩=some (.string P.nm)∧w'.cell? ⟨w.heap.size,2,none⟩=some (.bool P.p)∧w'.cell? ⟨w.heap.size,3,none⟩=some (.slice P.a P.na P.ca)∧w'.cell? ⟨w.heap.size,4,none⟩=some (.slice P.d P.nd P.cd)∧w'.cell? ⟨w.heap.size,5,none⟩=some (.slice P.va P.vn P.vc)∧w'.cell? ⟨w.heap.size,6,none⟩=some (.slice P.ra P.rn P.rc)):=fun w' h=>⟨(P0.below h) 0 _ rfl,(P0.below h) 1 _ rfl,(P0.below h) 2 _ rfl,(P0.below h) 3 _ rfl,(P0.below h) 4 _ rfl,(P0.below h) 5 _ rfl,(P0.below h) 6 _ rfl⟩
 refine wp_cutD (fun a0 a' w'=>∃ (u1 u2 u3 u4 u5 u6 u7 u8:Value) (R3:Nat) (f:Bool) (c:Option Addr) (n k:Nat) (c':Option Addr) (n' k':Nat),a'=(((((((((a0.put (some 13) u1).put (some 14) u2).put (some 15) u3).put (some 16) u4).put (some 17) u5).put (some 18) u6).put (some 19) u7).put (some 20) u8).put (some 4) (.pointer (some ⟨R3,0,none⟩)))∧Rw 31 w' R3 #[.bool P.mx,.string P.nm,.bool f,.slice c n k,.slice c' n' k',.slice none 0 0,.slice none 0 0]∧GR w' U.heap.size f c n k c' n' k' P.k P.S∧U.heap.size≤R3∧Below U.heap.size U w') ?_ ?_
 ·refine wp_region_noPanic (aU 9 HBX (by kernel_rfl) ?_)
  have hc0:Below U.heap.size U U.drew:=aS _
  generalize U.drew=z0 at *
  refine wpAnyG.tT 0 (v:=.pointer (some ⟨w.heap.size,0,none⟩)) (by decide) 9 (by kernel_rfl) (by rfl) ?y0 (HBX _ hc0) ?_
  case y0 =>
   rintro w' ⟨q0,q1,q2,q3,q4,q5,q6⟩
   simp only [lgA,lgZ]
   go_simp
  simp only [lgA,lgZ,Act.put,lsA,lsZ,lsS]
  refine wpAnyG.tT 1 (v:=.bool P.mx) (by decide) 9 (by kernel_rfl) (by rfl) ?y1 (HBX _ hc0) ?_
  case y1 =>
   rintro w' ⟨q0,q1,q2,q3,q4,q5,q6⟩
   simp only [lgA,lgZ,lgS]
   go_simp
  simp only [lgA,lgZ,lgS,Act.put,lsA,lsZ,lsS]
  refine wpAnyG.tT 2 (v:=.pointer (some ⟨w.heap.size,1,none⟩)) (by decide) 9 (by kernel_rfl) (by rfl) ?y2 (HBX _ hc0) ?_
  case y2 =>
   rintro w' ⟨q0,q1,q2,q3,q4,q5,q6⟩
   simp only [lgA,lgZ,lgS]
   go_simp
  simp only [lgA,lgZ,lgS,Act.put,lsA,lsZ,lsS]
  refine wpAnyG.tT 3 (v:=.string P.nm) (by decide) 9 (by kernel_rfl) (by rfl) ?y3 (HBX _ hc0) ?_
  case y3 =>
   rintro w' ⟨q0,q1,q2,q3,q4,q5,q6⟩
   simp only [lgA,lgZ,lgS]
   go_simp
  simp only [lgA,lgZ,lgS,Act.put,lsA,lsZ,lsS]
  refine wpAnyG.tT 4 (v:=.pointer (some ⟨w.heap.size,2,none⟩)) (by decide) 9 (by kernel_rfl) (by rfl) ?y4 (HBX _ hc0) ?_
  case y4 =>
   rintro w' ⟨q0,q1,q2,q3,q4,q5,q6⟩
   simp only [lgA,lgZ,lgS]
   go_simp
  simp only [lgA,lgZ,lgS,Act.put,lsA,lsZ,lsS]
  refine wpAnyG.tT 5 (v:=.agg #[.bool P.p,.slice P.a P.na P.ca,.slice P.d P.nd P.cd]) (by decide) 9 (by kernel_rfl) (by rfl) ?y5 (HBX _ hc0) ?_
  case y5 =>
   rintro w' ⟨q0,q1,q2,q3,q4,q5,q6⟩
   simp only [lgA,lgZ,lgS]
   go_simp
  simp only [lgA,lgZ,lgS,Act.put,lsA,lsZ,lsS]
  refine wpAnyG.two 6 8 (by kernel_rfl) (by decide) (by decide) (by rfl) (by rfl) (fun K hK=>?_) (fun K hK=>?_)
  ·simp only [lgA,lgZ,lgS]
   go_simp
   refine (oG z0 (hk1.below hc0) (by omega) hP.s1).mono ?_
   rintro e z1 ⟨f,c,n,k,c',n',k',rfl,G1,hk⟩
   have hc1:=aF hc0 hk
   replace G1:=G1.mono (B':=U.heap.size) hc0.size
   dsimp only
   refine hK _ _ ⟨fun _=>HBX _ hc1,fun _=>trivial⟩ ?_
   clear hK K hk
   refine wpAnyG.tT 7 (v:=.agg #[.bool P.mx,.string P.nm,.bool f,.slice c n k,.slice c' n' k',.slice none 0 0,.slice none 0 0]) (by decide) 9 (by kernel_rfl) (by rfl) ?y7 (HBX _ hc1) ?_
   case y7 =>
    rintro w' ⟨q0,q1,q2,q3,q4,q5,q6⟩
    simp only [lgA,lgZ,lgS]
    go_simp
   simp only [lgA,lgZ,lgS,Act.put,lsA,lsZ,lsS]
   refine wpAnyG.one 8 (by kernel_rfl) (by decide) (by rfl) (fun K hK=>?_)
   simp only [lgA,lgZ,lgS]
   go_simp
   have hx:=aG z1 (.cells #[.bool false,.string ⟨#[]⟩,.bool false,.slice none 0 0,.slice none 0 0,.slice none 0 0,.slice none 0 0] 31)
   have RP2:=Rw.new 31 z1 #[.bool false,.string ⟨#[]⟩,.bool false,.slice none 0 0,.slice none 0 0,.slice none 0 0,.slice none 0 0]
   have hc2:=aF hc1 hx
   have hR0:U.heap.size≤z1.heap.size:=hc1.size
   have G2:=G1.below hx
   refine hK _ _ ⟨fun _=>HBX _ hc2,fun _=>trivial⟩ ?_
   clear hK K hx
   generalize z1.alloc (.cells #[.bool false,.string ⟨#[]⟩,.bool false,.slice none 0 0,.slice none 0 0,.slice none 0 0,.slice none 0 0] 31)=z2 at *
   refine wpAnyG.one 9 (by kernel_rfl) (by decide) (by rfl) (fun K hK=>?_)
   simp only [lgA,lgZ,lgS]
   refine wp_store_row 31 _ _ rfl z1.heap.size #[.bool P.mx,.string P.nm,.bool f,.slice c n k,.slice c' n' k',.slice none 0 0,.slice none 0 0] rfl rfl 31 _ RP2 lY rfl (by simp [Value.oneCell']) ?_
   refine hK _ _ ⟨fun h=>absurd h (by decide),fun _=>trivial⟩ ?_
   clear hK K
   refine wpAnyG.done (by kernel_rfl) (NoPanic.normal ?_)
   obtain ⟨RN,O⟩:=RP2.row #[.bool P.mx,.string P.nm,.bool f,.slice c n k,.slice c' n' k',.slice none 0 0,.slice none 0 0]
   have hnw:=RP2.noW (by decide)
   exact ⟨rfl,_,_,_,_,_,_,_,_,z1.heap.size,f,c,n,k,c',n',k',rfl,RN,G2.keep hnw O.grown,hR0,hc2.trans (O.below hR0)⟩
  ·simp only [lgA,lgZ,lgS]
   go_simp
   have hx:=aG z0 (.cells #[.bool false,.string ⟨#[]⟩,.bool false,.slice none 0 0,.slice none 0 0,.slice none 0 0,.slice none 0 0] 31)
   have RP1:=Rw.new 31 z0 #[.bool false,.string ⟨#[]⟩,.bool false,.slice none 0 0,.slice none 0 0,.slice none 0 0,.slice none 0 0]
   have hc1:=aF hc0 hx
   have hR0:U.heap.size≤z0.heap.size:=hc0.size
   refine hK _ _ ⟨fun _=>HBX _ hc1,fun _=>trivial⟩ ?_
   clear hK K hx
   generalize z0.alloc (.cells #[.bool false,.string ⟨#[]⟩,.bool false,.slice none 0 0,.slice none 0 0,.slice none 0 0,.slice none 0 0] 31)=z1 at *
   refine wpAnyG.one 6 (by kernel_rfl) (by decide) (by rfl) (fun K hK=>?_)
   simp only [lgA,lgZ,lgS]
   go_simp
   refine (oG z1 (hk1.below hc1) (by omega) hP.s1).mono ?_
   rintro e z2 ⟨f,c,n,k,c',n',k',rfl,G2,hk⟩
   have hc2:=aF hc1 hk
   replace G2:=G2.mono (B':=U.heap.size) hc1.size
   have RP2:=RP1.below hk
   dsimp only
   refine hK _ _ ⟨fun _=>HBX _ hc2,fun _=>trivial⟩ ?_
   clear hK K hk
   refine wpAnyG.tT 7 (v:=.agg #[.bool P.mx,.string P.nm,.bool f,.slice c n k,.slice c' n' k',.slice none 0 0,.slice none 0 0]) (by decide) 9 (by kernel_rfl) (by rfl) ?y7 (HBX _ hc2) ?_
   case y7 =>
    rintro w' ⟨q0,q1,q2,q3,q4,q5,q6⟩
    simp only [lgA,lgZ,lgS]
    go_simp
   simp only [lgA,lgZ,lgS,Act.put,lsA,lsZ,lsS]
   refine wpAnyG.one 9 (by kernel_rfl) (by decide) (by rfl) (fun K hK=>?_)
   simp only [lgA,lgZ,lgS]
   refine wp_store_row 31 _ _ rfl z0.heap.size #[.bool P.mx,.string P.nm,.bool f,.slice c n k,.slice c' n' k',.slice none 0 0,.slice none 0 0] rfl rfl 31 _ RP2 lY rfl (by simp [Value.oneCell']) ?_
   refine hK _ _ ⟨fun h=>absurd h (by decide),fun _=>trivial⟩ ?_
   clear hK K
   refine wpAnyG.done (by kernel_rfl) (NoPanic.normal ?_)
   obtain ⟨RN,O⟩:=RP2.row #[.bool P.mx,.string P.nm,.bool f,.slice c n k,.slice c' n' k',.slice none 0 0,.slice none 0 0]
   have hnw:=RP2.noW (by decide)
   exact ⟨rfl,_,_,_,_,_,_,_,_,z0.heap.size,f,c,n,k,c',n',k',rfl,RN,G2.keep hnw O.grown,hR0,hc2.trans (O.below hR0)⟩
 rintro a' w3 ⟨u1,u2,u3,u4,u5,u6,u7,u8,R3,f,c,n,k,c',n',k',rfl,T3,GK,hR3,h3⟩
 simp only [Act.put,List.setIfInBounds_toArray,List.set_cons_zero,List.set_cons_succ]
 clear HBX
 have hb3:=aF hb1 h3
 have hR3':R3<w3.heap.size:=T3.lt
 have PB3:=P0.below h3
 have NB3:=NB.below h3
 have R23:=R2.below h3
 have GN3:=GN.below h3
 have hs4:=h3.size
 clear P0 NB R2 GN hk1 h3 hb1
 have p5:=PB3 5 _ rfl
 have HS3:Hid (w.heap.size+2≤BN∧BN<R3∧W1.heap.size≤BN∧w.heap.size≤W1.heap.size∧BN<U.heap.size∧w.heap.size≤U.heap.size):=⟨hBN1,by omega,by omega,hW1,by omega,by omega⟩
 have hw3:w.heap.size≤w3.heap.size:=hb3.size
 clear hBN1 hW1 hs1 hs2 hs3 hs4
 go_wp2
 go_loopw [5] (fun s5 wr=>∃ (i:Nat) (vv:Value) (E:Nat→List Value),i≤P.vn∧s5 = .int .i64 i∧Rw 31 wr R3 #[.bool P.mx,.string P.nm,.bool f,.slice c n k,.slice c' n' k',vv,.slice none 0 0]∧SL wr w3.heap.size 57 13 vv i E∧(∀ q,q<i→VC wr w3.heap.size (E q) (P.V q) (P.ZV q))∧(GR wr U.heap.size f c n k c' n' k' P.k P.S∧GR wr W1.heap.size fn cn nn kn dn mn ln 0 1)∧Near R3 w3 wr) (fun s5 _=>P.vn-(intOf s5).toNat)
 case atStart=>exact ⟨0,_,fun _=>[],Nat.zero_le _,rfl,T3,SL.nil _ _ _ _ _,fun q hq=>by omega,⟨GK,GN3⟩,Near.refl _ _⟩
 case round =>
  clear T3 GK p5
  obtain ⟨i,vv,E,hi,rfl,T3,hS,hVC,⟨GK,GN⟩,hN⟩:=hrel
  obtain ⟨ga,gc,rfl,hgc⟩:=hS.form
  have hH:=HS3.out
  have hbel:Below w.heap.size w wr:=hb3.trans (hN.below (by omega) hw3)
  have PB:=hN.box PB3 (by omega) (by omega)
  have NB:=hN.box NB3 (by omega) (by omega)
  have p5:=PB 5 _ rfl
  by_cases hlt:i<P.vn
  ·have hkI:(i:Int)<(P.vn:Int):=by omega
   rcases hP.v with h0|⟨vb,vo,hva,hev⟩
   ·omega
   have hV:=hev i hlt
   have hZ1:=hV.s1
   have hZ7:=hZV i hlt
   obtain ⟨nmV,enm⟩:∃ x,x=(P.V i).nm:=⟨_,rfl⟩
   obtain ⟨hl,ehl⟩:∃ x,x=(P.V i).hlo:=⟨_,rfl⟩
   obtain ⟨hh,ehh⟩:∃ x,x=(P.V i).hhi:=⟨_,rfl⟩
   obtain ⟨wh,ewh⟩:∃ x,x=(P.V i).whole:=⟨_,rfl⟩
   have x0:=aB hbel hV.nm
   obtain ⟨p1,a1,n1,k1,d1,m1,l1,x1,x2,x3,t1⟩:=hV.obj
   have x4:=aB hbel hV.hlo
   obtain ⟨p2,a2,n2,k2,d2,m2,l2,x5,x6,x7,t2⟩:=hV.lo
   have x8:=aB hbel hV.hhi
   obtain ⟨p3,a3,n3,k3,d3,m3,l3,x9,x10,x11,t3⟩:=hV.hi
   have x12:=aB hbel hV.whole
   replace x1:=aB hbel x1
   replace x2:=aB hbel x2
   replace x3:=aB hbel x3
   replace x5:=aB hbel x5
   replace x6:=aB hbel x6
   replace x7:=aB hbel x7
   replace x9:=aB hbel x9
   replace x10:=aB hbel x10
   replace x11:=aB hbel x11
   rw [← enm] at x0
   rw [← ehl] at x4
   rw [← ehh] at x8
   rw [← ewh] at x12
   have EV:Hid (nmV=(P.V i).nm∧hl=(P.V i).hlo∧hh=(P.V i).hhi∧wh=(P.V i).whole):=⟨enm,ehl,ehh,ewh⟩
   have hkI2:(i:Int)*13=((i*13:Nat):Int):=by omega
   clear hev hV enm ehl ehh ewh
   rw [hva] at p5
   go_wp2_with fail
   have B5:=aN wr #[.string nmV,.bool p1,.slice a1 n1 k1,.slice d1 m1 l1,.bool hl,.bool p2,.slice a2 n2 k2,.slice d2 m2 l2,.bool hh,.bool p3,.slice a3 n3 k3,.slice d3 m3 l3,.bool wh] 57
   have hz:=aG wr (.cells #[.string nmV,.bool p1,.slice a1 n1 k1,.slice d1 m1 l1,.bool hl,.bool p2,.slice a2 n2 k2,.slice d2 m2 l2,.bool hh,.bool p3,.slice a3 n3 k3,.slice d3 m3 l3,.bool wh] 57)
   have hs4:wr.heap.size+1≤(wr.alloc (.cells #[.string nmV,.bool p1,.slice a1 n1 k1,.slice d1 m1 l1,.bool hl,.bool p2,.slice a2 n2 k2,.slice d2 m2 l2,.bool hh,.bool p3,.slice a3 n3 k3,.slice d3 m3 l3,.bool wh] 57)).heap.size:=by simp
   have hbel4:=aF hbel hz
   replace t1:=t1.below hbel4
   replace t2:=t2.below hbel4
   replace t3:=t3.below hbel4
   have T34:=T3.below hz
   have hS4:=hS.below hz
   have hN4:Near R3 w3 _:=hN.trans (bP hz)
   have z5:=(T34.cell 5).trans (show _=some (.slice ga i gc) from rfl)
   have NB4:=NB.below hz
   have GN4:=GN.below hz
   have hsw:=hN4.size
   clear x0 x1 x2 x3 x4 x5 x6 x7 x8 x9 x10 x11 x12 p5 NB PB
   generalize wr.alloc (.cells #[.string nmV,.bool p1,.slice a1 n1 k1,.slice d1 m1 l1,.bool hl,.bool p2,.slice a2 n2 k2,.slice d2 m2 l2,.bool hh,.bool p3,.slice a3 n3 k3,.slice d3 m3 l3,.bool wh] 57)=W4 at *
   have HBX:∀ w',Below W4.heap.size W4 w'→(w'.cell? ⟨wr.heap.size,0,none⟩=some (.string nmV)∧w'.cell? ⟨wr.heap.size,1,none⟩=some (.bool p1)∧w'.cell? ⟨wr.heap.size,2,none⟩=some (.slice a1 n1 k1)∧w'.cell? ⟨wr.heap.size,3,none⟩=some (.slice d1 m1 l1)∧w'.cell? ⟨wr.heap.size,4,none⟩=some (.bool hl)∧w'.cell? ⟨wr.heap.size,5,none⟩=some (.bool p2)∧w'.cell? ⟨wr.heap.size,6,none⟩=some (.slice a2 n2 k2)∧w'.cell? ⟨wr.heap.size,7,none⟩=some (.slice d2 m2 l2)∧w'.cell? ⟨wr.heap.size,8,none⟩=some (.bool hh)∧w'.cell? ⟨wr.heap.size,9,none⟩=some (.bool p3)∧w'.cell? ⟨wr.heap.size,10,none⟩=some (.slice a3 n3 k3)∧w'.cell? ⟨wr.heap.size,11,none⟩=some (.slice d3 m3 l3)∧w'.cell? ⟨wr.heap.size,12,none⟩=some (.bool wh)∧w'.cell? ⟨R3,5,none⟩=some (.slice ga i gc)∧w'.cell? ⟨BN,0,none⟩=some (.bool fn)∧w'.cell? ⟨BN,1,none⟩=some (.slice cn nn kn)∧w'.cell? ⟨BN,2,none⟩=some (.slice dn mn ln)):=fun w' h=>⟨(B5.below h) 0 _ rfl,(B5.below h) 1 _ rfl,(B5.below h) 2 _ rfl,(B5.below h) 3 _ rfl,(B5.below h) 4 _ rfl,(B5.below h) 5 _ rfl,(B5.below h) 6 _ rfl,(B5.below h) 7 _ rfl,(B5.below h) 8 _ rfl,(B5.below h) 9 _ rfl,(B5.below h) 10 _ rfl,(B5.below h) 11 _ rfl,(B5.below h) 12 _ rfl,aB h z5,(NB4.below h) 0 _ rfl,(NB4.below h) 1 _ rfl,(NB4.below h) 2 _ rfl⟩
   refine wp_region_noPanic (aU 21 HBX (by kernel_rfl) ?_)
   have hc0:Below W4.heap.size W4 W4.drew:=aS _
   generalize W4.drew=z0 at *
   refine wpAnyG.tT 0 (v:=.pointer (some ⟨R3,5,none⟩)) (by decide) 21 (by kernel_rfl) (by rfl) ?y0 (HBX _ hc0) ?_
   case y0 =>
    rintro w' ⟨q0,q1,q2,q3,q4,q5,q6,q7,q8,q9,q10,q11,q12,q13,q14,q15,q16⟩
    simp only [lgA,lgZ]
    go_simp
   simp only [lgA,lgZ,Act.put,lsA,lsZ,lsS]
   refine wpAnyG.tT 1 (v:=.slice ga i gc) (by decide) 21 (by kernel_rfl) (by rfl) ?y1 (HBX _ hc0) ?_
   case y1 =>
    rintro w' ⟨q0,q1,q2,q3,q4,q5,q6,q7,q8,q9,q10,q11,q12,q13,q14,q15,q16⟩
    simp only [lgA,lgZ,lgS]
    go_simp
   simp only [lgA,lgZ,lgS,Act.put,lsA,lsZ,lsS]
   refine wpAnyG.tT 2 (v:=.pointer (some ⟨wr.heap.size,0,none⟩)) (by decide) 21 (by kernel_rfl) (by rfl) ?y2 (HBX _ hc0) ?_
   case y2 =>
    rintro w' ⟨q0,q1,q2,q3,q4,q5,q6,q7,q8,q9,q10,q11,q12,q13,q14,q15,q16⟩
    simp only [lgA,lgZ,lgS]
    go_simp
   simp only [lgA,lgZ,lgS,Act.put,lsA,lsZ,lsS]
   refine wpAnyG.tT 3 (v:=.string nmV) (by decide) 21 (by kernel_rfl) (by rfl) ?y3 (HBX _ hc0) ?_
   case y3 =>
    rintro w' ⟨q0,q1,q2,q3,q4,q5,q6,q7,q8,q9,q10,q11,q12,q13,q14,q15,q16⟩
    simp only [lgA,lgZ,lgS]
    go_simp
   simp only [lgA,lgZ,lgS,Act.put,lsA,lsZ,lsS]
   refine wpAnyG.tT 4 (v:=.pointer (some ⟨wr.heap.size,1,none⟩)) (by decide) 21 (by kernel_rfl) (by rfl) ?y4 (HBX _ hc0) ?_
   case y4 =>
    rintro w' ⟨q0,q1,q2,q3,q4,q5,q6,q7,q8,q9,q10,q11,q12,q13,q14,q15,q16⟩
    simp only [lgA,lgZ,lgS]
    go_simp
   simp only [lgA,lgZ,lgS,Act.put,lsA,lsZ,lsS]
   refine wpAnyG.tT 5 (v:=.agg #[.bool p1,.slice a1 n1 k1,.slice d1 m1 l1]) (by decide) 21 (by kernel_rfl) (by rfl) ?y5 (HBX _ hc0) ?_
   case y5 =>
    rintro w' ⟨q0,q1,q2,q3,q4,q5,q6,q7,q8,q9,q10,q11,q12,q13,q14,q15,q16⟩
    simp only [lgA,lgZ,lgS]
    go_simp
   simp only [lgA,lgZ,lgS,Act.put,lsA,lsZ,lsS]
   refine wpAnyG.tT 7 (v:=.pointer (some ⟨wr.heap.size,4,none⟩)) (by decide) 21 (by kernel_rfl) (by rfl) ?y7 (HBX _ hc0) ?_
   case y7 =>
    rintro w' ⟨q0,q1,q2,q3,q4,q5,q6,q7,q8,q9,q10,q11,q12,q13,q14,q15,q16⟩
    simp only [lgA,lgZ,lgS]
    go_simp
   simp only [lgA,lgZ,lgS,Act.put,lsA,lsZ,lsS]
   refine wpAnyG.tT 8 (v:=.agg #[.bool hl,.bool p2,.slice a2 n2 k2,.slice d2 m2 l2]) (by decide) 21 (by kernel_rfl) (by rfl) ?y8 (HBX _ hc0) ?_
   case y8 =>
    rintro w' ⟨q0,q1,q2,q3,q4,q5,q6,q7,q8,q9,q10,q11,q12,q13,q14,q15,q16⟩
    simp only [lgA,lgZ,lgS]
    go_simp
   simp only [lgA,lgZ,lgS,Act.put,lsA,lsZ,lsS]
   refine wpAnyG.tT 9 (v:=.agg #[.bool fn,.slice cn nn kn,.slice dn mn ln]) (by decide) 21 (by kernel_rfl) (by rfl) ?y9 (HBX _ hc0) ?_
   case y9 =>
    rintro w' ⟨q0,q1,q2,q3,q4,q5,q6,q7,q8,q9,q10,q11,q12,q13,q14,q15,q16⟩
    simp only [lgA,lgZ,lgS]
    go_simp
   simp only [lgA,lgZ,lgS,Act.put,lsA,lsZ,lsS]
   refine wpAnyG.tT 11 (v:=.pointer (some ⟨wr.heap.size,8,none⟩)) (by decide) 21 (by kernel_rfl) (by rfl) ?y11 (HBX _ hc0) ?_
   case y11 =>
    rintro w' ⟨q0,q1,q2,q3,q4,q5,q6,q7,q8,q9,q10,q11,q12,q13,q14,q15,q16⟩
    simp only [lgA,lgZ,lgS]
    go_simp
   simp only [lgA,lgZ,lgS,Act.put,lsA,lsZ,lsS]
   refine wpAnyG.tT 12 (v:=.agg #[.bool hh,.bool p3,.slice a3 n3 k3,.slice d3 m3 l3]) (by decide) 21 (by kernel_rfl) (by rfl) ?y12 (HBX _ hc0) ?_
   case y12 =>
    rintro w' ⟨q0,q1,q2,q3,q4,q5,q6,q7,q8,q9,q10,q11,q12,q13,q14,q15,q16⟩
    simp only [lgA,lgZ,lgS]
    go_simp
   simp only [lgA,lgZ,lgS,Act.put,lsA,lsZ,lsS]
   refine wpAnyG.tT 13 (v:=.agg #[.bool fn,.slice cn nn kn,.slice dn mn ln]) (by decide) 21 (by kernel_rfl) (by rfl) ?y13 (HBX _ hc0) ?_
   case y13 =>
    rintro w' ⟨q0,q1,q2,q3,q4,q5,q6,q7,q8,q9,q10,q11,q12,q13,q14,q15,q16⟩
    simp only [lgA,lgZ,lgS]
    go_simp
   simp only [lgA,lgZ,lgS,Act.put,lsA,lsZ,lsS]
   refine wpAnyG.tT 15 (v:=.pointer (some ⟨wr.heap.size,12,none⟩)) (by decide) 21 (by kernel_rfl) (by rfl) ?y15 (HBX _ hc0) ?_
   case y15 =>
    rintro w' ⟨q0,q1,q2,q3,q4,q5,q6,q7,q8,q9,q10,q11,q12,q13,q14,q15,q16⟩
    simp only [lgA,lgZ,lgS]
    go_simp
   simp only [lgA,lgZ,lgS,Act.put,lsA,lsZ,lsS]
   refine wpAnyG.tT 16 (v:=.bool wh) (by decide) 21 (by kernel_rfl) (by rfl) ?y16 (HBX _ hc0) ?_
   case y16 =>
    rintro w' ⟨q0,q1,q2,q3,q4,q5,q6,q7,q8,q9,q10,q11,q12,q13,q14,q15,q16⟩
    simp only [lgA,lgZ,lgS]
    go_simp
   simp only [lgA,lgZ,lgS,Act.put,lsA,lsZ,lsS]
   refine wpAnyG.one 6 (by kernel_rfl) (by decide) (by rfl) (fun K hK=>?_)
   simp only [lgA,lgZ,lgS]
   go_simp
   refine (oG z0 (t1.below hc0) (by omega) hZ1).mono ?_
   rintro e z1 ⟨f1,c1,j1,g1,c1',j1',g1',rfl,G1,hk1⟩
   have hc1:Below W4.heap.size W4 z1:=aF hc0 hk1
   have G1:=G1.mono (show w3.heap.size≤_ by have:=hc0.size;omega)
   dsimp only
   refine hK _ _ ⟨fun _=>HBX _ hc1,fun _=>trivial⟩ ?_
   clear hK K
   refine wpAnyG.one 10 (by kernel_rfl) (by decide) (by rfl) (fun K hK=>?_)
   simp only [lgA,lgZ,lgS]
   go_simp
   refine (lG z1 (t2.below hc1) (GN4.tr.below hc1) (by omega) hZ1).mono ?_
   rintro e z2 ⟨f2,c2,j2,g2,c2',j2',g2',rfl,G2,hk2⟩
   have hc2:Below W4.heap.size W4 z2:=aF hc1 hk2
   have G1:=G1.below hk2
   have G2:=G2.mono (show w3.heap.size≤_ by have:=hc1.size;omega)
   dsimp only
   refine hK _ _ ⟨fun _=>HBX _ hc2,fun _=>trivial⟩ ?_
   clear hK K
   refine wpAnyG.one 14 (by kernel_rfl) (by decide) (by rfl) (fun K hK=>?_)
   simp only [lgA,lgZ,lgS]
   go_simp
   refine (lG z2 (t3.below hc2) (GN4.tr.below hc2) (by omega) hZ1).mono ?_
   rintro e z3 ⟨f3,c3,j3,g3,c3',j3',g3',rfl,G3,hk3⟩
   have hc3:Below W4.heap.size W4 z3:=aF hc2 hk3
   have G1:=G1.below hk3
   have G2:=G2.below hk3
   have G3:=G3.mono (show w3.heap.size≤_ by have:=hc2.size;omega)
   dsimp only
   refine hK _ _ ⟨fun _=>HBX _ hc3,fun _=>trivial⟩ ?_
   clear hK K
   refine wpAnyG.tT 17 (v:=.agg #[.string nmV,.bool f1,.slice c1 j1 g1,.slice c1' j1' g1',.bool hl,.bool f2,.slice c2 j2 g2,.slice c2' j2' g2',.bool hh,.bool f3,.slice c3 j3 g3,.slice c3' j3' g3',.bool wh]) (by decide) 21 (by kernel_rfl) (by rfl) ?y17 (HBX _ hc3) ?_
   case y17 =>
    rintro w' ⟨q0,q1,q2,q3,q4,q5,q6,q7,q8,q9,q10,q11,q12,q13,q14,q15,q16⟩
    simp only [lgA,lgZ,lgS]
    go_simp
   simp only [lgA,lgZ,lgS,Act.put,lsA,lsZ,lsS]
   refine wpAnyG.one 18 (by kernel_rfl) (by decide) (by rfl) (fun K hK=>?_)
   simp only [lgA,lgZ,lgS]
   go_simp
   have hy5:Below W4.heap.size W4 (z3.alloc (.cells #[.string nmV,.bool f1,.slice c1 j1 g1,.slice c1' j1' g1',.bool hl,.bool f2,.slice c2 j2 g2,.slice c2' j2' g2',.bool hh,.bool f3,.slice c3 j3 g3,.slice c3' j3' g3',.bool wh] 57)):=eG hc3
   refine hK _ _ ⟨fun _=>HBX _ hy5,fun _=>trivial⟩ ?_
   clear hK K
   refine wpAnyG.one 19 (by kernel_rfl) (by decide) (by rfl) (fun K hK=>?_)
   simp only [lgA,lgZ,lgS]
   have hS5:=hS4.below hy5
   have hs5:=Below.size hc3
   refine dM _ _ _ 28 57 13 208 rfl Tryz.underlying28 qM (by decide) (by decide) w3.heap.size (.slice ga i gc) i E rfl hS5 z3.heap.size _ rfl [.string nmV,.bool f1,.slice c1 j1 g1,.slice c1' j1' g1',.bool hl,.bool f2,.slice c2 j2 g2,.slice c2' j2' g2',.bool hh,.bool f3,.slice c3 j3 g3,.slice c3' j3' g3',.bool wh] rfl (fun u hu=>by simp at hu;rcases hu with rfl|rfl|rfl|rfl|rfl|rfl|rfl|rfl|rfl|rfl|rfl|rfl|rfl <;> rfl) (aN z3 #[.string nmV,.bool f1,.slice c1 j1 g1,.slice c1' j1' g1',.bool hl,.bool f2,.slice c2 j2 g2,.slice c2' j2' g2',.bool hh,.bool f3,.slice c3 j3 g3,.slice c3' j3' g3',.bool wh] 57) (by omega) (by simp;omega) (z3.heap.size+1) (by simp) ?_
   intro gN capN w5 SN hgrow hat _
   have hrw:=hS5.neR (T34.below hy5) (by decide)
   have T35:=(T34.below hy5).kept hgrow hrw
   have z6:=(T35.cell 5).trans (show _=some (.slice ga i gc) from rfl)
   have z7:=T35.frozen 5
   have hnw:=hS5.noW (by decide)
   have hrvA:(Value.slice ga i gc).ownBlock≠some wr.heap.size:=fun e=>by have:=hS.lt _ e;omega
   have hrvB:(Value.slice ga i gc).ownBlock≠some BN:=fun e=>by have:=hS.lt _ e;omega
   refine hK _ _ ⟨fun _=>⟨aJ hgrow (B5.below hy5 0 _ rfl) hrvA,aJ hgrow (B5.below hy5 1 _ rfl) hrvA,aJ hgrow (B5.below hy5 2 _ rfl) hrvA,aJ hgrow (B5.below hy5 3 _ rfl) hrvA,aJ hgrow (B5.below hy5 4 _ rfl) hrvA,aJ hgrow (B5.below hy5 5 _ rfl) hrvA,aJ hgrow (B5.below hy5 6 _ rfl) hrvA,aJ hgrow (B5.below hy5 7 _ rfl) hrvA,aJ hgrow (B5.below hy5 8 _ rfl) hrvA,aJ hgrow (B5.below hy5 9 _ rfl) hrvA,aJ hgrow (B5.below hy5 10 _ rfl) hrvA,aJ hgrow (B5.below hy5 11 _ rfl) hrvA,aJ hgrow (B5.below hy5 12 _ rfl) hrvA,z6,aJ hgrow (NB4.below hy5 0 _ rfl) hrvB,aJ hgrow (NB4.below hy5 1 _ rfl) hrvB,aJ hgrow (NB4.below hy5 2 _ rfl) hrvB⟩,fun _=>trivial⟩ ?_
   clear hK K
   refine wpAnyG.one 20 (by kernel_rfl) (by decide) (by rfl) (fun K hK=>?_)
   simp only [lgA,lgZ,lgS]
   go_simp
   refine hK _ _ ⟨fun _=>⟨aJ hgrow (B5.below hy5 0 _ rfl) hrvA,aJ hgrow (B5.below hy5 1 _ rfl) hrvA,aJ hgrow (B5.below hy5 2 _ rfl) hrvA,aJ hgrow (B5.below hy5 3 _ rfl) hrvA,aJ hgrow (B5.below hy5 4 _ rfl) hrvA,aJ hgrow (B5.below hy5 5 _ rfl) hrvA,aJ hgrow (B5.below hy5 6 _ rfl) hrvA,aJ hgrow (B5.below hy5 7 _ rfl) hrvA,aJ hgrow (B5.below hy5 8 _ rfl) hrvA,aJ hgrow (B5.below hy5 9 _ rfl) hrvA,aJ hgrow (B5.below hy5 10 _ rfl) hrvA,aJ hgrow (B5.below hy5 11 _ rfl) hrvA,aJ hgrow (B5.below hy5 12 _ rfl) hrvA,z6,aJ hgrow (NB4.below hy5 0 _ rfl) hrvB,aJ hgrow (NB4.below hy5 1 _ rfl) hrvB,aJ hgrow (NB4.below hy5 2 _ rfl) hrvB⟩,fun _=>trivial⟩ ?_
   clear hK K
   refine wpAnyG.one 21 (by kernel_rfl) (by decide) (by rfl) (fun K hK=>?_)
   simp only [lgA,lgZ,lgS]
   go_simp
   refine hK _ _ ⟨fun h=>absurd h (by decide),fun _=>trivial⟩ ?_
   clear hK K
   refine wpAnyG.done (by kernel_rfl) (NoPanic.normal ?_)
   obtain ⟨T36,O6⟩:=T35.set 5 (.slice (some ⟨gN,0,none⟩) (i+1) capN)
   replace T36:Rw 31 (w5.setCell ⟨R3,5,none⟩ (.slice (some ⟨gN,0,none⟩) (i+1) capN)) R3 #[.bool P.mx,.string P.nm,.bool f,.slice c n k,.slice c' n' k',.slice (some ⟨gN,0,none⟩) (i+1) capN,.slice none 0 0]:=by simpa using T36
   have hn6:=T35.noW (by decide)
   have hg6:=O6.grown
   have hne6:=SN.neR T35 (by decide)
   have SN6:=SN.kept hg6 (fun g e e2=>hne6 (e.trans e2.symm))
   have hxA:=aG z3 (.cells #[.string nmV,.bool f1,.slice c1 j1 g1,.slice c1' j1' g1',.bool hl,.bool f2,.slice c2 j2 g2,.slice c2' j2' g2',.bool hh,.bool f3,.slice c3 j3 g3,.slice c3' j3' g3',.bool wh] 57)
   obtain ⟨e1,e2,e3,e4⟩:=EV.out
   have VN:∀ q,q<i+1→VC (w5.setCell ⟨R3,5,none⟩ (.slice (some ⟨gN,0,none⟩) (i+1) capN)) w3.heap.size ((fun q=>if q<i then E q else [.string nmV,.bool f1,.slice c1 j1 g1,.slice c1' j1' g1',.bool hl,.bool f2,.slice c2 j2 g2,.slice c2' j2' g2',.bool hh,.bool f3,.slice c3 j3 g3,.slice c3' j3' g3',.bool wh]) q) (P.V q) (P.ZV q):=by
    intro q hq
    by_cases h:q<i
    ·simp only [h,if_true]
     exact ((((hVC q h).below hz).below hy5).keep hnw hgrow).keep hn6 hg6
    ·obtain rfl:q=i:=by omega
     simp only [Nat.lt_irrefl,if_false]
     exact ⟨f1,c1,j1,g1,c1',j1',g1',f2,c2,j2,g2,c2',j2',g2',f3,c3,j3,g3,c3',j3',g3',by rw [e1,e2,e3,e4],((G1.below hxA).keep hnw hgrow).keep hn6 hg6,e2 ▸ ((G2.below hxA).keep hnw hgrow).keep hn6 hg6,e3 ▸ ((G3.below hxA).keep hnw hgrow).keep hn6 hg6⟩
   have GKN:=(((GK.below hz).below hy5).keep hnw hgrow).keep hn6 hg6
   have GNN:=((GN4.below hy5).keep hnw hgrow).keep hn6 hg6
   have NN:Near R3 w3 (w5.setCell ⟨R3,5,none⟩ (.slice (some ⟨gN,0,none⟩) (i+1) capN)):=((hN4.trans (bP hy5)).grown hgrow (fun k e=>(hS5.lt k e).1)).trans O6.near
   clear HBX hS hVC GK GN hN hN4 T3 T34 T35 hS4 hS5 SN G1 G2 G3 hgrow hat hnw hn6 hg6 hne6 O6 hxA e1 e2 e3 e4 EV B5 z5 z6 z7 t1 t2 t3 hc0 hc1 hc2 hc3 hk1 hk2 hk3 hy5 hz hrw hrvA hrvB NB4 GN4
   generalize w5.setCell ⟨R3,5,none⟩ (.slice (some ⟨gN,0,none⟩) (i+1) capN)=w6 at *
   go_wp2
   go_roundw
   case rel=>exact ⟨i+1,by omega,by go_num,_,T36,_,SN6,VN⟩
   case measure=>simp [intOf];omega
  ·have hkI:¬ (i:Int)<(P.vn:Int):=by omega
   obtain rfl:i=P.vn:=by omega
   have R28:=hN.rw R23 (by omega)
   have p6:=PB 6 _ rfl
   have hs8:=hN.size
   have hb8:=hbel
   have hR8:R3<wr.heap.size:=T3.lt
   have hw8:w3.heap.size≤wr.heap.size:=hN.size
   obtain ⟨w8,ew8⟩:∃ w8,w8=wr:=⟨_,rfl⟩
   rw [← ew8] at T3 hS hVC GK GN hN hbel PB NB R28 p5 p6 hs8 hb8 hR8 hw8 ⊢
   clear ew8
   go_wp2
   go_loopw [7] (fun s7 wr=>∃ (i:Nat) (rr:Value) (F:Nat→List Value),i≤P.rn∧s7 = .int .i64 i∧Rw 31 wr R3 #[.bool P.mx,.string P.nm,.bool f,.slice c n k,.slice c' n' k',.slice ga P.vn gc,rr]∧SL wr w8.heap.size 60 10 rr i F∧(∀ q,q<i→RC wr w8.heap.size (F q) (P.R q) P.vn (P.ZR q))∧Near R3 w8 wr) (fun s7 _=>P.rn-(intOf s7).toNat)
   case atStart=>exact ⟨0,_,fun _=>[],Nat.zero_le _,rfl,T3,SL.nil _ _ _ _ _,fun q hq=>by omega,Near.refl _ _⟩
   case round =>
    have SV:=hS
    have T38:=T3
    have hN8:=hN
    clear hS T3 hN hbel p5 p6
    obtain ⟨i,rr,F,hi,rfl,T3,hS,hRC,hN⟩:=hrel
    obtain ⟨ra,rc,rfl,hrc⟩:=hS.form
    have hbel:Below w.heap.size w wr:=hb8.trans (hN.below (by omega) hb8.size)
    have PBr:=hN.box PB (by omega) (by omega)
    have NBr:=hN.box NB (by omega) (by omega)
    have hn8:=T38.noW (by decide)
    have GNr:=GN.keep hn8 hN.grow
    have p6:=PBr 6 _ rfl
    by_cases hlt:i<P.rn
    ·have hkI:(i:Int)<(P.rn:Int):=by omega
     rcases hP.r with h0|⟨vb,vo,hra,hev⟩
     ·omega
     have hV:=hev i hlt
     have hZ1:=hV.s1
     have hZ7:=hZR i hlt
     obtain ⟨nmV,enm⟩:∃ x,x=(P.R i).nm:=⟨_,rfl⟩
     obtain ⟨nt,ent⟩:∃ x,x=(P.R i).nt:=⟨_,rfl⟩
     obtain ⟨hl,ehl⟩:∃ x,x=(P.R i).hlo:=⟨_,rfl⟩
     obtain ⟨hh,ehh⟩:∃ x,x=(P.R i).hhi:=⟨_,rfl⟩
     have x0:=aB hbel hV.nm
     obtain ⟨ta,tc,Zt,x1,hLT,htot,htc⟩:=hV.terms
     have x2:=aB hbel hV.hlo
     obtain ⟨p2,a2,n2,k2,d2,m2,l2,x3,x4,x5,t2⟩:=hV.lo
     have x6:=aB hbel hV.hhi
     obtain ⟨p3,a3,n3,k3,d3,m3,l3,x7,x8,x9,t3⟩:=hV.hi
     replace x1:=aB hbel x1
     replace x3:=aB hbel x3
     replace x4:=aB hbel x4
     replace x5:=aB hbel x5
     replace x7:=aB hbel x7
     replace x8:=aB hbel x8
     replace x9:=aB hbel x9
     rw [← enm] at x0
     rw [← ent] at x1 hLT htot htc
     rw [← ehl] at x2
     rw [← ehh] at x6
     have EV:Hid (nmV=(P.R i).nm∧hl=(P.R i).hlo∧hh=(P.R i).hhi∧nt=(P.R i).nt):=⟨enm,ehl,ehh,ent⟩
     have hkI2:(i:Int)*10=((i*10:Nat):Int):=by omega
     clear hev hV enm ehl ehh ent
     rw [hra] at p6
     clear hra
     go_wp2_with fail
     have B5:=aN wr #[.string nmV,.slice ta nt tc,.bool hl,.bool p2,.slice a2 n2 k2,.slice d2 m2 l2,.bool hh,.bool p3,.slice a3 n3 k3,.slice d3 m3 l3] 60
     have hz:=aG wr (.cells #[.string nmV,.slice ta nt tc,.bool hl,.bool p2,.slice a2 n2 k2,.slice d2 m2 l2,.bool hh,.bool p3,.slice a3 n3 k3,.slice d3 m3 l3] 60)
     have hs4:wr.heap.size+1≤(wr.alloc (.cells #[.string nmV,.slice ta nt tc,.bool hl,.bool p2,.slice a2 n2 k2,.slice d2 m2 l2,.bool hh,.bool p3,.slice a3 n3 k3,.slice d3 m3 l3] 60)).heap.size:=by simp
     have hbel4:=aF hbel hz
     replace hLT:=hLT.below hbel4
     replace t2:=t2.below hbel4
     replace t3:=t3.below hbel4
     have T34:=T3.below hz
     have hS4:=hS.below hz
     have hN4:Near R3 w8 _:=hN.trans (bP hz)
     have NB4:=NBr.below hz
     have PB4:=PBr.below hz
     have GN4:=GNr.below hz
     have hsw:=hN4.size
     have hsr:=hN.size
     clear x0 x1 x2 x3 x4 x5 x6 x7 x8 x9 p6 NBr PBr GNr
     generalize wr.alloc (.cells #[.string nmV,.slice ta nt tc,.bool hl,.bool p2,.slice a2 n2 k2,.slice d2 m2 l2,.bool hh,.bool p3,.slice a3 n3 k3,.slice d3 m3 l3] 60)=W4 at *
     have HBX:∀ w',Below W4.heap.size W4 w'→(w'.cell? ⟨wr.heap.size,0,none⟩=some (.string nmV)∧w'.cell? ⟨wr.heap.size,1,none⟩=some (.slice ta nt tc)∧w'.cell? ⟨wr.heap.size,2,none⟩=some (.bool hl)∧w'.cell? ⟨wr.heap.size,3,none⟩=some (.bool p2)∧w'.cell? ⟨wr.heap.size,4,none⟩=some (.slice a2 n2 k2)∧w'.cell? ⟨wr.heap.size,5,none⟩=some (.slice d2 m2 l2)∧w'.cell? ⟨wr.heap.size,6,none⟩=some (.bool hh)∧w'.cell? ⟨wr.heap.size,7,none⟩=some (.bool p3)∧w'.cell? ⟨wr.heap.size,8,none⟩=some (.slice a3 n3 k3)∧w'.cell? ⟨wr.heap.size,9,none⟩=some (.slice d3 m3 l3)∧w'.cell? ⟨BN,0,none⟩=some (.bool fn)∧w'.cell? ⟨BN,1,none⟩=some (.slice cn nn kn)∧w'.cell? ⟨BN,2,none⟩=some (.slice dn mn ln)):=fun w' h=>⟨(B5.below h) 0 _ rfl,(B5.below h) 1 _ rfl,(B5.below h) 2 _ rfl,(B5.below h) 3 _ rfl,(B5.below h) 4 _ rfl,(B5.below h) 5 _ rfl,(B5.below h) 6 _ rfl,(B5.below h) 7 _ rfl,(B5.below h) 8 _ rfl,(B5.below h) 9 _ rfl,(NB4.below h) 0 _ rfl,(NB4.below h) 1 _ rfl,(NB4.below h) 2 _ rfl⟩
     refine wp_cutD (fun a0 a' w'=>∃ (u1 u2 u3 u4 u5 u6 u7 u8 u9 u10 u11:Value) (R9:Nat) (f2:Bool) (c2:Option Addr) (j2 g2:Nat) (c2':Option Addr) (j2' g2':Nat) (f3:Bool) (c3:Option Addr) (j3 g3:Nat) (c3':Option Addr) (j3' g3':Nat),a'=((((((((((((a0.put (some 66) u1).put (some 67) u2).put (some 68) u3).put (some 69) u4).put (some 70) u5).put (some 71) u6).put (some 72) u7).put (some 73) u8).put (some 74) u9).put (some 75) u10).put (some 76) u11).put (some 9) (.pointer (some ⟨R9,0,none⟩)))∧Rw 60 w' R9 #[.string nmV,.slice none 0 0,.bool hl,.bool f2,.slice c2 j2 g2,.slice c2' j2' g2',.bool hh,.bool f3,.slice c3 j3 g3,.slice c3' j3' g3']∧GR w' W4.heap.size f2 c2 j2 g2 c2' j2' g2' (bat hl (P.R i).lo) (P.ZR i)∧GR w' W4.heap.size f3 c3 j3 g3 c3' j3' g3' (bat hh (P.R i).hi) (P.ZR i)∧W4.heap.size≤R9∧Below W4.heap.size W4 w') ?_ ?_
     ·refine wp_region_noPanic (aU 12 HBX (by kernel_rfl) ?_)
      have hc0:Below W4.heap.size W4 W4.drew:=aS _
      generalize W4.drew=z0 at *
      refine wpAnyG.tT 0 (v:=.pointer (some ⟨wr.heap.size,0,none⟩)) (by decide) 12 (by kernel_rfl) (by rfl) ?y0 (HBX _ hc0) ?_
      case y0 =>
       rintro w' ⟨q0,q1,q2,q3,q4,q5,q6,q7,q8,q9,q10,q11,q12⟩
       simp only [lgA,lgZ]
       go_simp
      simp only [lgA,lgZ,Act.put,lsA,lsZ,lsS]
      refine wpAnyG.tT 1 (v:=.string nmV) (by decide) 12 (by kernel_rfl) (by rfl) ?y1 (HBX _ hc0) ?_
      case y1 =>
       rintro w' ⟨q0,q1,q2,q3,q4,q5,q6,q7,q8,q9,q10,q11,q12⟩
       simp only [lgA,lgZ,lgS]
       go_simp
      simp only [lgA,lgZ,lgS,Act.put,lsA,lsZ,lsS]
      refine wpAnyG.tT 2 (v:=.pointer (some ⟨wr.heap.size,2,none⟩)) (by decide) 12 (by kernel_rfl) (by rfl) ?y2 (HBX _ hc0) ?_
      case y2 =>
       rintro w' ⟨q0,q1,q2,q3,q4,q5,q6,q7,q8,q9,q10,q11,q12⟩
       simp only [lgA,lgZ,lgS]
       go_simp
      simp only [lgA,lgZ,lgS,Act.put,lsA,lsZ,lsS]
      refine wpAnyG.tT 3 (v:=.agg #[.bool hl,.bool p2,.slice a2 n2 k2,.slice d2 m2 l2]) (by decide) 12 (by kernel_rfl) (by rfl) ?y3 (HBX _ hc0) ?_
      case y3 =>
       rintro w' ⟨q0,q1,q2,q3,q4,q5,q6,q7,q8,q9,q10,q11,q12⟩
       simp only [lgA,lgZ,lgS]
       go_simp
      simp only [lgA,lgZ,lgS,Act.put,lsA,lsZ,lsS]
      refine wpAnyG.tT 4 (v:=.agg #[.bool fn,.slice cn nn kn,.slice dn mn ln]) (by decide) 12 (by kernel_rfl) (by rfl) ?y4 (HBX _ hc0) ?_
      case y4 =>
       rintro w' ⟨q0,q1,q2,q3,q4,q5,q6,q7,q8,q9,q10,q11,q12⟩
       simp only [lgA,lgZ,lgS]
       go_simp
      simp only [lgA,lgZ,lgS,Act.put,lsA,lsZ,lsS]
      refine wpAnyG.tT 6 (v:=.pointer (some ⟨wr.heap.size,6,none⟩)) (by decide) 12 (by kernel_rfl) (by rfl) ?y6 (HBX _ hc0) ?_
      case y6 =>
       rintro w' ⟨q0,q1,q2,q3,q4,q5,q6,q7,q8,q9,q10,q11,q12⟩
       simp only [lgA,lgZ,lgS]
       go_simp
      simp only [lgA,lgZ,lgS,Act.put,lsA,lsZ,lsS]
      refine wpAnyG.tT 7 (v:=.agg #[.bool hh,.bool p3,.slice a3 n3 k3,.slice d3 m3 l3]) (by decide) 12 (by kernel_rfl) (by rfl) ?y7 (HBX _ hc0) ?_
      case y7 =>
       rintro w' ⟨q0,q1,q2,q3,q4,q5,q6,q7,q8,q9,q10,q11,q12⟩
       simp only [lgA,lgZ,lgS]
       go_simp
      simp only [lgA,lgZ,lgS,Act.put,lsA,lsZ,lsS]
      refine wpAnyG.tT 8 (v:=.agg #[.bool fn,.slice cn nn kn,.slice dn mn ln]) (by decide) 12 (by kernel_rfl) (by rfl) ?y8 (HBX _ hc0) ?_
      case y8 =>
       rintro w' ⟨q0,q1,q2,q3,q4,q5,q6,q7,q8,q9,q10,q11,q12⟩
       simp only [lgA,lgZ,lgS]
       go_simp
      simp only [lgA,lgZ,lgS,Act.put,lsA,lsZ,lsS]
      refine wpAnyG.two 5 11 (by kernel_rfl) (by decide) (by decide) (by rfl) (by rfl) (fun K hK=>?_) (fun K hK=>?_)
      ·simp only [lgA,lgZ,lgS]
       go_simp
       refine (lG z0 (t2.below hc0) (GN4.tr.below hc0) (by omega) hZ1).mono ?_
       rintro e z1 ⟨f2,c2,j2,g2,c2',j2',g2',rfl,G1,hk⟩
       have hc1:=aF hc0 hk
       replace G1:=G1.mono (B':=W4.heap.size) hc0.size
       dsimp only
       refine hK _ _ ⟨fun _=>HBX _ hc1,fun _=>trivial⟩ ?_
       clear hK K hk
       refine wpAnyG.two 9 11 (by kernel_rfl) (by decide) (by decide) (by rfl) (by rfl) (fun K hK=>?_) (fun K hK=>?_)
       ·simp only [lgA,lgZ,lgS]
        go_simp
        refine (lG z1 (t3.below hc1) (GN4.tr.below hc1) (by omega) hZ1).mono ?_
        rintro e z2 ⟨f3,c3,j3,g3,c3',j3',g3',rfl,H2,hk⟩
        have hc2:=aF hc1 hk
        replace H2:=H2.mono (B':=W4.heap.size) hc1.size
        have G2:=G1.below hk
        dsimp only
        refine hK _ _ ⟨fun _=>HBX _ hc2,fun _=>trivial⟩ ?_
        clear hK K hk
        refine wpAnyG.tT 10 (v:=.agg #[.string nmV,.slice none 0 0,.bool hl,.bool f2,.slice c2 j2 g2,.slice c2' j2' g2',.bool hh,.bool f3,.slice c3 j3 g3,.slice c3' j3' g3']) (by decide) 12 (by kernel_rfl) (by rfl) ?y10 (HBX _ hc2) ?_
        case y10 =>
         rintro w' ⟨q0,q1,q2,q3,q4,q5,q6,q7,q8,q9,q10,q11,q12⟩
         simp only [lgA,lgZ,lgS]
         go_simp
        simp only [lgA,lgZ,lgS,Act.put,lsA,lsZ,lsS]
        refine wpAnyG.one 11 (by kernel_rfl) (by decide) (by rfl) (fun K hK=>?_)
        simp only [lgA,lgZ,lgS]
        go_simp
        have hx:=aG z2 (.cells #[.string ⟨#[]⟩,.slice none 0 0,.bool false,.bool false,.slice none 0 0,.slice none 0 0,.bool false,.bool false,.slice none 0 0,.slice none 0 0] 60)
        have RP3:=Rw.new 60 z2 #[.string ⟨#[]⟩,.slice none 0 0,.bool false,.bool false,.slice none 0 0,.slice none 0 0,.bool false,.bool false,.slice none 0 0,.slice none 0 0]
        have hc3:=aF hc2 hx
        have hR0:W4.heap.size≤z2.heap.size:=hc2.size
        have G3:=G2.below hx
        have H3:=H2.below hx
        refine hK _ _ ⟨fun _=>HBX _ hc3,fun _=>trivial⟩ ?_
        clear hK K hx
        generalize z2.alloc (.cells #[.string ⟨#[]⟩,.slice none 0 0,.bool false,.bool false,.slice none 0 0,.slice none 0 0,.bool false,.bool false,.slice none 0 0,.slice none 0 0] 60)=z3 at *
        refine wpAnyG.one 12 (by kernel_rfl) (by decide) (by rfl) (fun K hK=>?_)
        simp only [lgA,lgZ,lgS]
        refine wp_store_row 60 _ _ rfl z2.heap.size #[.string nmV,.slice none 0 0,.bool hl,.bool f2,.slice c2 j2 g2,.slice c2' j2' g2',.bool hh,.bool f3,.slice c3 j3 g3,.slice c3' j3' g3'] rfl rfl 60 _ RP3 rowI7 rfl (by simp [Value.oneCell']) ?_
        refine hK _ _ ⟨fun h=>absurd h (by decide),fun _=>trivial⟩ ?_
        clear hK K
        refine wpAnyG.done (by kernel_rfl) (NoPanic.normal ?_)
        obtain ⟨RN,O⟩:=RP3.row #[.string nmV,.slice none 0 0,.bool hl,.bool f2,.slice c2 j2 g2,.slice c2' j2' g2',.bool hh,.bool f3,.slice c3 j3 g3,.slice c3' j3' g3']
        have hnw:=RP3.noW (by decide)
        exact ⟨rfl,_,_,_,_,_,_,_,_,_,_,_,z2.heap.size,f2,c2,j2,g2,c2',j2',g2',f3,c3,j3,g3,c3',j3',g3',rfl,RN,G3.keep hnw O.grown,H3.keep hnw O.grown,hR0,hc3.trans (O.below hR0)⟩
       ·simp only [lgA,lgZ,lgS]
        go_simp
        have hx:=aG z1 (.cells #[.string ⟨#[]⟩,.slice none 0 0,.bool false,.bool false,.slice none 0 0,.slice none 0 0,.bool false,.bool false,.slice none 0 0,.slice none 0 0] 60)
        have RP2:=Rw.new 60 z1 #[.string ⟨#[]⟩,.slice none 0 0,.bool false,.bool false,.slice none 0 0,.slice none 0 0,.bool false,.bool false,.slice none 0 0,.slice none 0 0]
        have hc2:=aF hc1 hx
        have hR0:W4.heap.size≤z1.heap.size:=hc1.size
        have G2:=G1.below hx
        refine hK _ _ ⟨fun _=>HBX _ hc2,fun _=>trivial⟩ ?_
        clear hK K hx
        generalize z1.alloc (.cells #[.string ⟨#[]⟩,.slice none 0 0,.bool false,.bool false,.slice none 0 0,.slice none 0 0,.bool false,.bool false,.slice none 0 0,.slice none 0 0] 60)=z2 at *
        refine wpAnyG.one 9 (by kernel_rfl) (by decide) (by rfl) (fun K hK=>?_)
        simp only [lgA,lgZ,lgS]
        go_simp
        refine (lG z2 (t3.below hc2) (GN4.tr.below hc2) (by omega) hZ1).mono ?_
        rintro e z3 ⟨f3,c3,j3,g3,c3',j3',g3',rfl,H3,hk⟩
        have hc3:=aF hc2 hk
        replace H3:=H3.mono (B':=W4.heap.size) hc2.size
        have G3:=G2.below hk
        have RP3:=RP2.below hk
        dsimp only
        refine hK _ _ ⟨fun _=>HBX _ hc3,fun _=>trivial⟩ ?_
        clear hK K hk
        refine wpAnyG.tT 10 (v:=.agg #[.string nmV,.slice none 0 0,.bool hl,.bool f2,.slice c2 j2 g2,.slice c2' j2' g2',.bool hh,.bool f3,.slice c3 j3 g3,.slice c3' j3' g3']) (by decide) 12 (by kernel_rfl) (by rfl) ?y10 (HBX _ hc3) ?_
        case y10 =>
         rintro w' ⟨q0,q1,q2,q3,q4,q5,q6,q7,q8,q9,q10,q11,q12⟩
         simp only [lgA,lgZ,lgS]
         go_simp
        simp only [lgA,lgZ,lgS,Act.put,lsA,lsZ,lsS]
        refine wpAnyG.one 12 (by kernel_rfl) (by decide) (by rfl) (fun K hK=>?_)
        simp only [lgA,lgZ,lgS]
        refine wp_store_row 60 _ _ rfl z1.heap.size #[.string nmV,.slice none 0 0,.bool hl,.bool f2,.slice c2 j2 g2,.slice c2' j2' g2',.bool hh,.bool f3,.slice c3 j3 g3,.slice c3' j3' g3'] rfl rfl 60 _ RP3 rowI7 rfl (by simp [Value.oneCell']) ?_
        refine hK _ _ ⟨fun h=>absurd h (by decide),fun _=>trivial⟩ ?_
        clear hK K
        refine wpAnyG.done (by kernel_rfl) (NoPanic.normal ?_)
        obtain ⟨RN,O⟩:=RP3.row #[.string nmV,.slice none 0 0,.bool hl,.bool f2,.slice c2 j2 g2,.slice c2' j2' g2',.bool hh,.bool f3,.slice c3 j3 g3,.slice c3' j3' g3']
        have hnw:=RP3.noW (by decide)
        exact ⟨rfl,_,_,_,_,_,_,_,_,_,_,_,z1.heap.size,f2,c2,j2,g2,c2',j2',g2',f3,c3,j3,g3,c3',j3',g3',rfl,RN,G3.keep hnw O.grown,H3.keep hnw O.grown,hR0,hc3.trans (O.below hR0)⟩
      ·simp only [lgA,lgZ,lgS]
       go_simp
       have hx:=aG z0 (.cells #[.string ⟨#[]⟩,.slice none 0 0,.bool false,.bool false,.slice none 0 0,.slice none 0 0,.bool false,.bool false,.slice none 0 0,.slice none 0 0] 60)
       have RP1:=Rw.new 60 z0 #[.string ⟨#[]⟩,.slice none 0 0,.bool false,.bool false,.slice none 0 0,.slice none 0 0,.bool false,.bool false,.slice none 0 0,.slice none 0 0]
       have hc1:=aF hc0 hx
       have hR0:W4.heap.size≤z0.heap.size:=hc0.size
       refine hK _ _ ⟨fun _=>HBX _ hc1,fun _=>trivial⟩ ?_
       clear hK K hx
       generalize z0.alloc (.cells #[.string ⟨#[]⟩,.slice none 0 0,.bool false,.bool false,.slice none 0 0,.slice none 0 0,.bool false,.bool false,.slice none 0 0,.slice none 0 0] 60)=z1 at *
       refine wpAnyG.one 5 (by kernel_rfl) (by decide) (by rfl) (fun K hK=>?_)
       simp only [lgA,lgZ,lgS]
       go_simp
       refine (lG z1 (t2.below hc1) (GN4.tr.below hc1) (by omega) hZ1).mono ?_
       rintro e z2 ⟨f2,c2,j2,g2,c2',j2',g2',rfl,G2,hk⟩
       have hc2:=aF hc1 hk
       replace G2:=G2.mono (B':=W4.heap.size) hc1.size
       have RP2:=RP1.below hk
       dsimp only
       refine hK _ _ ⟨fun _=>HBX _ hc2,fun _=>trivial⟩ ?_
       clear hK K hk
       refine wpAnyG.one 9 (by kernel_rfl) (by decide) (by rfl) (fun K hK=>?_)
       simp only [lgA,lgZ,lgS]
       go_simp
       refine (lG z2 (t3.below hc2) (GN4.tr.below hc2) (by omega) hZ1).mono ?_
       rintro e z3 ⟨f3,c3,j3,g3,c3',j3',g3',rfl,H3,hk⟩
       have hc3:=aF hc2 hk
       replace H3:=H3.mono (B':=W4.heap.size) hc2.size
       have RP3:=RP2.below hk
       have G3:=G2.below hk
       dsimp only
       refine hK _ _ ⟨fun _=>HBX _ hc3,fun _=>trivial⟩ ?_
       clear hK K hk
       refine wpAnyG.tT 10 (v:=.agg #[.string nmV,.slice none 0 0,.bool hl,.bool f2,.slice c2 j2 g2,.slice c2' j2' g2',.bool hh,.bool f3,.slice c3 j3 g3,.slice c3' j3' g3']) (by decide) 12 (by kernel_rfl) (by rfl) ?y10 (HBX _ hc3) ?_
       case y10 =>
        rintro w' ⟨q0,q1,q2,q3,q4,q5,q6,q7,q8,q9,q10,q11,q12⟩
        simp only [lgA,lgZ,lgS]
        go_simp
       simp only [lgA,lgZ,lgS,Act.put,lsA,lsZ,lsS]
       refine wpAnyG.one 12 (by kernel_rfl) (by decide) (by rfl) (fun K hK=>?_)
       simp only [lgA,lgZ,lgS]
       refine wp_store_row 60 _ _ rfl z0.heap.size #[.string nmV,.slice none 0 0,.bool hl,.bool f2,.slice c2 j2 g2,.slice c2' j2' g2',.bool hh,.bool f3,.slice c3 j3 g3,.slice c3' j3' g3'] rfl rfl 60 _ RP3 rowI7 rfl (by simp [Value.oneCell']) ?_
       refine hK _ _ ⟨fun h=>absurd h (by decide),fun _=>trivial⟩ ?_
       clear hK K
       refine wpAnyG.done (by kernel_rfl) (NoPanic.normal ?_)
       obtain ⟨RN,O⟩:=RP3.row #[.string nmV,.slice none 0 0,.bool hl,.bool f2,.slice c2 j2 g2,.slice c2' j2' g2',.bool hh,.bool f3,.slice c3 j3 g3,.slice c3' j3' g3']
       have hnw:=RP3.noW (by decide)
       exact ⟨rfl,_,_,_,_,_,_,_,_,_,_,_,z0.heap.size,f2,c2,j2,g2,c2',j2',g2',f3,c3,j3,g3,c3',j3',g3',rfl,RN,G3.keep hnw O.grown,H3.keep hnw O.grown,hR0,hc3.trans (O.below hR0)⟩
     rintro a' w12 ⟨u1,u2,u3,u4,u5,u6,u7,u8,u9,u10,u11,R9,f2,c2,j2,g2,c2',j2',g2',f3,c3,j3,g3,c3',j3',g3',rfl,T9,G2,G3,hR9,h12⟩
     simp only [Act.put,List.setIfInBounds_toArray,List.set_cons_zero,List.set_cons_succ]
     clear HBX t2 t3 NB4 GN4
     have hR9l:=T9.lt
     have hs12:=h12.size
     have T34b:=T34
     have T312:=T34.below h12
     have hS12:=hS4.below h12
     have PB12:=PB4.below h12
     have B12:=B5.below h12
     have p5:=PB12 5 _ rfl
     clear PB4 B5 T34
     go_wp2
     go_loopw [10] (fun s10 wq=>∃ (j m:Nat) (tv:Value) (u:Nat→PT) (D:Nat→List Value),j≤P.vn∧m≤j∧s10 = .int .i64 j∧Rw 60 wq R9 #[.string nmV,tv,.bool hl,.bool f2,.slice c2 j2 g2,.slice c2' j2' g2',.bool hh,.bool f3,.slice c3 j3 g3,.slice c3' j3' g3']∧SL wq w12.heap.size 62 4 tv m D∧(∀ q,q<m→TC wq w12.heap.size (D q) (u q) (zs (P.R i).t Zt (u q).var nt-1))∧Gath (P.R i).t nt j u m∧(GR wq W4.heap.size f2 c2 j2 g2 c2' j2' g2' (bat hl (P.R i).lo) (P.ZR i)∧GR wq W4.heap.size f3 c3 j3 g3 c3' j3' g3' (bat hh (P.R i).hi) (P.ZR i))∧Near R9 w12 wq) (fun s10 _=>P.vn-(intOf s10).toNat)
     case atStart=>exact ⟨0,0,_,fun _=>⟨0,0⟩,fun _=>[],Nat.zero_le _,Nat.le_refl _,rfl,T9,SL.nil _ _ _ _ _,fun q hq=>by omega,Gath.nil1 _ _ _,⟨G2,G3⟩,Near.refl _ _⟩
     case round =>
      clear T9 G2 G3 p5
      obtain ⟨j,m,tv,u,D,hj,hmj,rfl,T9,hSD,hTC,hG,⟨G2,G3⟩,hNq⟩:=hrel
      obtain ⟨tva,tvc,rfl,htvc⟩:=hSD.form
      have hbq:Below W4.heap.size W4 wr:=h12.trans (hNq.below (by omega) (by omega))
      have PBq:=hNq.box PB12 (by omega) (by omega)
      have Bq:=hNq.box B12 (by omega) (by omega)
      have p5:=PBq 5 _ rfl
      by_cases hjl:j<P.vn
      ·have hkJ:(j:Int)<(P.vn:Int):=by omega
       have q0:=Bq 0 _ rfl
       have q1:=Bq 1 _ rfl
       have q2:=Bq 2 _ rfl
       have q3:=Bq 3 _ rfl
       have q4:=Bq 4 _ rfl
       have q5:=Bq 5 _ rfl
       have q6:=Bq 6 _ rfl
       have q7:=Bq 7 _ rfl
       have q8:=Bq 8 _ rfl
       have q9:=Bq 9 _ rfl
       go_wp2_with fail
       clear q0 q1 q2 q3 q4 q5 q6 q7 q8 q9
       refine (coefD (j:Int) wr (hLT.below hbq) htc (by omega) ⟨by omega,by omega⟩).mono ?_
       rintro e wc ⟨fc,cc,nc,kc,dc,mc,lc,rfl,GC,hbc⟩
       have hx:=aG wc (.cells #[.bool fc,.slice cc nc kc,.slice dc mc lc] 27)
       have VB:=aN wc #[.bool fc,.slice cc nc kc,.slice dc mc lc] 27
       have hsc:(wc.alloc (.cells #[.bool fc,.slice cc nc kc,.slice dc mc lc] 27)).heap.size=wc.heap.size+1:=by simp
       have hbd:=aF hbc hx
       have hbc1:=hbc.size
       replace GC:=GC.below hx
       have v0:=VB 0 _ rfl
       have v1:=VB 1 _ rfl
       have v2:=VB 2 _ rfl
       clear hx
       go_wp2_with fail
       clear v0 v1 v2
       obtain ⟨BC,hBC⟩:∃ B,B=wc.heap.size:=⟨_,rfl⟩
       rw [← hBC] at VB hsc ⊢
       have hBCr:wr.heap.size≤BC:=by omega
       clear hBC
       generalize wc.alloc (.cells #[.bool fc,.slice cc nc kc,.slice dc mc lc] 27)=wd at *
       refine (signD wd GC.tr (by omega) (by omega)).mono ?_
       rintro e we ⟨rfl,hbe⟩
       have VBe:=VB.below hbe
       have hbE:=aF hbd hbe
       have hse:=hbe.size
       replace GC:=GC.below hbe
       have T9e:=T9.below hbE
       have hSe:=hSD.below hbE
       have G2e:=G2.below hbE
       have G3e:=G3.below hbE
       have hNe:Near R9 w12 we:=hNq.trans (bP hbE)
       have hTCe:∀ q,q<m→TC we w12.heap.size (D q) (u q) (zs (P.R i).t Zt (u q).var nt-1):=fun q hq=>(hTC q hq).below hbE
       obtain ⟨sg,hsg⟩:∃ s,s=(bJ (P.R i).t nt (j:Int)).num.sign:=⟨_,rfl⟩
       rw [← hsg]
       have hNw12:=hNq.size
       clear T9 hSD G2 G3 hNq hTC hbd hbc hbe VB PBq Bq
       by_cases hz0:bJ (P.R i).t nt (j:Int)=0
       ·obtain rfl:sg=0:=by rw [hsg,hz0];rfl
        have hG':=hG.skip1 hz0
        clear hsg hG GC VBe
        go_wp2
        go_roundw
        case rel=>first|exact ⟨j+1,m,by omega,by omega,by go_num,_,T9e,u,D,hSe,hTCe,hG',⟨G2e,G3e⟩,hNe⟩|exact ⟨j+1,m,_,u,D,by omega,by omega,by go_num,T9e,hSe,hTCe,hG',⟨G2e,G3e⟩,hNe⟩
        case measure=>simp [intOf];omega
       ·have hsn:¬ sg=0:=fun e=>hz0 (by
         have h2:=Int.sign_eq_zero_iff_zero.1 (hsg.symm.trans e)
         exact Rat.num_eq_zero.1 h2)
        have hsn2:(sg == 0)=false:=by simpa using hsn
        have hG':=hG.snoc1 hz0
        have hgs:=pF (j:Int) hLT.get (uM (Z:=Zt) hz0)
        have HGC:Hid (SzR (bJ (P.R i).t nt (j:Int)) (zs (P.R i).t Zt (j:Int) nt-1)):=hgs.1
        clear hsg hG hgs
        have v0:=VBe 0 _ rfl
        have v1:=VBe 1 _ rfl
        have v2:=VBe 2 _ rfl
        have r1:=(T9e.cell 1).trans (show _=some (.slice tva m tvc) from rfl)
        have hxT:=aG we (.cells #[.int .i64 (j:Int),.bool fc,.slice cc nc kc,.slice dc mc lc] 62)
        have hSf:=hSe.below hxT
        go_wp2_with (at_builtin;refine aV _ rfl _ _ 58 62 4 64 rfl Tryz.underlying58 kJ (by decide) (by decide) w12.heap.size (.slice tva m tvc) m D rfl hSf we.heap.size _ rfl [.int .i64 (j:Int),.bool fc,.slice cc nc kc,.slice dc mc lc] rfl (fun u hu=>by simp at hu;rcases hu with rfl|rfl|rfl|rfl <;> rfl) (aN we #[.int .i64 (j:Int),.bool fc,.slice cc nc kc,.slice dc mc lc] 62) (by omega) (by simp;omega) (we.heap.size+1) (by simp) ?_)
        intro gN capN w14 SN hgrow hat _
        have hrw:=hSf.neR (T9e.below hxT) (by decide)
        have T9f:=(T9e.below hxT).kept hgrow hrw
        have s0:=(T9f.cell 1).trans (show _=some (.slice tva m tvc) from rfl)
        have s1:=T9f.frozen 1
        have hnw:=hSf.noW (by decide)
        go_wp2_with fail
        obtain ⟨T9g,O⟩:=T9f.set 1 (.slice (some ⟨gN,0,none⟩) (m+1) capN)
        replace T9g:Rw 60 (w14.setCell ⟨R9,1,none⟩ (.slice (some ⟨gN,0,none⟩) (m+1) capN)) R9 #[.string nmV,.slice (some ⟨gN,0,none⟩) (m+1) capN,.bool hl,.bool f2,.slice c2 j2 g2,.slice c2' j2' g2',.bool hh,.bool f3,.slice c3 j3 g3,.slice c3' j3' g3']:=by simpa using T9g
        have hn6:=T9f.noW (by decide)
        have hg6:=O.grown
        have hne6:=SN.neR T9f (by decide)
        have SN6:=SN.kept hg6 (fun g e e2=>hne6 (e.trans e2.symm))
        have hTN:∀ q,q<m+1→TC (w14.setCell ⟨R9,1,none⟩ (.slice (some ⟨gN,0,none⟩) (m+1) capN)) w12.heap.size ((fun i=>if i<m then D i else [.int .i64 (j:Int),.bool fc,.slice cc nc kc,.slice dc mc lc]) q) ((fun q=>if q<m then u q else ⟨(j:Int),bJ (P.R i).t nt (j:Int)⟩) q) (zs (P.R i).t Zt ((fun q=>if q<m then u q else ⟨(j:Int),bJ (P.R i).t nt (j:Int)⟩) q).var nt-1):=by
         intro q hq
         by_cases h:q<m
         ·simp only [h,if_true]
          exact (((hTCe q h).below hxT).keep hnw hgrow).keep hn6 hg6
         ·simp only [h,if_false]
          exact ⟨fc,cc,nc,kc,dc,mc,lc,rfl,(((((GC.fit HGC.out).mono (show w12.heap.size≤wr.heap.size by omega)).below hxT).keep hnw hgrow).keep hn6 hg6)⟩
        have G2g:=(((G2e.below hxT).keep hnw hgrow).keep hn6 hg6)
        have G3g:=(((G3e.below hxT).keep hnw hgrow).keep hn6 hg6)
        have hNg:Near R9 w12 (w14.setCell ⟨R9,1,none⟩ (.slice (some ⟨gN,0,none⟩) (m+1) capN)):=((hNe.trans (bP hxT)).grown hgrow (fun k e=>(hSf.lt k e).1)).trans O.near
        clear T9e hSe hSf hTCe GC G2e G3e hNe hxT SN hgrow hat hrw T9f s0 s1 hnw O hn6 hg6 hne6 r1 v0 v1 v2 VBe hbE HGC
        generalize w14.setCell ⟨R9,1,none⟩ (.slice (some ⟨gN,0,none⟩) (m+1) capN)=w15 at *
        go_wp2
        go_roundw
        case rel=>first|exact ⟨j+1,m+1,by omega,by omega,by go_num,_,T9g,_,_,SN6,hTN,hG',⟨G2g,G3g⟩,hNg⟩|exact ⟨j+1,m+1,_,_,_,by omega,by omega,by go_num,T9g,SN6,hTN,hG',⟨G2g,G3g⟩,hNg⟩
        case measure=>simp [intOf];omega
      ·have hkJ:¬ (j:Int)<(P.vn:Int):=by omega
       obtain rfl:j=P.vn:=by omega
       have hs13:=hNq.size
       have hB13:Below W4.heap.size W4 wr:=hbq
       have T313:=T34b.below hbq
       have hS13:=hS4.below hbq
       have hN13:Near R3 w8 wr:=hN4.trans (bP hbq)
       have z6:=(T313.cell 6).trans (show _=some (.slice ra i rc) from rfl)
       have q0:=(T9.cell 0).trans (show _=some (.string nmV) from rfl)
       have q1:=(T9.cell 1).trans (show _=some (.slice tva m tvc) from rfl)
       have q2:=(T9.cell 2).trans (show _=some (.bool hl) from rfl)
       have q3:=(T9.cell 3).trans (show _=some (.bool f2) from rfl)
       have q4:=(T9.cell 4).trans (show _=some (.slice c2 j2 g2) from rfl)
       have q5:=(T9.cell 5).trans (show _=some (.slice c2' j2' g2') from rfl)
       have q6:=(T9.cell 6).trans (show _=some (.bool hh) from rfl)
       have q7:=(T9.cell 7).trans (show _=some (.bool f3) from rfl)
       have q8:=(T9.cell 8).trans (show _=some (.slice c3 j3 g3) from rfl)
       have q9:=(T9.cell 9).trans (show _=some (.slice c3' j3' g3') from rfl)
       have hxR:=aG wr (.cells #[.string nmV,.slice tva m tvc,.bool hl,.bool f2,.slice c2 j2 g2,.slice c2' j2' g2',.bool hh,.bool f3,.slice c3 j3 g3,.slice c3' j3' g3'] 60)
       have hSf:=hS13.below hxR
       go_wp2_with (at_builtin;refine aV _ rfl _ _ 29 60 10 168 rfl Tryz.underlying29 kW (by decide) (by decide) w8.heap.size (.slice ra i rc) i F rfl hSf wr.heap.size _ rfl [.string nmV,.slice tva m tvc,.bool hl,.bool f2,.slice c2 j2 g2,.slice c2' j2' g2',.bool hh,.bool f3,.slice c3 j3 g3,.slice c3' j3' g3'] rfl (fun u hu=>by simp at hu;rcases hu with rfl|rfl|rfl|rfl|rfl|rfl|rfl|rfl|rfl|rfl <;> rfl) (aN wr #[.string nmV,.slice tva m tvc,.bool hl,.bool f2,.slice c2 j2 g2,.slice c2' j2' g2',.bool hh,.bool f3,.slice c3 j3 g3,.slice c3' j3' g3'] 60) (by omega) (by simp;omega) (wr.heap.size+1) (by simp) ?_)
       intro gN capN w14 SN hgrow hat _
       have hrw:=hSf.neR (T313.below hxR) (by decide)
       have T3f:=(T313.below hxR).kept hgrow hrw
       have s0:=(T3f.cell 6).trans (show _=some (.slice ra i rc) from rfl)
       have s1:=T3f.frozen 6
       have hnw:=hSf.noW (by decide)
       have hnt5:=hSf.noT (by decide)
       go_wp2_with fail
       obtain ⟨T3g,O⟩:=T3f.set 6 (.slice (some ⟨gN,0,none⟩) (i+1) capN)
       replace T3g:Rw 31 (w14.setCell ⟨R3,6,none⟩ (.slice (some ⟨gN,0,none⟩) (i+1) capN)) R3 #[.bool P.mx,.string P.nm,.bool f,.slice c n k,.slice c' n' k',.slice ga P.vn gc,.slice (some ⟨gN,0,none⟩) (i+1) capN]:=by simpa using T3g
       have hn6:=T3f.noW (by decide)
       have hnt6:=T3f.noT (by decide)
       have hg6:=O.grown
       have hne6:=SN.neR T3f (by decide)
       have SN6:=SN.kept hg6 (fun g e e2=>hne6 (e.trans e2.symm))
       obtain ⟨e1,e2,e3,e4⟩:=EV.out
       have RN:∀ q,q<i+1→RC (w14.setCell ⟨R3,6,none⟩ (.slice (some ⟨gN,0,none⟩) (i+1) capN)) w8.heap.size ((fun q=>if q<i then F q else [.string nmV,.slice tva m tvc,.bool hl,.bool f2,.slice c2 j2 g2,.slice c2' j2' g2',.bool hh,.bool f3,.slice c3 j3 g3,.slice c3' j3' g3']) q) (P.R q) P.vn (P.ZR q):=by
        intro q hq
        by_cases h:q<i
        ·simp only [h,if_true]
         exact (((((hRC q h).below hz).below hbq).below hxR).keep hnw hnt5 hgrow).keep hn6 hnt6 hg6
        ·obtain rfl:q=i:=by omega
         simp only [Nat.lt_irrefl,if_false]
         have TLa:TL wr w8.heap.size (.slice tva m tvc) m u (fun i_1=>zs (P.R q).t Zt (u i_1).var nt-1):=⟨D,hSD.mono (by omega),fun x hx=>(hTC x hx).mono (by omega)⟩
         have TLb:=(TLa.below hxR).keep hnw (iY (TLa.below hxR) hnt5) hgrow
         have TLc:=TLb.keep hn6 (iY TLb hnt6) hg6
         refine ⟨.slice tva m tvc,m,u,Zt,f2,c2,j2,g2,c2',j2',g2',f3,c3,j3,g3,c3',j3',g3',by rw [e1,e2,e3],e4 ▸ hG,e4 ▸ hLT.get,e4 ▸ htot,?_,e2 ▸ (((G2.mono (by omega)).below hxR).keep hnw hgrow).keep hn6 hg6,e3 ▸ (((G3.mono (by omega)).below hxR).keep hnw hgrow).keep hn6 hg6⟩
         rw [← e4]
         exact TLc
       have NN:Near R3 w8 (w14.setCell ⟨R3,6,none⟩ (.slice (some ⟨gN,0,none⟩) (i+1) capN)):=((hN13.trans (bP hxR)).grown hgrow (fun k e=>(hSf.lt k e).1)).trans O.near
       clear hS hRC hN hN4 hN13 T3 T34b T313 T3f hS4 hS13 hSf SN G2 G3 hgrow hat hnw hnt5 hn6 hnt6 hg6 hne6 O hxR e1 e2 e3 e4 EV z6 q0 q1 q2 q3 q4 q5 q6 q7 q8 q9 s0 s1 hrw T9 hSD hTC hG hNq hbq hB13 PBq Bq p5 hLT hz h12 T312 hS12 PB12 B12
       generalize w14.setCell ⟨R3,6,none⟩ (.slice (some ⟨gN,0,none⟩) (i+1) capN)=w15 at *
       go_wp2
       go_roundw
       case rel=>exact ⟨i+1,_,_,by omega,by go_num,T3g,SN6,RN,NN⟩
       case measure=>simp [intOf];omega
    ·have hkI:¬ (i:Int)<(P.rn:Int):=by omega
     obtain rfl:i=P.rn:=by omega
     have hg8:=hN.grow
     have hneV:=SV.neR T38 (by decide)
     have SV9:=SV.kept hg8 (fun g e e2=>hneV (e.trans e2.symm))
     have VC9:∀ q,q<P.vn→VC wr w3.heap.size (E q) (P.V q) (P.ZV q):=fun q hq=>(hVC q hq).keep hn8 hg8
     have GK9:=GK.keep hn8 hg8
     have R29:=hN.rw R28 (by omega)
     go_wp2_with (first
      | (refine T3.get rfl _ rfl rfl Tryz.underlying31 lY ?_)
      | (refine R29.put #[.bool P.mx,.string P.nm,.bool f,.slice c n k,.slice c' n' k',.slice ga P.vn gc,.slice ra P.rn rc] rfl _ _ rfl rfl rfl lY rfl (by simp [Value.oneCell']) ?_;intro w9 R9 O9)
      | fail)
     have hg9:=O9.grown
     have hn9:=R29.noW (by decide)
     have hnt9:=R29.noT (by decide)
     have hneS:=SV9.neR R29 (by decide)
     have hneR:=hS.neR R29 (by decide)
     exact bodyPost_ret (R9.ret1 Tryz.results9 _ rfl Tryz.underlying31 lY) rfl ⟨_,rfl,⟨f,c,n,k,c',n',k',ga,gc,ra,rc,E,F,rfl,(GK9.keep hn9 hg9).mono (by omega),(SV9.kept hg9 (fun g e e2=>hneS (e.trans e2.symm))).mono (by omega),fun q hq=>((VC9 q hq).keep hn9 hg9).mono (by omega),(hS.kept hg9 (fun g e e2=>hneR (e.trans e2.symm))).mono (by omega),fun q hq=>((hRC q hq).keep hn9 hnt9 hg9).mono (by omega)⟩,hbel.trans (O9.below (Nat.le_succ _))⟩
end Go.Proofs.YtdcocflnafcikaaGreatDoor
