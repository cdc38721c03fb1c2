import Derived.Test.YtnokmjmefipplaaGreatDoorTtDAll
import Derived.Test.YtnokmjmefipplaaGreatDoorGuIAll
import Derived.Test.YtnokmjmefipplaaGreatDoorTpAll
set_option maxRecDepth 100000
set_option maxHeartbeats 32000000
namespace Go.Proofs.YtnokmjmefipplaaGreatDoor
open Go.RowKit
theorem oO (x:Int):Rat.divInt x 1 = (x:Rat):=by
 rw [Rat.divInt_eq_div]
 have h4:=Rat.mul_inv_cancel (1:Rat) (by decide)
 rw [Rat.one_mul] at h4
 show (x:Rat) / (1:Rat) = _
 rw [Rat.div_def,h4,Rat.mul_one]
theorem aQ5 {q:Bool} {b:Option Addr} {nb cb:Nat} {x:Int} {S:Nat} (w:World) (hx:TI w q b nb cb x S) (hS1:1≤S) (hS:S≤7000000) (hT:TB w) :
 Calls Tryz.prog 144 #[.agg #[.bool q,.slice b nb cb]] w fun e w'=>∃ f c n k c' n' k',e = .returned (.agg #[.bool f,.slice c n k,.slice c' n' k'])∧GR w' w.heap.size f c n k c' n' k' (x:Rat) S∧Below w.heap.size w w':=by
 have Ib:=aJ w #[.bool q,.slice b nb cb] 25
 have hz0:=aG w (.cells #[.bool q,.slice b nb cb] 25)
 have hs0:(w.alloc (.cells #[.bool q,.slice b nb cb] 25)).heap.size = w.heap.size + 1:=by simp
 have Rb:=aN (w.alloc (.cells #[.bool q,.slice b nb cb] 25)) (.bool false) (.slice none 0 0) (.slice none 0 0) 27
 have hz1:=aG (w.alloc (.cells #[.bool q,.slice b nb cb] 25)) (.cells #[.bool false,.slice none 0 0,.slice none 0 0] 27)
 have hs1:((w.alloc (.cells #[.bool q,.slice b nb cb] 25)).alloc (.cells #[.bool false,.slice none 0 0,.slice none 0 0] 27)).heap.size = w.heap.size + 2:=by simp
 rw [hs0] at Rb
 replace Ib:=Ib.below hz1
 have hbU:=aB hz0 hz1
 clear hz0 hz1 hs0
 have i0:=Ib 0 _ rfl
 have i1:=Ib 1 _ rfl
 go_enter Tryz.func144,Tryz.ntmps144
 go_wp2_with fail
 clear i0 i1
 generalize (w.alloc (.cells #[.bool q,.slice b nb cb] 25)).alloc (.cells #[.bool false,.slice none 0 0,.slice none 0 0] 27) = U at *
 have HBX:∀ w',Below U.heap.size U w'→(w'.cell? ⟨w.heap.size,0,none⟩ = some (.bool q)∧w'.cell? ⟨w.heap.size,1,none⟩ = some (.slice b nb cb)):=fun w' h=>⟨(Ib.below h) 0 _ rfl,(Ib.below h) 1 _ rfl⟩
 refine xE (fun a0 a' w'=>∃ (u1 u2 u3 u4 u5 u6:Value) (RW:Nat) (fQ:Bool) (cQ:Option Addr) (nQ kQ:Nat) (dQ:Option Addr) (mQ lQ:Nat),a' = ((((((((a0.put (some 6) u1).put (some 7) u2).put (some 8) u3).put (some 5) u4).put (some 9) u5).put (some 10) u6).put (some 3) (.pointer (some ⟨RW,0,none⟩))).put (some 4) .nilIface)∧Var3 w' RW (.bool fQ) (.slice cQ nQ kQ) (.slice dQ mQ lQ)∧GR w' U.heap.size fQ cQ nQ kQ dQ mQ lQ (x:Rat) S∧U.heap.size≤RW∧Below U.heap.size U w') ?_ ?_
 ·refine wp_region_noPanic (aU 8 HBX (by kernel_rfl) ?_)
  have hc0:Below U.heap.size U U.drew:=aK _
  generalize U.drew = z0 at *
  refine wpAnyG.tT 0 (v:=.agg #[.bool q,.slice b nb cb]) (by decide) 8 (by kernel_rfl) (by rfl) ?y0 (HBX _ hc0) ?_
  case y0 =>
   rintro w' ⟨q0,q1⟩
   simp only [lgA,lgZ]
   go_simp
  simp only [lgA,lgZ,Act.put,lsA,lsZ,lsS]
  refine wpAnyG.two 1 6 (by kernel_rfl) (by decide) (by decide) (by rfl) (by rfl) (fun K hK=>?_) (fun K hK=>?_)
  ·simp only [lgA,lgZ,lgS]
   go_simp
   refine (ofT 1 z0 (by decide) (by decide)).mono ?_
   rintro e z1 ⟨f1,c1,n1,k1,rfl,G1,hk⟩
   replace G1:=G1.ti
   have hc1:=aB hc0 hk
   dsimp only
   refine hK _ _ ⟨fun _=>HBX _ hc1,fun _=>trivial⟩ ?_
   clear hK K hk
   refine wpAnyG.two 2 6 (by kernel_rfl) (by decide) (by decide) (by rfl) (by rfl) (fun K hK=>?_) (fun K hK=>?_)
   ·simp only [lgA,lgZ,lgS]
    go_simp
    refine (makeQ z1 (hx.below (aB hbU hc1)) (G1.le hS1) (by decide) hS (hT.below (aB hbU hc1))).mono ?_
    rintro e z2 ⟨fQ,cQ,nQ,kQ,dQ,mQ,lQ,rfl,R2,hk⟩
    have hc2:=aB hc1 hk
    replace R2:=R2.val (oO x)
    replace R2:=R2.mono (B':=U.heap.size) hc1.size
    dsimp only
    refine hK _ _ ⟨fun _=>HBX _ hc2,fun _=>trivial⟩ ?_
    clear hK K hk G1
    refine wpAnyG.tT 3 (v:=.tuple #[.agg #[.bool fQ,.slice cQ nQ kQ,.slice dQ mQ lQ],.nilIface]) (by decide) 8 (by kernel_rfl) (by rfl) ?y3 (HBX _ hc2) ?_
    case y3 =>
     rintro w' ⟨q0,q1⟩
     simp only [lgA,lgZ,lgS]
     go_simp
    simp only [lgA,lgZ,lgS,Act.put,lsA,lsZ,lsS]
    refine wpAnyG.tT 4 (v:=.agg #[.bool fQ,.slice cQ nQ kQ,.slice dQ mQ lQ]) (by decide) 8 (by kernel_rfl) (by rfl) ?y4 (HBX _ hc2) ?_
    case y4 =>
     rintro w' ⟨q0,q1⟩
     simp only [lgA,lgZ,lgS]
     go_simp
    simp only [lgA,lgZ,lgS,Act.put,lsA,lsZ,lsS]
    refine wpAnyG.tT 5 (v:=.nilIface) (by decide) 8 (by kernel_rfl) (by rfl) ?y5 (HBX _ hc2) ?_
    case y5 =>
     rintro w' ⟨q0,q1⟩
     simp only [lgA,lgZ,lgS]
     go_simp
    simp only [lgA,lgZ,lgS,Act.put,lsA,lsZ,lsS]
    refine wpAnyG.one 6 (by kernel_rfl) (by decide) (by rfl) (fun K hK=>?_)
    simp only [lgA,lgZ,lgS]
    go_simp
    replace R2:=R2.gx (R:=z2.heap.size) (.inr (Nat.le_refl _))
    have hx:=aG z2 (.cells #[.bool false,.slice none 0 0,.slice none 0 0] 27)
    have VA3:=aN z2 (.bool false) (.slice none 0 0) (.slice none 0 0) 27
    have hc3:=aB hc2 hx
    have hR0:U.heap.size≤z2.heap.size:=hc2.size
    have R3:=R2.below hx
    refine hK _ _ ⟨fun _=>HBX _ hc3,fun _=>trivial⟩ ?_
    clear hK K hx
    generalize z2.alloc (.cells #[.bool false,.slice none 0 0,.slice none 0 0] 27) = z3 at *
    refine wpAnyG.one 7 (by kernel_rfl) (by decide) (by rfl) (fun K hK=>?_)
    obtain ⟨x0,x1,x2,x3,x4,x5⟩:=id VA3
    simp only [lgA,lgZ,lgS]
    go_simp
    obtain ⟨VN,O⟩:=VA3.set (.bool fQ) (.slice cQ nQ kQ) (.slice dQ mQ lQ)
    refine hK _ _ ⟨fun _=>HBX _ (hc3.trans (O.below hR0)),fun _=>trivial⟩ ?_
    clear hK K
    refine wpAnyG.one 8 (by kernel_rfl) (by decide) (by rfl) (fun K hK=>?_)
    simp only [lgA,lgZ,lgS]
    go_simp
    refine hK _ _ ⟨fun h=>absurd h (by decide),fun _=>trivial⟩ ?_
    clear hK K
    refine wpAnyG.done (by kernel_rfl) (NoPanic.normal ?_)
    exact ⟨rfl,_,_,_,_,_,_,z2.heap.size,fQ,cQ,nQ,kQ,dQ,mQ,lQ,rfl,VN,(R3.off O).1,hR0,hc3.trans (O.below hR0)⟩
   ·simp only [lgA,lgZ,lgS]
    go_simp
    have hx:=aG z1 (.cells #[.bool false,.slice none 0 0,.slice none 0 0] 27)
    have VA2:=aN z1 (.bool false) (.slice none 0 0) (.slice none 0 0) 27
    have hc2:=aB hc1 hx
    have hR0:U.heap.size≤z1.heap.size:=hc1.size
    have hRz2:z1.heap.size < (z1.alloc (.cells #[.bool false,.slice none 0 0,.slice none 0 0] 27)).heap.size:=by simp
    have G2:=G1.below hx
    refine hK _ _ ⟨fun _=>HBX _ hc2,fun _=>trivial⟩ ?_
    clear hK K hx
    generalize z1.alloc (.cells #[.bool false,.slice none 0 0,.slice none 0 0] 27) = z2 at *
    refine wpAnyG.one 2 (by kernel_rfl) (by decide) (by rfl) (fun K hK=>?_)
    simp only [lgA,lgZ,lgS]
    go_simp
    refine (makeQ z2 (hx.below (aB hbU hc2)) (G2.le hS1) (by decide) hS (hT.below (aB hbU hc2))).mono ?_
    rintro e z3 ⟨fQ,cQ,nQ,kQ,dQ,mQ,lQ,rfl,R3,hk⟩
    have hc3:=aB hc2 hk
    replace R3:=R3.val (oO x)
    replace R3:=(R3.gx (R:=z1.heap.size) (.inl hRz2)).mono (B':=U.heap.size) hc2.size
    have VA3:=VA2.below hk
    have hRz3:=Nat.lt_of_lt_of_le hRz2 hk.size
    dsimp only
    refine hK _ _ ⟨fun _=>HBX _ hc3,fun _=>trivial⟩ ?_
    clear hK K hk G2
    refine wpAnyG.tT 3 (v:=.tuple #[.agg #[.bool fQ,.slice cQ nQ kQ,.slice dQ mQ lQ],.nilIface]) (by decide) 8 (by kernel_rfl) (by rfl) ?y3 (HBX _ hc3) ?_
    case y3 =>
     rintro w' ⟨q0,q1⟩
     simp only [lgA,lgZ,lgS]
     go_simp
    simp only [lgA,lgZ,lgS,Act.put,lsA,lsZ,lsS]
    refine wpAnyG.tT 4 (v:=.agg #[.bool fQ,.slice cQ nQ kQ,.slice dQ mQ lQ]) (by decide) 8 (by kernel_rfl) (by rfl) ?y4 (HBX _ hc3) ?_
    case y4 =>
     rintro w' ⟨q0,q1⟩
     simp only [lgA,lgZ,lgS]
     go_simp
    simp only [lgA,lgZ,lgS,Act.put,lsA,lsZ,lsS]
    refine wpAnyG.tT 5 (v:=.nilIface) (by decide) 8 (by kernel_rfl) (by rfl) ?y5 (HBX _ hc3) ?_
    case y5 =>
     rintro w' ⟨q0,q1⟩
     simp only [lgA,lgZ,lgS]
     go_simp
    simp only [lgA,lgZ,lgS,Act.put,lsA,lsZ,lsS]
    refine wpAnyG.one 7 (by kernel_rfl) (by decide) (by rfl) (fun K hK=>?_)
    obtain ⟨x0,x1,x2,x3,x4,x5⟩:=id VA3
    simp only [lgA,lgZ,lgS]
    go_simp
    obtain ⟨VN,O⟩:=VA3.set (.bool fQ) (.slice cQ nQ kQ) (.slice dQ mQ lQ)
    refine hK _ _ ⟨fun _=>HBX _ (hc3.trans (O.below hR0)),fun _=>trivial⟩ ?_
    clear hK K
    refine wpAnyG.one 8 (by kernel_rfl) (by decide) (by rfl) (fun K hK=>?_)
    simp only [lgA,lgZ,lgS]
    go_simp
    refine hK _ _ ⟨fun h=>absurd h (by decide),fun _=>trivial⟩ ?_
    clear hK K
    refine wpAnyG.done (by kernel_rfl) (NoPanic.normal ?_)
    exact ⟨rfl,_,_,_,_,_,_,z1.heap.size,fQ,cQ,nQ,kQ,dQ,mQ,lQ,rfl,VN,(R3.off O).1,hR0,hc3.trans (O.below hR0)⟩
  ·simp only [lgA,lgZ,lgS]
   go_simp
   have hx:=aG z0 (.cells #[.bool false,.slice none 0 0,.slice none 0 0] 27)
   have VA1:=aN z0 (.bool false) (.slice none 0 0) (.slice none 0 0) 27
   have hc1:=aB hc0 hx
   have hR0:U.heap.size≤z0.heap.size:=hc0.size
   have hRz1:z0.heap.size < (z0.alloc (.cells #[.bool false,.slice none 0 0,.slice none 0 0] 27)).heap.size:=by simp
   refine hK _ _ ⟨fun _=>HBX _ hc1,fun _=>trivial⟩ ?_
   clear hK K hx
   generalize z0.alloc (.cells #[.bool false,.slice none 0 0,.slice none 0 0] 27) = z1 at *
   refine wpAnyG.one 1 (by kernel_rfl) (by decide) (by rfl) (fun K hK=>?_)
   simp only [lgA,lgZ,lgS]
   go_simp
   refine (ofT 1 z1 (by decide) (by decide)).mono ?_
   rintro e z2 ⟨f1,c1,n1,k1,rfl,G2,hk⟩
   replace G2:=G2.ti
   have hc2:=aB hc1 hk
   have VA2:=VA1.below hk
   have hRz2:=Nat.lt_of_lt_of_le hRz1 hk.size
   dsimp only
   refine hK _ _ ⟨fun _=>HBX _ hc2,fun _=>trivial⟩ ?_
   clear hK K hk
   refine wpAnyG.one 2 (by kernel_rfl) (by decide) (by rfl) (fun K hK=>?_)
   simp only [lgA,lgZ,lgS]
   go_simp
   refine (makeQ z2 (hx.below (aB hbU hc2)) (G2.le hS1) (by decide) hS (hT.below (aB hbU hc2))).mono ?_
   rintro e z3 ⟨fQ,cQ,nQ,kQ,dQ,mQ,lQ,rfl,R3,hk⟩
   have hc3:=aB hc2 hk
   replace R3:=R3.val (oO x)
   replace R3:=(R3.gx (R:=z0.heap.size) (.inl hRz2)).mono (B':=U.heap.size) hc2.size
   have VA3:=VA2.below hk
   have hRz3:=Nat.lt_of_lt_of_le hRz2 hk.size
   dsimp only
   refine hK _ _ ⟨fun _=>HBX _ hc3,fun _=>trivial⟩ ?_
   clear hK K hk G2
   refine wpAnyG.tT 3 (v:=.tuple #[.agg #[.bool fQ,.slice cQ nQ kQ,.slice dQ mQ lQ],.nilIface]) (by decide) 8 (by kernel_rfl) (by rfl) ?y3 (HBX _ hc3) ?_
   case y3 =>
    rintro w' ⟨q0,q1⟩
    simp only [lgA,lgZ,lgS]
    go_simp
   simp only [lgA,lgZ,lgS,Act.put,lsA,lsZ,lsS]
   refine wpAnyG.tT 4 (v:=.agg #[.bool fQ,.slice cQ nQ kQ,.slice dQ mQ lQ]) (by decide) 8 (by kernel_rfl) (by rfl) ?y4 (HBX _ hc3) ?_
   case y4 =>
    rintro w' ⟨q0,q1⟩
    simp only [lgA,lgZ,lgS]
    go_simp
   simp only [lgA,lgZ,lgS,Act.put,lsA,lsZ,lsS]
   refine wpAnyG.tT 5 (v:=.nilIface) (by decide) 8 (by kernel_rfl) (by rfl) ?y5 (HBX _ hc3) ?_
   case y5 =>
    rintro w' ⟨q0,q1⟩
    simp only [lgA,lgZ,lgS]
    go_simp
   simp only [lgA,lgZ,lgS,Act.put,lsA,lsZ,lsS]
   refine wpAnyG.one 7 (by kernel_rfl) (by decide) (by rfl) (fun K hK=>?_)
   obtain ⟨x0,x1,x2,x3,x4,x5⟩:=id VA3
   simp only [lgA,lgZ,lgS]
   go_simp
   obtain ⟨VN,O⟩:=VA3.set (.bool fQ) (.slice cQ nQ kQ) (.slice dQ mQ lQ)
   refine hK _ _ ⟨fun _=>HBX _ (hc3.trans (O.below hR0)),fun _=>trivial⟩ ?_
   clear hK K
   refine wpAnyG.one 8 (by kernel_rfl) (by decide) (by rfl) (fun K hK=>?_)
   simp only [lgA,lgZ,lgS]
   go_simp
   refine hK _ _ ⟨fun h=>absurd h (by decide),fun _=>trivial⟩ ?_
   clear hK K
   refine wpAnyG.done (by kernel_rfl) (NoPanic.normal ?_)
   exact ⟨rfl,_,_,_,_,_,_,z0.heap.size,fQ,cQ,nQ,kQ,dQ,mQ,lQ,rfl,VN,(R3.off O).1,hR0,hc3.trans (O.below hR0)⟩
 ·rintro a' w1 ⟨u1,u2,u3,u4,u5,u6,RW,fQ,cQ,nQ,kQ,dQ,mQ,lQ,rfl,VN,R,hRW,hb1⟩
  have VR:=Rb.below hb1
  have hb2:=aB hbU hb1
  obtain ⟨x0,x1,x2,x3,x4,x5⟩:=id VN
  obtain ⟨y0,y1,y2,y3,y4,y5⟩:=id VR
  obtain ⟨VS,O⟩:=VR.set (.bool fQ) (.slice cQ nQ kQ) (.slice dQ mQ lQ)
  have hend:=(show Hid (_∧_) from ⟨(R.off O (by omega)).mono (B':=w.heap.size) (by omega),hb2.trans (O.below (by omega))⟩)
  obtain ⟨v0,v1,v2,_,_,_⟩:=id VS
  simp only [Act.put,List.setIfInBounds_toArray,List.set_cons_zero,List.set_cons_succ]
  clear VN R hb1 Rb VR O VS Ib
  go_wp2
  refine bodyPost_ret (v:=.agg #[.bool fQ,.slice cQ nQ kQ,.slice dQ mQ lQ]) (by simp [results,Tryz.results144,go_sem,v0,v1,v2]) rfl ⟨fQ,cQ,nQ,kQ,dQ,mQ,lQ,rfl,hend.out.1,hend.out.2⟩
def BdR (h:Bool) (ch:Prop) (g o:Nat) (x:Rat) (T:Nat) (w:World) (e:Ending) (w':World):Prop :=
 (∃ v,e = .returned v)∧∃ w1,Below w.heap.size w w1∧(((h = true∧¬ ch)∧w' = w1)∨(¬ (h = true∧¬ ch)∧∃ f c n k c' n' k',GR w1 w.heap.size f c n k c' n' k' x T∧w' = w1.setCells g o [.bool true,.bool f,.slice c n k,.slice c' n' k']))
theorem bK {w w':World} {g o:Nat} {cs:List Value} (h:w.rangeAt g o cs) (hb:Below w.heap.size w w'):w'.rangeAt g o cs:=fun j v hv=>aF hb (h j v hv)
theorem eG {w w':World} {g o n:Nat} (h:w.there g o n) (hb:Below w.heap.size w w'):w'.there g o n:=fun j hj=>by
 obtain ⟨h1,h2⟩:=h j hj
 obtain ⟨u,hu⟩:=Option.isSome_iff_exists.1 h1
 exact ⟨by rw [aF hb hu];rfl,by rw [← h2];exact World.frozen?_of_block (hb.block g (block_lt_of_cell hu))⟩
theorem bndQ {h p q:Bool} {a d b:Option Addr} {na ca nd cd nb cb:Nat} {r:Rat} {x:Int} {S T g o:Nat} (w:World) (hc:w.rangeAt g o [.bool h,.bool p,.slice a na ca,.slice d nd cd]) (hr:TR w p a na ca d nd cd r S) (hS1:1≤S) (hS:S≤4000000) (hth:w.there g o 4) (hx:TI w q b nb cb x T) (hT1:1≤T) (hT2:T≤4000000) (hT:TB w) :
 (Calls Tryz.prog 130 #[.pointer (some ⟨g,o,none⟩),.agg #[.bool q,.slice b nb cb]] w fun e w'=>BdR h (r < (x:Rat)) g o (x:Rat) T w e w')∧(Calls Tryz.prog 131 #[.pointer (some ⟨g,o,none⟩),.agg #[.bool q,.slice b nb cb]] w fun e w'=>BdR h ((x:Rat) < r) g o (x:Rat) T w e w'):=by
 refine ⟨?_,?_⟩
 have HS:Hid (∀ t:Int,t = cs r (x:Rat)→(Hid (r < (x:Rat))∧t < 0)∨(Hid (¬ r < (x:Rat))∧¬ t < 0)):=fun t ht=>by have h2:=jA (r:=r) (s:=(x:Rat));rw [← ht] at h2;by_cases hl:r < (x:Rat);exact .inl ⟨hl,h2.2 hl⟩;exact .inr ⟨hl,mt h2.1 hl⟩
 rotate_left
 have HS:Hid (∀ t:Int,t = cs r (x:Rat)→(Hid ((x:Rat) < r)∧0 < t)∨(Hid (¬ (x:Rat) < r)∧¬ 0 < t)):=fun t ht=>by have h2:=iC (r:=r) (s:=(x:Rat));rw [← ht] at h2;by_cases hl:(x:Rat) < r;exact .inl ⟨hl,h2.2 hl⟩;exact .inr ⟨hl,mt h2.1 hl⟩
 all_goals
  have Ib:=aJ w #[.bool q,.slice b nb cb] 25
  have hz0:=aG w (.cells #[.bool q,.slice b nb cb] 25)
  have i0:=Ib 0 _ rfl
  have i1:=Ib 1 _ rfl
  first | go_enter Tryz.func130,Tryz.ntmps130 | go_enter Tryz.func131,Tryz.ntmps131
  go_wp2_with fail
  clear i0 i1 Ib
  generalize w.alloc (.cells #[.bool q,.slice b nb cb] 25) = U0 at *
  refine (aQ5 U0 (hx.below hz0) hT1 (by omega) (hT.below hz0)).mono ?_
  rintro e U1 ⟨fQ,cQ,nQ,kQ,dQ,mQ,lQ,rfl,R1,hb1⟩
  replace R1:=R1.mono (B':=w.heap.size) hz0.size
  replace hb1:=aB hz0 hb1
  have hs1:=hb1.size
  have VS:=aN U1 (.bool fQ) (.slice cQ nQ kQ) (.slice dQ mQ lQ) 27
  have hbx:=aG U1 (.cells #[.bool fQ,.slice cQ nQ kQ,.slice dQ mQ lQ] 27)
  have R2:=R1.below hbx
  have hb2:=aB hb1 hbx
  clear R1 hbx
  go_wp2_with fail
  generalize U1.alloc (.cells #[.bool fQ,.slice cQ nQ kQ,.slice dQ mQ lQ] 27) = U at *
  obtain ⟨RW,hRW⟩:∃ RW,U1.heap.size = RW:=⟨_,rfl⟩
  rw [hRW] at VS ⊢
  clear hRW hz0 hb1 hs1 U0 U1
  cases h
  ·have HBX:∀ w',Below U.heap.size U w'→(w'.cell? ⟨g,o,none⟩ = some (.bool false)∧w'.cell? ⟨g,o + 1,none⟩ = some (.bool p)∧w'.cell? ⟨g,o + 1 + 1,none⟩ = some (.slice a na ca)∧w'.cell? ⟨g,o + 2,none⟩ = some (.slice a na ca)∧w'.cell? ⟨g,o + 1 + 2,none⟩ = some (.slice d nd cd)∧w'.cell? ⟨g,o + 3,none⟩ = some (.slice d nd cd)∧w'.cell? ⟨RW,0,none⟩ = some (.bool fQ)∧w'.cell? ⟨RW,1,none⟩ = some (.slice cQ nQ kQ)∧w'.cell? ⟨RW,2,none⟩ = some (.slice dQ mQ lQ)):=fun w' hw=>by
    have hrg:=bK hc (aB hb2 hw)
    exact ⟨hrg 0 _ rfl,hrg 1 _ rfl,hrg 2 _ rfl,hrg 2 _ rfl,hrg 3 _ rfl,hrg 3 _ rfl,(VS.below hw).c0,(VS.below hw).c1,(VS.below hw).c2⟩
   refine wp_region_noPanic (aY (fun _ w'=>w'.cell? ⟨g,o,none⟩ = some (.bool false)∧w'.cell? ⟨g,o + 1,none⟩ = some (.bool p)∧w'.cell? ⟨g,o + 1 + 1,none⟩ = some (.slice a na ca)∧w'.cell? ⟨g,o + 2,none⟩ = some (.slice a na ca)∧w'.cell? ⟨g,o + 1 + 2,none⟩ = some (.slice d nd cd)∧w'.cell? ⟨g,o + 3,none⟩ = some (.slice d nd cd)∧w'.cell? ⟨RW,0,none⟩ = some (.bool fQ)∧w'.cell? ⟨RW,1,none⟩ = some (.slice cQ nQ kQ)∧w'.cell? ⟨RW,2,none⟩ = some (.slice dQ mQ lQ)) (by kernel_rfl) ?_)
   have hc0:Below U.heap.size U U.drew:=aK _
   generalize U.drew = z0 at *
   refine wpAnyG.tA 0 (v:=.pointer (some ⟨g,o,none⟩)) (by decide) 1 (by kernel_rfl) (by rfl) ?y0 (HBX _ hc0) ?_
   case y0 =>
    rintro w' ⟨q0,q1,q2,q3,q4,q5,q6,q7,q8⟩
    simp only [lgA,lgZ]
    go_simp
   simp only [lgA,lgZ,Act.put,lsA,lsZ,lsS]
   refine wpAnyG.tA 1 (v:=.pointer (some ⟨g,o,none⟩)) (by decide) 2 (by kernel_rfl) (by rfl) ?y1 (HBX _ hc0) ?_
   case y1 =>
    rintro w' ⟨q0,q1,q2,q3,q4,q5,q6,q7,q8⟩
    simp only [lgA,lgZ,lgS]
    go_simp
   simp only [lgA,lgZ,lgS,Act.put,lsA,lsZ,lsS]
   refine wpAnyG.tA 2 (v:=.pointer (some ⟨g,o,none⟩)) (by decide) 3 (by kernel_rfl) (by rfl) ?y2 (HBX _ hc0) ?_
   case y2 =>
    rintro w' ⟨q0,q1,q2,q3,q4,q5,q6,q7,q8⟩
    simp only [lgA,lgZ,lgS]
    go_simp
   simp only [lgA,lgZ,lgS,Act.put,lsA,lsZ,lsS]
   refine wpAnyG.tA 3 (v:=.bool false) (by decide) 4 (by kernel_rfl) (by rfl) ?y3 (HBX _ hc0) ?_
   case y3 =>
    rintro w' ⟨q0,q1,q2,q3,q4,q5,q6,q7,q8⟩
    simp only [lgA,lgZ,lgS]
    go_simp
   simp only [lgA,lgZ,lgS,Act.put,lsA,lsZ,lsS]
   refine wpAnyG.tA 4 (v:=.bool true) (by decide) 5 (by kernel_rfl) (by rfl) ?y4 (HBX _ hc0) ?_
   case y4 =>
    rintro w' ⟨q0,q1,q2,q3,q4,q5,q6,q7,q8⟩
    simp only [lgA,lgZ,lgS]
    go_simp
   simp only [lgA,lgZ,lgS,Act.put,lsA,lsZ,lsS]
   refine wpAnyG.tA 5 (v:=.bool true) (by decide) 13 (by kernel_rfl) (by rfl) ?y5 (HBX _ hc0) ?_
   case y5 =>
    rintro w' ⟨q0,q1,q2,q3,q4,q5,q6,q7,q8⟩
    simp only [lgA,lgZ,lgS]
    go_simp
   simp only [lgA,lgZ,lgS,Act.put,lsA,lsZ,lsS]
   refine wpAnyG.skip 6 (by decide) (by kernel_rfl) (fun _ _ _ h=>h) 7 (by rfl) (fun _ _=>Iff.rfl) (by kernel_rfl) (by kernel_rfl) (by kernel_rfl) (by rfl) (HBX _ hc0) (by rfl) ?_
   simp only [lgA,lgZ,lgS,Act.put,lsA,lsZ,lsS]
   refine wpAnyG.skip 7 (by decide) (by kernel_rfl) (fun _ _ _ h=>h) 8 (by rfl) (fun _ _=>Iff.rfl) (by kernel_rfl) (by kernel_rfl) (by kernel_rfl) (by rfl) (HBX _ hc0) (by rfl) ?_
   simp only [lgA,lgZ,lgS,Act.put,lsA,lsZ,lsS]
   refine wpAnyG.skip 8 (by decide) (by kernel_rfl) (fun _ _ _ h=>h) 9 (by rfl) (fun _ _=>Iff.rfl) (by kernel_rfl) (by kernel_rfl) (by kernel_rfl) (by rfl) (HBX _ hc0) (by rfl) ?_
   simp only [lgA,lgZ,lgS,Act.put,lsA,lsZ,lsS]
   refine wpAnyG.skip 9 (by decide) (by kernel_rfl) (fun _ _ _ h=>h) 11 (by rfl) (fun _ _=>Iff.rfl) (by kernel_rfl) (by kernel_rfl) (by kernel_rfl) (by rfl) (HBX _ hc0) (by rfl) ?_
   simp only [lgA,lgZ,lgS,Act.put,lsA,lsZ,lsS]
   refine wpAnyG.skip 10 (by decide) (by kernel_rfl) (fun _ _ _ h=>h) 11 (by rfl) (fun _ _=>Iff.rfl) (by kernel_rfl) (by kernel_rfl) (by kernel_rfl) (by rfl) (HBX _ hc0) (by rfl) ?_
   simp only [lgA,lgZ,lgS,Act.put,lsA,lsZ,lsS]
   refine wpAnyG.skip 11 (by decide) (by kernel_rfl) (fun _ _ _ h=>h) 12 (by rfl) (fun _ _=>Iff.rfl) (by kernel_rfl) (by kernel_rfl) (by kernel_rfl) (by rfl) (HBX _ hc0) (by rfl) ?_
   simp only [lgA,lgZ,lgS,Act.put,lsA,lsZ,lsS]
   refine wpAnyG.skip 12 (by decide) (by kernel_rfl) (fun _ _ _ h=>h) 13 (by rfl) (fun _ _=>Iff.rfl) (by kernel_rfl) (by kernel_rfl) (by kernel_rfl) (by rfl) (HBX _ hc0) (by rfl) ?_
   simp only [lgA,lgZ,lgS,Act.put,lsA,lsZ,lsS]
   refine wpAnyG.one 13 (by kernel_rfl) (by decide) (by rfl) (fun K hK=>?_)
   simp only [lgA,lgZ,lgS]
   go_simp
   refine hK _ _ (HBX _ hc0) ?_
   clear hK K
   refine wpAnyG.done (by kernel_rfl) (NoPanic.normal ?_)
   try simp only [Act.put,List.setIfInBounds_toArray,List.set_cons_zero,List.set_cons_succ]
   have hb3:=aB hb2 hc0
   have R3:=R2.below hc0
   have hrg:=bK hc hb3
   have htg:=eG hth hb3
   obtain ⟨v0,v1,v2,_,_,_⟩:=id (VS.below hc0)
   have e0:z0.cell? ⟨g,o,none⟩ = some (.bool false):=hrg 0 _ rfl
   have e1:z0.cell? ⟨g,o + 1,none⟩ = some (.bool p):=hrg 1 _ rfl
   have e2:z0.cell? ⟨g,o + 2,none⟩ = some (.slice a na ca):=hrg 2 _ rfl
   have e3:z0.cell? ⟨g,o + 3,none⟩ = some (.slice d nd cd):=hrg 3 _ rfl
   have f0:z0.frozen? ⟨g,o,none⟩ = false:=(htg 0 (by decide)).2
   have f1:z0.frozen? ⟨g,o + 1,none⟩ = false:=(htg 1 (by decide)).2
   have f2:z0.frozen? ⟨g,o + 2,none⟩ = false:=(htg 2 (by decide)).2
   have f3:z0.frozen? ⟨g,o + 3,none⟩ = false:=(htg 3 (by decide)).2
   clear HBX VS R2 hb2 hrg htg hc0
   go_wp2
   go_end0
   exact ⟨⟨_,rfl⟩,z0,hb3,.inr ⟨fun hh=>(by cases hh.1),fQ,cQ,nQ,kQ,dQ,mQ,lQ,R3,rfl⟩⟩
  ·have HBX:∀ w',Below U.heap.size U w'→(w'.cell? ⟨g,o,none⟩ = some (.bool true)∧w'.cell? ⟨g,o + 1,none⟩ = some (.bool p)∧w'.cell? ⟨g,o + 1 + 1,none⟩ = some (.slice a na ca)∧w'.cell? ⟨g,o + 2,none⟩ = some (.slice a na ca)∧w'.cell? ⟨g,o + 1 + 2,none⟩ = some (.slice d nd cd)∧w'.cell? ⟨g,o + 3,none⟩ = some (.slice d nd cd)∧w'.cell? ⟨RW,0,none⟩ = some (.bool fQ)∧w'.cell? ⟨RW,1,none⟩ = some (.slice cQ nQ kQ)∧w'.cell? ⟨RW,2,none⟩ = some (.slice dQ mQ lQ)):=fun w' hw=>by
    have hrg:=bK hc (aB hb2 hw)
    exact ⟨hrg 0 _ rfl,hrg 1 _ rfl,hrg 2 _ rfl,hrg 2 _ rfl,hrg 3 _ rfl,hrg 3 _ rfl,(VS.below hw).c0,(VS.below hw).c1,(VS.below hw).c2⟩
   obtain ⟨tc,htc⟩:∃ t:Int,Hid (t = cs r (x:Rat)):=⟨_,rfl⟩
   rcases HS.out tc htc.out with ⟨hlt,hsg⟩ | ⟨hlt,hsg⟩
   all_goals
    refine wp_region_noPanic (aY (fun _ w'=>w'.cell? ⟨g,o,none⟩ = some (.bool true)∧w'.cell? ⟨g,o + 1,none⟩ = some (.bool p)∧w'.cell? ⟨g,o + 1 + 1,none⟩ = some (.slice a na ca)∧w'.cell? ⟨g,o + 2,none⟩ = some (.slice a na ca)∧w'.cell? ⟨g,o + 1 + 2,none⟩ = some (.slice d nd cd)∧w'.cell? ⟨g,o + 3,none⟩ = some (.slice d nd cd)∧w'.cell? ⟨RW,0,none⟩ = some (.bool fQ)∧w'.cell? ⟨RW,1,none⟩ = some (.slice cQ nQ kQ)∧w'.cell? ⟨RW,2,none⟩ = some (.slice dQ mQ lQ)) (by kernel_rfl) ?_)
    have hc0:Below U.heap.size U U.drew:=aK _
    generalize U.drew = z0 at *
    refine wpAnyG.tA 0 (v:=.pointer (some ⟨g,o,none⟩)) (by decide) 1 (by kernel_rfl) (by rfl) ?y0 (HBX _ hc0) ?_
    case y0 =>
     rintro w' ⟨q0,q1,q2,q3,q4,q5,q6,q7,q8⟩
     simp only [lgA,lgZ]
     go_simp
    simp only [lgA,lgZ,Act.put,lsA,lsZ,lsS]
    refine wpAnyG.tA 1 (v:=.pointer (some ⟨g,o,none⟩)) (by decide) 2 (by kernel_rfl) (by rfl) ?y1 (HBX _ hc0) ?_
    case y1 =>
     rintro w' ⟨q0,q1,q2,q3,q4,q5,q6,q7,q8⟩
     simp only [lgA,lgZ,lgS]
     go_simp
    simp only [lgA,lgZ,lgS,Act.put,lsA,lsZ,lsS]
    refine wpAnyG.tA 2 (v:=.pointer (some ⟨g,o,none⟩)) (by decide) 3 (by kernel_rfl) (by rfl) ?y2 (HBX _ hc0) ?_
    case y2 =>
     rintro w' ⟨q0,q1,q2,q3,q4,q5,q6,q7,q8⟩
     simp only [lgA,lgZ,lgS]
     go_simp
    simp only [lgA,lgZ,lgS,Act.put,lsA,lsZ,lsS]
    refine wpAnyG.tA 3 (v:=.bool true) (by decide) 4 (by kernel_rfl) (by rfl) ?y3 (HBX _ hc0) ?_
    case y3 =>
     rintro w' ⟨q0,q1,q2,q3,q4,q5,q6,q7,q8⟩
     simp only [lgA,lgZ,lgS]
     go_simp
    simp only [lgA,lgZ,lgS,Act.put,lsA,lsZ,lsS]
    refine wpAnyG.tA 4 (v:=.bool false) (by decide) 5 (by kernel_rfl) (by rfl) ?y4 (HBX _ hc0) ?_
    case y4 =>
     rintro w' ⟨q0,q1,q2,q3,q4,q5,q6,q7,q8⟩
     simp only [lgA,lgZ,lgS]
     go_simp
    simp only [lgA,lgZ,lgS,Act.put,lsA,lsZ,lsS]
    refine wpAnyG.tA 5 (v:=.bool false) (by decide) 13 (by kernel_rfl) (by rfl) ?y5 (HBX _ hc0) ?_
    case y5 =>
     rintro w' ⟨q0,q1,q2,q3,q4,q5,q6,q7,q8⟩
     simp only [lgA,lgZ,lgS]
     go_simp
    simp only [lgA,lgZ,lgS,Act.put,lsA,lsZ,lsS]
    refine wpAnyG.tA 6 (v:=.pointer (some ⟨g,o,none⟩)) (by decide) 7 (by kernel_rfl) (by rfl) ?y6 (HBX _ hc0) ?_
    case y6 =>
     rintro w' ⟨q0,q1,q2,q3,q4,q5,q6,q7,q8⟩
     simp only [lgA,lgZ,lgS]
     go_simp
    simp only [lgA,lgZ,lgS,Act.put,lsA,lsZ,lsS]
    refine wpAnyG.tA 7 (v:=.pointer (some ⟨g,o,none⟩)) (by decide) 8 (by kernel_rfl) (by rfl) ?y7 (HBX _ hc0) ?_
    case y7 =>
     rintro w' ⟨q0,q1,q2,q3,q4,q5,q6,q7,q8⟩
     simp only [lgA,lgZ,lgS]
     go_simp
    simp only [lgA,lgZ,lgS,Act.put,lsA,lsZ,lsS]
    refine wpAnyG.tA 8 (v:=.pointer (some ⟨g,o + 1,none⟩)) (by decide) 9 (by kernel_rfl) (by rfl) ?y8 (HBX _ hc0) ?_
    case y8 =>
     rintro w' ⟨q0,q1,q2,q3,q4,q5,q6,q7,q8⟩
     simp only [lgA,lgZ,lgS]
     go_simp
    simp only [lgA,lgZ,lgS,Act.put,lsA,lsZ,lsS]
    refine wpAnyG.tA 9 (v:=.agg #[.bool p,.slice a na ca,.slice d nd cd]) (by decide) 11 (by kernel_rfl) (by rfl) ?y9 (HBX _ hc0) ?_
    case y9 =>
     rintro w' ⟨q0,q1,q2,q3,q4,q5,q6,q7,q8⟩
     simp only [lgA,lgZ,lgS]
     go_simp
    simp only [lgA,lgZ,lgS,Act.put,lsA,lsZ,lsS]
    refine wpAnyG.tA 10 (v:=.agg #[.bool fQ,.slice cQ nQ kQ,.slice dQ mQ lQ]) (by decide) 11 (by kernel_rfl) (by rfl) ?y10 (HBX _ hc0) ?_
    case y10 =>
     rintro w' ⟨q0,q1,q2,q3,q4,q5,q6,q7,q8⟩
     simp only [lgA,lgZ,lgS]
     go_simp
    simp only [lgA,lgZ,lgS,Act.put,lsA,lsZ,lsS]
    refine wpAnyG.one 11 (by kernel_rfl) (by decide) (by rfl) (fun K hK=>?_)
    simp only [lgA,lgZ,lgS]
    go_simp
    refine (oH tc z0 (hr.below (aB hb2 hc0)) (R2.below hc0).tr (by omega) hS1 hT1 htc.out).mono ?_
    rintro e z1 ⟨rfl,hk1⟩
    have hc1:Below U.heap.size U z1:=aB hc0 hk1
    dsimp only
    refine hK _ _ (HBX _ hc1) ?_
    clear hK K
    first
     | focus
      refine wpAnyG.tA 12 (v:=.bool true) (by decide) 13 (by kernel_rfl) (by rfl) ?y12 (HBX _ hc1) ?_
      case y12 =>
       rintro w' ⟨q0,q1,q2,q3,q4,q5,q6,q7,q8⟩
       simp only [lgA,lgZ,lgS]
       go_simp
     | focus
      refine wpAnyG.tA 12 (v:=.bool false) (by decide) 13 (by kernel_rfl) (by rfl) ?y12 (HBX _ hc1) ?_
      case y12 =>
       rintro w' ⟨q0,q1,q2,q3,q4,q5,q6,q7,q8⟩
       simp only [lgA,lgZ,lgS]
       go_simp
    simp only [lgA,lgZ,lgS,Act.put,lsA,lsZ,lsS]
    refine wpAnyG.one 13 (by kernel_rfl) (by decide) (by rfl) (fun K hK=>?_)
    simp only [lgA,lgZ,lgS]
    go_simp
    refine hK _ _ (HBX _ hc1) ?_
    clear hK K
    refine wpAnyG.done (by kernel_rfl) (NoPanic.normal ?_)
    try simp only [Act.put,List.setIfInBounds_toArray,List.set_cons_zero,List.set_cons_succ]
    have hb3:=aB hb2 hc1
    have R3:=R2.below hc1
    have hrg:=bK hc hb3
    have htg:=eG hth hb3
    obtain ⟨v0,v1,v2,_,_,_⟩:=id (VS.below hc1)
    have e0:z1.cell? ⟨g,o,none⟩ = some (.bool true):=hrg 0 _ rfl
    have e1:z1.cell? ⟨g,o + 1,none⟩ = some (.bool p):=hrg 1 _ rfl
    have e2:z1.cell? ⟨g,o + 2,none⟩ = some (.slice a na ca):=hrg 2 _ rfl
    have e3:z1.cell? ⟨g,o + 3,none⟩ = some (.slice d nd cd):=hrg 3 _ rfl
    have f0:z1.frozen? ⟨g,o,none⟩ = false:=(htg 0 (by decide)).2
    have f1:z1.frozen? ⟨g,o + 1,none⟩ = false:=(htg 1 (by decide)).2
    have f2:z1.frozen? ⟨g,o + 2,none⟩ = false:=(htg 2 (by decide)).2
    have f3:z1.frozen? ⟨g,o + 3,none⟩ = false:=(htg 3 (by decide)).2
    clear HBX VS R2 hb2 hrg htg hc0 hc1
    go_wp2
    go_end0
    first | exact ⟨⟨_,rfl⟩,z1,hb3,.inr ⟨fun hh=>hh.2 hlt.out,fQ,cQ,nQ,kQ,dQ,mQ,lQ,R3,rfl⟩⟩ | exact ⟨⟨_,rfl⟩,z1,hb3,.inl ⟨⟨rfl,hlt.out⟩,rfl⟩⟩
theorem aN9 {h p q:Bool} {a d b:Option Addr} {na ca nd cd nb cb:Nat} {r:Rat} {x:Int} {S T g o:Nat} (w:World) (hc:w.rangeAt g o [.bool h,.bool p,.slice a na ca,.slice d nd cd]) (hr:TR w p a na ca d nd cd r S) (hS1:1≤S) (hS:S≤4000000) (hth:w.there g o 4) (hx:TI w q b nb cb x T) (hT1:1≤T) (hT2:T≤4000000) (hT:TB w) :
 Calls Tryz.prog 130 #[.pointer (some ⟨g,o,none⟩),.agg #[.bool q,.slice b nb cb]] w fun e w'=>BdR h (r < (x:Rat)) g o (x:Rat) T w e w':=(bndQ w hc hr hS1 hS hth hx hT1 hT2 hT).1
theorem aO0 {h p q:Bool} {a d b:Option Addr} {na ca nd cd nb cb:Nat} {r:Rat} {x:Int} {S T g o:Nat} (w:World) (hc:w.rangeAt g o [.bool h,.bool p,.slice a na ca,.slice d nd cd]) (hr:TR w p a na ca d nd cd r S) (hS1:1≤S) (hS:S≤4000000) (hth:w.there g o 4) (hx:TI w q b nb cb x T) (hT1:1≤T) (hT2:T≤4000000) (hT:TB w) :
 Calls Tryz.prog 131 #[.pointer (some ⟨g,o,none⟩),.agg #[.bool q,.slice b nb cb]] w fun e w'=>BdR h ((x:Rat) < r) g o (x:Rat) T w e w':=(bndQ w hc hr hS1 hS hth hx hT1 hT2 hT).2
end Go.Proofs.YtnokmjmefipplaaGreatDoor
