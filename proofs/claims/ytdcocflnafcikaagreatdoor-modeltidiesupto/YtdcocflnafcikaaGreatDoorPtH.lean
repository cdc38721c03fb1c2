import Derived.Test.YtdcocflnafcikaaGreatDoorPtGAll
import Derived.Test.YtdcocflnafcikaaGreatDoorQ3OAll
namespace Go.Proofs.YtdcocflnafcikaaGreatDoor
open Go.RowKit
theorem rowI:(Tryz.prog.info? 60).map (·.size)=some 10:=by kernel_rfl
theorem FJ.start {w:World} {R:Nat} {P:Prob} {c:Nat→List Value} {x0 x1 x2:Value} (h:Rw 31 w R #[.bool P.mx,.string P.nm,x0,x1,x2,.slice none 0 0,.slice none 0 0]):FJ w R P c x0 x1 x2 0 0 (.slice none 0 0) (.slice none 0 0) (fun _=>[]) :=
 ⟨h,SL.nil _ _ _ _ _,SL.nil _ _ _ _ _,fun i hi=>by omega⟩
set_option maxRecDepth 100000 in
set_option maxHeartbeats 16000000 in
theorem filledQ (P:Prob) (w:World) {lb lo N lc:Nat} {c:Nat→List Value} {F:Nat→Fr} {G:PF} (hP:PQ w P) (hG:PFok P G) (hN:N=aQ P P.rn) (hC:LnC w lb lo N c F) (hK:P.K≤1048576) :
 Calls Tryz.prog 27 #[P.val,.slice (some ⟨lb,lo,none⟩) N lc] w fun e w'=>∃ v,e = .returned v∧FO w' w.heap.size P c v∧Below w.heap.size w w':=by
 have hsz:=jE hP hG hK
 have hvn:P.vn≤1048576:=by have:=hP.all;have:=aZ P.ZV P.vn;omega
 have hrn:P.rn≤1048576:=by have:=hP.all;have:=aZ P.ZR P.rn;omega
 have hN1:1+3*P.vn≤N:=by rw [hN];exact jQ P (Nat.zero_le _)
 have hNo:∀ i,i<P.rn→aQ P i+2+(P.R i).nt≤N:=fun i hi=>by rw [hN];exact fV P hi
 have hNs:N≤10000000:=by rw [hN];exact hsz _ (Nat.le_refl _)
 have hlb:lb<w.heap.size:=by
  obtain ⟨_,_,_,_,_,_,_,_,x0,_⟩:=hC.get (i:=0) (by omega)
  exact World.block_lt_of_cell? w _ x0
 have HNN:Hid (N=aQ P P.rn):=hN
 clear hN
 obtain ⟨Pb,Zb,hb,hs⟩:=boxc2 w #[.bool P.mx,.string P.nm,.bool P.p,.slice P.a P.na P.ca,.slice P.d P.nd P.cd,.slice P.va P.vn P.vc,.slice P.ra P.rn P.rc] 31 #[.bool false,.string ⟨#[]⟩,.bool false,.slice none 0 0,.slice none 0 0,.slice none 0 0,.slice none 0 0] 31
 have R4:Rw 31 ((w.alloc (.cells #[.bool P.mx,.string P.nm,.bool P.p,.slice P.a P.na P.ca,.slice P.d P.nd P.cd,.slice P.va P.vn P.vc,.slice P.ra P.rn P.rc] 31)).alloc (.cells #[.bool false,.string ⟨#[]⟩,.bool false,.slice none 0 0,.slice none 0 0,.slice none 0 0,.slice none 0 0] 31)) (w.heap.size+1) #[.bool false,.string ⟨#[]⟩,.bool false,.slice none 0 0,.slice none 0 0,.slice none 0 0,.slice none 0 0]:=by
  have:=Rw.new 31 (w.alloc (.cells #[.bool P.mx,.string P.nm,.bool P.p,.slice P.a P.na P.ca,.slice P.d P.nd P.cd,.slice P.va P.vn P.vc,.slice P.ra P.rn P.rc] 31)) #[.bool false,.string ⟨#[]⟩,.bool false,.slice none 0 0,.slice none 0 0,.slice none 0 0,.slice none 0 0]
  rwa [show (w.alloc (.cells #[.bool P.mx,.string P.nm,.bool P.p,.slice P.a P.na P.ca,.slice P.d P.nd P.cd,.slice P.va P.vn P.vc,.slice P.ra P.rn P.rc] 31)).heap.size=w.heap.size+1 by simp] at this
 clear Zb
 unfold Prob.val
 go_enter Tryz.func27,Tryz.ntmps27
 go_wp2_with fail
 generalize (w.alloc (.cells #[.bool P.mx,.string P.nm,.bool P.p,.slice P.a P.na P.ca,.slice P.d P.nd P.cd,.slice P.va P.vn P.vc,.slice P.ra P.rn P.rc] 31)).alloc (.cells #[.bool false,.string ⟨#[]⟩,.bool false,.slice none 0 0,.slice none 0 0,.slice none 0 0,.slice none 0 0] 31)=W0 at *
 obtain ⟨p0,a0,na0,ca0,d0,nd0,cd0,ec0,x00,x01,x02⟩:=hC.get (i:=0) (by omega)
 replace x00:=aB hb x00
 replace x01:=aB hb x01
 replace x02:=aB hb x02
 rw [Nat.zero_mul,Nat.add_zero] at x00 x01 x02
 have g0:=Pb 0 _ rfl
 have g1:=Pb 1 _ rfl
 have hNz:¬ N=0:=by omega
 have HBX:∀ w',Below W0.heap.size W0 w'→(w'.cell? ⟨w.heap.size,0,none⟩=some (.bool P.mx)∧w'.cell? ⟨w.heap.size,1,none⟩=some (.string P.nm)∧w'.cell? ⟨lb,lo,none⟩=some (.bool p0)∧w'.cell? ⟨lb,lo+1,none⟩=some (.slice a0 na0 ca0)∧w'.cell? ⟨lb,lo+2,none⟩=some (.slice d0 nd0 cd0)):=fun w' h=>⟨aB h g0,aB h g1,aB h x00,aB h x01,aB h x02⟩
 refine wp_region_noPanic (aU 9 HBX (by kernel_rfl) ?_)
 have hc0:Below W0.heap.size W0 W0.drew:=aS _
 generalize W0.drew=z0 at *
 refine wpAnyG.tT 0 (v:=.pointer (some ⟨w.heap.size,0,none⟩)) (by decide) 9 (by kernel_rfl) (by rfl) ?y0 (HBX _ hc0) ?_
 case y0 =>
  rintro w' ⟨q0,q1,q2,q3,q4⟩
  simp only [lgA,lgZ]
  go_simp
 simp only [lgA,lgZ,Act.put,lsA,lsZ,lsS]
 refine wpAnyG.tT 1 (v:=.bool P.mx) (by decide) 9 (by kernel_rfl) (by rfl) ?y1 (HBX _ hc0) ?_
 case y1 =>
  rintro w' ⟨q0,q1,q2,q3,q4⟩
  simp only [lgA,lgZ,lgS]
  go_simp
 simp only [lgA,lgZ,lgS,Act.put,lsA,lsZ,lsS]
 refine wpAnyG.tT 2 (v:=.pointer (some ⟨w.heap.size,1,none⟩)) (by decide) 9 (by kernel_rfl) (by rfl) ?y2 (HBX _ hc0) ?_
 case y2 =>
  rintro w' ⟨q0,q1,q2,q3,q4⟩
  simp only [lgA,lgZ,lgS]
  go_simp
 simp only [lgA,lgZ,lgS,Act.put,lsA,lsZ,lsS]
 refine wpAnyG.tT 3 (v:=.string P.nm) (by decide) 9 (by kernel_rfl) (by rfl) ?y3 (HBX _ hc0) ?_
 case y3 =>
  rintro w' ⟨q0,q1,q2,q3,q4⟩
  simp only [lgA,lgZ,lgS]
  go_simp
 simp only [lgA,lgZ,lgS,Act.put,lsA,lsZ,lsS]
 refine wpAnyG.tT 4 (v:=.slice (some ⟨lb,lo,none⟩) N lc) (by decide) 9 (by kernel_rfl) (by rfl) ?y4 (HBX _ hc0) ?_
 case y4 =>
  rintro w' ⟨q0,q1,q2,q3,q4⟩
  simp only [lgA,lgZ,lgS]
  go_simp
 simp only [lgA,lgZ,lgS,Act.put,lsA,lsZ,lsS]
 refine wpAnyG.tT 5 (v:=.pointer (some ⟨lb,lo,none⟩)) (by decide) 9 (by kernel_rfl) (by rfl) ?y5 (HBX _ hc0) ?_
 case y5 =>
  rintro w' ⟨q0,q1,q2,q3,q4⟩
  simp only [lgA,lgZ,lgS]
  go_simp
 simp only [lgA,lgZ,lgS,Act.put,lsA,lsZ,lsS]
 refine wpAnyG.tT 6 (v:=.agg #[.bool p0,.slice a0 na0 ca0,.slice d0 nd0 cd0]) (by decide) 9 (by kernel_rfl) (by rfl) ?y6 (HBX _ hc0) ?_
 case y6 =>
  rintro w' ⟨q0,q1,q2,q3,q4⟩
  simp only [lgA,lgZ,lgS]
  go_simp
 simp only [lgA,lgZ,lgS,Act.put,lsA,lsZ,lsS]
 refine wpAnyG.tT 7 (v:=.agg #[.bool P.mx,.string P.nm,.bool p0,.slice a0 na0 ca0,.slice d0 nd0 cd0,.slice none 0 0,.slice none 0 0]) (by decide) 9 (by kernel_rfl) (by rfl) ?y7 (HBX _ hc0) ?_
 case y7 =>
  rintro w' ⟨q0,q1,q2,q3,q4⟩
  simp only [lgA,lgZ,lgS]
  go_simp
 simp only [lgA,lgZ,lgS,Act.put,lsA,lsZ,lsS]
 refine wpAnyG.one 8 (by kernel_rfl) (by decide) (by rfl) (fun K hK=>?_)
 simp only [lgA,lgZ,lgS]
 go_simp
 have hy:Below W0.heap.size W0 (z0.alloc (.cells #[.bool false,.string ⟨#[]⟩,.bool false,.slice none 0 0,.slice none 0 0,.slice none 0 0,.slice none 0 0] 31)):=eG hc0
 have RP:=Rw.new 31 z0 #[.bool false,.string ⟨#[]⟩,.bool false,.slice none 0 0,.slice none 0 0,.slice none 0 0,.slice none 0 0]
 have hz0:=hc0.size
 generalize z0.alloc (.cells #[.bool false,.string ⟨#[]⟩,.bool false,.slice none 0 0,.slice none 0 0,.slice none 0 0,.slice none 0 0] 31)=w1 at *
 refine hK _ _ ⟨fun _=>HBX _ hy,fun _=>trivial⟩ ?_
 clear hK K
 refine wpAnyG.one 9 (by kernel_rfl) (by decide) (by rfl) (fun K hK=>?_)
 simp only [lgA,lgZ,lgS]
 refine wp_store_row 31 _ _ rfl z0.heap.size #[.bool P.mx,.string P.nm,.bool p0,.slice a0 na0 ca0,.slice d0 nd0 cd0,.slice none 0 0,.slice none 0 0] rfl rfl 31 _ RP lY rfl (by simp [Value.oneCell']) ?_
 refine hK _ _ ⟨fun h=>absurd h (by decide),fun _=>trivial⟩ ?_
 clear hK K
 refine wpAnyG.done (by kernel_rfl) (NoPanic.normal ?_)
 obtain ⟨R,hR⟩:∃ R,R=z0.heap.size:=⟨_,rfl⟩
 rw [← hR] at RP ⊢
 obtain ⟨RN,O⟩:=RP.row #[.bool P.mx,.string P.nm,.bool p0,.slice a0 na0 ca0,.slice d0 nd0 cd0,.slice none 0 0,.slice none 0 0]
 have hRl:=RP.lt
 replace Pb:=(Pb.below hy)
 replace Pb:BoxC _ w.heap.size (#[.bool P.mx,.string P.nm,.bool P.p,.slice P.a P.na P.ca,.slice P.d P.nd P.cd,.slice P.va P.vn P.vc,.slice P.ra P.rn P.rc]).toList:=fun a u hu=>(World.cell?_of_block (O.block w.heap.size (by omega))).trans (Pb a u hu)
 replace R4:=(R4.below hy).off O (by omega)
 have hB:Below w.heap.size w _:=((hb.trans (hy.mono (by omega))).trans (O.below (by omega)))
 have J:=FJ.start (c:=c) RN
 have hRs:w.heap.size+2≤R:=by omega
 clear HBX g0 g1 x00 x01 x02 hy hc0 hz0 hR RP RN O hRl hb hs
 generalize w1.setRow R #[.bool P.mx,.string P.nm,.bool p0,.slice a0 na0 ca0,.slice d0 nd0 cd0,.slice none 0 0,.slice none 0 0]=W1 at *
 go_wp2_with fail
 go_loopw [6,7] (fun s6 s7 wr=>∃ (j:Nat) (gv:Value),j≤P.vn∧s7 = .int .i64 j∧s6 = .int .i64 ((1+3*j:Nat):Int)∧FJ wr R P c (.bool p0) (.slice a0 na0 ca0) (.slice d0 nd0 cd0) (j) (0) (gv) (.slice none 0 0) (fun _=>[])∧BoxC wr w.heap.size (#[.bool P.mx,.string P.nm,.bool P.p,.slice P.a P.na P.ca,.slice P.d P.nd P.cd,.slice P.va P.vn P.vc,.slice P.ra P.rn P.rc]).toList∧Rw 31 wr (w.heap.size+1) #[.bool false,.string ⟨#[]⟩,.bool false,.slice none 0 0,.slice none 0 0,.slice none 0 0,.slice none 0 0]∧Below w.heap.size w wr) (fun _ s7 _=>P.vn-(intOf s7).toNat)
 case atStart=>exact ⟨0,_,Nat.zero_le _,rfl,rfl,J,Pb,R4,hB⟩
 case round =>
  clear J Pb R4 hB
  obtain ⟨j,gv,hj,rfl,rfl,J,Pb,R4,hB⟩:=hrel
  obtain ⟨ga,gc,rfl,_⟩:=J.sv.form
  have g5:=Pb 5 _ rfl
  have hRl:=J.row.lt
  by_cases hlt:j<P.vn
  ·have hkI:(j:Int)<(P.vn:Int):=by omega
   have hkI2:(j:Int)*13=((j*13:Nat):Int):=by omega
   rcases hP.v with h0|⟨vb,vo,hva,hev⟩
   ·omega
   have hV:=hev j hlt
   obtain ⟨nmV,enm⟩:∃ x,x=(P.V j).nm:=⟨_,rfl⟩
   obtain ⟨hl,ehl⟩:∃ x,x=(P.V j).hlo:=⟨_,rfl⟩
   obtain ⟨hh,ehh⟩:∃ x,x=(P.V j).hhi:=⟨_,rfl⟩
   obtain ⟨wh,ewh⟩:∃ x,x=(P.V j).whole:=⟨_,rfl⟩
   have y0:=aB hB hV.nm
   obtain ⟨q1,b1,nb1,cb1,e1,ne1,ce1,y1,y2,y3,_⟩:=hV.obj
   have y4:=aB hB hV.hlo
   obtain ⟨q2,b2,nb2,cb2,e2,ne2,ce2,y5,y6,y7,_⟩:=hV.lo
   have y8:=aB hB hV.hhi
   obtain ⟨q3,b3,nb3,cb3,e3,ne3,ce3,y9,y10,y11,_⟩:=hV.hi
   have y12:=aB hB hV.whole
   replace y1:=aB hB y1
   replace y2:=aB hB y2
   replace y3:=aB hB y3
   replace y5:=aB hB y5
   replace y6:=aB hB y6
   replace y7:=aB hB y7
   replace y9:=aB hB y9
   replace y10:=aB hB y10
   replace y11:=aB hB y11
   rw [← enm] at y0
   rw [← ehl] at y4
   rw [← ehh] at y8
   rw [← ewh] at y12
   have EV:Hid (nmV=(P.V j).nm∧hl=(P.V j).hlo∧hh=(P.V j).hhi∧wh=(P.V j).whole):=⟨enm,ehl,ehh,ewh⟩
   clear hev hV enm ehl ehh ewh
   rw [hva] at g5
   clear hva
   obtain ⟨n,en⟩:∃ n,n=1+3*j:=⟨_,rfl⟩
   rw [← en]
   have EN:Hid (n=1+3*j):=en
   obtain ⟨m1,em1⟩:∃ m,m=n+1:=⟨_,rfl⟩
   obtain ⟨m2,em2⟩:∃ m,m=n+2:=⟨_,rfl⟩
   have EM:Hid (m1=n+1∧m2=n+2):=⟨em1,em2⟩
   obtain ⟨p1,a1,na1,ca1,d1,nd1,cd1,ec1,x10,x11,x12⟩:=hC.get (i:=n) (by omega)
   replace x10:=aB hB x10
   replace x11:=aB hB x11
   replace x12:=aB hB x12
   obtain ⟨p2,a2,na2,ca2,d2,nd2,cd2,ec2,x20,x21,x22⟩:=hC.get (i:=m1) (by omega)
   replace x20:=aB hB x20
   replace x21:=aB hB x21
   replace x22:=aB hB x22
   obtain ⟨p3,a3,na3,ca3,d3,nd3,cd3,ec3,x30,x31,x32⟩:=hC.get (i:=m2) (by omega)
   replace x30:=aB hB x30
   replace x31:=aB hB x31
   replace x32:=aB hB x32
   clear en em1 em2
   go_wp2_with fail
   have B5:=aN wr #[.string nmV,.bool q1,.slice b1 nb1 cb1,.slice e1 ne1 ce1,.bool hl,.bool q2,.slice b2 nb2 cb2,.slice e2 ne2 ce2,.bool hh,.bool q3,.slice b3 nb3 cb3,.slice e3 ne3 ce3,.bool wh] 57
   have hz:=aG wr (.cells #[.string nmV,.bool q1,.slice b1 nb1 cb1,.slice e1 ne1 ce1,.bool hl,.bool q2,.slice b2 nb2 cb2,.slice e2 ne2 ce2,.bool hh,.bool q3,.slice b3 nb3 cb3,.slice e3 ne3 ce3,.bool wh] 57)
   obtain ⟨V,hV⟩:∃ V,V=wr.heap.size:=⟨_,rfl⟩
   rw [← hV] at B5 ⊢
   have HV:Hid (V=wr.heap.size):=hV
   have J0:=J
   replace J:=J.below hz
   replace Pb:=Pb.below hz
   replace R4:=R4.below hz
   replace hB:=aF hB hz
   replace x10:=aB hz x10
   replace x11:=aB hz x11
   replace x12:=aB hz x12
   replace x20:=aB hz x20
   replace x21:=aB hz x21
   replace x22:=aB hz x22
   replace x30:=aB hz x30
   replace x31:=aB hz x31
   replace x32:=aB hz x32
   have g5':=(J.row.cell 5).trans (show _=some (.slice ga j gc) from rfl)
   have h0:=B5 0 _ rfl
   have h4:=B5 4 _ rfl
   have h8:=B5 8 _ rfl
   have h12:=B5 12 _ rfl
   clear y0 y1 y2 y3 y4 y5 y6 y7 y8 y9 y10 y11 y12 g5 hz
   have hE1:=EM.out.1
   have hE2:=EM.out.2
   have hE3:=EN.out
   have hn1:(n:Int)<(N:Int):=by omega
   have hn2:(m1:Int)<(N:Int):=by omega
   have hn3:(m2:Int)<(N:Int):=by omega
   have hw1:IntKind.i64.wrap ((n:Int)+1)=(m1:Int):=by rw [IntKind.wrap_i64];omega
   have hw2:IntKind.i64.wrap ((n:Int)+2)=(m2:Int):=by rw [IntKind.wrap_i64];omega
   have hm1:(n:Int)*3=((n*3:Nat):Int):=by omega
   have hm2:(m1:Int)*3=((m1*3:Nat):Int):=by omega
   have hm3:(m2:Int)*3=((m2*3:Nat):Int):=by omega
   clear hE1 hE2 hE3
   have hVk:(Value.ownBlock (.slice ga j gc))=some V→V<wr.heap.size:=fun e=>(J0.sv.lt V e).2
   have hVn:¬ V<wr.heap.size:=by omega
   clear hV
   generalize wr.alloc (.cells #[.string nmV,.bool q1,.slice b1 nb1 cb1,.slice e1 ne1 ce1,.bool hl,.bool q2,.slice b2 nb2 cb2,.slice e2 ne2 ce2,.bool hh,.bool q3,.slice b3 nb3 cb3,.slice e3 ne3 ce3,.bool wh] 57)=W4 at *
   have HBX:∀ w',Below W4.heap.size W4 w'→(w'.cell? ⟨R,5,none⟩=some (.slice ga j gc)∧w'.cell? ⟨V,0,none⟩=some (.string nmV)∧w'.cell? ⟨V,4,none⟩=some (.bool hl)∧w'.cell? ⟨V,8,none⟩=some (.bool hh)∧w'.cell? ⟨V,12,none⟩=some (.bool wh)∧w'.cell? ⟨lb,lo+n*3,none⟩=some (.bool p1)∧w'.cell? ⟨lb,lo+n*3+1,none⟩=some (.slice a1 na1 ca1)∧w'.cell? ⟨lb,lo+n*3+2,none⟩=some (.slice d1 nd1 cd1)∧w'.cell? ⟨lb,lo+m1*3,none⟩=some (.bool p2)∧w'.cell? ⟨lb,lo+m1*3+1,none⟩=some (.slice a2 na2 ca2)∧w'.cell? ⟨lb,lo+m1*3+2,none⟩=some (.slice d2 nd2 cd2)∧w'.cell? ⟨lb,lo+m2*3,none⟩=some (.bool p3)∧w'.cell? ⟨lb,lo+m2*3+1,none⟩=some (.slice a3 na3 ca3)∧w'.cell? ⟨lb,lo+m2*3+2,none⟩=some (.slice d3 nd3 cd3)):=fun w' h=>⟨aB h g5',aB h h0,aB h h4,aB h h8,aB h h12,aB h x10,aB h x11,aB h x12,aB h x20,aB h x21,aB h x22,aB h x30,aB h x31,aB h x32⟩
   refine wp_region_noPanic (aU 31 HBX (by kernel_rfl) ?_)
   have hc0:Below W4.heap.size W4 W4.drew:=aS _
   generalize W4.drew=z0 at *
   refine wpAnyG.tT 0 (v:=.pointer (some ⟨R,5,none⟩)) (by decide) 31 (by kernel_rfl) (by rfl) ?y0 (HBX _ hc0) ?_
   case y0 =>
    rintro w' ⟨f0,f1,f2,f3,f4,f5,f6,f7,f8,f9,f10,f11,f12,f13⟩
    simp only [lgA,lgZ]
    go_simp
   simp only [lgA,lgZ,Act.put,lsA,lsZ,lsS]
   refine wpAnyG.tT 1 (v:=.slice ga j gc) (by decide) 31 (by kernel_rfl) (by rfl) ?y1 (HBX _ hc0) ?_
   case y1 =>
    rintro w' ⟨f0,f1,f2,f3,f4,f5,f6,f7,f8,f9,f10,f11,f12,f13⟩
    simp only [lgA,lgZ,lgS]
    go_simp
   simp only [lgA,lgZ,lgS,Act.put,lsA,lsZ,lsS]
   refine wpAnyG.tT 2 (v:=.pointer (some ⟨V,0,none⟩)) (by decide) 31 (by kernel_rfl) (by rfl) ?y2 (HBX _ hc0) ?_
   case y2 =>
    rintro w' ⟨f0,f1,f2,f3,f4,f5,f6,f7,f8,f9,f10,f11,f12,f13⟩
    simp only [lgA,lgZ,lgS]
    go_simp
   simp only [lgA,lgZ,lgS,Act.put,lsA,lsZ,lsS]
   refine wpAnyG.tT 3 (v:=.string nmV) (by decide) 31 (by kernel_rfl) (by rfl) ?y3 (HBX _ hc0) ?_
   case y3 =>
    rintro w' ⟨f0,f1,f2,f3,f4,f5,f6,f7,f8,f9,f10,f11,f12,f13⟩
    simp only [lgA,lgZ,lgS]
    go_simp
   simp only [lgA,lgZ,lgS,Act.put,lsA,lsZ,lsS]
   refine wpAnyG.tT 4 (v:=.slice (some ⟨lb,lo,none⟩) N lc) (by decide) 31 (by kernel_rfl) (by rfl) ?y4 (HBX _ hc0) ?_
   case y4 =>
    rintro w' ⟨f0,f1,f2,f3,f4,f5,f6,f7,f8,f9,f10,f11,f12,f13⟩
    simp only [lgA,lgZ,lgS]
    go_simp
   simp only [lgA,lgZ,lgS,Act.put,lsA,lsZ,lsS]
   refine wpAnyG.tT 5 (v:=.int .i64 (n:Int)) (by decide) 31 (by kernel_rfl) (by rfl) ?y5 (HBX _ hc0) ?_
   case y5 =>
    rintro w' ⟨f0,f1,f2,f3,f4,f5,f6,f7,f8,f9,f10,f11,f12,f13⟩
    simp only [lgA,lgZ,lgS]
    go_simp
   simp only [lgA,lgZ,lgS,Act.put,lsA,lsZ,lsS]
   refine wpAnyG.tT 6 (v:=.pointer (some ⟨lb,lo+n*3,none⟩)) (by decide) 31 (by kernel_rfl) (by rfl) ?y6 (HBX _ hc0) ?_
   case y6 =>
    rintro w' ⟨f0,f1,f2,f3,f4,f5,f6,f7,f8,f9,f10,f11,f12,f13⟩
    simp only [lgA,lgZ,lgS]
    go_simp
   simp only [lgA,lgZ,lgS,Act.put,lsA,lsZ,lsS]
   refine wpAnyG.tT 7 (v:=.agg #[.bool p1,.slice a1 na1 ca1,.slice d1 nd1 cd1]) (by decide) 31 (by kernel_rfl) (by rfl) ?y7 (HBX _ hc0) ?_
   case y7 =>
    rintro w' ⟨f0,f1,f2,f3,f4,f5,f6,f7,f8,f9,f10,f11,f12,f13⟩
    simp only [lgA,lgZ,lgS]
    go_simp
   simp only [lgA,lgZ,lgS,Act.put,lsA,lsZ,lsS]
   refine wpAnyG.tT 8 (v:=.pointer (some ⟨V,4,none⟩)) (by decide) 31 (by kernel_rfl) (by rfl) ?y8 (HBX _ hc0) ?_
   case y8 =>
    rintro w' ⟨f0,f1,f2,f3,f4,f5,f6,f7,f8,f9,f10,f11,f12,f13⟩
    simp only [lgA,lgZ,lgS]
    go_simp
   simp only [lgA,lgZ,lgS,Act.put,lsA,lsZ,lsS]
   refine wpAnyG.tT 9 (v:=.pointer (some ⟨V,4,none⟩)) (by decide) 31 (by kernel_rfl) (by rfl) ?y9 (HBX _ hc0) ?_
   case y9 =>
    rintro w' ⟨f0,f1,f2,f3,f4,f5,f6,f7,f8,f9,f10,f11,f12,f13⟩
    simp only [lgA,lgZ,lgS]
    go_simp
   simp only [lgA,lgZ,lgS,Act.put,lsA,lsZ,lsS]
   refine wpAnyG.tT 10 (v:=.bool hl) (by decide) 31 (by kernel_rfl) (by rfl) ?y10 (HBX _ hc0) ?_
   case y10 =>
    rintro w' ⟨f0,f1,f2,f3,f4,f5,f6,f7,f8,f9,f10,f11,f12,f13⟩
    simp only [lgA,lgZ,lgS]
    go_simp
   simp only [lgA,lgZ,lgS,Act.put,lsA,lsZ,lsS]
   refine wpAnyG.tT 11 (v:=.slice (some ⟨lb,lo,none⟩) N lc) (by decide) 31 (by kernel_rfl) (by rfl) ?y11 (HBX _ hc0) ?_
   case y11 =>
    rintro w' ⟨f0,f1,f2,f3,f4,f5,f6,f7,f8,f9,f10,f11,f12,f13⟩
    simp only [lgA,lgZ,lgS]
    go_simp
   simp only [lgA,lgZ,lgS,Act.put,lsA,lsZ,lsS]
   refine wpAnyG.tT 12 (v:=.int .i64 (n:Int)) (by decide) 31 (by kernel_rfl) (by rfl) ?y12 (HBX _ hc0) ?_
   case y12 =>
    rintro w' ⟨f0,f1,f2,f3,f4,f5,f6,f7,f8,f9,f10,f11,f12,f13⟩
    simp only [lgA,lgZ,lgS]
    go_simp
   simp only [lgA,lgZ,lgS,Act.put,lsA,lsZ,lsS]
   refine wpAnyG.tT 13 (v:=.int .i64 (m1:Int)) (by decide) 31 (by kernel_rfl) (by rfl) ?y13 (HBX _ hc0) ?_
   case y13 =>
    rintro w' ⟨f0,f1,f2,f3,f4,f5,f6,f7,f8,f9,f10,f11,f12,f13⟩
    simp only [lgA,lgZ,lgS]
    go_simp
   simp only [lgA,lgZ,lgS,Act.put,lsA,lsZ,lsS]
   refine wpAnyG.tT 14 (v:=.pointer (some ⟨lb,lo+m1*3,none⟩)) (by decide) 31 (by kernel_rfl) (by rfl) ?y14 (HBX _ hc0) ?_
   case y14 =>
    rintro w' ⟨f0,f1,f2,f3,f4,f5,f6,f7,f8,f9,f10,f11,f12,f13⟩
    simp only [lgA,lgZ,lgS]
    go_simp
   simp only [lgA,lgZ,lgS,Act.put,lsA,lsZ,lsS]
   refine wpAnyG.tT 15 (v:=.agg #[.bool p2,.slice a2 na2 ca2,.slice d2 nd2 cd2]) (by decide) 31 (by kernel_rfl) (by rfl) ?y15 (HBX _ hc0) ?_
   case y15 =>
    rintro w' ⟨f0,f1,f2,f3,f4,f5,f6,f7,f8,f9,f10,f11,f12,f13⟩
    simp only [lgA,lgZ,lgS]
    go_simp
   simp only [lgA,lgZ,lgS,Act.put,lsA,lsZ,lsS]
   refine wpAnyG.tT 16 (v:=.agg #[.bool hl,.bool p2,.slice a2 na2 ca2,.slice d2 nd2 cd2]) (by decide) 31 (by kernel_rfl) (by rfl) ?y16 (HBX _ hc0) ?_
   case y16 =>
    rintro w' ⟨f0,f1,f2,f3,f4,f5,f6,f7,f8,f9,f10,f11,f12,f13⟩
    simp only [lgA,lgZ,lgS]
    go_simp
   simp only [lgA,lgZ,lgS,Act.put,lsA,lsZ,lsS]
   refine wpAnyG.tT 17 (v:=.pointer (some ⟨V,8,none⟩)) (by decide) 31 (by kernel_rfl) (by rfl) ?y17 (HBX _ hc0) ?_
   case y17 =>
    rintro w' ⟨f0,f1,f2,f3,f4,f5,f6,f7,f8,f9,f10,f11,f12,f13⟩
    simp only [lgA,lgZ,lgS]
    go_simp
   simp only [lgA,lgZ,lgS,Act.put,lsA,lsZ,lsS]
   refine wpAnyG.tT 18 (v:=.pointer (some ⟨V,8,none⟩)) (by decide) 31 (by kernel_rfl) (by rfl) ?y18 (HBX _ hc0) ?_
   case y18 =>
    rintro w' ⟨f0,f1,f2,f3,f4,f5,f6,f7,f8,f9,f10,f11,f12,f13⟩
    simp only [lgA,lgZ,lgS]
    go_simp
   simp only [lgA,lgZ,lgS,Act.put,lsA,lsZ,lsS]
   refine wpAnyG.tT 19 (v:=.bool hh) (by decide) 31 (by kernel_rfl) (by rfl) ?y19 (HBX _ hc0) ?_
   case y19 =>
    rintro w' ⟨f0,f1,f2,f3,f4,f5,f6,f7,f8,f9,f10,f11,f12,f13⟩
    simp only [lgA,lgZ,lgS]
    go_simp
   simp only [lgA,lgZ,lgS,Act.put,lsA,lsZ,lsS]
   refine wpAnyG.tT 20 (v:=.slice (some ⟨lb,lo,none⟩) N lc) (by decide) 31 (by kernel_rfl) (by rfl) ?y20 (HBX _ hc0) ?_
   case y20 =>
    rintro w' ⟨f0,f1,f2,f3,f4,f5,f6,f7,f8,f9,f10,f11,f12,f13⟩
    simp only [lgA,lgZ,lgS]
    go_simp
   simp only [lgA,lgZ,lgS,Act.put,lsA,lsZ,lsS]
   refine wpAnyG.tT 21 (v:=.int .i64 (n:Int)) (by decide) 31 (by kernel_rfl) (by rfl) ?y21 (HBX _ hc0) ?_
   case y21 =>
    rintro w' ⟨f0,f1,f2,f3,f4,f5,f6,f7,f8,f9,f10,f11,f12,f13⟩
    simp only [lgA,lgZ,lgS]
    go_simp
   simp only [lgA,lgZ,lgS,Act.put,lsA,lsZ,lsS]
   refine wpAnyG.tT 22 (v:=.int .i64 (m2:Int)) (by decide) 31 (by kernel_rfl) (by rfl) ?y22 (HBX _ hc0) ?_
   case y22 =>
    rintro w' ⟨f0,f1,f2,f3,f4,f5,f6,f7,f8,f9,f10,f11,f12,f13⟩
    simp only [lgA,lgZ,lgS]
    go_simp
   simp only [lgA,lgZ,lgS,Act.put,lsA,lsZ,lsS]
   refine wpAnyG.tT 23 (v:=.pointer (some ⟨lb,lo+m2*3,none⟩)) (by decide) 31 (by kernel_rfl) (by rfl) ?y23 (HBX _ hc0) ?_
   case y23 =>
    rintro w' ⟨f0,f1,f2,f3,f4,f5,f6,f7,f8,f9,f10,f11,f12,f13⟩
    simp only [lgA,lgZ,lgS]
    go_simp
   simp only [lgA,lgZ,lgS,Act.put,lsA,lsZ,lsS]
   refine wpAnyG.tT 24 (v:=.agg #[.bool p3,.slice a3 na3 ca3,.slice d3 nd3 cd3]) (by decide) 31 (by kernel_rfl) (by rfl) ?y24 (HBX _ hc0) ?_
   case y24 =>
    rintro w' ⟨f0,f1,f2,f3,f4,f5,f6,f7,f8,f9,f10,f11,f12,f13⟩
    simp only [lgA,lgZ,lgS]
    go_simp
   simp only [lgA,lgZ,lgS,Act.put,lsA,lsZ,lsS]
   refine wpAnyG.tT 25 (v:=.agg #[.bool hh,.bool p3,.slice a3 na3 ca3,.slice d3 nd3 cd3]) (by decide) 31 (by kernel_rfl) (by rfl) ?y25 (HBX _ hc0) ?_
   case y25 =>
    rintro w' ⟨f0,f1,f2,f3,f4,f5,f6,f7,f8,f9,f10,f11,f12,f13⟩
    simp only [lgA,lgZ,lgS]
    go_simp
   simp only [lgA,lgZ,lgS,Act.put,lsA,lsZ,lsS]
   refine wpAnyG.tT 26 (v:=.pointer (some ⟨V,12,none⟩)) (by decide) 31 (by kernel_rfl) (by rfl) ?y26 (HBX _ hc0) ?_
   case y26 =>
    rintro w' ⟨f0,f1,f2,f3,f4,f5,f6,f7,f8,f9,f10,f11,f12,f13⟩
    simp only [lgA,lgZ,lgS]
    go_simp
   simp only [lgA,lgZ,lgS,Act.put,lsA,lsZ,lsS]
   refine wpAnyG.tT 27 (v:=.bool wh) (by decide) 31 (by kernel_rfl) (by rfl) ?y27 (HBX _ hc0) ?_
   case y27 =>
    rintro w' ⟨f0,f1,f2,f3,f4,f5,f6,f7,f8,f9,f10,f11,f12,f13⟩
    simp only [lgA,lgZ,lgS]
    go_simp
   simp only [lgA,lgZ,lgS,Act.put,lsA,lsZ,lsS]
   refine wpAnyG.tT 28 (v:=.agg #[.string nmV,.bool p1,.slice a1 na1 ca1,.slice d1 nd1 cd1,.bool hl,.bool p2,.slice a2 na2 ca2,.slice d2 nd2 cd2,.bool hh,.bool p3,.slice a3 na3 ca3,.slice d3 nd3 cd3,.bool wh]) (by decide) 31 (by kernel_rfl) (by rfl) ?y28 (HBX _ hc0) ?_
   case y28 =>
    rintro w' ⟨f0,f1,f2,f3,f4,f5,f6,f7,f8,f9,f10,f11,f12,f13⟩
    simp only [lgA,lgZ,lgS]
    go_simp
   simp only [lgA,lgZ,lgS,Act.put,lsA,lsZ,lsS]
   refine wpAnyG.one 29 (by kernel_rfl) (by decide) (by rfl) (fun K hK=>?_)
   simp only [lgA,lgZ,lgS]
   go_simp
   have hy:Below W4.heap.size W4 (z0.alloc (.cells #[.string nmV,.bool p1,.slice a1 na1 ca1,.slice d1 nd1 cd1,.bool hl,.bool p2,.slice a2 na2 ca2,.slice d2 nd2 cd2,.bool hh,.bool p3,.slice a3 na3 ca3,.slice d3 nd3 cd3,.bool wh] 57)):=eG hc0
   refine hK _ _ ⟨fun _=>HBX _ hy,fun _=>trivial⟩ ?_
   clear hK K
   refine wpAnyG.one 30 (by kernel_rfl) (by decide) (by rfl) (fun K hK=>?_)
   simp only [lgA,lgZ,lgS]
   have HS:=J.sv.below hy
   have hz0:=hc0.size
   have hRl:=J.row.lt
   have hVl:V<W4.heap.size:=World.block_lt_of_cell? W4 _ h0
   refine dM _ _ _ 28 57 13 208 rfl Tryz.underlying28 qM (by decide) (by decide) (R+1) (.slice ga j gc) j _ rfl HS z0.heap.size _ rfl [.string nmV,.bool p1,.slice a1 na1 ca1,.slice d1 nd1 cd1,.bool hl,.bool p2,.slice a2 na2 ca2,.slice d2 nd2 cd2,.bool hh,.bool p3,.slice a3 na3 ca3,.slice d3 nd3 cd3,.bool wh] rfl (fun u hu=>by simp at hu;rcases hu with rfl|rfl|rfl|rfl|rfl|rfl|rfl|rfl|rfl|rfl|rfl|rfl|rfl <;> rfl) (aN z0 #[.string nmV,.bool p1,.slice a1 na1 ca1,.slice d1 nd1 cd1,.bool hl,.bool p2,.slice a2 na2 ca2,.slice d2 nd2 cd2,.bool hh,.bool p3,.slice a3 na3 ca3,.slice d3 nd3 cd3,.bool wh] 57) (by omega) (by simp;omega) (z0.heap.size+1) (by simp) ?_
   intro gN capN w5 SN hg hat _
   have JN:=J.appv hy hg SN (by unfold vcl;rw [if_pos hlt,← EV.out.1,← EV.out.2.1,← EV.out.2.2.1,← EV.out.2.2.2,← EN.out,← EM.out.1,← EM.out.2,ec1,ec2,ec3];rfl)
   have BN:=iD hB hy hg (fun k e=>by have:=(J.sv.lt k e).1;omega) (by omega) (show w.heap.size≤R by omega) 5 (.slice (some ⟨gN,0,none⟩) (j+1) capN)
   have r3:=(J.row.below hy).kept hg (fun e=>by have:=(J.sv.lt R e).1;omega)
   have s0:=(r3.cell 5).trans (show _=some (.slice ga j gc) from rfl)
   have s1:=r3.frozen 5
   have hne:∀ k,k<R+1∨k=V→(Value.ownBlock (.slice ga j gc))≠some k:=fun k hk e=>by
    rcases hk with hk|rfl
    ·have:=(J.sv.lt k e).1;omega
    ·exact absurd (hVk e) (by omega)
   have O5:Off R w5 (w5.setCell ⟨R,5,none⟩ (.slice (some ⟨gN,0,none⟩) (j+1) capN)):=(Off.refl R w5).set 5 _
   have PN:BoxC (w5.setCell ⟨R,5,none⟩ (.slice (some ⟨gN,0,none⟩) (j+1) capN)) w.heap.size (#[.bool P.mx,.string P.nm,.bool P.p,.slice P.a P.na P.ca,.slice P.d P.nd P.cd,.slice P.va P.vn P.vc,.slice P.ra P.rn P.rc]).toList:=fun a u hu=>(World.cell?_of_block (O5.block w.heap.size (by omega))).trans (aJ hg (Pb.below hy a u hu) (hne w.heap.size (.inl (by omega))))
   have R4N:=((R4.below hy).kept hg (hne (w.heap.size+1) (.inl (by omega)))).off O5 (by omega)
   refine hK _ _ ⟨fun _=>⟨s0,aJ hg (aB hy h0) (hne V (.inr rfl)),aJ hg (aB hy h4) (hne V (.inr rfl)),aJ hg (aB hy h8) (hne V (.inr rfl)),aJ hg (aB hy h12) (hne V (.inr rfl)),aJ hg (aB hy x10) (hne lb (.inl (by omega))),aJ hg (aB hy x11) (hne lb (.inl (by omega))),aJ hg (aB hy x12) (hne lb (.inl (by omega))),aJ hg (aB hy x20) (hne lb (.inl (by omega))),aJ hg (aB hy x21) (hne lb (.inl (by omega))),aJ hg (aB hy x22) (hne lb (.inl (by omega))),aJ hg (aB hy x30) (hne lb (.inl (by omega))),aJ hg (aB hy x31) (hne lb (.inl (by omega))),aJ hg (aB hy x32) (hne lb (.inl (by omega)))⟩,fun _=>trivial⟩ ?_
   clear hK K
   refine wpAnyG.one 31 (by kernel_rfl) (by decide) (by rfl) (fun K hK=>?_)
   simp only [lgA,lgZ,lgS]
   go_simp
   refine hK _ _ ⟨fun h=>absurd h (by decide),fun _=>trivial⟩ ?_
   clear hK K
   refine wpAnyG.one 32 (by kernel_rfl) (by decide) (by rfl) (fun K hK=>?_)
   simp only [lgA,lgZ,lgS]
   go_simp
   refine hK _ _ ⟨fun h=>absurd h (by decide),fun _=>trivial⟩ ?_
   clear hK K
   refine wpAnyG.done (by kernel_rfl) (NoPanic.normal ?_)
   clear HBX HS SN hg hat r3 s0 s1 hy hz0 hc0 J J0 Pb R4 hB O5 hne B5 h0 h4 h8 h12 g5' hVk hVn HV hVl hRl x10 x11 x12 x20 x21 x22 x30 x31 x32 ec1 ec2 ec3 EV
   generalize w5.setCell ⟨R,5,none⟩ (.slice (some ⟨gN,0,none⟩) (j+1) capN)=w6 at *
   clear hw1 hw2 hm1 hm2 hm3 hn1 hn2 hn3
   go_wp2
   go_roundw
   case rel=>exact ⟨j+1,_,by omega,by go_num,congrArg (Value.int IntKind.i64) (by have:=EN.out;unfold wrap64;omega),JN,PN,R4N,BN⟩
   case measure=>simp [intOf];omega
  ·have hkI:¬ (j:Int)<(P.vn:Int):=by omega
   obtain rfl:j=P.vn:=by omega
   have g6:=Pb 6 _ rfl
   have hE0:1+3*P.vn=aQ P 0:=rfl
   rw [hE0]
   clear hkI hlt hj hE0
   go_wp2_with fail
   clear g5 g6
   generalize wr=wA at *
   go_loopw [6,9] (fun s6 s9 wr=>∃ (i:Nat) (gr:Value) (ER:Nat→List Value),i≤P.rn∧s9 = .int .i64 i∧s6 = .int .i64 ((aQ P i:Nat):Int)∧FJ wr R P c (.bool p0) (.slice a0 na0 ca0) (.slice d0 nd0 cd0) (P.vn) (i) (.slice ga P.vn gc) (gr) ER∧BoxC wr w.heap.size (#[.bool P.mx,.string P.nm,.bool P.p,.slice P.a P.na P.ca,.slice P.d P.nd P.cd,.slice P.va P.vn P.vc,.slice P.ra P.rn P.rc]).toList∧Rw 31 wr (w.heap.size+1) #[.bool false,.string ⟨#[]⟩,.bool false,.slice none 0 0,.slice none 0 0,.slice none 0 0,.slice none 0 0]∧Below w.heap.size w wr) (fun _ s9 _=>P.rn-(intOf s9).toNat)
   case atStart=>exact ⟨0,_,_,Nat.zero_le _,rfl,rfl,J,Pb,R4,hB⟩
   case round =>
    clear J Pb R4 hB
    obtain ⟨i,gr,ER,hi,rfl,rfl,J,Pb,R4,hB⟩:=hrel
    obtain ⟨ra,rc,rfl,_⟩:=J.sr.form
    have g6:=Pb 6 _ rfl
    have hRl:=J.row.lt
    by_cases hlt:i<P.rn
    ·have hkI:(i:Int)<(P.rn:Int):=by omega
     have hkI2:(i:Int)*10=((i*10:Nat):Int):=by omega
     rcases hP.r with h0|⟨vb,vo,hva,hev⟩
     ·omega
     have hV:=hev i hlt
     have hno:=hNo i hlt
     obtain ⟨ta,tc,Zt,y1,hLT,_,htc⟩:=hV.terms
     replace y1:=aB hB y1
     obtain ⟨nmR,enm⟩:∃ x,x=(P.R i).nm:=⟨_,rfl⟩
     obtain ⟨nt,ent⟩:∃ x,x=(P.R i).nt:=⟨_,rfl⟩
     obtain ⟨hl,ehl⟩:∃ x,x=(P.R i).hlo:=⟨_,rfl⟩
     obtain ⟨hh,ehh⟩:∃ x,x=(P.R i).hhi:=⟨_,rfl⟩
     have y0:=aB hB hV.nm
     have y2:=aB hB hV.hlo
     obtain ⟨q2,b2,nb2,cb2,e2,ne2,ce2,y3,y4,y5,_⟩:=hV.lo
     have y6:=aB hB hV.hhi
     obtain ⟨q3,b3,nb3,cb3,e3,ne3,ce3,y7,y8,y9,_⟩:=hV.hi
     replace y3:=aB hB y3
     replace y4:=aB hB y4
     replace y5:=aB hB y5
     replace y7:=aB hB y7
     replace y8:=aB hB y8
     replace y9:=aB hB y9
     rw [← enm] at y0
     rw [← ent] at y1 hLT hno htc
     rw [← ehl] at y2
     rw [← ehh] at y6
     have EV:Hid (nmR=(P.R i).nm∧hl=(P.R i).hlo∧hh=(P.R i).hhi∧nt=(P.R i).nt):=⟨enm,ehl,ehh,ent⟩
     clear hev hV enm ehl ehh ent
     rw [hva] at g6
     clear hva
     obtain ⟨n,en⟩:∃ n,n=aQ P i:=⟨_,rfl⟩
     rw [← en] at hno
     rw [← en]
     have EN:Hid (n=aQ P i):=en
     obtain ⟨m1,em1⟩:∃ m,m=n+1:=⟨_,rfl⟩
     have EM:Hid (m1=n+1):=em1
     obtain ⟨p1,a1,na1,ca1,d1,nd1,cd1,ec1,x10,x11,x12⟩:=hC.get (i:=n) (by omega)
     replace x10:=aB hB x10
     replace x11:=aB hB x11
     replace x12:=aB hB x12
     obtain ⟨p2,a2,na2,ca2,d2,nd2,cd2,ec2,x20,x21,x22⟩:=hC.get (i:=m1) (by omega)
     replace x20:=aB hB x20
     replace x21:=aB hB x21
     replace x22:=aB hB x22
     clear en em1
     go_wp2_with fail
     have B5:=aN wr #[.string nmR,.slice ta nt tc,.bool hl,.bool q2,.slice b2 nb2 cb2,.slice e2 ne2 ce2,.bool hh,.bool q3,.slice b3 nb3 cb3,.slice e3 ne3 ce3] 60
     have hz:=aG wr (.cells #[.string nmR,.slice ta nt tc,.bool hl,.bool q2,.slice b2 nb2 cb2,.slice e2 ne2 ce2,.bool hh,.bool q3,.slice b3 nb3 cb3,.slice e3 ne3 ce3] 60)
     obtain ⟨V,hV⟩:∃ V,V=wr.heap.size:=⟨_,rfl⟩
     rw [← hV] at B5 ⊢
     have hVl:V<(wr.alloc (.cells #[.string nmR,.slice ta nt tc,.bool hl,.bool q2,.slice b2 nb2 cb2,.slice e2 ne2 ce2,.bool hh,.bool q3,.slice b3 nb3 cb3,.slice e3 ne3 ce3] 60)).heap.size:=by simp;omega
     have hVR:R<V:=by omega
     have hs4:wr.heap.size+1≤(wr.alloc (.cells #[.string nmR,.slice ta nt tc,.bool hl,.bool q2,.slice b2 nb2 cb2,.slice e2 ne2 ce2,.bool hh,.bool q3,.slice b3 nb3 cb3,.slice e3 ne3 ce3] 60)).heap.size:=by simp
     have J0:=J
     replace J:=J.below hz
     replace Pb:=Pb.below hz
     replace R4:=R4.below hz
     replace hB:=aF hB hz
     replace x10:=aB hz x10
     replace x11:=aB hz x11
     replace x12:=aB hz x12
     replace x20:=aB hz x20
     replace x21:=aB hz x21
     replace x22:=aB hz x22
     have h0:=B5 0 _ rfl
     have h2:=B5 2 _ rfl
     have h6:=B5 6 _ rfl
     have hE1:=EM.out
     have hn1:(n:Int)<(N:Int):=by omega
     have hn2:(m1:Int)<(N:Int):=by omega
     have hw1:IntKind.i64.wrap ((n:Int)+1)=(m1:Int):=by rw [IntKind.wrap_i64];omega
     have hm1:(n:Int)*3=((n*3:Nat):Int):=by omega
     have hm2:(m1:Int)*3=((m1*3:Nat):Int):=by omega
     clear hE1 hV y0 y1 y2 y3 y4 y5 y6 y7 y8 y9 g6 hz
     generalize wr.alloc (.cells #[.string nmR,.slice ta nt tc,.bool hl,.bool q2,.slice b2 nb2 cb2,.slice e2 ne2 ce2,.bool hh,.bool q3,.slice b3 nb3 cb3,.slice e3 ne3 ce3] 60)=W4 at *
     have HBX:∀ w',Below W4.heap.size W4 w'→(w'.cell? ⟨V,0,none⟩=some (.string nmR)∧w'.cell? ⟨V,2,none⟩=some (.bool hl)∧w'.cell? ⟨V,6,none⟩=some (.bool hh)∧w'.cell? ⟨lb,lo+n*3,none⟩=some (.bool p1)∧w'.cell? ⟨lb,lo+n*3+1,none⟩=some (.slice a1 na1 ca1)∧w'.cell? ⟨lb,lo+n*3+2,none⟩=some (.slice d1 nd1 cd1)∧w'.cell? ⟨lb,lo+m1*3,none⟩=some (.bool p2)∧w'.cell? ⟨lb,lo+m1*3+1,none⟩=some (.slice a2 na2 ca2)∧w'.cell? ⟨lb,lo+m1*3+2,none⟩=some (.slice d2 nd2 cd2)):=fun w' h=>⟨aB h h0,aB h h2,aB h h6,aB h x10,aB h x11,aB h x12,aB h x20,aB h x21,aB h x22⟩
     refine wp_region_noPanic (aU 21 HBX (by kernel_rfl) ?_)
     have hc0:Below W4.heap.size W4 W4.drew:=aS _
     generalize W4.drew=z0 at *
     refine wpAnyG.tT 0 (v:=.pointer (some ⟨V,0,none⟩)) (by decide) 21 (by kernel_rfl) (by rfl) ?y0 (HBX _ hc0) ?_
     case y0 =>
      rintro w' ⟨f0,f1,f2,f3,f4,f5,f6,f7,f8⟩
      simp only [lgA,lgZ]
      go_simp
     simp only [lgA,lgZ,Act.put,lsA,lsZ,lsS]
     refine wpAnyG.tT 1 (v:=.string nmR) (by decide) 21 (by kernel_rfl) (by rfl) ?y1 (HBX _ hc0) ?_
     case y1 =>
      rintro w' ⟨f0,f1,f2,f3,f4,f5,f6,f7,f8⟩
      simp only [lgA,lgZ,lgS]
      go_simp
     simp only [lgA,lgZ,lgS,Act.put,lsA,lsZ,lsS]
     refine wpAnyG.tT 2 (v:=.pointer (some ⟨V,2,none⟩)) (by decide) 21 (by kernel_rfl) (by rfl) ?y2 (HBX _ hc0) ?_
     case y2 =>
      rintro w' ⟨f0,f1,f2,f3,f4,f5,f6,f7,f8⟩
      simp only [lgA,lgZ,lgS]
      go_simp
     simp only [lgA,lgZ,lgS,Act.put,lsA,lsZ,lsS]
     refine wpAnyG.tT 3 (v:=.pointer (some ⟨V,2,none⟩)) (by decide) 21 (by kernel_rfl) (by rfl) ?y3 (HBX _ hc0) ?_
     case y3 =>
      rintro w' ⟨f0,f1,f2,f3,f4,f5,f6,f7,f8⟩
      simp only [lgA,lgZ,lgS]
      go_simp
     simp only [lgA,lgZ,lgS,Act.put,lsA,lsZ,lsS]
     refine wpAnyG.tT 4 (v:=.bool hl) (by decide) 21 (by kernel_rfl) (by rfl) ?y4 (HBX _ hc0) ?_
     case y4 =>
      rintro w' ⟨f0,f1,f2,f3,f4,f5,f6,f7,f8⟩
      simp only [lgA,lgZ,lgS]
      go_simp
     simp only [lgA,lgZ,lgS,Act.put,lsA,lsZ,lsS]
     refine wpAnyG.tT 5 (v:=.slice (some ⟨lb,lo,none⟩) N lc) (by decide) 21 (by kernel_rfl) (by rfl) ?y5 (HBX _ hc0) ?_
     case y5 =>
      rintro w' ⟨f0,f1,f2,f3,f4,f5,f6,f7,f8⟩
      simp only [lgA,lgZ,lgS]
      go_simp
     simp only [lgA,lgZ,lgS,Act.put,lsA,lsZ,lsS]
     refine wpAnyG.tT 6 (v:=.int .i64 (n:Int)) (by decide) 21 (by kernel_rfl) (by rfl) ?y6 (HBX _ hc0) ?_
     case y6 =>
      rintro w' ⟨f0,f1,f2,f3,f4,f5,f6,f7,f8⟩
      simp only [lgA,lgZ,lgS]
      go_simp
     simp only [lgA,lgZ,lgS,Act.put,lsA,lsZ,lsS]
     refine wpAnyG.tT 7 (v:=.pointer (some ⟨lb,lo+n*3,none⟩)) (by decide) 21 (by kernel_rfl) (by rfl) ?y7 (HBX _ hc0) ?_
     case y7 =>
      rintro w' ⟨f0,f1,f2,f3,f4,f5,f6,f7,f8⟩
      simp only [lgA,lgZ,lgS]
      go_simp
     simp only [lgA,lgZ,lgS,Act.put,lsA,lsZ,lsS]
     refine wpAnyG.tT 8 (v:=.agg #[.bool p1,.slice a1 na1 ca1,.slice d1 nd1 cd1]) (by decide) 21 (by kernel_rfl) (by rfl) ?y8 (HBX _ hc0) ?_
     case y8 =>
      rintro w' ⟨f0,f1,f2,f3,f4,f5,f6,f7,f8⟩
      simp only [lgA,lgZ,lgS]
      go_simp
     simp only [lgA,lgZ,lgS,Act.put,lsA,lsZ,lsS]
     refine wpAnyG.tT 9 (v:=.agg #[.bool hl,.bool p1,.slice a1 na1 ca1,.slice d1 nd1 cd1]) (by decide) 21 (by kernel_rfl) (by rfl) ?y9 (HBX _ hc0) ?_
     case y9 =>
      rintro w' ⟨f0,f1,f2,f3,f4,f5,f6,f7,f8⟩
      simp only [lgA,lgZ,lgS]
      go_simp
     simp only [lgA,lgZ,lgS,Act.put,lsA,lsZ,lsS]
     refine wpAnyG.tT 10 (v:=.pointer (some ⟨V,6,none⟩)) (by decide) 21 (by kernel_rfl) (by rfl) ?y10 (HBX _ hc0) ?_
     case y10 =>
      rintro w' ⟨f0,f1,f2,f3,f4,f5,f6,f7,f8⟩
      simp only [lgA,lgZ,lgS]
      go_simp
     simp only [lgA,lgZ,lgS,Act.put,lsA,lsZ,lsS]
     refine wpAnyG.tT 11 (v:=.pointer (some ⟨V,6,none⟩)) (by decide) 21 (by kernel_rfl) (by rfl) ?y11 (HBX _ hc0) ?_
     case y11 =>
      rintro w' ⟨f0,f1,f2,f3,f4,f5,f6,f7,f8⟩
      simp only [lgA,lgZ,lgS]
      go_simp
     simp only [lgA,lgZ,lgS,Act.put,lsA,lsZ,lsS]
     refine wpAnyG.tT 12 (v:=.bool hh) (by decide) 21 (by kernel_rfl) (by rfl) ?y12 (HBX _ hc0) ?_
     case y12 =>
      rintro w' ⟨f0,f1,f2,f3,f4,f5,f6,f7,f8⟩
      simp only [lgA,lgZ,lgS]
      go_simp
     simp only [lgA,lgZ,lgS,Act.put,lsA,lsZ,lsS]
     refine wpAnyG.tT 13 (v:=.slice (some ⟨lb,lo,none⟩) N lc) (by decide) 21 (by kernel_rfl) (by rfl) ?y13 (HBX _ hc0) ?_
     case y13 =>
      rintro w' ⟨f0,f1,f2,f3,f4,f5,f6,f7,f8⟩
      simp only [lgA,lgZ,lgS]
      go_simp
     simp only [lgA,lgZ,lgS,Act.put,lsA,lsZ,lsS]
     refine wpAnyG.tT 14 (v:=.int .i64 (n:Int)) (by decide) 21 (by kernel_rfl) (by rfl) ?y14 (HBX _ hc0) ?_
     case y14 =>
      rintro w' ⟨f0,f1,f2,f3,f4,f5,f6,f7,f8⟩
      simp only [lgA,lgZ,lgS]
      go_simp
     simp only [lgA,lgZ,lgS,Act.put,lsA,lsZ,lsS]
     refine wpAnyG.tT 15 (v:=.int .i64 (m1:Int)) (by decide) 21 (by kernel_rfl) (by rfl) ?y15 (HBX _ hc0) ?_
     case y15 =>
      rintro w' ⟨f0,f1,f2,f3,f4,f5,f6,f7,f8⟩
      simp only [lgA,lgZ,lgS]
      go_simp
     simp only [lgA,lgZ,lgS,Act.put,lsA,lsZ,lsS]
     refine wpAnyG.tT 16 (v:=.pointer (some ⟨lb,lo+m1*3,none⟩)) (by decide) 21 (by kernel_rfl) (by rfl) ?y16 (HBX _ hc0) ?_
     case y16 =>
      rintro w' ⟨f0,f1,f2,f3,f4,f5,f6,f7,f8⟩
      simp only [lgA,lgZ,lgS]
      go_simp
     simp only [lgA,lgZ,lgS,Act.put,lsA,lsZ,lsS]
     refine wpAnyG.tT 17 (v:=.agg #[.bool p2,.slice a2 na2 ca2,.slice d2 nd2 cd2]) (by decide) 21 (by kernel_rfl) (by rfl) ?y17 (HBX _ hc0) ?_
     case y17 =>
      rintro w' ⟨f0,f1,f2,f3,f4,f5,f6,f7,f8⟩
      simp only [lgA,lgZ,lgS]
      go_simp
     simp only [lgA,lgZ,lgS,Act.put,lsA,lsZ,lsS]
     refine wpAnyG.tT 18 (v:=.agg #[.bool hh,.bool p2,.slice a2 na2 ca2,.slice d2 nd2 cd2]) (by decide) 21 (by kernel_rfl) (by rfl) ?y18 (HBX _ hc0) ?_
     case y18 =>
      rintro w' ⟨f0,f1,f2,f3,f4,f5,f6,f7,f8⟩
      simp only [lgA,lgZ,lgS]
      go_simp
     simp only [lgA,lgZ,lgS,Act.put,lsA,lsZ,lsS]
     refine wpAnyG.tT 19 (v:=.agg #[.string nmR,.slice none 0 0,.bool hl,.bool p1,.slice a1 na1 ca1,.slice d1 nd1 cd1,.bool hh,.bool p2,.slice a2 na2 ca2,.slice d2 nd2 cd2]) (by decide) 21 (by kernel_rfl) (by rfl) ?y19 (HBX _ hc0) ?_
     case y19 =>
      rintro w' ⟨f0,f1,f2,f3,f4,f5,f6,f7,f8⟩
      simp only [lgA,lgZ,lgS]
      go_simp
     simp only [lgA,lgZ,lgS,Act.put,lsA,lsZ,lsS]
     refine wpAnyG.one 20 (by kernel_rfl) (by decide) (by rfl) (fun K hK=>?_)
     simp only [lgA,lgZ,lgS]
     go_simp
     have hy:Below W4.heap.size W4 (z0.alloc (.cells #[.string ⟨#[]⟩,.slice none 0 0,.bool false,.bool false,.slice none 0 0,.slice none 0 0,.bool false,.bool false,.slice none 0 0,.slice none 0 0] 60)):=eG hc0
     have RP:=Rw.new 60 z0 #[.string ⟨#[]⟩,.slice none 0 0,.bool false,.bool false,.slice none 0 0,.slice none 0 0,.bool false,.bool false,.slice none 0 0,.slice none 0 0]
     have hz0:=hc0.size
     generalize z0.alloc (.cells #[.string ⟨#[]⟩,.slice none 0 0,.bool false,.bool false,.slice none 0 0,.slice none 0 0,.bool false,.bool false,.slice none 0 0,.slice none 0 0] 60)=w1 at *
     refine hK _ _ ⟨fun _=>HBX _ hy,fun _=>trivial⟩ ?_
     clear hK K
     refine wpAnyG.one 21 (by kernel_rfl) (by decide) (by rfl) (fun K hK=>?_)
     simp only [lgA,lgZ,lgS]
     refine wp_store_row 60 _ _ rfl z0.heap.size #[.string nmR,.slice none 0 0,.bool hl,.bool p1,.slice a1 na1 ca1,.slice d1 nd1 cd1,.bool hh,.bool p2,.slice a2 na2 ca2,.slice d2 nd2 cd2] rfl rfl 60 _ RP rowI rfl (by simp [Value.oneCell']) ?_
     refine hK _ _ ⟨fun h=>absurd h (by decide),fun _=>trivial⟩ ?_
     clear hK K
     refine wpAnyG.done (by kernel_rfl) (NoPanic.normal ?_)
     obtain ⟨Rr,hRr⟩:∃ Rr,Rr=z0.heap.size:=⟨_,rfl⟩
     rw [← hRr] at RP ⊢
     obtain ⟨RN,O⟩:=RP.row #[.string nmR,.slice none 0 0,.bool hl,.bool p1,.slice a1 na1 ca1,.slice d1 nd1 cd1,.bool hh,.bool p2,.slice a2 na2 ca2,.slice d2 nd2 cd2]
     have hRlr:=RP.lt
     have hVr:V<Rr:=by omega
     have hRrn:(Value.ownBlock (.slice ra i rc))=some Rr→False:=fun e=>by have h2:=(J0.sr.lt _ e).2;omega
     replace J:=J.below hy
     have hg1:=O.grown
     replace J:FJ _ R P c (.bool p0) (.slice a0 na0 ca0) (.slice d0 nd0 cd0) (P.vn) (i) (.slice ga P.vn gc) (.slice ra i rc) ER:=⟨J.row.off O (by omega),J.sv.kept hg1 (fun g e e2=>J.sv.neR RP (by decide) (e.trans e2.symm)),J.sr.kept hg1 (fun g e e2=>by cases e2;exact hRrn e),fun i hi=>⟨(J.er i hi).1.keep (RP.noT (by decide)) hg1,(J.er i hi).2⟩⟩
     replace Pb:BoxC _ w.heap.size (#[.bool P.mx,.string P.nm,.bool P.p,.slice P.a P.na P.ca,.slice P.d P.nd P.cd,.slice P.va P.vn P.vc,.slice P.ra P.rn P.rc]).toList:=fun a u hu=>(World.cell?_of_block (O.block w.heap.size (by omega))).trans (Pb.below hy a u hu)
     replace B5:BoxC _ V (#[.string nmR,.slice ta nt tc,.bool hl,.bool q2,.slice b2 nb2 cb2,.slice e2 ne2 ce2,.bool hh,.bool q3,.slice b3 nb3 cb3,.slice e3 ne3 ce3]).toList:=fun a u hu=>(World.cell?_of_block (O.block V (by omega))).trans (B5.below hy a u hu)
     replace R4:=(R4.below hy).off O (by omega)
     replace hB:Below w.heap.size w _:=((hB.trans (hy.mono (by omega))).trans (O.below (by omega)))
     clear HBX h0 h2 h6 x10 x11 x12 x20 x21 x22 hy hc0 hz0 hRr RP O hg1 J0 hs4 hw1 hm1 hm2 hn1 hn2
     generalize w1.setRow Rr #[.string nmR,.slice none 0 0,.bool hl,.bool p1,.slice a1 na1 ca1,.slice d1 nd1 cd1,.bool hh,.bool p2,.slice a2 na2 ca2,.slice d2 nd2 cd2]=W5 at *
     have HUP:Hid (∀ j,j<i→∀ u g,(ER j)[1]? = some u→u.ownBlock=some g→g<W5.heap.size):=J.hdr (by omega)
     have h1:=B5 1 _ rfl
     go_wp2
     clear h1
     go_loopw [6,12,13] (fun s6 s12 s13 wr=>∃ (k:Nat),k≤nt∧s13 = .int .i64 k∧s6 = .int .i64 ((n+2+k:Nat):Int)∧SL wr W5.heap.size 62 4 s12 k (tcl P c i)∧Below W5.heap.size W5 wr) (fun _ _ s13 _=>nt-(intOf s13).toNat)
     case atStart=>exact ⟨0,Nat.zero_le _,rfl,by go_num,SL.nil _ _ _ _ _,Below.refl _ _⟩
     case round =>
      obtain ⟨k,hk,rfl,rfl,ST,hBt⟩:=hrel
      obtain ⟨ga2,gc2,rfl,_⟩:=ST.form
      have h1:=(B5.below hBt) 1 _ rfl
      have hBs:=hBt.size
      by_cases hlt2:k<nt
      ·have hkJ:(k:Int)<(nt:Int):=by omega
       have hkJ4:(k:Int)*4=((k*4:Nat):Int):=by omega
       rcases hLT with h0|⟨tb,to,rfl,het⟩
       ·omega
       have hTt:=(het k hlt2).1
       obtain ⟨vk,evk⟩:∃ vk,vk=((P.R i).t k).var:=⟨_,rfl⟩
       rw [← evk] at hTt
       have htb:tb<w.heap.size:=World.block_lt_of_cell? w _ hTt
       have hBw:Below w.heap.size w wr:=hB.trans (hBt.mono (by have:=hB.size;omega))
       have tt:=aB hBw hTt
       have EK:Hid (vk=((P.R i).t k).var):=evk
       obtain ⟨m,em⟩:∃ m,m=n+2+k:=⟨_,rfl⟩
       rw [← em]
       have EMm:Hid (m=n+2+k):=em
       obtain ⟨p3,a3,na3,ca3,d3,nd3,cd3,ec3,x30,x31,x32⟩:=hC.get (i:=m) (by omega)
       replace x30:=aB hBw x30
       replace x31:=aB hBw x31
       replace x32:=aB hBw x32
       have hm9:(m:Int)<(N:Int):=by omega
       have hm3:(m:Int)*3=((m*3:Nat):Int):=by omega
       clear em evk hTt het
       go_wp2_with fail
       have HBX:∀ w',Below wr.heap.size wr w'→(w'.cell? ⟨V,1,none⟩=some (.slice (some ⟨tb,to,none⟩) nt tc)∧w'.cell? ⟨tb,to+k*4,none⟩=some (.int .i64 vk)∧w'.cell? ⟨lb,lo+m*3,none⟩=some (.bool p3)∧w'.cell? ⟨lb,lo+m*3+1,none⟩=some (.slice a3 na3 ca3)∧w'.cell? ⟨lb,lo+m*3+2,none⟩=some (.slice d3 nd3 cd3)):=fun w' h=>⟨aB h h1,aB h tt,aB h x30,aB h x31,aB h x32⟩
       refine wp_region_noPanic (aU 14 HBX (by kernel_rfl) ?_)
       have hc0:Below wr.heap.size wr wr.drew:=aS _
       generalize wr.drew=z0 at *
       refine wpAnyG.tT 0 (v:=.slice ga2 k gc2) (by decide) 14 (by kernel_rfl) (by rfl) ?y0 (HBX _ hc0) ?_
       case y0 =>
        rintro w' ⟨f0,f1,f2,f3,f4⟩
        simp only [lgA,lgZ]
        go_simp
       simp only [lgA,lgZ,Act.put,lsA,lsZ,lsS]
       refine wpAnyG.tT 1 (v:=.pointer (some ⟨V,1,none⟩)) (by decide) 14 (by kernel_rfl) (by rfl) ?y1 (HBX _ hc0) ?_
       case y1 =>
        rintro w' ⟨f0,f1,f2,f3,f4⟩
        simp only [lgA,lgZ,lgS]
        go_simp
       simp only [lgA,lgZ,lgS,Act.put,lsA,lsZ,lsS]
       refine wpAnyG.tT 2 (v:=.slice (some ⟨tb,to,none⟩) nt tc) (by decide) 14 (by kernel_rfl) (by rfl) ?y2 (HBX _ hc0) ?_
       case y2 =>
        rintro w' ⟨f0,f1,f2,f3,f4⟩
        simp only [lgA,lgZ,lgS]
        go_simp
       simp only [lgA,lgZ,lgS,Act.put,lsA,lsZ,lsS]
       refine wpAnyG.tT 3 (v:=.int .i64 (k:Int)) (by decide) 14 (by kernel_rfl) (by rfl) ?y3 (HBX _ hc0) ?_
       case y3 =>
        rintro w' ⟨f0,f1,f2,f3,f4⟩
        simp only [lgA,lgZ,lgS]
        go_simp
       simp only [lgA,lgZ,lgS,Act.put,lsA,lsZ,lsS]
       refine wpAnyG.tT 4 (v:=.pointer (some ⟨tb,to+k*4,none⟩)) (by decide) 14 (by kernel_rfl) (by rfl) ?y4 (HBX _ hc0) ?_
       case y4 =>
        rintro w' ⟨f0,f1,f2,f3,f4⟩
        simp only [lgA,lgZ,lgS]
        go_simp
       simp only [lgA,lgZ,lgS,Act.put,lsA,lsZ,lsS]
       refine wpAnyG.tT 5 (v:=.pointer (some ⟨tb,to+k*4,none⟩)) (by decide) 14 (by kernel_rfl) (by rfl) ?y5 (HBX _ hc0) ?_
       case y5 =>
        rintro w' ⟨f0,f1,f2,f3,f4⟩
        simp only [lgA,lgZ,lgS]
        go_simp
       simp only [lgA,lgZ,lgS,Act.put,lsA,lsZ,lsS]
       refine wpAnyG.tT 6 (v:=.int .i64 vk) (by decide) 14 (by kernel_rfl) (by rfl) ?y6 (HBX _ hc0) ?_
       case y6 =>
        rintro w' ⟨f0,f1,f2,f3,f4⟩
        simp only [lgA,lgZ,lgS]
        go_simp
       simp only [lgA,lgZ,lgS,Act.put,lsA,lsZ,lsS]
       refine wpAnyG.tT 7 (v:=.slice (some ⟨lb,lo,none⟩) N lc) (by decide) 14 (by kernel_rfl) (by rfl) ?y7 (HBX _ hc0) ?_
       case y7 =>
        rintro w' ⟨f0,f1,f2,f3,f4⟩
        simp only [lgA,lgZ,lgS]
        go_simp
       simp only [lgA,lgZ,lgS,Act.put,lsA,lsZ,lsS]
       refine wpAnyG.tT 8 (v:=.int .i64 (m:Int)) (by decide) 14 (by kernel_rfl) (by rfl) ?y8 (HBX _ hc0) ?_
       case y8 =>
        rintro w' ⟨f0,f1,f2,f3,f4⟩
        simp only [lgA,lgZ,lgS]
        go_simp
       simp only [lgA,lgZ,lgS,Act.put,lsA,lsZ,lsS]
       refine wpAnyG.tT 9 (v:=.pointer (some ⟨lb,lo+m*3,none⟩)) (by decide) 14 (by kernel_rfl) (by rfl) ?y9 (HBX _ hc0) ?_
       case y9 =>
        rintro w' ⟨f0,f1,f2,f3,f4⟩
        simp only [lgA,lgZ,lgS]
        go_simp
       simp only [lgA,lgZ,lgS,Act.put,lsA,lsZ,lsS]
       refine wpAnyG.tT 10 (v:=.agg #[.bool p3,.slice a3 na3 ca3,.slice d3 nd3 cd3]) (by decide) 14 (by kernel_rfl) (by rfl) ?y10 (HBX _ hc0) ?_
       case y10 =>
        rintro w' ⟨f0,f1,f2,f3,f4⟩
        simp only [lgA,lgZ,lgS]
        go_simp
       simp only [lgA,lgZ,lgS,Act.put,lsA,lsZ,lsS]
       refine wpAnyG.tT 11 (v:=.agg #[.int .i64 vk,.bool p3,.slice a3 na3 ca3,.slice d3 nd3 cd3]) (by decide) 14 (by kernel_rfl) (by rfl) ?y11 (HBX _ hc0) ?_
       case y11 =>
        rintro w' ⟨f0,f1,f2,f3,f4⟩
        simp only [lgA,lgZ,lgS]
        go_simp
       simp only [lgA,lgZ,lgS,Act.put,lsA,lsZ,lsS]
       refine wpAnyG.one 12 (by kernel_rfl) (by decide) (by rfl) (fun K hK=>?_)
       simp only [lgA,lgZ,lgS]
       go_simp
       have hy:Below wr.heap.size wr (z0.alloc (.cells #[.int .i64 vk,.bool p3,.slice a3 na3 ca3,.slice d3 nd3 cd3] 62)):=eG hc0
       refine hK _ _ ⟨fun _=>HBX _ hy,fun _=>trivial⟩ ?_
       clear hK K
       refine wpAnyG.one 13 (by kernel_rfl) (by decide) (by rfl) (fun K hK=>?_)
       simp only [lgA,lgZ,lgS]
       have HS:=ST.below hy
       have hz0:=hc0.size
       refine dM _ _ _ 58 62 4 64 rfl Tryz.underlying58 kJ (by decide) (by decide) W5.heap.size (.slice ga2 k gc2) k _ rfl HS z0.heap.size _ rfl [.int .i64 vk,.bool p3,.slice a3 na3 ca3,.slice d3 nd3 cd3] rfl (fun u hu=>by simp at hu;rcases hu with rfl|rfl|rfl|rfl <;> rfl) (aN z0 #[.int .i64 vk,.bool p3,.slice a3 na3 ca3,.slice d3 nd3 cd3] 62) (by omega) (by simp;omega) (z0.heap.size+1) (by simp) ?_
       intro gN capN w6 SN hg hat _
       have hne:∀ q,q<W5.heap.size→(Value.ownBlock (.slice ga2 k gc2))≠some q:=fun q hq e=>by have:=(ST.lt q e).1;omega
       have BN:Below W5.heap.size W5 w6:=((hBt.trans (hy.mono hBs))).trans (grown_below hg (by have:=hy.size;omega) (fun q e=>(ST.lt q e).1))
       have hVW:V<W5.heap.size:=World.block_lt_of_cell? W5 _ (B5 0 _ rfl)
       have hwW:=hB.size
       refine hK _ _ ⟨fun _=>⟨aJ hg (aB hy h1) (hne V (by omega)),aJ hg (aB hy tt) (hne tb (by omega)),aJ hg (aB hy x30) (hne lb (by omega)),aJ hg (aB hy x31) (hne lb (by omega)),aJ hg (aB hy x32) (hne lb (by omega))⟩,fun _=>trivial⟩ ?_
       clear hK K
       refine wpAnyG.one 14 (by kernel_rfl) (by decide) (by rfl) (fun K hK=>?_)
       simp only [lgA,lgZ,lgS]
       go_simp
       refine hK _ _ ⟨fun h=>absurd h (by decide),fun _=>trivial⟩ ?_
       clear hK K
       refine wpAnyG.done (by kernel_rfl) (NoPanic.normal ?_)
       have SN2:=SN.congr (F:=tcl P c i) (fun q hq=>by
        by_cases e:q<k
        ·rw [if_pos e]
        ·obtain rfl:q=k:=by omega
         rw [if_neg e]
         unfold tcl
         rw [if_pos (by rw [← EV.out.2.2.2];exact hlt2),← EK.out,← EN.out,← EMm.out,ec3])
       clear HBX HS SN hg hat hne hy hz0 hc0 ST hBt h1 tt x30 x31 x32 ec3 EK hVW hwW hBw hBs hm3
       go_wp2
       go_roundw
       case rel=>exact ⟨k+1,by omega,by go_num,congrArg (Value.int IntKind.i64) (by have:=EMm.out;omega),SN2,BN⟩
       case measure=>simp [intOf];omega
      ·have hkJ:¬ (k:Int)<(nt:Int):=by omega
       obtain rfl:k=nt:=by omega
       obtain ⟨m,em⟩:∃ m,m=n+2+k:=⟨_,rfl⟩
       rw [← em]
       have EMm:Hid (m=n+2+k):=em
       clear hlt2 hk hBs em
       go_wp2
       clear hkJ
       generalize wr=wB at *
       go_loopw [12,14] (fun s12 s14 wr=>∃ (q:Nat),q≤3∧s14 = .int .i64 q∧SL wr W5.heap.size 62 4 s12 (k+q) (tcl P c i)∧Below W5.heap.size W5 wr) (fun _ s14 _=>3-(intOf s14).toNat)
       case atStart=>exact ⟨0,by omega,rfl,ST,hBt⟩
       case round =>
        clear ST hBt h1
        obtain ⟨q,hq,rfl,ST,hBt⟩:=hrel
        obtain ⟨ga3,gc3,rfl,hgc3⟩:=ST.form
        have hBs:=hBt.size
        by_cases hlt3:q<3
        ·have hkJ:(q:Int)<3:=by omega
         have hb2:=aG wr (.cells #[.int .i64 (-77),.bool false,.slice none 0 0,.slice none 0 0] 62)
         have HS:=ST.below hb2
         go_wp2_with (at_builtin;refine aV _ rfl _ _ 58 62 4 64 rfl Tryz.underlying58 kJ (by decide) (by decide) W5.heap.size (.slice ga3 (k+q) gc3) (k+q) _ rfl HS wr.heap.size _ rfl [.int .i64 (-77),.bool false,.slice none 0 0,.slice none 0 0] rfl (fun u hu=>by simp at hu;rcases hu with rfl|rfl|rfl <;> rfl) (aN wr #[.int .i64 (-77),.bool false,.slice none 0 0,.slice none 0 0] 62) (by omega) (by simp;omega) (wr.heap.size+1) (by simp) ?_)
         intro gN capN w6 SN hg hat _
         have BN:Below W5.heap.size W5 w6:=((hBt.trans (hb2.mono hBs))).trans (grown_below hg (by have:=hb2.size;omega) (fun q e=>(ST.lt q e).1))
         have SN2:=SN.congr (F:=tcl P c i) (fun x hx=>by
          by_cases e:x<k+q
          ·rw [if_pos e]
          ·rw [if_neg e]
           unfold tcl
           rw [if_neg (by rw [← EV.out.2.2.2];omega)]
           rfl)
         clear HS SN hg hat hb2 ST hBt hBs
         go_wp2
         go_roundw
         case rel=>first|exact ⟨q+1,by omega,by go_num,SN2,BN⟩|((repeat apply Exists.intro);refine ⟨?_,rfl⟩;exact ⟨q+1,by omega,by go_num,SN2,BN⟩)
         case measure=>simp [intOf];omega
        ·have hkJ:¬ (q:Int)<3:=by omega
         obtain rfl:q=3:=by omega
         rcases ST.cell with h0|⟨gt,rfl,_⟩
         ·omega
         have h1:=(B5.below hBt) 1 _ rfl
         have hk0:(0:Int)≤(k:Int):=by omega
         have hkc:(k:Int)≤(gc3:Int):=by omega
         have RNt:=RN.below hBt
         have r1:=(RNt.cell 1).trans (show _=some (.slice none 0 0) from rfl)
         have r1z:=RNt.frozen 1
         obtain ⟨R2,O2⟩:=RNt.set 1 (.slice (some ⟨gt,0,none⟩) k gc3)
         have hg2:=O2.grown
         have Jt:=J.below hBt
         have Jx:=J
         have J2:FJ (wr.setCell ⟨Rr,1,none⟩ (.slice (some ⟨gt,0,none⟩) k gc3)) R P c (.bool p0) (.slice a0 na0 ca0) (.slice d0 nd0 cd0) (P.vn) (i) (.slice ga P.vn gc) (.slice ra i rc) ER:=⟨Jt.row.off O2 (by omega),Jt.sv.kept hg2 (fun g e e2=>Jt.sv.neR RNt (by decide) (e.trans e2.symm)),Jt.sr.kept hg2 (fun g e e2=>by cases e2;exact hRrn e),fun i hi=>⟨(Jt.er i hi).1.keep (RNt.noT (by decide)) hg2,(Jt.er i hi).2⟩⟩
         have ST2:=ST.kept hg2 (fun g e e2=>by cases e2;have h1:=(ST.lt _ e).1;have h2:=RN.lt;omega)
         have R2':Rw 60 (wr.setCell ⟨Rr,1,none⟩ (.slice (some ⟨gt,0,none⟩) k gc3)) Rr #[.string nmR,.slice (some ⟨gt,0,none⟩) k gc3,.bool hl,.bool p1,.slice a1 na1 ca1,.slice d1 nd1 cd1,.bool hh,.bool p2,.slice a2 na2 ca2,.slice d2 nd2 cd2]:=by simpa using R2
         have P2:BoxC (wr.setCell ⟨Rr,1,none⟩ (.slice (some ⟨gt,0,none⟩) k gc3)) w.heap.size (#[.bool P.mx,.string P.nm,.bool P.p,.slice P.a P.na P.ca,.slice P.d P.nd P.cd,.slice P.va P.vn P.vc,.slice P.ra P.rn P.rc]).toList:=fun a u hu=>(World.cell?_of_block (O2.block w.heap.size (by omega))).trans (Pb.below hBt a u hu)
         have R42:=(R4.below hBt).off O2 (by omega)
         have hB2:Below w.heap.size w (wr.setCell ⟨Rr,1,none⟩ (.slice (some ⟨gt,0,none⟩) k gc3)):=(hB.trans (hBt.mono (by have:=hB.size;omega))).trans (O2.below (by omega))
         have hWs:W5.heap.size≤(wr.setCell ⟨Rr,1,none⟩ (.slice (some ⟨gt,0,none⟩) k gc3)).heap.size:=by rw [O2.size];exact hBs
         have eS:(wr.setCell ⟨Rr,1,none⟩ (.slice (some ⟨gt,0,none⟩) k gc3)).heap.size=wr.heap.size:=by simp
         have NB:=aN (wr.setCell ⟨Rr,1,none⟩ (.slice (some ⟨gt,0,none⟩) k gc3)) #[.string nmR,.slice (some ⟨gt,0,none⟩) k gc3,.bool hl,.bool p1,.slice a1 na1 ca1,.slice d1 nd1 cd1,.bool hh,.bool p2,.slice a2 na2 ca2,.slice d2 nd2 cd2] 60
         rw [eS] at NB
         have hbx:=aG (wr.setCell ⟨Rr,1,none⟩ (.slice (some ⟨gt,0,none⟩) k gc3)) (.cells #[.string nmR,.slice (some ⟨gt,0,none⟩) k gc3,.bool hl,.bool p1,.slice a1 na1 ca1,.slice d1 nd1 cd1,.bool hh,.bool p2,.slice a2 na2 ca2,.slice d2 nd2 cd2] 60)
         have k6:=(J2.row.cell 6).trans (show _=some (.slice ra i rc) from rfl)
         have HS:=J2.sr.below hbx
         have hRw:=Jt.row.lt
         go_wp2_with (first
          | (refine R2'.get rfl _ rfl rfl Tryz.underlying60 rowI ?_)
          | (at_builtin;refine aV _ rfl _ _ 29 60 10 168 rfl Tryz.underlying29 kW (by decide) (by decide) (R+1) (.slice ra i rc) i _ rfl HS wr.heap.size _ rfl [.string nmR,.slice (some ⟨gt,0,none⟩) k gc3,.bool hl,.bool p1,.slice a1 na1 ca1,.slice d1 nd1 cd1,.bool hh,.bool p2,.slice a2 na2 ca2,.slice d2 nd2 cd2] rfl (by simp [Value.oneCell']) NB (by omega) (by simp;omega) (wr.heap.size+1) (by simp) ?_)
          | fail)
         intro gN capN w7 SN hg hat _
         have hE4:=EV.out.2.2.2
         have hR5:=Jx.row.lt
         have JN:=J2.appr hbx hg SN ⟨fun _=>⟨gt,gc3,by rw [← EV.out.1,← EV.out.2.1,← EV.out.2.2.1,← EV.out.2.2.2,← EN.out,← EM.out,ec1,ec2];rfl,by omega,by rw [← EV.out.2.2.2];exact ST2.mono (by omega)⟩,fun h=>by omega⟩ (fun _=>⟨W5.heap.size,HUP.out,fun v g' h1 h2=>by simp only [List.getElem?_cons_succ,List.getElem?_cons_zero,Option.some.injEq] at h1;subst h1;exact (ST2.lt g' h2).1⟩)
         have BN:=iD hB2 hbx hg (fun q e=>by have:=(J2.sr.lt q e).1;omega) (by have:=hB2.size;omega) (show w.heap.size≤R by omega) 6 (.slice (some ⟨gN,0,none⟩) (i+1) capN)
         have hne:∀ q,q<R+1→(Value.ownBlock (.slice ra i rc))≠some q:=fun q hq e=>by have:=(J2.sr.lt q e).1;omega
         have r3:=(J2.row.below hbx).kept hg (hne R (by omega))
         have s0:=(r3.cell 6).trans (show _=some (.slice ra i rc) from rfl)
         have s1:=r3.frozen 6
         have O5:Off R w7 (w7.setCell ⟨R,6,none⟩ (.slice (some ⟨gN,0,none⟩) (i+1) capN)):=(Off.refl R w7).set 6 _
         have PN:BoxC (w7.setCell ⟨R,6,none⟩ (.slice (some ⟨gN,0,none⟩) (i+1) capN)) w.heap.size (#[.bool P.mx,.string P.nm,.bool P.p,.slice P.a P.na P.ca,.slice P.d P.nd P.cd,.slice P.va P.vn P.vc,.slice P.ra P.rn P.rc]).toList:=fun a u hu=>(World.cell?_of_block (O5.block w.heap.size (by omega))).trans (aJ hg (P2.below hbx a u hu) (hne w.heap.size (by omega)))
         have R4N:=((R42.below hbx).kept hg (hne (w.heap.size+1) (by omega))).off O5 (by omega)
         have hoff:m=aQ P (i+1):=by rw [EMm.out,EN.out,EV.out.2.2.2];rfl
         have HOF:Hid (m=aQ P (i+1)):=hoff
         clear HS SN hg hat hne r3 O5 hbx NB J2 Jt Jx J ST ST2 hBt R2 R2' O2 hg2 P2 Pb R42 R4 hB2 hB RN RNt r1 r1z h1 k6 eS B5 hoff hE4 hWs hBs hRw hR5
         go_wp2
         go_roundw
         case rel=>exact ⟨i+1,_,_,by omega,by go_num,congrArg (fun x:Nat=>Value.int IntKind.i64 (x:Int)) HOF.out,JN,PN,R4N,BN⟩
         case measure=>simp [intOf];omega
    ·have hkI:¬ (i:Int)<(P.rn:Int):=by omega
     obtain rfl:i=P.rn:=by omega
     clear hlt hi
     go_wp2
     clear hkI g6
     generalize wr=wC at *
     go_loopw [15] (fun s15 wr=>∃ (q:Nat) (gv gr:Value) (ER:Nat→List Value),q≤3∧s15 = .int .i64 q∧FJ wr R P c (.bool p0) (.slice a0 na0 ca0) (.slice d0 nd0 cd0) (P.vn+q) (P.rn+q) (gv) (gr) ER∧BoxC wr w.heap.size (#[.bool P.mx,.string P.nm,.bool P.p,.slice P.a P.na P.ca,.slice P.d P.nd P.cd,.slice P.va P.vn P.vc,.slice P.ra P.rn P.rc]).toList∧Rw 31 wr (w.heap.size+1) #[.bool false,.string ⟨#[]⟩,.bool false,.slice none 0 0,.slice none 0 0,.slice none 0 0,.slice none 0 0]∧Below w.heap.size w wr) (fun s15 _=>3-(intOf s15).toNat)
     case atStart=>exact ⟨0,_,_,_,by omega,rfl,J,Pb,R4,hB⟩
     case round =>
      clear J Pb R4 hB hRl
      obtain ⟨q,gv,gr,ER2,hq,rfl,J,Pb,R4,hB⟩:=hrel
      obtain ⟨va,vc,rfl,hvc⟩:=J.sv.form
      obtain ⟨ra2,rc2,rfl,hrc⟩:=J.sr.form
      have hRl:=J.row.lt
      by_cases hlt3:q<3
      ·have hkJ:(q:Int)<3:=by omega
       have hbx:=aG wr (.cells #[.string ⟨#[35]⟩,.bool false,.slice none 0 0,.slice none 0 0,.bool false,.bool false,.slice none 0 0,.slice none 0 0,.bool false,.bool false,.slice none 0 0,.slice none 0 0,.bool false] 57)
       have k5:=(J.row.cell 5).trans (show _=some (.slice va (P.vn+q) vc) from rfl)
       have HS:=J.sv.below hbx
       go_wp2_with (at_builtin;refine aV _ rfl _ _ 28 57 13 208 rfl Tryz.underlying28 qM (by decide) (by decide) (R+1) (.slice va (P.vn+q) vc) (P.vn+q) _ rfl HS wr.heap.size _ rfl [.string ⟨#[35]⟩,.bool false,.slice none 0 0,.slice none 0 0,.bool false,.bool false,.slice none 0 0,.slice none 0 0,.bool false,.bool false,.slice none 0 0,.slice none 0 0,.bool false] rfl (by simp [Value.oneCell']) (aN wr #[.string ⟨#[35]⟩,.bool false,.slice none 0 0,.slice none 0 0,.bool false,.bool false,.slice none 0 0,.slice none 0 0,.bool false,.bool false,.slice none 0 0,.slice none 0 0,.bool false] 57) (by omega) (by simp;omega) (wr.heap.size+1) (by simp) ?_)
       intro g1 g1c w3 SN hg hat _
       have JN:=J.appv hbx hg SN (by unfold vcl;rw [if_neg (by omega)];rfl)
       have BN:=iD hB hbx hg (fun q e=>by have:=(J.sv.lt q e).1;omega) (by omega) (show w.heap.size≤R by omega) 5 (.slice (some ⟨g1,0,none⟩) (P.vn+q+1) g1c)
       have hne:∀ x,x<R+1→(Value.ownBlock (.slice va (P.vn+q) vc))≠some x:=fun x hx e=>by have:=(J.sv.lt x e).1;omega
       have r3:=(J.row.below hbx).kept hg (hne R (by omega))
       have s0:=(r3.cell 5).trans (show _=some (.slice va (P.vn+q) vc) from rfl)
       have s1:=r3.frozen 5
       have O5:Off R w3 (w3.setCell ⟨R,5,none⟩ (.slice (some ⟨g1,0,none⟩) (P.vn+q+1) g1c)):=(Off.refl R w3).set 5 _
       have PN:BoxC (w3.setCell ⟨R,5,none⟩ (.slice (some ⟨g1,0,none⟩) (P.vn+q+1) g1c)) w.heap.size (#[.bool P.mx,.string P.nm,.bool P.p,.slice P.a P.na P.ca,.slice P.d P.nd P.cd,.slice P.va P.vn P.vc,.slice P.ra P.rn P.rc]).toList:=fun a u hu=>(World.cell?_of_block (O5.block w.heap.size (by omega))).trans (aJ hg (Pb.below hbx a u hu) (hne w.heap.size (by omega)))
       have R4N:=((R4.below hbx).kept hg (hne (w.heap.size+1) (by omega))).off O5 (by omega)
       clear HS SN hg hat hne r3 O5 hbx J Pb R4 hB k5 hRl
       have hRl:=JN.row.lt
       have eS:(w3.setCell ⟨R,5,none⟩ (.slice (some ⟨g1,0,none⟩) (P.vn+q+1) g1c)).heap.size=w3.heap.size:=by simp
       have NB:=aN (w3.setCell ⟨R,5,none⟩ (.slice (some ⟨g1,0,none⟩) (P.vn+q+1) g1c)) #[.string ⟨#[35]⟩,.slice none 0 0,.bool false,.bool false,.slice none 0 0,.slice none 0 0,.bool false,.bool false,.slice none 0 0,.slice none 0 0] 60
       rw [eS] at NB
       have hbx:=aG (w3.setCell ⟨R,5,none⟩ (.slice (some ⟨g1,0,none⟩) (P.vn+q+1) g1c)) (.cells #[.string ⟨#[35]⟩,.slice none 0 0,.bool false,.bool false,.slice none 0 0,.slice none 0 0,.bool false,.bool false,.slice none 0 0,.slice none 0 0] 60)
       have k6:=(JN.row.cell 6).trans (show _=some (.slice ra2 (P.rn+q) rc2) from rfl)
       have HS:=JN.sr.below hbx
       go_wp2_with (at_builtin;refine aV _ rfl _ _ 29 60 10 168 rfl Tryz.underlying29 kW (by decide) (by decide) (R+1) (.slice ra2 (P.rn+q) rc2) (P.rn+q) _ rfl HS w3.heap.size _ rfl [.string ⟨#[35]⟩,.slice none 0 0,.bool false,.bool false,.slice none 0 0,.slice none 0 0,.bool false,.bool false,.slice none 0 0,.slice none 0 0] rfl (by simp [Value.oneCell']) NB (by omega) (by simp;omega) (w3.heap.size+1) (by simp) ?_)
       intro g2 g2c w4 SN hg hat _
       have JM:=JN.appr hbx hg SN ⟨fun h=>by omega,fun _=>rfl⟩ (fun h=>by omega)
       have BM:=iD BN hbx hg (fun q e=>by have:=(JN.sr.lt q e).1;omega) (by omega) (show w.heap.size≤R by omega) 6 (.slice (some ⟨g2,0,none⟩) (P.rn+q+1) g2c)
       have hne:∀ x,x<R+1→(Value.ownBlock (.slice ra2 (P.rn+q) rc2))≠some x:=fun x hx e=>by have:=(JN.sr.lt x e).1;omega
       have r3:=(JN.row.below hbx).kept hg (hne R (by omega))
       have t0:=(r3.cell 6).trans (show _=some (.slice ra2 (P.rn+q) rc2) from rfl)
       have t1:=r3.frozen 6
       have O5:Off R w4 (w4.setCell ⟨R,6,none⟩ (.slice (some ⟨g2,0,none⟩) (P.rn+q+1) g2c)):=(Off.refl R w4).set 6 _
       have PM:BoxC (w4.setCell ⟨R,6,none⟩ (.slice (some ⟨g2,0,none⟩) (P.rn+q+1) g2c)) w.heap.size (#[.bool P.mx,.string P.nm,.bool P.p,.slice P.a P.na P.ca,.slice P.d P.nd P.cd,.slice P.va P.vn P.vc,.slice P.ra P.rn P.rc]).toList:=fun a u hu=>(World.cell?_of_block (O5.block w.heap.size (by omega))).trans (aJ hg (PN.below hbx a u hu) (hne w.heap.size (by omega)))
       have R4M:=((R4N.below hbx).kept hg (hne (w.heap.size+1) (by omega))).off O5 (by omega)
       clear HS SN hg hat hne r3 O5 hbx JN PN R4N BN k6 s0 s1 NB eS hRl
       go_wp2
       go_roundw
       case rel=>exact ⟨q+1,_,_,_,by omega,by go_num,JM,PM,R4M,BM⟩
       case measure=>simp [intOf];omega
      ·have hkJ:¬ (q:Int)<3:=by omega
       obtain rfl:q=3:=by omega
       rcases J.sv.cell with h0|⟨gv,rfl,_⟩
       ·omega
       rcases J.sr.cell with h0|⟨gr,rfl,_⟩
       ·omega
       have hb5:=Pb 5 _ rfl
       have hv0:(0:Int)≤(P.vn:Int):=by omega
       have hv1:(P.vn:Int)≤(vc:Int):=by omega
       have hr0:(0:Int)≤(P.rn:Int):=by omega
       have hr1:(P.rn:Int)≤(rc2:Int):=by omega
       have k5:=(J.row.cell 5).trans (show _=some (.slice (some ⟨gv,0,none⟩) (P.vn+3) vc) from rfl)
       have z5:=J.row.frozen 5
       obtain ⟨R5,O5⟩:=J.row.set 5 (.slice (some ⟨gv,0,none⟩) P.vn vc)
       replace R5:Rw 31 (wr.setCell ⟨R,5,none⟩ (.slice (some ⟨gv,0,none⟩) P.vn vc)) R #[.bool P.mx,.string P.nm,.bool p0,.slice a0 na0 ca0,.slice d0 nd0 cd0,.slice (some ⟨gv,0,none⟩) P.vn vc,.slice (some ⟨gr,0,none⟩) (P.rn+3) rc2]:=by simpa using R5
       have hb6:=(World.cell?_of_block (O5.block w.heap.size (by omega))).trans (Pb 6 _ rfl)
       have k6:=(R5.cell 6).trans (show _=some (.slice (some ⟨gr,0,none⟩) (P.rn+3) rc2) from rfl)
       have z6:=R5.frozen 6
       obtain ⟨R6,O6⟩:=R5.set 6 (.slice (some ⟨gr,0,none⟩) P.rn rc2)
       replace R6:Rw 31 ((wr.setCell ⟨R,5,none⟩ (.slice (some ⟨gv,0,none⟩) P.vn vc)).setCell ⟨R,6,none⟩ (.slice (some ⟨gr,0,none⟩) P.rn rc2)) R #[.bool P.mx,.string P.nm,.bool p0,.slice a0 na0 ca0,.slice d0 nd0 cd0,.slice (some ⟨gv,0,none⟩) P.vn vc,.slice (some ⟨gr,0,none⟩) P.rn rc2]:=by simpa using R6
       have R4b:=(R4.off O5 (by omega)).off O6 (by omega)
       have hg5:=O5.grown
       have hg6:=O6.grown
       have SV8:=((J.sv.setR (show R<R+1 by omega) 5 (.slice (some ⟨gv,0,none⟩) P.vn vc)).setR (show R<R+1 by omega) 6 (.slice (some ⟨gr,0,none⟩) P.rn rc2))
       have SR8:=((J.sr.setR (show R<R+1 by omega) 5 (.slice (some ⟨gv,0,none⟩) P.vn vc)).setR (show R<R+1 by omega) 6 (.slice (some ⟨gr,0,none⟩) P.rn rc2))
       have ER8:∀ i,i<P.rn+3→RwF ((wr.setCell ⟨R,5,none⟩ (.slice (some ⟨gv,0,none⟩) P.vn vc)).setCell ⟨R,6,none⟩ (.slice (some ⟨gr,0,none⟩) P.rn rc2)) (R+1) (ER2 i) P c i∧UpR ER2 P i:=fun i hi=>⟨((J.er i hi).1.keep (J.row.noT (by decide)) hg5).keep (R5.noT (by decide)) hg6,(J.er i hi).2⟩
       have hB8:Below w.heap.size w ((wr.setCell ⟨R,5,none⟩ (.slice (some ⟨gv,0,none⟩) P.vn vc)).setCell ⟨R,6,none⟩ (.slice (some ⟨gr,0,none⟩) P.rn rc2)):=((hB.trans (O5.below (by omega))).trans (O6.below (by omega)))
       clear J Pb R4 hB O5 O6 R5 hg5 hg6
       go_wp2_with (first
        | (generalize (wr.setCell ⟨R,5,none⟩ (.slice (some ⟨gv,0,none⟩) P.vn vc)).setCell ⟨R,6,none⟩ (.slice (some ⟨gr,0,none⟩) P.rn rc2)=w8 at *;refine R6.get rfl _ rfl rfl Tryz.underlying31 lY ?_;have hmark:True:=trivial)
        | (clear hmark;refine R4b.put #[.bool P.mx,.string P.nm,.bool p0,.slice a0 na0 ca0,.slice d0 nd0 cd0,.slice (some ⟨gv,0,none⟩) P.vn vc,.slice (some ⟨gr,0,none⟩) P.rn rc2] rfl _ _ rfl rfl rfl lY rfl (by simp [Value.oneCell']) ?_;intro w9 R9 O9)
        | fail)
       have hg9:=O9.grown
       have hBe:Below w.heap.size w w9:=hB8.trans (O9.below (by omega))
       exact bodyPost_ret (R9.ret1 Tryz.results27 _ rfl Tryz.underlying31 lY) rfl ⟨_,rfl,⟨_,_,_,gv,vc,gr,rc2,ER2,ec0,rfl,hvc,hrc,(SV8.kept hg9 (fun g e e2=>by cases e2;have:=(SV8.lt _ e).1;omega)).mono (by omega),(SR8.kept hg9 (fun g e e2=>by cases e2;have:=(SR8.lt _ e).1;omega)).mono (by omega),fun i hi=>⟨((ER8 i hi).1.keep (R4b.noT (by decide)) hg9).mono (by omega),(ER8 i hi).2⟩⟩,hBe⟩
end Go.Proofs.YtdcocflnafcikaaGreatDoor
