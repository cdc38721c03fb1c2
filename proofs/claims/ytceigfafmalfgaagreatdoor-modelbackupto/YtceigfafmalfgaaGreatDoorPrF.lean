import Derived.Test.YtceigfafmalfgaaGreatDoorLxTAll
namespace Go.Proofs.YtceigfafmalfgaaGreatDoor
open Go.RowKit
theorem wp_cutT {P:Program} {c:Code} {Q:Exit→Act→World→Prop} {a:Act} {w:World} (J:Act→Act→World→Prop) (h1:c.wp P (fun e a' w'=>e = .normal∧J a a' w') a w) (h2:∀ a' w',J a a' w'→Q .normal a' w'):c.wp P Q a w :=
 Code.wp_mono (fun e a' w' h=>by obtain ⟨rfl,h⟩:=h;exact h2 a' w' h) h1
theorem bel_set {w w1:World} {B R i:Nat} {v:Value} (h:Below B w w1) (hR:B≤R):Below B w (w1.setCell ⟨R,i,none⟩ v):=h.trans (((Off.refl R w1).set i v).below hR)
structure TK (P:Prob):Prop where
 nm:P.nm.size≤1000000000
 S:P.S≤7000000
 vn:P.vn≤1048576
 rn:P.rn≤1048576
 ZV:∀ j,j<P.vn→P.ZV j≤7000000
 ZR:∀ i,i<P.rn→P.ZR i≤2200000
theorem PQ.tk {w:World} {P:Prob} (hP:PQ w P) (hK:P.K≤1048576):TK P:=by
 have hall:=hP.all
 have h1:=tot_len P.ZV P.vn
 have h2:=tot_len P.ZR P.rn
 exact ⟨by omega,by omega,by omega,by omega,fun j hj=>by have:=tot_le (Z:=P.ZV) hj;omega,fun i hi=>by have:=tot_le (Z:=P.ZR) hi;omega⟩
set_option maxRecDepth 100000 in
set_option maxHeartbeats 16000000 in
theorem tidyQA (P:Prob) (w:World) (hP:PQ w P) (hK:TK P) (hT:TB w) :
  Calls Tryz.prog 10 #[P.val] w fun e w'=>∃ v,e = .returned v∧TOA w' w.heap.size w'.heap.size P v∧Below w.heap.size w w':=by
 have hnm:=hK.nm
 have hS:=hK.S
 have hvn:=hK.vn
 have hrn:=hK.rn
 have P0:=box_new w #[.bool P.mx,.string P.nm,.bool P.p,.slice P.a P.na P.ca,.slice P.d P.nd P.cd,.slice P.va P.vn P.vc,.slice P.ra P.rn P.rc] 31
 have hb0:=bel_d0 w (.cells #[.bool P.mx,.string P.nm,.bool P.p,.slice P.a P.na P.ca,.slice P.d P.nd P.cd,.slice P.va P.vn P.vc,.slice P.ra P.rn P.rc] 31)
 have hs0:(w.alloc (.cells #[.bool P.mx,.string P.nm,.bool P.p,.slice P.a P.na P.ca,.slice P.d P.nd P.cd,.slice P.va P.vn P.vc,.slice P.ra P.rn P.rc] 31)).heap.size=w.heap.size+1:=by simp
 have R2:=Rw.new 31 (w.alloc (.cells #[.bool P.mx,.string P.nm,.bool P.p,.slice P.a P.na P.ca,.slice P.d P.nd P.cd,.slice P.va P.vn P.vc,.slice P.ra P.rn P.rc] 31)) #[.bool false,.string ⟨#[]⟩,.bool false,.slice none 0 0,.slice none 0 0,.slice none 0 0,.slice none 0 0]
 rw [hs0] at R2
 have hb1:=bel_tr hb0 (bel_d0 (w.alloc (.cells #[.bool P.mx,.string P.nm,.bool P.p,.slice P.a P.na P.ca,.slice P.d P.nd P.cd,.slice P.va P.vn P.vc,.slice P.ra P.rn P.rc] 31)) (.cells #[.bool false,.string ⟨#[]⟩,.bool false,.slice none 0 0,.slice none 0 0,.slice none 0 0,.slice none 0 0] 31))
 replace P0:=P0.below (bel_d0 (w.alloc (.cells #[.bool P.mx,.string P.nm,.bool P.p,.slice P.a P.na P.ca,.slice P.d P.nd P.cd,.slice P.va P.vn P.vc,.slice P.ra P.rn P.rc] 31)) (.cells #[.bool false,.string ⟨#[]⟩,.bool false,.slice none 0 0,.slice none 0 0,.slice none 0 0,.slice none 0 0] 31))
 have hs1:((w.alloc (.cells #[.bool P.mx,.string P.nm,.bool P.p,.slice P.a P.na P.ca,.slice P.d P.nd P.cd,.slice P.va P.vn P.vc,.slice P.ra P.rn P.rc] 31)).alloc (.cells #[.bool false,.string ⟨#[]⟩,.bool false,.slice none 0 0,.slice none 0 0,.slice none 0 0,.slice none 0 0] 31)).heap.size=w.heap.size+2:=by simp
 clear hs0 hb0
 unfold Prob.val
 go_enter Tryz.func10,Tryz.ntmps10
 go_wp2_with fail
 have hk1:=hP.k.below hb1
 have hT1:=hT.below hb1
 generalize (w.alloc (.cells #[.bool P.mx,.string P.nm,.bool P.p,.slice P.a P.na P.ca,.slice P.d P.nd P.cd,.slice P.va P.vn P.vc,.slice P.ra P.rn P.rc] 31)).alloc (.cells #[.bool false,.string ⟨#[]⟩,.bool false,.slice none 0 0,.slice none 0 0,.slice none 0 0,.slice none 0 0] 31)=W1 at *
 have HS1:Hid (W1.heap.size=w.heap.size+2):=hs1
 clear hs1
 have HB:∀ w',Below W1.heap.size W1 w'→(w'.cell? ⟨w.heap.size,0,none⟩=some (.bool P.mx)∧w'.cell? ⟨w.heap.size,1,none⟩=some (.string P.nm)∧w'.cell? ⟨w.heap.size,2,none⟩=some (.bool P.p)∧w'.cell? ⟨w.heap.size,3,none⟩=some (.slice P.a P.na P.ca)∧w'.cell? ⟨w.heap.size,4,none⟩=some (.slice P.d P.nd P.cd)∧w'.cell? ⟨w.heap.size,5,none⟩=some (.slice P.va P.vn P.vc)∧w'.cell? ⟨w.heap.size,6,none⟩=some (.slice P.ra P.rn P.rc)):=fun w' h=>⟨kept_c h (P0 0 _ rfl),kept_c h (P0 1 _ rfl),kept_c h (P0 2 _ rfl),kept_c h (P0 3 _ rfl),kept_c h (P0 4 _ rfl),kept_c h (P0 5 _ rfl),kept_c h (P0 6 _ rfl)⟩
 refine wp_cutT (fun a0 a' w'=>∃ R f c n k c' n' k',a'=((((((((((a0.put (some 8) (.pointer (some ⟨w.heap.size,0,none⟩))).put (some 9) (.bool P.mx)).put (some 10) (.pointer (some ⟨w.heap.size,1,none⟩))).put (some 11) (.string P.nm)).put (some 12) (.string P.nm)).put (some 13) (.pointer (some ⟨w.heap.size,2,none⟩))).put (some 14) (.agg #[.bool P.p,.slice P.a P.na P.ca,.slice P.d P.nd P.cd])).put (some 15) (.agg #[.bool f,.slice c n k,.slice c' n' k'])).put (some 16) (.agg #[.bool P.mx,.string P.nm,.bool f,.slice c n k,.slice c' n' k',.slice none 0 0,.slice none 0 0])).put (some 3) (.pointer (some ⟨R,0,none⟩)))∧Rw 31 w' R #[.bool P.mx,.string P.nm,.bool f,.slice c n k,.slice c' n' k',.slice none 0 0,.slice none 0 0]∧GR w' W1.heap.size f c n k c' n' k' P.k P.S∧W1.heap.size≤R∧Below W1.heap.size W1 w') ?_ ?_
 ·obtain ⟨p0,p1,p2,p3,p4,p5,p6⟩:=HB W1 (Below.refl _ _)
  go_region_held3 (fun w'=>w'.cell? ⟨w.heap.size,0,none⟩=some (.bool P.mx)∧w'.cell? ⟨w.heap.size,1,none⟩=some (.string P.nm)∧w'.cell? ⟨w.heap.size,2,none⟩=some (.bool P.p)∧w'.cell? ⟨w.heap.size,3,none⟩=some (.slice P.a P.na P.ca)∧w'.cell? ⟨w.heap.size,4,none⟩=some (.slice P.d P.nd P.cd)∧w'.cell? ⟨w.heap.size,5,none⟩=some (.slice P.va P.vn P.vc)∧w'.cell? ⟨w.heap.size,6,none⟩=some (.slice P.ra P.rn P.rc))
   (with_reducible refine HB _ ?_;repeat' (first|with_reducible exact hc2|with_reducible exact hc1|with_reducible exact Below.refl _ _|with_reducible refine bel_dr ?_|with_reducible refine bel_a ?_|with_reducible refine bel_set ?_ ?_|omega))
   ((first
    | (go_at_call 21;go_fit (cloneQ _ _ hnm);rintro e v1 ⟨rfl,hb1⟩;have hc1:Below W1.heap.size W1 v1:=(by first|exact bel_tr (bel_d1 _) hb1|exact bel_tr (bel_d2 _ _) hb1);have hsv1:=Below.size hc1;first|(have RA:Rw 31 v1 W1.heap.size #[.bool false,.string ⟨#[]⟩,.bool false,.slice none 0 0,.slice none 0 0,.slice none 0 0,.slice none 0 0]:=(Rw.new 31 W1.drew #[.bool false,.string ⟨#[]⟩,.bool false,.slice none 0 0,.slice none 0 0,.slice none 0 0,.slice none 0 0]).below hb1)|skip)
    | (go_at_call 22;go_fit (normR _ (hk1.below (by first|exact hc1|exact bel_tr hc1 (bel_d0 _ _))) hS hP.s1 (hT1.below (by first|exact hc1|exact bel_tr hc1 (bel_d0 _ _))));rintro e v2 ⟨f,c,n,k,c',n',k',rfl,G,hb2⟩;have hc2:Below W1.heap.size W1 v2:=(by first|exact bel_tr hc1 hb2|exact bel_tr (bel_tr hc1 (bel_d0 _ _)) hb2);have hsv2:=Below.size hc2;first|(have RP:Rw 31 v2 W1.heap.size #[.bool false,.string ⟨#[]⟩,.bool false,.slice none 0 0,.slice none 0 0,.slice none 0 0,.slice none 0 0]:=RA.below hb2;have y0:=(RP.cell 0).trans (show _=some (.bool false) from rfl);have z0:=RP.frozen 0;have y1:=(RP.cell 1).trans (show _=some (.string ⟨#[]⟩) from rfl);have z1:=RP.frozen 1;have y2:=(RP.cell 2).trans (show _=some (.bool false) from rfl);have z2:=RP.frozen 2;have y3:=(RP.cell 3).trans (show _=some (.slice none 0 0) from rfl);have z3:=RP.frozen 3;have y4:=(RP.cell 4).trans (show _=some (.slice none 0 0) from rfl);have z4:=RP.frozen 4;have y5:=(RP.cell 5).trans (show _=some (.slice none 0 0) from rfl);have z5:=RP.frozen 5;have y6:=(RP.cell 6).trans (show _=some (.slice none 0 0) from rfl);have z6:=RP.frozen 6)|(have RP:Rw 31 v2 v1.heap.size #[.bool false,.string ⟨#[]⟩,.bool false,.slice none 0 0,.slice none 0 0,.slice none 0 0,.slice none 0 0]:=(Rw.new 31 v1 #[.bool false,.string ⟨#[]⟩,.bool false,.slice none 0 0,.slice none 0 0,.slice none 0 0,.slice none 0 0]).below hb2;have y0:=(RP.cell 0).trans (show _=some (.bool false) from rfl);have z0:=RP.frozen 0;have y1:=(RP.cell 1).trans (show _=some (.string ⟨#[]⟩) from rfl);have z1:=RP.frozen 1;have y2:=(RP.cell 2).trans (show _=some (.bool false) from rfl);have z2:=RP.frozen 2;have y3:=(RP.cell 3).trans (show _=some (.slice none 0 0) from rfl);have z3:=RP.frozen 3;have y4:=(RP.cell 4).trans (show _=some (.slice none 0 0) from rfl);have z4:=RP.frozen 4;have y5:=(RP.cell 5).trans (show _=some (.slice none 0 0) from rfl);have z5:=RP.frozen 5;have y6:=(RP.cell 6).trans (show _=some (.slice none 0 0) from rfl);have z6:=RP.frozen 6)|skip)))
  ·exact ⟨rfl,_,f,c,n,k,c',n',k',rfl,Rw.new _ _ _,(G.below (bel_d0 _ _)).mono (by omega),by omega,bel_a hc2⟩
  ·skip
   obtain ⟨RN,O⟩:=RP.set7 (.bool P.mx) (.string P.nm) (.bool f) (.slice c n k) (.slice c' n' k') (.slice none 0 0) (.slice none 0 0)
   have hl:=RP.lt
   have GN:=(G.keep (RP.noW (by decide)) O.grown).mono (show W1.heap.size≤_ by first|omega|(simp;omega))
   exact ⟨rfl,_,f,c,n,k,c',n',k',rfl,RN,GN,by omega,hc2.trans (O.below (by omega))⟩
  ·skip
   obtain ⟨RN,O⟩:=RP.set7 (.bool P.mx) (.string P.nm) (.bool f) (.slice c n k) (.slice c' n' k') (.slice none 0 0) (.slice none 0 0)
   have hl:=RP.lt
   have GN:=(G.keep (RP.noW (by decide)) O.grown).mono (show W1.heap.size≤_ by first|omega|(simp;omega))
   exact ⟨rfl,_,f,c,n,k,c',n',k',rfl,RN,GN,by omega,hc2.trans (O.below (by omega))⟩
 rintro a' w3 ⟨R3,f,c,n,k,c',n',k',rfl,T3,GK,hR3,h3⟩
 have HKB:Hid (∀ g,(Value.slice c n k).ownBlock=some g∨(Value.slice c' n' k').ownBlock=some g→g<w3.heap.size):=fun g hg=>(GK.blk g hg).2
 simp only [Act.put,List.setIfInBounds_toArray,List.set_cons_zero,List.set_cons_succ]
 have hb3:=bel_tr hb1 h3
 have hs1:=HS1.out
 have hR3':R3<w3.heap.size:=T3.lt
 have PB3:BoxC w3 w.heap.size (#[.bool P.mx,.string P.nm,.bool P.p,.slice P.a P.na P.ca,.slice P.d P.nd P.cd,.slice P.va P.vn P.vc,.slice P.ra P.rn P.rc]).toList:=P0.below h3
 have R23:=R2.below h3
 have hs3:=Below.size h3
 clear HB P0 R2 hk1 hT1 h3 hb1
 have p5:=PB3 5 _ rfl
 have p6:=PB3 6 _ rfl
 have hq3:w.heap.size+2≤R3:=by omega
 have HS3:Hid (w.heap.size+2≤R3):=hq3
 clear hq3
 have hw1:w.heap.size≤W1.heap.size:=by omega
 have HW1:Hid (w.heap.size≤W1.heap.size):=hw1
 clear hs1 HS1 hw1
 go_wp2
 go_loopw [20] (fun s20 wr=>∃ (i:Nat) (vv:Value) (E:Nat→List Value),i≤P.vn∧s20 = .int .i64 i∧Rw 31 wr R3 #[.bool P.mx,.string P.nm,.bool f,.slice c n k,.slice c' n' k',vv,.slice none 0 0]∧SL wr w3.heap.size 51 13 vv i E∧Ch w3.heap.size wr.heap.size i (fun q l r=>VCA wr l r (E q) (P.V q) (P.ZV q))∧GR wr W1.heap.size f c n k c' n' k' P.k P.S∧Near R3 w3 wr) (fun s20 _=>P.vn-(intOf s20).toNat)
 case atStart=>exact ⟨0,_,fun _=>[],Nat.zero_le _,rfl,T3,SL.nil _ _ _ _ _,Ch.nil (Nat.le_refl _) _,GK,Near.refl _ _⟩
 case round =>
  clear T3 GK p5 p6
  obtain ⟨i,vv,E,hi,rfl,T3,hS,hVC,GK,hN⟩:=hrel
  obtain ⟨ga,gc,rfl,hgc⟩:=hS.form
  have hbel:Below w.heap.size w wr:=hb3.trans (hN.below (by have:=HS3.out;omega) hb3.size)
  by_cases hlt:i<P.vn
  ·have hkI:(i:Int)<(P.vn:Int):=by omega
   rcases hP.v with h0|⟨vb,vo,hva,hev⟩
   ·omega
   have hV:=hev i hlt
   have hZ1:=hV.s1
   have hZ7:=hK.ZV i hlt
   have hnV:(P.V i).nm.size≤1000000000:=by have:=hV.snm;omega
   obtain ⟨nmV,enm⟩:∃ x,x=(P.V i).nm:=⟨_,rfl⟩
   obtain ⟨hl,ehl⟩:∃ x,x=(P.V i).hlo:=⟨_,rfl⟩
   obtain ⟨hh,ehh⟩:∃ x,x=(P.V i).hhi:=⟨_,rfl⟩
   obtain ⟨wh,ewh⟩:∃ x,x=(P.V i).whole:=⟨_,rfl⟩
   have x0:=kept_c hbel hV.nm
   obtain ⟨p1,a1,n1,k1,d1,m1,l1,x1,x2,x3,t1⟩:=hV.obj
   have x4:=kept_c hbel hV.hlo
   obtain ⟨p2,a2,n2,k2,d2,m2,l2,x5,x6,x7,t2⟩:=hV.lo
   have x8:=kept_c hbel hV.hhi
   obtain ⟨p3,a3,n3,k3,d3,m3,l3,x9,x10,x11,t3⟩:=hV.hi
   have x12:=kept_c hbel hV.whole
   replace x1:=kept_c hbel x1
   replace x2:=kept_c hbel x2
   replace x3:=kept_c hbel x3
   replace x5:=kept_c hbel x5
   replace x6:=kept_c hbel x6
   replace x7:=kept_c hbel x7
   replace x9:=kept_c hbel x9
   replace x10:=kept_c hbel x10
   replace x11:=kept_c hbel x11
   rw [← enm] at x0 hnV
   rw [← ehl] at x4
   rw [← ehh] at x8
   rw [← ewh] at x12
   have EV:Hid (nmV=(P.V i).nm∧hl=(P.V i).hlo∧hh=(P.V i).hhi∧wh=(P.V i).whole):=⟨enm,ehl,ehh,ewh⟩
   have hkI2:(i:Int)*13=((i*13:Nat):Int):=by omega
   clear hev hV enm ehl ehh ewh
   rw [hva]
   go_wp2_with fail
   have B5:=box_new wr #[.string nmV,.bool p1,.slice a1 n1 k1,.slice d1 m1 l1,.bool hl,.bool p2,.slice a2 n2 k2,.slice d2 m2 l2,.bool hh,.bool p3,.slice a3 n3 k3,.slice d3 m3 l3,.bool wh] 51
   have hz:=bel_d0 wr (.cells #[.string nmV,.bool p1,.slice a1 n1 k1,.slice d1 m1 l1,.bool hl,.bool p2,.slice a2 n2 k2,.slice d2 m2 l2,.bool hh,.bool p3,.slice a3 n3 k3,.slice d3 m3 l3,.bool wh] 51)
   have hs4:wr.heap.size+1≤(wr.alloc (.cells #[.string nmV,.bool p1,.slice a1 n1 k1,.slice d1 m1 l1,.bool hl,.bool p2,.slice a2 n2 k2,.slice d2 m2 l2,.bool hh,.bool p3,.slice a3 n3 k3,.slice d3 m3 l3,.bool wh] 51)).heap.size:=by simp
   have hbel4:=bel_tr hbel hz
   replace t1:=t1.below hbel4
   replace t2:=t2.below hbel4
   replace t3:=t3.below hbel4
   have hT4:=hT.below hbel4
   have T34:=T3.below hz
   have hS4:=hS.below hz
   have hN4:Near R3 w3 _:=hN.trans (near_of hz)
   have z5:=(T34.cell 5).trans (show _=some (.slice ga i gc) from rfl)
   have hsw:=hN4.size
   clear x0 x1 x2 x3 x4 x5 x6 x7 x8 x9 x10 x11 x12
   generalize wr.alloc (.cells #[.string nmV,.bool p1,.slice a1 n1 k1,.slice d1 m1 l1,.bool hl,.bool p2,.slice a2 n2 k2,.slice d2 m2 l2,.bool hh,.bool p3,.slice a3 n3 k3,.slice d3 m3 l3,.bool wh] 51)=W4 at *
   refine wp_region_noPanic (wp_region_guard (Till 20 20 (fun w'=>BoxC w' wr.heap.size (#[.string nmV,.bool p1,.slice a1 n1 k1,.slice d1 m1 l1,.bool hl,.bool p2,.slice a2 n2 k2,.slice d2 m2 l2,.bool hh,.bool p3,.slice a3 n3 k3,.slice d3 m3 l3,.bool wh]).toList∧w'.cell? ⟨R3,5,none⟩=some (.slice ga i gc)) (fun _=>True)) (by kernel_rfl) ?_)
   refine wpAnyG.take 0 (v:=.pointer (some ⟨R3,5,none⟩)) (by decide) (by kernel_rfl) (fun _ _ _ h=>h) 20 _ (by rfl) (till_ind (by decide) (by decide)) (fun L w' h1 h2=>h2.1 h1) (by kernel_rfl) (by kernel_rfl) (by kernel_rfl) (by rfl) ?y0 ⟨fun _=>⟨B5,z5⟩,fun _=>trivial⟩ (by rfl) ?_
   case y0 =>
    rintro w' ⟨hB5,hz5⟩
    skip
    simp only [lgA,lgZ]
    go_simp
   simp only [lgA,lgZ,Act.put,lsA,lsZ,lsS]
   refine wpAnyG.take 1 (v:=.slice ga i gc) (by decide) (by kernel_rfl) (fun _ _ _ h=>h) 20 _ (by rfl) (till_ind (by decide) (by decide)) (fun L w' h1 h2=>h2.1 h1) (by kernel_rfl) (by kernel_rfl) (by kernel_rfl) (by rfl) ?y1 ⟨fun _=>⟨B5,z5⟩,fun _=>trivial⟩ (by rfl) ?_
   case y1 =>
    rintro w' ⟨hB5,hz5⟩
    skip
    simp only [lgA,lgZ,lgS]
    go_simp
   simp only [lgA,lgZ,lgS,Act.put,lsA,lsZ,lsS]
   refine wpAnyG.take 2 (v:=.pointer (some ⟨wr.heap.size,0,none⟩)) (by decide) (by kernel_rfl) (fun _ _ _ h=>h) 20 _ (by rfl) (till_ind (by decide) (by decide)) (fun L w' h1 h2=>h2.1 h1) (by kernel_rfl) (by kernel_rfl) (by kernel_rfl) (by rfl) ?y2 ⟨fun _=>⟨B5,z5⟩,fun _=>trivial⟩ (by rfl) ?_
   case y2 =>
    rintro w' ⟨hB5,hz5⟩
    skip
    simp only [lgA,lgZ,lgS]
    go_simp
   simp only [lgA,lgZ,lgS,Act.put,lsA,lsZ,lsS]
   refine wpAnyG.take 3 (v:=.string nmV) (by decide) (by kernel_rfl) (fun _ _ _ h=>h) 20 _ (by rfl) (till_ind (by decide) (by decide)) (fun L w' h1 h2=>h2.1 h1) (by kernel_rfl) (by kernel_rfl) (by kernel_rfl) (by rfl) ?y3 ⟨fun _=>⟨B5,z5⟩,fun _=>trivial⟩ (by rfl) ?_
   case y3 =>
    rintro w' ⟨hB5,hz5⟩
    have q0:=hB5 0 _ rfl
    simp only [lgA,lgZ,lgS]
    go_simp
   simp only [lgA,lgZ,lgS,Act.put,lsA,lsZ,lsS]
   refine wpAnyG.take 5 (v:=.pointer (some ⟨wr.heap.size,1,none⟩)) (by decide) (by kernel_rfl) (fun _ _ _ h=>h) 20 _ (by rfl) (till_ind (by decide) (by decide)) (fun L w' h1 h2=>h2.1 h1) (by kernel_rfl) (by kernel_rfl) (by kernel_rfl) (by rfl) ?y5 ⟨fun _=>⟨B5,z5⟩,fun _=>trivial⟩ (by rfl) ?_
   case y5 =>
    rintro w' ⟨hB5,hz5⟩
    skip
    simp only [lgA,lgZ,lgS]
    go_simp
   simp only [lgA,lgZ,lgS,Act.put,lsA,lsZ,lsS]
   refine wpAnyG.take 6 (v:=.agg #[.bool p1,.slice a1 n1 k1,.slice d1 m1 l1]) (by decide) (by kernel_rfl) (fun _ _ _ h=>h) 20 _ (by rfl) (till_ind (by decide) (by decide)) (fun L w' h1 h2=>h2.1 h1) (by kernel_rfl) (by kernel_rfl) (by kernel_rfl) (by rfl) ?y6 ⟨fun _=>⟨B5,z5⟩,fun _=>trivial⟩ (by rfl) ?_
   case y6 =>
    rintro w' ⟨hB5,hz5⟩
    have q1:=hB5 1 _ rfl;have q2:=hB5 2 _ rfl;have q3:=hB5 3 _ rfl
    simp only [lgA,lgZ,lgS]
    go_simp
   simp only [lgA,lgZ,lgS,Act.put,lsA,lsZ,lsS]
   refine wpAnyG.take 8 (v:=.pointer (some ⟨wr.heap.size,4,none⟩)) (by decide) (by kernel_rfl) (fun _ _ _ h=>h) 20 _ (by rfl) (till_ind (by decide) (by decide)) (fun L w' h1 h2=>h2.1 h1) (by kernel_rfl) (by kernel_rfl) (by kernel_rfl) (by rfl) ?y8 ⟨fun _=>⟨B5,z5⟩,fun _=>trivial⟩ (by rfl) ?_
   case y8 =>
    rintro w' ⟨hB5,hz5⟩
    skip
    simp only [lgA,lgZ,lgS]
    go_simp
   simp only [lgA,lgZ,lgS,Act.put,lsA,lsZ,lsS]
   refine wpAnyG.take 9 (v:=.agg #[.bool hl,.bool p2,.slice a2 n2 k2,.slice d2 m2 l2]) (by decide) (by kernel_rfl) (fun _ _ _ h=>h) 20 _ (by rfl) (till_ind (by decide) (by decide)) (fun L w' h1 h2=>h2.1 h1) (by kernel_rfl) (by kernel_rfl) (by kernel_rfl) (by rfl) ?y9 ⟨fun _=>⟨B5,z5⟩,fun _=>trivial⟩ (by rfl) ?_
   case y9 =>
    rintro w' ⟨hB5,hz5⟩
    have q4:=hB5 4 _ rfl;have q5:=hB5 5 _ rfl;have q6:=hB5 6 _ rfl;have q7:=hB5 7 _ rfl
    simp only [lgA,lgZ,lgS]
    go_simp
   simp only [lgA,lgZ,lgS,Act.put,lsA,lsZ,lsS]
   refine wpAnyG.take 11 (v:=.pointer (some ⟨wr.heap.size,8,none⟩)) (by decide) (by kernel_rfl) (fun _ _ _ h=>h) 20 _ (by rfl) (till_ind (by decide) (by decide)) (fun L w' h1 h2=>h2.1 h1) (by kernel_rfl) (by kernel_rfl) (by kernel_rfl) (by rfl) ?y11 ⟨fun _=>⟨B5,z5⟩,fun _=>trivial⟩ (by rfl) ?_
   case y11 =>
    rintro w' ⟨hB5,hz5⟩
    skip
    simp only [lgA,lgZ,lgS]
    go_simp
   simp only [lgA,lgZ,lgS,Act.put,lsA,lsZ,lsS]
   refine wpAnyG.take 12 (v:=.agg #[.bool hh,.bool p3,.slice a3 n3 k3,.slice d3 m3 l3]) (by decide) (by kernel_rfl) (fun _ _ _ h=>h) 20 _ (by rfl) (till_ind (by decide) (by decide)) (fun L w' h1 h2=>h2.1 h1) (by kernel_rfl) (by kernel_rfl) (by kernel_rfl) (by rfl) ?y12 ⟨fun _=>⟨B5,z5⟩,fun _=>trivial⟩ (by rfl) ?_
   case y12 =>
    rintro w' ⟨hB5,hz5⟩
    have q8:=hB5 8 _ rfl;have q9:=hB5 9 _ rfl;have q10:=hB5 10 _ rfl;have q11:=hB5 11 _ rfl
    simp only [lgA,lgZ,lgS]
    go_simp
   simp only [lgA,lgZ,lgS,Act.put,lsA,lsZ,lsS]
   refine wpAnyG.take 14 (v:=.pointer (some ⟨wr.heap.size,12,none⟩)) (by decide) (by kernel_rfl) (fun _ _ _ h=>h) 20 _ (by rfl) (till_ind (by decide) (by decide)) (fun L w' h1 h2=>h2.1 h1) (by kernel_rfl) (by kernel_rfl) (by kernel_rfl) (by rfl) ?y14 ⟨fun _=>⟨B5,z5⟩,fun _=>trivial⟩ (by rfl) ?_
   case y14 =>
    rintro w' ⟨hB5,hz5⟩
    skip
    simp only [lgA,lgZ,lgS]
    go_simp
   simp only [lgA,lgZ,lgS,Act.put,lsA,lsZ,lsS]
   refine wpAnyG.take 15 (v:=.bool wh) (by decide) (by kernel_rfl) (fun _ _ _ h=>h) 20 _ (by rfl) (till_ind (by decide) (by decide)) (fun L w' h1 h2=>h2.1 h1) (by kernel_rfl) (by kernel_rfl) (by kernel_rfl) (by rfl) ?y15 ⟨fun _=>⟨B5,z5⟩,fun _=>trivial⟩ (by rfl) ?_
   case y15 =>
    rintro w' ⟨hB5,hz5⟩
    have q12:=hB5 12 _ rfl
    simp only [lgA,lgZ,lgS]
    go_simp
   simp only [lgA,lgZ,lgS,Act.put,lsA,lsZ,lsS]
   refine wpAnyG.one 4 (by kernel_rfl) (by decide) (by rfl) (fun K hK=>?_)
   simp only [lgA,lgZ,lgS]
   go_simp
   refine (cloneQ _ _ hnV).mono ?_
   rintro e v1 ⟨rfl,hx1⟩
   have hy1:Below W4.heap.size W4 v1:=bel_tr (bel_d1 _) hx1
   clear hx1
   dsimp only
   refine hK _ _ ⟨fun _=>⟨B5.below hy1,kept_c hy1 z5⟩,fun _=>trivial⟩ ?_
   clear hK K
   refine wpAnyG.one 7 (by kernel_rfl) (by decide) (by rfl) (fun K hK=>?_)
   simp only [lgA,lgZ,lgS]
   go_simp
   refine (normR _ (t1.below hy1) hZ7 hZ1 (hT4.below hy1)).mono ?_
   rintro e v2 ⟨f1,c1,j1,g1,c1',j1',g1',rfl,G1,hx2⟩
   have hy2:Below W4.heap.size W4 v2:=bel_tr hy1 hx2
   have G1:=G1.ng
   dsimp only
   refine hK _ _ ⟨fun _=>⟨B5.below hy2,kept_c hy2 z5⟩,fun _=>trivial⟩ ?_
   clear hK K
   refine wpAnyG.one 10 (by kernel_rfl) (by decide) (by rfl) (fun K hK=>?_)
   simp only [lgA,lgZ,lgS]
   go_simp
   refine (tidyBoundQ _ (t2.below hy2) hZ7 hZ1 (hT4.below hy2)).mono ?_
   rintro e v3 ⟨f2,c2,j2,g2,c2',j2',g2',rfl,G2,hx3⟩
   have hy3:Below W4.heap.size W4 v3:=bel_tr hy2 hx3
   have G1:=G1.below hx3
   have G2:=G2.ng
   dsimp only
   refine hK _ _ ⟨fun _=>⟨B5.below hy3,kept_c hy3 z5⟩,fun _=>trivial⟩ ?_
   clear hK K
   refine wpAnyG.one 13 (by kernel_rfl) (by decide) (by rfl) (fun K hK=>?_)
   simp only [lgA,lgZ,lgS]
   go_simp
   refine (tidyBoundQ _ (t3.below hy3) hZ7 hZ1 (hT4.below hy3)).mono ?_
   rintro e v4 ⟨f3,c3,j3,g3,c3',j3',g3',rfl,G3,hx4⟩
   have hy4:Below W4.heap.size W4 v4:=bel_tr hy3 hx4
   have G1:=G1.below hx4
   have G2:=G2.below hx4
   have G3:=G3.ng
   have hk2:=hx2.size
   have hk3:=hx3.size
   have hk4:=hx4.size
   have hk1:=hy1.size
   dsimp only
   refine hK _ _ ⟨fun _=>⟨B5.below hy4,kept_c hy4 z5⟩,fun _=>trivial⟩ ?_
   clear hK K
   refine wpAnyG.one 16 (by kernel_rfl) (by decide) (by rfl) (fun K hK=>?_)
   simp only [lgA,lgZ,lgS]
   go_simp
   refine hK _ _ ⟨fun _=>⟨B5.below hy4,kept_c hy4 z5⟩,fun _=>trivial⟩ ?_
   clear hK K
   refine wpAnyG.one 17 (by kernel_rfl) (by decide) (by rfl) (fun K hK=>?_)
   simp only [lgA,lgZ,lgS]
   go_simp
   have hy5:Below W4.heap.size W4 (v4.alloc (.cells #[.string nmV,.bool f1,.slice c1 j1 g1,.slice c1' j1' g1',.bool hl,.bool f2,.slice c2 j2 g2,.slice c2' j2' g2',.bool hh,.bool f3,.slice c3 j3 g3,.slice c3' j3' g3',.bool wh] 51)):=bel_a hy4
   refine hK _ _ ⟨fun _=>⟨B5.below hy5,kept_c hy5 z5⟩,fun _=>trivial⟩ ?_
   clear hK K
   refine wpAnyG.one 18 (by kernel_rfl) (by decide) (by rfl) (fun K hK=>?_)
   simp only [lgA,lgZ,lgS]
   have hS5:=hS4.below hy5
   have hs5:=Below.size hy4
   refine wp_appendS _ _ _ 28 51 13 208 rfl Tryz.underlying28 infVar (by decide) (by decide) w3.heap.size (.slice ga i gc) i E rfl hS5 v4.heap.size _ rfl [.string nmV,.bool f1,.slice c1 j1 g1,.slice c1' j1' g1',.bool hl,.bool f2,.slice c2 j2 g2,.slice c2' j2' g2',.bool hh,.bool f3,.slice c3 j3 g3,.slice c3' j3' g3',.bool wh] rfl (fun u hu=>by simp at hu;rcases hu with rfl|rfl|rfl|rfl|rfl|rfl|rfl|rfl|rfl|rfl|rfl|rfl|rfl <;> rfl) (box_new v4 #[.string nmV,.bool f1,.slice c1 j1 g1,.slice c1' j1' g1',.bool hl,.bool f2,.slice c2 j2 g2,.slice c2' j2' g2',.bool hh,.bool f3,.slice c3 j3 g3,.slice c3' j3' g3',.bool wh] 51) (by omega) (by simp;omega) (v4.heap.size+1) (by simp) ?_
   intro gN capN w5 SN hgrow hat _
   have hrw:=hS5.neR (T34.below hy5) (by decide)
   have T35:=(T34.below hy5).kept hgrow hrw
   have z6:=(T35.cell 5).trans (show _=some (.slice ga i gc) from rfl)
   have z7:=T35.frozen 5
   have hnw:=hS5.noW (by decide)
   refine hK _ _ ⟨fun _=>⟨fun a u hu=>keep_ne hgrow (B5.below hy5 a u hu) (fun e=>by have:=(hS.lt _ e).2;simp at this),z6⟩,fun _=>trivial⟩ ?_
   clear hK K
   refine wpAnyG.one 19 (by kernel_rfl) (by decide) (by rfl) (fun K hK=>?_)
   simp only [lgA,lgZ,lgS]
   go_simp
   refine hK _ _ ⟨fun _=>⟨fun a u hu=>keep_ne hgrow (B5.below hy5 a u hu) (fun e=>by have:=(hS.lt _ e).2;simp at this),z6⟩,fun _=>trivial⟩ ?_
   clear hK K
   refine wpAnyG.one 20 (by kernel_rfl) (by decide) (by rfl) (fun K hK=>?_)
   simp only [lgA,lgZ,lgS]
   go_simp
   refine hK _ _ ⟨fun h=>absurd h (by decide),fun _=>trivial⟩ ?_
   clear hK K
   refine wpAnyG.done (by kernel_rfl) (NoPanic.normal ?_)
   obtain ⟨T36,O6⟩:=T35.set 5 (.slice (some ⟨gN,0,none⟩) (i+1) capN)
   replace T36:Rw 31 (w5.setCell ⟨R3,5,none⟩ (.slice (some ⟨gN,0,none⟩) (i+1) capN)) R3 #[.bool P.mx,.string P.nm,.bool f,.slice c n k,.slice c' n' k',.slice (some ⟨gN,0,none⟩) (i+1) capN,.slice none 0 0]:=by simpa using T36
   have hn6:=T35.noW (by decide)
   have hg6:=O6.grown
   have hne6:=SN.neR T35 (by decide)
   have SN6:=SN.kept hg6 (fun g e e2=>hne6 (e.trans e2.symm))
   have hxA:=bel_d0 v4 (.cells #[.string nmV,.bool f1,.slice c1 j1 g1,.slice c1' j1' g1',.bool hl,.bool f2,.slice c2 j2 g2,.slice c2' j2' g2',.bool hh,.bool f3,.slice c3 j3 g3,.slice c3' j3' g3',.bool wh] 51)
   obtain ⟨e1,e2,e3,e4⟩:=EV.out
   have hs66:=hgrow.size
   have hs67:(w5.setCell ⟨R3,5,none⟩ (.slice (some ⟨gN,0,none⟩) (i+1) capN)).heap.size=w5.heap.size:=by simp
   have hs68:=hy5.size
   have hs69:=hxA.size
   have VN:Ch w3.heap.size (w5.setCell ⟨R3,5,none⟩ (.slice (some ⟨gN,0,none⟩) (i+1) capN)).heap.size (i+1) (fun q l r=>VCA (w5.setCell ⟨R3,5,none⟩ (.slice (some ⟨gN,0,none⟩) (i+1) capN)) l r (((fun q=>if q<i then E q else [.string nmV,.bool f1,.slice c1 j1 g1,.slice c1' j1' g1',.bool hl,.bool f2,.slice c2 j2 g2,.slice c2' j2' g2',.bool hh,.bool f3,.slice c3 j3 g3,.slice c3' j3' g3',.bool wh]) q)) (P.V q) (P.ZV q)):=by
    refine (hVC.imp (fun q hq l r hv=>?_)).snoc (C':=v1.heap.size) (by omega) (by omega) (fun q _ l r r' hr hv=>hv.up hr) ?_
    ·have e:(((fun q=>if q<i then E q else [.string nmV,.bool f1,.slice c1 j1 g1,.slice c1' j1' g1',.bool hl,.bool f2,.slice c2 j2 g2,.slice c2' j2' g2',.bool hh,.bool f3,.slice c3 j3 g3,.slice c3' j3' g3',.bool wh]) q))=E q:=by simp only [hq,if_true]
     rw [e]
     exact (((hv.below hz).below hy5).keep hnw hgrow).keep hn6 hg6
    ·have e:(((fun q=>if q<i then E q else [.string nmV,.bool f1,.slice c1 j1 g1,.slice c1' j1' g1',.bool hl,.bool f2,.slice c2 j2 g2,.slice c2' j2' g2',.bool hh,.bool f3,.slice c3 j3 g3,.slice c3' j3' g3',.bool wh]) i))=[.string nmV,.bool f1,.slice c1 j1 g1,.slice c1' j1' g1',.bool hl,.bool f2,.slice c2 j2 g2,.slice c2' j2' g2',.bool hh,.bool f3,.slice c3 j3 g3,.slice c3' j3' g3',.bool wh]:=by simp only [Nat.lt_irrefl,if_false]
     rw [e]
     exact ⟨v2.heap.size,v3.heap.size,_,_,_,by simp only [e1,e2,e3,e4,List.cons_append,List.nil_append],((G1.below hxA).keep hnw hgrow).keep hn6 hg6,e2 ▸ ((G2.below hxA).keep hnw hgrow).keep hn6 hg6,e3 ▸ (((G3.below hxA).keep hnw hgrow).keep hn6 hg6).up (by omega),by omega,by omega,by omega⟩
   rw [hs67] at VN
   have GKN:=(((GK.below hz).below hy5).keep hnw hgrow).keep hn6 hg6
   have NN:Near R3 w3 (w5.setCell ⟨R3,5,none⟩ (.slice (some ⟨gN,0,none⟩) (i+1) capN)):=((hN4.trans (near_of hy5)).grown hgrow (fun k e=>(hS5.lt k e).1)).trans O6.near
   clear hS hVC GK hN hN4 T3 T34 T35 hS4 hS5 SN G1 G2 G3 hgrow hat hnw hn6 hg6 hne6 O6 hxA e1 e2 e3 e4 EV B5 z5 z6 z7 t1 t2 t3 hT4 hy1 hy2 hy3 hy4 hy5 hx2 hx3 hx4 hz hrw
   generalize w5.setCell ⟨R3,5,none⟩ (.slice (some ⟨gN,0,none⟩) (i+1) capN)=w6 at *
   rw [← hva]
   go_wp2
   go_roundw
   case rel=>exact ⟨i+1,by omega,by go_num,_,T36,_,SN6,VN⟩
   case measure=>simp [intOf];omega
  ·have hkI:¬ (i:Int)<(P.vn:Int):=by omega
   obtain rfl:i=P.vn:=by omega
   have hB8:=hN.box PB3 (by have:=HS3.out;omega) (by have:=HS3.out;omega)
   have R28:=hN.rw R23 (by have:=HS3.out;omega)
   have p5:=hB8 5 _ rfl
   have p6:=hB8 6 _ rfl
   have hs8:=hN.size
   have hb8:=hbel
   have hR8:R3<wr.heap.size:=T3.lt
   have HW8:Hid (w.heap.size<wr.heap.size):=by have:=HS3.out;exact (by omega:w.heap.size<wr.heap.size)
   obtain ⟨w8,ew8⟩:∃ w8,w8=wr:=⟨_,rfl⟩
   rw [← ew8] at T3 hS hVC GK hN hbel hB8 R28 p5 p6 hs8 hb8 hR8 HW8 ⊢
   clear ew8
   go_wp2
   go_loopw [48] (fun s48 wr=>∃ (i:Nat) (rr:Value) (F:Nat→List Value),i≤P.rn∧s48 = .int .i64 i∧Rw 31 wr R3 #[.bool P.mx,.string P.nm,.bool f,.slice c n k,.slice c' n' k',.slice ga P.vn gc,rr]∧SL wr w8.heap.size 54 10 rr i F∧Ch w8.heap.size wr.heap.size i (fun q l r=>RCA wr l r (F q) (P.R q) P.vn (P.ZR q))∧Near R3 w8 wr) (fun s48 _=>P.rn-(intOf s48).toNat)
   case atStart=>exact ⟨0,_,fun _=>[],Nat.zero_le _,rfl,T3,SL.nil _ _ _ _ _,Ch.nil (Nat.le_refl _) _,Near.refl _ _⟩
   case round =>
    have SV:=hS
    have T38:=T3
    have hN8:=hN
    clear hS T3 hN hbel p5 p6
    obtain ⟨i,rr,F,hi,rfl,T3,hS,hRC,hN⟩:=hrel
    obtain ⟨ra,rc,rfl,hrc⟩:=hS.form
    have hbel:Below w.heap.size w wr:=hb8.trans (hN.below (by have:=HS3.out;omega) hb8.size)
    by_cases hlt:i<P.rn
    ·have hkI:(i:Int)<(P.rn:Int):=by omega
     rcases hP.r with h0|⟨vb,vo,hra,hev⟩
     ·omega
     have hV:=hev i hlt
     have hZ1:=hV.s1
     have hZ7:P.ZR i≤7000000:=by have:=hK.ZR i hlt;omega
     have hZK:=hK.ZR i hlt
     have hnV:(P.R i).nm.size≤1000000000:=by have:=hV.snm;omega
     obtain ⟨nmV,enm⟩:∃ x,x=(P.R i).nm:=⟨_,rfl⟩
     obtain ⟨nt,ent⟩:∃ x,x=(P.R i).nt:=⟨_,rfl⟩
     obtain ⟨hl,ehl⟩:∃ x,x=(P.R i).hlo:=⟨_,rfl⟩
     obtain ⟨hh,ehh⟩:∃ x,x=(P.R i).hhi:=⟨_,rfl⟩
     have x0:=kept_c hbel hV.nm
     obtain ⟨ta,tc,Zt,x1,hLT,htot,htc⟩:=hV.terms
     have x2:=kept_c hbel hV.hlo
     obtain ⟨p2,a2,n2,k2,d2,m2,l2,x3,x4,x5,t2⟩:=hV.lo
     have x6:=kept_c hbel hV.hhi
     obtain ⟨p3,a3,n3,k3,d3,m3,l3,x7,x8,x9,t3⟩:=hV.hi
     replace x1:=kept_c hbel x1
     replace x3:=kept_c hbel x3
     replace x4:=kept_c hbel x4
     replace x5:=kept_c hbel x5
     replace x7:=kept_c hbel x7
     replace x8:=kept_c hbel x8
     replace x9:=kept_c hbel x9
     rw [← enm] at x0 hnV
     rw [← ent] at x1 hLT htot htc
     rw [← ehl] at x2
     rw [← ehh] at x6
     have EV:Hid (nmV=(P.R i).nm∧hl=(P.R i).hlo∧hh=(P.R i).hhi∧nt=(P.R i).nt):=⟨enm,ehl,ehh,ent⟩
     have hkI2:(i:Int)*10=((i*10:Nat):Int):=by omega
     clear hev hV enm ehl ehh ent
     rw [hra]
     go_wp2_with fail
     have B5:=box_new wr #[.string nmV,.slice ta nt tc,.bool hl,.bool p2,.slice a2 n2 k2,.slice d2 m2 l2,.bool hh,.bool p3,.slice a3 n3 k3,.slice d3 m3 l3] 54
     have hz:=bel_d0 wr (.cells #[.string nmV,.slice ta nt tc,.bool hl,.bool p2,.slice a2 n2 k2,.slice d2 m2 l2,.bool hh,.bool p3,.slice a3 n3 k3,.slice d3 m3 l3] 54)
     have hs4:wr.heap.size+1≤(wr.alloc (.cells #[.string nmV,.slice ta nt tc,.bool hl,.bool p2,.slice a2 n2 k2,.slice d2 m2 l2,.bool hh,.bool p3,.slice a3 n3 k3,.slice d3 m3 l3] 54)).heap.size:=by simp
     have hbel4:=bel_tr hbel hz
     replace hLT:=hLT.below hbel4
     replace t2:=t2.below hbel4
     replace t3:=t3.below hbel4
     have hT4:=hT.below hbel4
     have T34:=T3.below hz
     have hS4:=hS.below hz
     have hN4:Near R3 w8 _:=hN.trans (near_of hz)
     have z5:=(T34.cell 6).trans (show _=some (.slice ra i rc) from rfl)
     have q5:=hN4.box hB8 HW8.out (by have:=HS3.out;omega) 5 _ rfl
     have hsw:=hN4.size
     clear x0 x1 x2 x3 x4 x5 x6 x7 x8 x9
     generalize wr.alloc (.cells #[.string nmV,.slice ta nt tc,.bool hl,.bool p2,.slice a2 n2 k2,.slice d2 m2 l2,.bool hh,.bool p3,.slice a3 n3 k3,.slice d3 m3 l3] 54)=W4 at *
     refine wp_region_noPanic (wp_region_guard (Till 21 21 (fun w'=>BoxC w' wr.heap.size (#[.string nmV,.slice ta nt tc,.bool hl,.bool p2,.slice a2 n2 k2,.slice d2 m2 l2,.bool hh,.bool p3,.slice a3 n3 k3,.slice d3 m3 l3]).toList∧w'.cell? ⟨R3,6,none⟩=some (.slice ra i rc)∧w'.cell? ⟨w.heap.size,5,none⟩=some (.slice P.va P.vn P.vc)) (fun _=>True)) (by kernel_rfl) ?_)
     refine wpAnyG.take 0 (v:=.pointer (some ⟨R3,6,none⟩)) (by decide) (by kernel_rfl) (fun _ _ _ h=>h) 21 _ (by rfl) (till_ind (by decide) (by decide)) (fun L w' h1 h2=>h2.1 h1) (by kernel_rfl) (by kernel_rfl) (by kernel_rfl) (by rfl) ?y0 ⟨fun _=>⟨B5,z5,q5⟩,fun _=>trivial⟩ (by rfl) ?_
     case y0 =>
      rintro w' ⟨hB5,hz5,hq5⟩
      skip
      simp only [lgA,lgZ]
      go_simp
     simp only [lgA,lgZ,Act.put,lsA,lsZ,lsS]
     refine wpAnyG.take 1 (v:=.slice ra i rc) (by decide) (by kernel_rfl) (fun _ _ _ h=>h) 21 _ (by rfl) (till_ind (by decide) (by decide)) (fun L w' h1 h2=>h2.1 h1) (by kernel_rfl) (by kernel_rfl) (by kernel_rfl) (by rfl) ?y1 ⟨fun _=>⟨B5,z5,q5⟩,fun _=>trivial⟩ (by rfl) ?_
     case y1 =>
      rintro w' ⟨hB5,hz5,hq5⟩
      skip
      simp only [lgA,lgZ,lgS]
      go_simp
     simp only [lgA,lgZ,lgS,Act.put,lsA,lsZ,lsS]
     refine wpAnyG.take 2 (v:=.pointer (some ⟨wr.heap.size,0,none⟩)) (by decide) (by kernel_rfl) (fun _ _ _ h=>h) 21 _ (by rfl) (till_ind (by decide) (by decide)) (fun L w' h1 h2=>h2.1 h1) (by kernel_rfl) (by kernel_rfl) (by kernel_rfl) (by rfl) ?y2 ⟨fun _=>⟨B5,z5,q5⟩,fun _=>trivial⟩ (by rfl) ?_
     case y2 =>
      rintro w' ⟨hB5,hz5,hq5⟩
      skip
      simp only [lgA,lgZ,lgS]
      go_simp
     simp only [lgA,lgZ,lgS,Act.put,lsA,lsZ,lsS]
     refine wpAnyG.take 3 (v:=.string nmV) (by decide) (by kernel_rfl) (fun _ _ _ h=>h) 21 _ (by rfl) (till_ind (by decide) (by decide)) (fun L w' h1 h2=>h2.1 h1) (by kernel_rfl) (by kernel_rfl) (by kernel_rfl) (by rfl) ?y3 ⟨fun _=>⟨B5,z5,q5⟩,fun _=>trivial⟩ (by rfl) ?_
     case y3 =>
      rintro w' ⟨hB5,hz5,hq5⟩
      have q0:=hB5 0 _ rfl
      simp only [lgA,lgZ,lgS]
      go_simp
     simp only [lgA,lgZ,lgS,Act.put,lsA,lsZ,lsS]
     refine wpAnyG.take 5 (v:=.pointer (some ⟨wr.heap.size,1,none⟩)) (by decide) (by kernel_rfl) (fun _ _ _ h=>h) 21 _ (by rfl) (till_ind (by decide) (by decide)) (fun L w' h1 h2=>h2.1 h1) (by kernel_rfl) (by kernel_rfl) (by kernel_rfl) (by rfl) ?y5 ⟨fun _=>⟨B5,z5,q5⟩,fun _=>trivial⟩ (by rfl) ?_
     case y5 =>
      rintro w' ⟨hB5,hz5,hq5⟩
      skip
      simp only [lgA,lgZ,lgS]
      go_simp
     simp only [lgA,lgZ,lgS,Act.put,lsA,lsZ,lsS]
     refine wpAnyG.take 6 (v:=.slice ta nt tc) (by decide) (by kernel_rfl) (fun _ _ _ h=>h) 21 _ (by rfl) (till_ind (by decide) (by decide)) (fun L w' h1 h2=>h2.1 h1) (by kernel_rfl) (by kernel_rfl) (by kernel_rfl) (by rfl) ?y6 ⟨fun _=>⟨B5,z5,q5⟩,fun _=>trivial⟩ (by rfl) ?_
     case y6 =>
      rintro w' ⟨hB5,hz5,hq5⟩
      have q1:=hB5 1 _ rfl
      simp only [lgA,lgZ,lgS]
      go_simp
     simp only [lgA,lgZ,lgS,Act.put,lsA,lsZ,lsS]
     refine wpAnyG.take 7 (v:=.pointer (some ⟨w.heap.size,5,none⟩)) (by decide) (by kernel_rfl) (fun _ _ _ h=>h) 21 _ (by rfl) (till_ind (by decide) (by decide)) (fun L w' h1 h2=>h2.1 h1) (by kernel_rfl) (by kernel_rfl) (by kernel_rfl) (by rfl) ?y7 ⟨fun _=>⟨B5,z5,q5⟩,fun _=>trivial⟩ (by rfl) ?_
     case y7 =>
      rintro w' ⟨hB5,hz5,hq5⟩
      skip
      simp only [lgA,lgZ,lgS]
      go_simp
     simp only [lgA,lgZ,lgS,Act.put,lsA,lsZ,lsS]
     refine wpAnyG.take 8 (v:=.slice P.va P.vn P.vc) (by decide) (by kernel_rfl) (fun _ _ _ h=>h) 21 _ (by rfl) (till_ind (by decide) (by decide)) (fun L w' h1 h2=>h2.1 h1) (by kernel_rfl) (by kernel_rfl) (by kernel_rfl) (by rfl) ?y8 ⟨fun _=>⟨B5,z5,q5⟩,fun _=>trivial⟩ (by rfl) ?_
     case y8 =>
      rintro w' ⟨hB5,hz5,hq5⟩
      skip
      simp only [lgA,lgZ,lgS]
      go_simp
     simp only [lgA,lgZ,lgS,Act.put,lsA,lsZ,lsS]
     refine wpAnyG.take 9 (v:=.int .i64 (P.vn:Int)) (by decide) (by kernel_rfl) (fun _ _ _ h=>h) 21 _ (by rfl) (till_ind (by decide) (by decide)) (fun L w' h1 h2=>h2.1 h1) (by kernel_rfl) (by kernel_rfl) (by kernel_rfl) (by rfl) ?y9 ⟨fun _=>⟨B5,z5,q5⟩,fun _=>trivial⟩ (by rfl) ?_
     case y9 =>
      rintro w' ⟨hB5,hz5,hq5⟩
      skip
      simp only [lgA,lgZ,lgS]
      go_simp
     simp only [lgA,lgZ,lgS,Act.put,lsA,lsZ,lsS]
     refine wpAnyG.take 11 (v:=.pointer (some ⟨wr.heap.size,2,none⟩)) (by decide) (by kernel_rfl) (fun _ _ _ h=>h) 21 _ (by rfl) (till_ind (by decide) (by decide)) (fun L w' h1 h2=>h2.1 h1) (by kernel_rfl) (by kernel_rfl) (by kernel_rfl) (by rfl) ?y11 ⟨fun _=>⟨B5,z5,q5⟩,fun _=>trivial⟩ (by rfl) ?_
     case y11 =>
      rintro w' ⟨hB5,hz5,hq5⟩
      skip
      simp only [lgA,lgZ,lgS]
      go_simp
     simp only [lgA,lgZ,lgS,Act.put,lsA,lsZ,lsS]
     refine wpAnyG.take 12 (v:=.agg #[.bool hl,.bool p2,.slice a2 n2 k2,.slice d2 m2 l2]) (by decide) (by kernel_rfl) (fun _ _ _ h=>h) 21 _ (by rfl) (till_ind (by decide) (by decide)) (fun L w' h1 h2=>h2.1 h1) (by kernel_rfl) (by kernel_rfl) (by kernel_rfl) (by rfl) ?y12 ⟨fun _=>⟨B5,z5,q5⟩,fun _=>trivial⟩ (by rfl) ?_
     case y12 =>
      rintro w' ⟨hB5,hz5,hq5⟩
      have q2:=hB5 2 _ rfl;have q3:=hB5 3 _ rfl;have q4:=hB5 4 _ rfl;have q5:=hB5 5 _ rfl
      simp only [lgA,lgZ,lgS]
      go_simp
     simp only [lgA,lgZ,lgS,Act.put,lsA,lsZ,lsS]
     refine wpAnyG.take 14 (v:=.pointer (some ⟨wr.heap.size,6,none⟩)) (by decide) (by kernel_rfl) (fun _ _ _ h=>h) 21 _ (by rfl) (till_ind (by decide) (by decide)) (fun L w' h1 h2=>h2.1 h1) (by kernel_rfl) (by kernel_rfl) (by kernel_rfl) (by rfl) ?y14 ⟨fun _=>⟨B5,z5,q5⟩,fun _=>trivial⟩ (by rfl) ?_
     case y14 =>
      rintro w' ⟨hB5,hz5,hq5⟩
      skip
      simp only [lgA,lgZ,lgS]
      go_simp
     simp only [lgA,lgZ,lgS,Act.put,lsA,lsZ,lsS]
     refine wpAnyG.take 15 (v:=.agg #[.bool hh,.bool p3,.slice a3 n3 k3,.slice d3 m3 l3]) (by decide) (by kernel_rfl) (fun _ _ _ h=>h) 21 _ (by rfl) (till_ind (by decide) (by decide)) (fun L w' h1 h2=>h2.1 h1) (by kernel_rfl) (by kernel_rfl) (by kernel_rfl) (by rfl) ?y15 ⟨fun _=>⟨B5,z5,q5⟩,fun _=>trivial⟩ (by rfl) ?_
     case y15 =>
      rintro w' ⟨hB5,hz5,hq5⟩
      have q6:=hB5 6 _ rfl;have q7:=hB5 7 _ rfl;have q8:=hB5 8 _ rfl;have q9:=hB5 9 _ rfl
      simp only [lgA,lgZ,lgS]
      go_simp
     simp only [lgA,lgZ,lgS,Act.put,lsA,lsZ,lsS]
     refine wpAnyG.one 4 (by kernel_rfl) (by decide) (by rfl) (fun K hK=>?_)
     simp only [lgA,lgZ,lgS]
     go_simp
     refine (cloneQ _ _ hnV).mono ?_
     rintro e v1 ⟨rfl,hx1⟩
     have hy1:Below W4.heap.size W4 v1:=bel_tr (bel_d1 _) hx1
     clear hx1
     dsimp only
     refine hK _ _ ⟨fun _=>⟨B5.below hy1,kept_c hy1 z5,kept_c hy1 q5⟩,fun _=>trivial⟩ ?_
     clear hK K
     refine wpAnyG.one 10 (by kernel_rfl) (by decide) (by rfl) (fun K hK=>?_)
     simp only [lgA,lgZ,lgS]
     go_simp
     refine (gatherQA ta nt tc (P.R i).t Zt P.vn v1 (hLT.below hy1) (by omega) hvn (hT4.below hy1)).mono ?_
     rintro e v2 ⟨tv2,tm,tu,rfl,HG,G1,hx2⟩
     obtain ⟨tva,tvc,rfl,htvc⟩:=G1.form
     have hy2:Below W4.heap.size W4 v2:=bel_tr hy1 hx2
     dsimp only
     refine hK _ _ ⟨fun _=>⟨B5.below hy2,kept_c hy2 z5,kept_c hy2 q5⟩,fun _=>trivial⟩ ?_
     clear hK K
     refine wpAnyG.one 13 (by kernel_rfl) (by decide) (by rfl) (fun K hK=>?_)
     simp only [lgA,lgZ,lgS]
     go_simp
     refine (tidyBoundQ _ (t2.below hy2) hZ7 hZ1 (hT4.below hy2)).mono ?_
     rintro e v3 ⟨f2,c2,j2,g2,c2',j2',g2',rfl,G2,hx3⟩
     have hy3:Below W4.heap.size W4 v3:=bel_tr hy2 hx3
     have G1:=G1.below hx3
     have G2:=G2.ng
     dsimp only
     refine hK _ _ ⟨fun _=>⟨B5.below hy3,kept_c hy3 z5,kept_c hy3 q5⟩,fun _=>trivial⟩ ?_
     clear hK K
     refine wpAnyG.one 16 (by kernel_rfl) (by decide) (by rfl) (fun K hK=>?_)
     simp only [lgA,lgZ,lgS]
     go_simp
     refine (tidyBoundQ _ (t3.below hy3) hZ7 hZ1 (hT4.below hy3)).mono ?_
     rintro e v4 ⟨f3,c3,j3,g3,c3',j3',g3',rfl,G3,hx4⟩
     have hy4:Below W4.heap.size W4 v4:=bel_tr hy3 hx4
     have G1:=G1.below hx4
     have G2:=G2.below hx4
     have G3:=G3.ng
     have hk2:=hx2.size
     have hk3:=hx3.size
     have hk4:=hx4.size
     have hk1:=hy1.size
     dsimp only
     refine hK _ _ ⟨fun _=>⟨B5.below hy4,kept_c hy4 z5,kept_c hy4 q5⟩,fun _=>trivial⟩ ?_
     clear hK K
     refine wpAnyG.one 17 (by kernel_rfl) (by decide) (by rfl) (fun K hK=>?_)
     simp only [lgA,lgZ,lgS]
     go_simp
     refine hK _ _ ⟨fun _=>⟨B5.below hy4,kept_c hy4 z5,kept_c hy4 q5⟩,fun _=>trivial⟩ ?_
     clear hK K
     refine wpAnyG.one 18 (by kernel_rfl) (by decide) (by rfl) (fun K hK=>?_)
     simp only [lgA,lgZ,lgS]
     go_simp
     have hy5:Below W4.heap.size W4 (v4.alloc (.cells #[.string nmV,.slice tva tm tvc,.bool hl,.bool f2,.slice c2 j2 g2,.slice c2' j2' g2',.bool hh,.bool f3,.slice c3 j3 g3,.slice c3' j3' g3'] 54)):=bel_a hy4
     refine hK _ _ ⟨fun _=>⟨B5.below hy5,kept_c hy5 z5,kept_c hy5 q5⟩,fun _=>trivial⟩ ?_
     clear hK K
     refine wpAnyG.one 19 (by kernel_rfl) (by decide) (by rfl) (fun K hK=>?_)
     simp only [lgA,lgZ,lgS]
     have hS5:=hS4.below hy5
     have hs5:=Below.size hy4
     refine wp_appendS _ _ _ 29 54 10 168 rfl Tryz.underlying29 infRow (by decide) (by decide) w8.heap.size (.slice ra i rc) i F rfl hS5 v4.heap.size _ rfl [.string nmV,.slice tva tm tvc,.bool hl,.bool f2,.slice c2 j2 g2,.slice c2' j2' g2',.bool hh,.bool f3,.slice c3 j3 g3,.slice c3' j3' g3'] rfl (fun u hu=>by simp at hu;rcases hu with rfl|rfl|rfl|rfl|rfl|rfl|rfl|rfl|rfl|rfl <;> rfl) (box_new v4 #[.string nmV,.slice tva tm tvc,.bool hl,.bool f2,.slice c2 j2 g2,.slice c2' j2' g2',.bool hh,.bool f3,.slice c3 j3 g3,.slice c3' j3' g3'] 54) (by omega) (by simp;omega) (v4.heap.size+1) (by simp) ?_
     intro gN capN w5 SN hgrow hat _
     have hrw:=hS5.neR (T34.below hy5) (by decide)
     have T35:=(T34.below hy5).kept hgrow hrw
     have z6:=(T35.cell 6).trans (show _=some (.slice ra i rc) from rfl)
     have z7:=T35.frozen 6
     have hnw:=hS5.noW (by decide)
     have hnt5:=hS5.noT (by decide)
     refine hK _ _ ⟨fun _=>⟨fun a u hu=>keep_ne hgrow (B5.below hy5 a u hu) (fun e=>by have:=(hS.lt _ e).2;simp at this),z6,keep_ne hgrow (kept_c hy5 q5) (fun e=>by have h1:w8.heap.size≤w.heap.size:=(hS.lt _ e).1;have h2:=HW8.out;omega)⟩,fun _=>trivial⟩ ?_
     clear hK K
     refine wpAnyG.one 20 (by kernel_rfl) (by decide) (by rfl) (fun K hK=>?_)
     simp only [lgA,lgZ,lgS]
     go_simp
     refine hK _ _ ⟨fun _=>⟨fun a u hu=>keep_ne hgrow (B5.below hy5 a u hu) (fun e=>by have:=(hS.lt _ e).2;simp at this),z6,keep_ne hgrow (kept_c hy5 q5) (fun e=>by have h1:w8.heap.size≤w.heap.size:=(hS.lt _ e).1;have h2:=HW8.out;omega)⟩,fun _=>trivial⟩ ?_
     clear hK K
     refine wpAnyG.one 21 (by kernel_rfl) (by decide) (by rfl) (fun K hK=>?_)
     simp only [lgA,lgZ,lgS]
     go_simp
     refine hK _ _ ⟨fun h=>absurd h (by decide),fun _=>trivial⟩ ?_
     clear hK K
     refine wpAnyG.done (by kernel_rfl) (NoPanic.normal ?_)
     obtain ⟨T36,O6⟩:=T35.set 6 (.slice (some ⟨gN,0,none⟩) (i+1) capN)
     replace T36:Rw 31 (w5.setCell ⟨R3,6,none⟩ (.slice (some ⟨gN,0,none⟩) (i+1) capN)) R3 #[.bool P.mx,.string P.nm,.bool f,.slice c n k,.slice c' n' k',.slice ga P.vn gc,.slice (some ⟨gN,0,none⟩) (i+1) capN]:=by simpa using T36
     have hn6:=T35.noW (by decide)
     have hnt6:=T35.noT (by decide)
     have hg6:=O6.grown
     have hne6:=SN.neR T35 (by decide)
     have SN6:=SN.kept hg6 (fun g e e2=>hne6 (e.trans e2.symm))
     have hxA:=bel_d0 v4 (.cells #[.string nmV,.slice tva tm tvc,.bool hl,.bool f2,.slice c2 j2 g2,.slice c2' j2' g2',.bool hh,.bool f3,.slice c3 j3 g3,.slice c3' j3' g3'] 54)
     obtain ⟨e1,e2,e3,e4⟩:=EV.out
     have hs66:=hgrow.size
     have hs67:(w5.setCell ⟨R3,6,none⟩ (.slice (some ⟨gN,0,none⟩) (i+1) capN)).heap.size=w5.heap.size:=by simp
     have hs68:=hy5.size
     have hs69:=hxA.size
     have RN:Ch w8.heap.size (w5.setCell ⟨R3,6,none⟩ (.slice (some ⟨gN,0,none⟩) (i+1) capN)).heap.size (i+1) (fun q l r=>RCA (w5.setCell ⟨R3,6,none⟩ (.slice (some ⟨gN,0,none⟩) (i+1) capN)) l r (((fun q=>if q<i then F q else [.string nmV,.slice tva tm tvc,.bool hl,.bool f2,.slice c2 j2 g2,.slice c2' j2' g2',.bool hh,.bool f3,.slice c3 j3 g3,.slice c3' j3' g3']) q)) (P.R q) P.vn (P.ZR q)):=by
      refine (hRC.imp (fun q hq l r hv=>?_)).snoc (C':=v1.heap.size) (by omega) (by omega) (fun q _ l r r' hr hv=>hv.up hr) ?_
      ·have e:(((fun q=>if q<i then F q else [.string nmV,.slice tva tm tvc,.bool hl,.bool f2,.slice c2 j2 g2,.slice c2' j2' g2',.bool hh,.bool f3,.slice c3 j3 g3,.slice c3' j3' g3']) q))=F q:=by simp only [hq,if_true]
       rw [e]
       exact (((hv.below hz).below hy5).keep hnw hnt5 hgrow).keep hn6 hnt6 hg6
      ·have e:(((fun q=>if q<i then F q else [.string nmV,.slice tva tm tvc,.bool hl,.bool f2,.slice c2 j2 g2,.slice c2' j2' g2',.bool hh,.bool f3,.slice c3 j3 g3,.slice c3' j3' g3']) i))=[.string nmV,.slice tva tm tvc,.bool hl,.bool f2,.slice c2 j2 g2,.slice c2' j2' g2',.bool hh,.bool f3,.slice c3 j3 g3,.slice c3' j3' g3']:=by simp only [Nat.lt_irrefl,if_false]
       rw [e]
       have G1a:=G1.below hxA
       have G1b:=G1a.keep hnw (ne_of_noT G1a.tl hnt5) hgrow
       have G1c:=G1b.keep hn6 (ne_of_noT G1b.tl hnt6) hg6
       refine ⟨v2.heap.size,v3.heap.size,.slice tva tm tvc,tm,tu,Zt,_,_,by simp only [e1,e2,e3,List.cons_append,List.nil_append],e4 ▸ HG,e4 ▸ hLT.get,e4 ▸ htot,?_,e2 ▸ ((G2.below hxA).keep hnw hgrow).keep hn6 hg6,e3 ▸ (((G3.below hxA).keep hnw hgrow).keep hn6 hg6).up (by omega),by omega,by omega,by omega⟩
       rw [← e4]
       exact G1c
     rw [hs67] at RN
     have NN:Near R3 w8 (w5.setCell ⟨R3,6,none⟩ (.slice (some ⟨gN,0,none⟩) (i+1) capN)):=((hN4.trans (near_of hy5)).grown hgrow (fun k e=>(hS5.lt k e).1)).trans O6.near
     clear hS hRC hN hN4 T3 T34 T35 hS4 hS5 SN G1 G2 G3 hgrow hat hnw hnt5 hn6 hnt6 hg6 hne6 O6 hxA e1 e2 e3 e4 EV B5 z5 z6 z7 t2 t3 hT4 hy1 hy2 hy3 hy4 hy5 hx2 hx3 hx4 hz hrw hLT HG q5
     generalize w5.setCell ⟨R3,6,none⟩ (.slice (some ⟨gN,0,none⟩) (i+1) capN)=w6 at *
     rw [← hra]
     go_wp2
     go_roundw
     case rel=>exact ⟨i+1,by omega,by go_num,_,T36,_,SN6,RN⟩
     case measure=>simp [intOf];omega
    ·have hkI:¬ (i:Int)<(P.rn:Int):=by omega
     obtain rfl:i=P.rn:=by omega
     have hg8:=hN.grow
     have hn8:=T38.noW (by decide)
     have hneV:=SV.neR T38 (by decide)
     have SV9:=SV.kept hg8 (fun g e e2=>hneV (e.trans e2.symm))
     have VC9:Ch w3.heap.size w8.heap.size P.vn (fun q l r=>VCA wr l r (E q) (P.V q) (P.ZV q)):=hVC.imp fun q hq l r h=>h.keep hn8 hg8
     have GK9:=GK.keep hn8 hg8
     have R29:=hN.rw R28 (by have:=HS3.out;omega)
     go_wp2_with (first
      | (refine T3.get rfl _ rfl rfl Tryz.underlying31 prbI ?_)
      | (refine R29.put #[.bool P.mx,.string P.nm,.bool f,.slice c n k,.slice c' n' k',.slice ga P.vn gc,.slice ra P.rn rc] rfl _ _ rfl rfl rfl prbI rfl (by simp [Value.oneCell']) ?_;intro w9 R9 O9)
      | fail)
     have hg9:=O9.grown
     have hn9:=R29.noW (by decide)
     have hnt9:=R29.noT (by decide)
     have hneS:=SV9.neR R29 (by decide)
     have hneR:=hS.neR R29 (by decide)
     have hw3:=hb3.size
     have hw8:=hb8.size
     have SVf:=(SV9.kept hg9 (fun g e e2=>hneS (e.trans e2.symm))).mono hw3
     have SRf:=(hS.kept hg9 (fun g e e2=>hneR (e.trans e2.symm))).mono hw8
     have hsz8:=hN.size
     have hsz9:=O9.size
     exact bodyPost_ret (R9.ret1 Tryz.results10 _ rfl Tryz.underlying31 prbI) rfl ⟨_,rfl,⟨f,c,n,k,c',n',k',ga,gc,ra,rc,E,F,w3.heap.size,w8.heap.size,rfl,⟨f,c,n,k,c',n',k',rfl,(GK9.keep hn9 hg9).mono HW1.out,HKB.out⟩,SVf,VC9.imp fun q hq l r h=>h.keep hn9 hg9,SRf,(hRC.imp fun q hq l r h=>h.keep hn9 hnt9 hg9).up (by omega),hw3,hs8,by omega,fun g hg=>(SVf.lt g hg).2,fun g hg=>(SRf.lt g hg).2⟩,hbel.trans (O9.below (Nat.le_succ _))⟩
theorem tidyQn (P:Prob) (w:World) (hP:PQ w P) (hK:TK P) (hT:TB w) :
  Calls Tryz.prog 10 #[P.val] w fun e w'=>∃ v,e = .returned v∧TO w' w.heap.size P v∧Below w.heap.size w w' :=
 (tidyQA P w hP hK hT).mono fun _ _ h=>by
  obtain ⟨v,e,h1,h2⟩:=h
  exact ⟨v,e,h1.to,h2⟩
theorem tidyQ (P:Prob) (w:World) (hP:PQ w P) (hK:P.K≤1048576) (hT:TB w) :
  Calls Tryz.prog 10 #[P.val] w fun e w'=>∃ v,e = .returned v∧TO w' w.heap.size P v∧Below w.heap.size w w':=tidyQn P w hP (hP.tk hK) hT
end Go.Proofs.YtceigfafmalfgaaGreatDoor
