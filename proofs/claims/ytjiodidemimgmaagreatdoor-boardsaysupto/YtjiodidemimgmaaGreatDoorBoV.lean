import Derived.Test.YtjiodidemimgmaaGreatDoorBoU
namespace Go.Proofs.YtjiodidemimgmaaGreatDoor
open Go.RowKit
def fln (s:Bool) (Y:Nat→Rat) (k art:Nat):List (Nat × Rat):=lwith (lco (fun c=>dsg s (Y c)) k) art 1
theorem fln_ok (s:Bool) (Y:Nat→Rat) {k art:Nat} (h:k≤art):Rise (fln s Y k art)∧Blw (fln s Y k art) (art + 1):=by
 have h0:=lco_ok (fun c=>dsg s (Y c)) k
 have h1:Blw (lco (fun c=>dsg s (Y c)) k) art:=fun e he=>by have:=h0.2 e he;omega
 exact ⟨rise_lwith h0.1 h1 _,h1.lwith _ (by omega)⟩
theorem fln_lat (s:Bool) (Y:Nat→Rat) {k art:Nat} (h:k≤art) (c:Nat):lat (fln s Y k art) c = if art = c then 1 else if c < k then dsg s (Y c) else 0:=by
 have h0:=lco_ok (fun c=>dsg s (Y c)) k
 have h1:Blw (lco (fun c=>dsg s (Y c)) k) art:=fun e he=>by have:=h0.2 e he;omega
 unfold fln
 rw [lat_lwith h1,lco_lat]
def FrP (w:World) (s:Bool) (Y:Nat→Rat) (k art:Nat) (r:Rat) (S:Nat) (e:Ending) (w':World):Prop:=∃ v p a na ca d nd cd,e = .returned (.agg #[v,.bool p,.slice a na ca,.slice d nd cd,.int .i64 (art:Nat),.bool s])∧LnE w' w.heap.size v (fln s Y k art) S∧GR w' 0 p a na ca d nd cd (dsg s r) S∧Below w.heap.size w w'
theorem Rw.set6 {t:TypeId} {w:World} {R:Nat} {a0 a1 a2 a3 a4 a5:Value} (h:Rw t w R #[a0,a1,a2,a3,a4,a5]) (b0 b1 b2 b3 b4 b5:Value) :
  Rw t ((((((w.setCell ⟨R,0,none⟩ b0).setCell ⟨R,1,none⟩ b1).setCell ⟨R,2,none⟩ b2).setCell ⟨R,3,none⟩ b3).setCell ⟨R,4,none⟩ b4).setCell ⟨R,5,none⟩ b5) R #[b0,b1,b2,b3,b4,b5]∧Off R w ((((((w.setCell ⟨R,0,none⟩ b0).setCell ⟨R,1,none⟩ b1).setCell ⟨R,2,none⟩ b2).setCell ⟨R,3,none⟩ b3).setCell ⟨R,4,none⟩ b4).setCell ⟨R,5,none⟩ b5):=by
 refine ⟨?_,((((((Off.refl _ _).set 0 b0).set 1 b1).set 2 b2).set 3 b3).set 4 b4).set 5 b5⟩
 have:=((((((h.setK 0 b0).1.setK 1 b1).1.setK 2 b2).1.setK 3 b3).1.setK 4 b4).1.setK 5 b5).1
 simpa using this
set_option maxRecDepth 100000 in
set_option maxHeartbeats 8000000 in
theorem firstB {p:Bool} {a:Option Addr} {na ca:Nat} {d:Option Addr} {nd cd:Nat} {r:Rat} {ga:Option Addr} {k gc:Nat} {Y:Nat→Rat} {S:Nat} (art:Nat) (s:Bool) (w:World) (hL:LQ w ga k Y (fun _=>S)) (hr:TR w p a na ca d nd cd r S) (hs:s = decide (r.num.sign < 0)) (hS:1≤S∧S≤6000000) (hk:k≤3000000) (hT:TB w) :
  Calls Tryz.prog 40 #[.slice ga k gc,.agg #[.bool p,.slice a na ca,.slice d nd cd],.int .i64 (art:Nat)] w fun e w'=>FrP w s Y k art r S e w':=by
 have BU:=box_new w #[.bool p,.slice a na ca,.slice d nd cd] 29
 have hb0:=bel_d0 w (.cells #[.bool p,.slice a na ca,.slice d nd cd] 29)
 have hs0:(w.alloc (.cells #[.bool p,.slice a na ca,.slice d nd cd] 29)).heap.size = w.heap.size + 1:=by simp
 have R0:=Rw.new 67 (w.alloc (.cells #[.bool p,.slice a na ca,.slice d nd cd] 29)) #[.slice none 0 0,.bool false,.slice none 0 0,.slice none 0 0,.int .i64 0,.bool false]
 rw [hs0] at R0
 have hb1':=bel_d0 (w.alloc (.cells #[.bool p,.slice a na ca,.slice d nd cd] 29)) (.cells #[.slice none 0 0,.bool false,.slice none 0 0,.slice none 0 0,.int .i64 0,.bool false] 67)
 have hs2:((w.alloc (.cells #[.bool p,.slice a na ca,.slice d nd cd] 29)).alloc (.cells #[.slice none 0 0,.bool false,.slice none 0 0,.slice none 0 0,.int .i64 0,.bool false] 67)).heap.size = w.heap.size + 2:=by simp
 replace BU:=BU.below hb1'
 have hb:=bel_tr hb0 hb1'
 have x0:=BU 0 _ rfl
 have x1:=BU 1 _ rfl
 have x2:=BU 2 _ rfl
 obtain ⟨sg,esg⟩:∃ sg,sg = r.num.sign:=⟨_,rfl⟩
 have ESG:Hid (sg = r.num.sign):=esg
 rw [← esg] at hs
 clear esg hb0 hb1'
 go_enter Tryz.func40,Tryz.ntmps40
 go_wp2_with fail
 clear x0 x1 x2
 generalize (w.alloc (.cells #[.bool p,.slice a na ca,.slice d nd cd] 29)).alloc (.cells #[.slice none 0 0,.bool false,.slice none 0 0,.slice none 0 0,.int .i64 0,.bool false] 67) = W0 at *
 refine (rsignB sg W0 (hr.below hb) (by omega) hS.1 ESG.out).mono ?_
 rintro e w1 ⟨rfl,h1⟩
 have R1:=R0.below h1
 have hb1:=bel_tr hb h1
 have hs1:w.heap.size + 2≤w1.heap.size:=by have:=h1.size;omega
 have B1:=BU.below h1
 clear R0 hb h1 BU
 by_cases hn:sg < 0
 ·obtain rfl:s = true:=by rw [hs];exact decide_eq_true hn
  clear hs
  have hfe:=sf_neg.fn
  go_wp2
  go_loopw [18,9] (fun sq sl wr=>∃ (q:Nat) (v:Value),q≤k∧sq = .int .i64 q∧sl = v∧LnE wr (w.heap.size + 2) v (lco (fun c=>dsg true (Y c)) q) S∧Rw 67 wr (w.heap.size + 1) #[.slice none 0 0,.bool false,.slice none 0 0,.slice none 0 0,.int .i64 0,.bool false]∧BoxC wr w.heap.size [.bool p,.slice a na ca,.slice d nd cd]∧Below w.heap.size w wr∧w.heap.size + 2≤wr.heap.size) (fun x _ _=>k - (intOf x).toNat)
  case atStart=>exact ⟨0,_,Nat.zero_le _,rfl,rfl,LnE.nil _ _ _,R1,B1,hb1,hs1⟩
  case round =>
   clear R1 hb1 hs1 B1
   obtain ⟨q,v,hq,rfl,rfl,LQ9,RR,BB,hbw,hwr2⟩:=hrel
   obtain ⟨ua,uc,ev,_⟩:=LQ9.form
   obtain ⟨um,eum⟩:∃ um,um = (lco (fun c=>dsg true (Y c)) q).length:=⟨_,rfl⟩
   have HUM:Hid (um = (lco (fun c=>dsg true (Y c)) q).length):=eum
   have hum:um≤3000000:=by rw [eum];have:=(lco_ok (fun c=>dsg true (Y c)) q).1.len q (lco_ok (fun c=>dsg true (Y c)) q).2;omega
   rw [← eum] at ev
   subst ev
   clear eum
   by_cases hlt:q < k
   ·have hqI:(q:Int) < (k:Int):=by omega
    have hq0:¬ (q:Int) < 0:=by omega
    have hq3:(q:Int) * 3 = ((q * 3:Nat):Int):=by omega
    rcases hL.below hbw with h0 | ⟨eb,eo,ega,hel⟩
    ·omega
    obtain ⟨ep,ea,en,ec,ed,em,ee,c0,c1,c2,hre⟩:=hel q hlt
    subst ega
    have hz:=bel_d0 wr (.cells #[.bool ep,.slice ea en ec,.slice ed em ee] 29)
    have BX:=box_new wr #[.bool ep,.slice ea en ec,.slice ed em ee] 29
    have hsW:(wr.alloc (.cells #[.bool ep,.slice ea en ec,.slice ed em ee] 29)).heap.size = wr.heap.size + 1:=by simp
    have b0:=BX 0 _ rfl
    have b1:=BX 1 _ rfl
    have b2:=BX 2 _ rfl
    have LW:=LQ9.below hz
    have G:=hre.below hz
    have hbz:=bel_tr hbw hz
    have RZ:=RR.below hz
    clear hel hre BX
    go_wp2_with fail
    clear c0 c1 c2 b0 b1 b2
    generalize wr.alloc (.cells #[.bool ep,.slice ea en ec,.slice ed em ee] 29) = W2 at *
    refine (sf_neg.call W2 G (by omega) hS.1 (hT.below hbz)).mono ?_
    rintro e w2 ⟨f5,c5,n5,k5,d5,m5,l5,rfl,G5,h5⟩
    have h5s:=h5.size
    go_wp2_with fail
    refine (withB q w2 (LW.below h5) (by omega) (G5.mono (Nat.zero_le _)) ⟨hS.1,by omega⟩ (by rw [← HUM.out];omega)).mono ?_
    rintro e w3 ⟨v9,rfl,L9,hg9,ho9⟩
    have hl9:=(LW.below h5).lt
    have hc9:Below (w.heap.size + 2) w2 w3:=(Below.refl _ _).grown hg9 (by omega) (fun k hk=>(hl9 k hk).1)
    have hb9:=(bel_tr hbz h5).trans (hc9.mono (by omega))
    have R9:Rw 67 w3 (w.heap.size + 1) #[.slice none 0 0,.bool false,.slice none 0 0,.slice none 0 0,.int .i64 0,.bool false]:=(hc9.block _ (by omega)).trans (RZ.below h5)
    have BB9:BoxC w3 w.heap.size [.bool p,.slice a na ca,.slice d nd cd]:=fun i u hu=>(World.cell?_of_block (w:=w2) (hc9.block w.heap.size (by omega))).trans (kept_c (bel_tr hz h5) (BB i u hu))
    have hs9:w.heap.size + 2≤w3.heap.size:=by have:=hc9.size;omega
    clear LQ9 LW RR RZ G G5 hg9 ho9 hl9 hc9 hbz hbw hz h5
    go_wp2
    go_roundw
    case rel=>first | exact ⟨q + 1,v9,by omega,by go_num,rfl,L9,R9,BB9,hb9,hs9⟩ | ((repeat apply Exists.intro);refine ⟨?_,rfl⟩;exact ⟨q + 1,v9,by omega,by go_num,rfl,L9,R9,BB9,hb9,hs9⟩)
    case measure=>simp [intOf];omega
   ·have hqI:¬ (q:Int) < (k:Int):=by omega
    obtain rfl:q = k:=by omega
    have HBX:∀ w',Below (w.heap.size + 1) wr w'→(w'.cell? ⟨w.heap.size,0,none⟩ = some (.bool p)∧w'.cell? ⟨w.heap.size,1,none⟩ = some (.slice a na ca)∧w'.cell? ⟨w.heap.size,2,none⟩ = some (.slice d nd cd)):=fun w' h=>⟨(World.cell?_of_block (w:=wr) (h.block w.heap.size (by omega))).trans (BB 0 _ rfl),(World.cell?_of_block (w:=wr) (h.block w.heap.size (by omega))).trans (BB 1 _ rfl),(World.cell?_of_block (w:=wr) (h.block w.heap.size (by omega))).trans (BB 2 _ rfl)⟩
    have LW:=LQ9
    go_wp2_with fail
    refine wp_region_noPanic (wp_region_guard (Till 10 10 (fun w'=>w'.cell? ⟨w.heap.size,0,none⟩ = some (.bool p)∧w'.cell? ⟨w.heap.size,1,none⟩ = some (.slice a na ca)∧w'.cell? ⟨w.heap.size,2,none⟩ = some (.slice d nd cd)) (fun _=>True)) (by as_aux_lemma=>kernel_rfl) ?_)
    have hc0:Below wr.heap.size wr wr.drew:=bel_d1 _
    generalize wr.drew = z0 at *
    refine wpAnyG.take 0 (v:=.slice ua um uc) (by decide) (by as_aux_lemma=>kernel_rfl) (fun _ _ _ h=>h) 10 _ (by rfl) (till_ind (by decide) (by decide)) (fun L w' h1 h2=>h2.1 h1) (by as_aux_lemma=>kernel_rfl) (by as_aux_lemma=>kernel_rfl) (by as_aux_lemma=>kernel_rfl) (by rfl) ?y0 ⟨fun _=>HBX _ (hc0.mono (by omega)),fun _=>trivial⟩ (by rfl) ?_
    case y0 =>
     rintro w' ⟨q0,q1,q2⟩
     simp only [lgA,lgZ]
     go_simp
    simp only [lgA,lgZ,Act.put,lsA,lsZ,lsS]
    refine wpAnyG.take 1 (v:=.int .i64 (art:Nat)) (by decide) (by as_aux_lemma=>kernel_rfl) (fun _ _ _ h=>h) 10 _ (by rfl) (till_ind (by decide) (by decide)) (fun L w' h1 h2=>h2.1 h1) (by as_aux_lemma=>kernel_rfl) (by as_aux_lemma=>kernel_rfl) (by as_aux_lemma=>kernel_rfl) (by rfl) ?y1 ⟨fun _=>HBX _ (hc0.mono (by omega)),fun _=>trivial⟩ (by rfl) ?_
    case y1 =>
     rintro w' ⟨q0,q1,q2⟩
     simp only [lgA,lgZ,lgS]
     go_simp
    simp only [lgA,lgZ,lgS,Act.put,lsA,lsZ,lsS]
    refine wpAnyG.take 4 (v:=.func (.func 57) #[] #[]) (by decide) (by as_aux_lemma=>kernel_rfl) (fun _ _ _ h=>h) 10 _ (by rfl) (till_ind (by decide) (by decide)) (fun L w' h1 h2=>h2.1 h1) (by as_aux_lemma=>kernel_rfl) (by as_aux_lemma=>kernel_rfl) (by as_aux_lemma=>kernel_rfl) (by rfl) ?y4 ⟨fun _=>HBX _ (hc0.mono (by omega)),fun _=>trivial⟩ (by rfl) ?_
    case y4 =>
     rintro w' ⟨q0,q1,q2⟩
     simp only [lgA,lgZ,lgS]
     go_simp
    simp only [lgA,lgZ,lgS,Act.put,lsA,lsZ,lsS]
    refine wpAnyG.take 5 (v:=.agg #[.bool p,.slice a na ca,.slice d nd cd]) (by decide) (by as_aux_lemma=>kernel_rfl) (fun _ _ _ h=>h) 10 _ (by rfl) (till_ind (by decide) (by decide)) (fun L w' h1 h2=>h2.1 h1) (by as_aux_lemma=>kernel_rfl) (by as_aux_lemma=>kernel_rfl) (by as_aux_lemma=>kernel_rfl) (by rfl) ?y5 ⟨fun _=>HBX _ (hc0.mono (by omega)),fun _=>trivial⟩ (by rfl) ?_
    case y5 =>
     rintro w' ⟨q0,q1,q2⟩
     simp only [lgA,lgZ,lgS]
     go_simp
    simp only [lgA,lgZ,lgS,Act.put,lsA,lsZ,lsS]
    refine wpAnyG.take 7 (v:=.int .i64 (art:Nat)) (by decide) (by as_aux_lemma=>kernel_rfl) (fun _ _ _ h=>h) 10 _ (by rfl) (till_ind (by decide) (by decide)) (fun L w' h1 h2=>h2.1 h1) (by as_aux_lemma=>kernel_rfl) (by as_aux_lemma=>kernel_rfl) (by as_aux_lemma=>kernel_rfl) (by rfl) ?y7 ⟨fun _=>HBX _ (hc0.mono (by omega)),fun _=>trivial⟩ (by rfl) ?_
    case y7 =>
     rintro w' ⟨q0,q1,q2⟩
     simp only [lgA,lgZ,lgS]
     go_simp
    simp only [lgA,lgZ,lgS,Act.put,lsA,lsZ,lsS]
    refine wpAnyG.take 8 (v:=.bool true) (by decide) (by as_aux_lemma=>kernel_rfl) (fun _ _ _ h=>h) 10 _ (by rfl) (till_ind (by decide) (by decide)) (fun L w' h1 h2=>h2.1 h1) (by as_aux_lemma=>kernel_rfl) (by as_aux_lemma=>kernel_rfl) (by as_aux_lemma=>kernel_rfl) (by rfl) ?y8 ⟨fun _=>HBX _ (hc0.mono (by omega)),fun _=>trivial⟩ (by rfl) ?_
    case y8 =>
     rintro w' ⟨q0,q1,q2⟩
     simp only [lgA,lgZ,lgS]
     go_simp
    simp only [lgA,lgZ,lgS,Act.put,lsA,lsZ,lsS]
    refine wpAnyG.one 2 (by as_aux_lemma=>kernel_rfl) (by decide) (by rfl) (fun K hK=>?_)
    simp only [lgA,lgZ,lgS]
    go_simp
    refine (ofQ 1 z0 (by decide) (by decide)).mono ?_
    rintro e z1 ⟨f4,c4,n4,k4,d4,m4,l4,rfl,G4,hk1⟩
    have hc1:Below wr.heap.size wr z1:=bel_tr hc0 hk1
    have L1:=LW.below hc1
    dsimp only
    refine hK _ _ ⟨fun _=>HBX _ (hc1.mono (by omega)),fun _=>trivial⟩ ?_
    clear hK K
    refine wpAnyG.one 3 (by as_aux_lemma=>kernel_rfl) (by decide) (by rfl) (fun K hK=>?_)
    simp only [lgA,lgZ,lgS]
    go_simp
    refine (withB art z1 L1 (by have:=Below.size hc1;omega) ((G4.mono (Nat.zero_le _)).le hS.1) ⟨hS.1,by omega⟩ (by rw [← HUM.out];omega)).mono ?_
    rintro e z2 ⟨v9,rfl,L9,hg9,ho9⟩
    obtain ⟨ya,yn,yc,rfl⟩:∃ ya yn yc,v9 = Value.slice ya yn yc:=by obtain ⟨q1,q2,e,_⟩:=L9.form;exact ⟨_,_,_,e⟩
    have hc2:Below (w.heap.size + 2) wr z2:=(hc1.mono hwr2).grown hg9 (by have:=hc1.size;omega) (fun k hk=>(L1.lt k hk).1)
    have hbz:=hbw.trans (hc2.mono (by omega))
    dsimp only
    refine hK _ _ ⟨fun _=>HBX _ (hc2.mono (by omega)),fun _=>trivial⟩ ?_
    clear hK K
    refine wpAnyG.one 6 (by as_aux_lemma=>kernel_rfl) (by decide) (by rfl) (fun K hK=>?_)
    simp only [lgA,lgZ,lgS]
    refine wp_sense _ _ _ rfl sf_neg rfl rfl (hr.below hbz) (by omega) hS.1 (hT.below hbz) ?_
    intro f5 c5 n5 k5 d5 m5 l5 z3 G5 hk3
    have hb3:=bel_tr hbz hk3
    have L3:=L9.below hk3
    have RX2:Rw 67 z2 (w.heap.size + 1) #[.slice none 0 0,.bool false,.slice none 0 0,.slice none 0 0,.int .i64 0,.bool false]:=(hc2.block _ (by omega)).trans RR
    have RX:=RX2.below hk3
    have hd3:Below (w.heap.size + 1) wr z3:=(hc2.mono (by omega)).trans (hk3.mono (by have:=hc2.size;omega))
    refine hK _ _ ⟨fun _=>HBX _ hd3,fun _=>trivial⟩ ?_
    clear hK K
    refine wpAnyG.one 9 (by as_aux_lemma=>kernel_rfl) (by decide) (by rfl) (fun K hK=>?_)
    simp only [lgA,lgZ,lgS]
    go_simp
    refine hK _ _ ⟨fun _=>HBX _ hd3,fun _=>trivial⟩ ?_
    clear hK K
    refine wpAnyG.one 10 (by as_aux_lemma=>kernel_rfl) (by decide) (by rfl) (fun K hK=>?_)
    simp only [lgA,lgZ,lgS]
    have k0:=(RX.cell 0).trans (show _ = some (.slice none 0 0) from rfl)
    have k1:=(RX.cell 1).trans (show _ = some (.bool false) from rfl)
    have k2:=(RX.cell 2).trans (show _ = some (.slice none 0 0) from rfl)
    have k3:=(RX.cell 3).trans (show _ = some (.slice none 0 0) from rfl)
    have k4:=(RX.cell 4).trans (show _ = some (.int .i64 0) from rfl)
    have k5':=(RX.cell 5).trans (show _ = some (.bool false) from rfl)
    have f0:=RX.frozen 0
    have f1:=RX.frozen 1
    have f2:=RX.frozen 2
    have f3:=RX.frozen 3
    have f4':=RX.frozen 4
    have f5':=RX.frozen 5
    go_simp
    refine hK _ _ ⟨fun h=>absurd h (by decide),fun _=>trivial⟩ ?_
    clear hK K
    refine wpAnyG.done (by as_aux_lemma=>kernel_rfl) (NoPanic.normal ?_)
    obtain ⟨RN,O⟩:=RX.set6 (.slice ya yn yc) (.bool f5) (.slice c5 n5 k5) (.slice d5 m5 l5) (.int .i64 (art:Nat)) (.bool true)
    have hnw:NoW z3 (some (w.heap.size + 1)):=RX.noW (by decide)
    have GN:=(G5.mono (Nat.zero_le _)).keep hnw O.grown
    have LN:LnE ((((((z3.setCell ⟨w.heap.size + 1,0,none⟩ (.slice ya yn yc)).setCell ⟨w.heap.size + 1,1,none⟩ (.bool f5)).setCell ⟨w.heap.size + 1,2,none⟩ (.slice c5 n5 k5)).setCell ⟨w.heap.size + 1,3,none⟩ (.slice d5 m5 l5)).setCell ⟨w.heap.size + 1,4,none⟩ (.int .i64 (art:Nat))).setCell ⟨w.heap.size + 1,5,none⟩ (.bool true)) w.heap.size (.slice ya yn yc) (fln true Y q art) S:=by
     obtain ⟨D,s1,s2⟩:=L3
     exact ⟨D,(s1.kept O.grown (fun g e e2=>by cases e2;have:=(s1.lt _ e).1;omega)).mono (by omega),fun i e he=>(s2 i e he).keep hnw O.grown⟩
    have hbn:=hb3.trans (O.below (by omega))
    have HP:FrP w true Y q art r S (.returned (.agg #[.slice ya yn yc,.bool f5,.slice c5 n5 k5,.slice d5 m5 l5,.int .i64 (art:Nat),.bool true])) ((((((z3.setCell ⟨w.heap.size + 1,0,none⟩ (.slice ya yn yc)).setCell ⟨w.heap.size + 1,1,none⟩ (.bool f5)).setCell ⟨w.heap.size + 1,2,none⟩ (.slice c5 n5 k5)).setCell ⟨w.heap.size + 1,3,none⟩ (.slice d5 m5 l5)).setCell ⟨w.heap.size + 1,4,none⟩ (.int .i64 (art:Nat))).setCell ⟨w.heap.size + 1,5,none⟩ (.bool true)):=⟨_,_,_,_,_,_,_,_,rfl,LN,GN,hbn⟩
    have j0:=(RN.cell 0).trans (show _ = some (.slice ya yn yc) from rfl)
    have j1:=(RN.cell 1).trans (show _ = some (.bool f5) from rfl)
    have j2:=(RN.cell 2).trans (show _ = some (.slice c5 n5 k5) from rfl)
    have j3:=(RN.cell 3).trans (show _ = some (.slice d5 m5 l5) from rfl)
    have j4:=(RN.cell 4).trans (show _ = some (.int .i64 (art:Nat)) from rfl)
    have j5:=(RN.cell 5).trans (show _ = some (.bool true) from rfl)
    clear GN LN hbn O hnw RN RX RX2 L3 L9 L1 LW LQ9 HBX G5 G4 hc0 hc1 hc2 hk1 hk3 hd3 hb3 hbz hg9 ho9 RR BB k0 k1 k2 k3 k4 k5' f0 f1 f2 f3 f4' f5'
    go_wp2
    exact bodyPost_ret (v:=.agg #[.slice ya yn yc,.bool f5,.slice c5 n5 k5,.slice d5 m5 l5,.int .i64 (art:Nat),.bool true]) (by simp [results,Tryz.results40,go_sem,j0,j1,j2,j3,j4,j5]) rfl HP
 ·obtain rfl:s = false:=by rw [hs];exact decide_eq_false hn
  clear hs
  have hn':0≤sg:=by omega
  have hfe:=sf_norm.fn
  go_wp2
  go_loopw [18,9] (fun sq sl wr=>∃ (q:Nat) (v:Value),q≤k∧sq = .int .i64 q∧sl = v∧LnE wr (w.heap.size + 2) v (lco (fun c=>dsg false (Y c)) q) S∧Rw 67 wr (w.heap.size + 1) #[.slice none 0 0,.bool false,.slice none 0 0,.slice none 0 0,.int .i64 0,.bool false]∧BoxC wr w.heap.size [.bool p,.slice a na ca,.slice d nd cd]∧Below w.heap.size w wr∧w.heap.size + 2≤wr.heap.size) (fun x _ _=>k - (intOf x).toNat)
  case atStart=>exact ⟨0,_,Nat.zero_le _,rfl,rfl,LnE.nil _ _ _,R1,B1,hb1,hs1⟩
  case round =>
   clear R1 hb1 hs1 B1
   obtain ⟨q,v,hq,rfl,rfl,LQ9,RR,BB,hbw,hwr2⟩:=hrel
   obtain ⟨ua,uc,ev,_⟩:=LQ9.form
   obtain ⟨um,eum⟩:∃ um,um = (lco (fun c=>dsg false (Y c)) q).length:=⟨_,rfl⟩
   have HUM:Hid (um = (lco (fun c=>dsg false (Y c)) q).length):=eum
   have hum:um≤3000000:=by rw [eum];have:=(lco_ok (fun c=>dsg false (Y c)) q).1.len q (lco_ok (fun c=>dsg false (Y c)) q).2;omega
   rw [← eum] at ev
   subst ev
   clear eum
   by_cases hlt:q < k
   ·have hqI:(q:Int) < (k:Int):=by omega
    have hq0:¬ (q:Int) < 0:=by omega
    have hq3:(q:Int) * 3 = ((q * 3:Nat):Int):=by omega
    rcases hL.below hbw with h0 | ⟨eb,eo,ega,hel⟩
    ·omega
    obtain ⟨ep,ea,en,ec,ed,em,ee,c0,c1,c2,hre⟩:=hel q hlt
    subst ega
    have hz:=bel_d0 wr (.cells #[.bool ep,.slice ea en ec,.slice ed em ee] 29)
    have BX:=box_new wr #[.bool ep,.slice ea en ec,.slice ed em ee] 29
    have hsW:(wr.alloc (.cells #[.bool ep,.slice ea en ec,.slice ed em ee] 29)).heap.size = wr.heap.size + 1:=by simp
    have b0:=BX 0 _ rfl
    have b1:=BX 1 _ rfl
    have b2:=BX 2 _ rfl
    have LW:=LQ9.below hz
    have G:=hre.below hz
    have hbz:=bel_tr hbw hz
    have RZ:=RR.below hz
    clear hel hre BX
    go_wp2_with fail
    clear c0 c1 c2 b0 b1 b2
    generalize wr.alloc (.cells #[.bool ep,.slice ea en ec,.slice ed em ee] 29) = W2 at *
    refine (sf_norm.call W2 G (by omega) hS.1 (hT.below hbz)).mono ?_
    rintro e w2 ⟨f5,c5,n5,k5,d5,m5,l5,rfl,G5,h5⟩
    have h5s:=h5.size
    go_wp2_with fail
    refine (withB q w2 (LW.below h5) (by omega) (G5.mono (Nat.zero_le _)) ⟨hS.1,by omega⟩ (by rw [← HUM.out];omega)).mono ?_
    rintro e w3 ⟨v9,rfl,L9,hg9,ho9⟩
    have hl9:=(LW.below h5).lt
    have hc9:Below (w.heap.size + 2) w2 w3:=(Below.refl _ _).grown hg9 (by omega) (fun k hk=>(hl9 k hk).1)
    have hb9:=(bel_tr hbz h5).trans (hc9.mono (by omega))
    have R9:Rw 67 w3 (w.heap.size + 1) #[.slice none 0 0,.bool false,.slice none 0 0,.slice none 0 0,.int .i64 0,.bool false]:=(hc9.block _ (by omega)).trans (RZ.below h5)
    have BB9:BoxC w3 w.heap.size [.bool p,.slice a na ca,.slice d nd cd]:=fun i u hu=>(World.cell?_of_block (w:=w2) (hc9.block w.heap.size (by omega))).trans (kept_c (bel_tr hz h5) (BB i u hu))
    have hs9:w.heap.size + 2≤w3.heap.size:=by have:=hc9.size;omega
    clear LQ9 LW RR RZ G G5 hg9 ho9 hl9 hc9 hbz hbw hz h5
    go_wp2
    go_roundw
    case rel=>first | exact ⟨q + 1,v9,by omega,by go_num,rfl,L9,R9,BB9,hb9,hs9⟩ | ((repeat apply Exists.intro);refine ⟨?_,rfl⟩;exact ⟨q + 1,v9,by omega,by go_num,rfl,L9,R9,BB9,hb9,hs9⟩)
    case measure=>simp [intOf];omega
   ·have hqI:¬ (q:Int) < (k:Int):=by omega
    obtain rfl:q = k:=by omega
    have HBX:∀ w',Below (w.heap.size + 1) wr w'→(w'.cell? ⟨w.heap.size,0,none⟩ = some (.bool p)∧w'.cell? ⟨w.heap.size,1,none⟩ = some (.slice a na ca)∧w'.cell? ⟨w.heap.size,2,none⟩ = some (.slice d nd cd)):=fun w' h=>⟨(World.cell?_of_block (w:=wr) (h.block w.heap.size (by omega))).trans (BB 0 _ rfl),(World.cell?_of_block (w:=wr) (h.block w.heap.size (by omega))).trans (BB 1 _ rfl),(World.cell?_of_block (w:=wr) (h.block w.heap.size (by omega))).trans (BB 2 _ rfl)⟩
    have LW:=LQ9
    go_wp2_with fail
    refine wp_region_noPanic (wp_region_guard (Till 10 10 (fun w'=>w'.cell? ⟨w.heap.size,0,none⟩ = some (.bool p)∧w'.cell? ⟨w.heap.size,1,none⟩ = some (.slice a na ca)∧w'.cell? ⟨w.heap.size,2,none⟩ = some (.slice d nd cd)) (fun _=>True)) (by as_aux_lemma=>kernel_rfl) ?_)
    have hc0:Below wr.heap.size wr wr.drew:=bel_d1 _
    generalize wr.drew = z0 at *
    refine wpAnyG.take 0 (v:=.slice ua um uc) (by decide) (by as_aux_lemma=>kernel_rfl) (fun _ _ _ h=>h) 10 _ (by rfl) (till_ind (by decide) (by decide)) (fun L w' h1 h2=>h2.1 h1) (by as_aux_lemma=>kernel_rfl) (by as_aux_lemma=>kernel_rfl) (by as_aux_lemma=>kernel_rfl) (by rfl) ?y0 ⟨fun _=>HBX _ (hc0.mono (by omega)),fun _=>trivial⟩ (by rfl) ?_
    case y0 =>
     rintro w' ⟨q0,q1,q2⟩
     simp only [lgA,lgZ]
     go_simp
    simp only [lgA,lgZ,Act.put,lsA,lsZ,lsS]
    refine wpAnyG.take 1 (v:=.int .i64 (art:Nat)) (by decide) (by as_aux_lemma=>kernel_rfl) (fun _ _ _ h=>h) 10 _ (by rfl) (till_ind (by decide) (by decide)) (fun L w' h1 h2=>h2.1 h1) (by as_aux_lemma=>kernel_rfl) (by as_aux_lemma=>kernel_rfl) (by as_aux_lemma=>kernel_rfl) (by rfl) ?y1 ⟨fun _=>HBX _ (hc0.mono (by omega)),fun _=>trivial⟩ (by rfl) ?_
    case y1 =>
     rintro w' ⟨q0,q1,q2⟩
     simp only [lgA,lgZ,lgS]
     go_simp
    simp only [lgA,lgZ,lgS,Act.put,lsA,lsZ,lsS]
    refine wpAnyG.take 4 (v:=.func (.func 34) #[] #[]) (by decide) (by as_aux_lemma=>kernel_rfl) (fun _ _ _ h=>h) 10 _ (by rfl) (till_ind (by decide) (by decide)) (fun L w' h1 h2=>h2.1 h1) (by as_aux_lemma=>kernel_rfl) (by as_aux_lemma=>kernel_rfl) (by as_aux_lemma=>kernel_rfl) (by rfl) ?y4 ⟨fun _=>HBX _ (hc0.mono (by omega)),fun _=>trivial⟩ (by rfl) ?_
    case y4 =>
     rintro w' ⟨q0,q1,q2⟩
     simp only [lgA,lgZ,lgS]
     go_simp
    simp only [lgA,lgZ,lgS,Act.put,lsA,lsZ,lsS]
    refine wpAnyG.take 5 (v:=.agg #[.bool p,.slice a na ca,.slice d nd cd]) (by decide) (by as_aux_lemma=>kernel_rfl) (fun _ _ _ h=>h) 10 _ (by rfl) (till_ind (by decide) (by decide)) (fun L w' h1 h2=>h2.1 h1) (by as_aux_lemma=>kernel_rfl) (by as_aux_lemma=>kernel_rfl) (by as_aux_lemma=>kernel_rfl) (by rfl) ?y5 ⟨fun _=>HBX _ (hc0.mono (by omega)),fun _=>trivial⟩ (by rfl) ?_
    case y5 =>
     rintro w' ⟨q0,q1,q2⟩
     simp only [lgA,lgZ,lgS]
     go_simp
    simp only [lgA,lgZ,lgS,Act.put,lsA,lsZ,lsS]
    refine wpAnyG.take 7 (v:=.int .i64 (art:Nat)) (by decide) (by as_aux_lemma=>kernel_rfl) (fun _ _ _ h=>h) 10 _ (by rfl) (till_ind (by decide) (by decide)) (fun L w' h1 h2=>h2.1 h1) (by as_aux_lemma=>kernel_rfl) (by as_aux_lemma=>kernel_rfl) (by as_aux_lemma=>kernel_rfl) (by rfl) ?y7 ⟨fun _=>HBX _ (hc0.mono (by omega)),fun _=>trivial⟩ (by rfl) ?_
    case y7 =>
     rintro w' ⟨q0,q1,q2⟩
     simp only [lgA,lgZ,lgS]
     go_simp
    simp only [lgA,lgZ,lgS,Act.put,lsA,lsZ,lsS]
    refine wpAnyG.take 8 (v:=.bool false) (by decide) (by as_aux_lemma=>kernel_rfl) (fun _ _ _ h=>h) 10 _ (by rfl) (till_ind (by decide) (by decide)) (fun L w' h1 h2=>h2.1 h1) (by as_aux_lemma=>kernel_rfl) (by as_aux_lemma=>kernel_rfl) (by as_aux_lemma=>kernel_rfl) (by rfl) ?y8 ⟨fun _=>HBX _ (hc0.mono (by omega)),fun _=>trivial⟩ (by rfl) ?_
    case y8 =>
     rintro w' ⟨q0,q1,q2⟩
     simp only [lgA,lgZ,lgS]
     go_simp
    simp only [lgA,lgZ,lgS,Act.put,lsA,lsZ,lsS]
    refine wpAnyG.one 2 (by as_aux_lemma=>kernel_rfl) (by decide) (by rfl) (fun K hK=>?_)
    simp only [lgA,lgZ,lgS]
    go_simp
    refine (ofQ 1 z0 (by decide) (by decide)).mono ?_
    rintro e z1 ⟨f4,c4,n4,k4,d4,m4,l4,rfl,G4,hk1⟩
    have hc1:Below wr.heap.size wr z1:=bel_tr hc0 hk1
    have L1:=LW.below hc1
    dsimp only
    refine hK _ _ ⟨fun _=>HBX _ (hc1.mono (by omega)),fun _=>trivial⟩ ?_
    clear hK K
    refine wpAnyG.one 3 (by as_aux_lemma=>kernel_rfl) (by decide) (by rfl) (fun K hK=>?_)
    simp only [lgA,lgZ,lgS]
    go_simp
    refine (withB art z1 L1 (by have:=Below.size hc1;omega) ((G4.mono (Nat.zero_le _)).le hS.1) ⟨hS.1,by omega⟩ (by rw [← HUM.out];omega)).mono ?_
    rintro e z2 ⟨v9,rfl,L9,hg9,ho9⟩
    obtain ⟨ya,yn,yc,rfl⟩:∃ ya yn yc,v9 = Value.slice ya yn yc:=by obtain ⟨q1,q2,e,_⟩:=L9.form;exact ⟨_,_,_,e⟩
    have hc2:Below (w.heap.size + 2) wr z2:=(hc1.mono hwr2).grown hg9 (by have:=hc1.size;omega) (fun k hk=>(L1.lt k hk).1)
    have hbz:=hbw.trans (hc2.mono (by omega))
    dsimp only
    refine hK _ _ ⟨fun _=>HBX _ (hc2.mono (by omega)),fun _=>trivial⟩ ?_
    clear hK K
    refine wpAnyG.one 6 (by as_aux_lemma=>kernel_rfl) (by decide) (by rfl) (fun K hK=>?_)
    simp only [lgA,lgZ,lgS]
    refine wp_sense _ _ _ rfl sf_norm rfl rfl (hr.below hbz) (by omega) hS.1 (hT.below hbz) ?_
    intro f5 c5 n5 k5 d5 m5 l5 z3 G5 hk3
    have hb3:=bel_tr hbz hk3
    have L3:=L9.below hk3
    have RX2:Rw 67 z2 (w.heap.size + 1) #[.slice none 0 0,.bool false,.slice none 0 0,.slice none 0 0,.int .i64 0,.bool false]:=(hc2.block _ (by omega)).trans RR
    have RX:=RX2.below hk3
    have hd3:Below (w.heap.size + 1) wr z3:=(hc2.mono (by omega)).trans (hk3.mono (by have:=hc2.size;omega))
    refine hK _ _ ⟨fun _=>HBX _ hd3,fun _=>trivial⟩ ?_
    clear hK K
    refine wpAnyG.one 9 (by as_aux_lemma=>kernel_rfl) (by decide) (by rfl) (fun K hK=>?_)
    simp only [lgA,lgZ,lgS]
    go_simp
    refine hK _ _ ⟨fun _=>HBX _ hd3,fun _=>trivial⟩ ?_
    clear hK K
    refine wpAnyG.one 10 (by as_aux_lemma=>kernel_rfl) (by decide) (by rfl) (fun K hK=>?_)
    simp only [lgA,lgZ,lgS]
    have k0:=(RX.cell 0).trans (show _ = some (.slice none 0 0) from rfl)
    have k1:=(RX.cell 1).trans (show _ = some (.bool false) from rfl)
    have k2:=(RX.cell 2).trans (show _ = some (.slice none 0 0) from rfl)
    have k3:=(RX.cell 3).trans (show _ = some (.slice none 0 0) from rfl)
    have k4:=(RX.cell 4).trans (show _ = some (.int .i64 0) from rfl)
    have k5':=(RX.cell 5).trans (show _ = some (.bool false) from rfl)
    have f0:=RX.frozen 0
    have f1:=RX.frozen 1
    have f2:=RX.frozen 2
    have f3:=RX.frozen 3
    have f4':=RX.frozen 4
    have f5':=RX.frozen 5
    go_simp
    refine hK _ _ ⟨fun h=>absurd h (by decide),fun _=>trivial⟩ ?_
    clear hK K
    refine wpAnyG.done (by as_aux_lemma=>kernel_rfl) (NoPanic.normal ?_)
    obtain ⟨RN,O⟩:=RX.set6 (.slice ya yn yc) (.bool f5) (.slice c5 n5 k5) (.slice d5 m5 l5) (.int .i64 (art:Nat)) (.bool false)
    have hnw:NoW z3 (some (w.heap.size + 1)):=RX.noW (by decide)
    have GN:=(G5.mono (Nat.zero_le _)).keep hnw O.grown
    have LN:LnE ((((((z3.setCell ⟨w.heap.size + 1,0,none⟩ (.slice ya yn yc)).setCell ⟨w.heap.size + 1,1,none⟩ (.bool f5)).setCell ⟨w.heap.size + 1,2,none⟩ (.slice c5 n5 k5)).setCell ⟨w.heap.size + 1,3,none⟩ (.slice d5 m5 l5)).setCell ⟨w.heap.size + 1,4,none⟩ (.int .i64 (art:Nat))).setCell ⟨w.heap.size + 1,5,none⟩ (.bool false)) w.heap.size (.slice ya yn yc) (fln false Y q art) S:=by
     obtain ⟨D,s1,s2⟩:=L3
     exact ⟨D,(s1.kept O.grown (fun g e e2=>by cases e2;have:=(s1.lt _ e).1;omega)).mono (by omega),fun i e he=>(s2 i e he).keep hnw O.grown⟩
    have hbn:=hb3.trans (O.below (by omega))
    have HP:FrP w false Y q art r S (.returned (.agg #[.slice ya yn yc,.bool f5,.slice c5 n5 k5,.slice d5 m5 l5,.int .i64 (art:Nat),.bool false])) ((((((z3.setCell ⟨w.heap.size + 1,0,none⟩ (.slice ya yn yc)).setCell ⟨w.heap.size + 1,1,none⟩ (.bool f5)).setCell ⟨w.heap.size + 1,2,none⟩ (.slice c5 n5 k5)).setCell ⟨w.heap.size + 1,3,none⟩ (.slice d5 m5 l5)).setCell ⟨w.heap.size + 1,4,none⟩ (.int .i64 (art:Nat))).setCell ⟨w.heap.size + 1,5,none⟩ (.bool false)):=⟨_,_,_,_,_,_,_,_,rfl,LN,GN,hbn⟩
    have j0:=(RN.cell 0).trans (show _ = some (.slice ya yn yc) from rfl)
    have j1:=(RN.cell 1).trans (show _ = some (.bool f5) from rfl)
    have j2:=(RN.cell 2).trans (show _ = some (.slice c5 n5 k5) from rfl)
    have j3:=(RN.cell 3).trans (show _ = some (.slice d5 m5 l5) from rfl)
    have j4:=(RN.cell 4).trans (show _ = some (.int .i64 (art:Nat)) from rfl)
    have j5:=(RN.cell 5).trans (show _ = some (.bool false) from rfl)
    clear GN LN hbn O hnw RN RX RX2 L3 L9 L1 LW LQ9 HBX G5 G4 hc0 hc1 hc2 hk1 hk3 hd3 hb3 hbz hg9 ho9 RR BB k0 k1 k2 k3 k4 k5' f0 f1 f2 f3 f4' f5'
    go_wp2
    exact bodyPost_ret (v:=.agg #[.slice ya yn yc,.bool f5,.slice c5 n5 k5,.slice d5 m5 l5,.int .i64 (art:Nat),.bool false]) (by simp [results,Tryz.results40,go_sem,j0,j1,j2,j3,j4,j5]) rfl HP
end Go.Proofs.YtjiodidemimgmaaGreatDoor
