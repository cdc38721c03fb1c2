import Derived.Test.YtnkpbjmfdfjeiaaGreatDoorSoCAll
namespace Go.Proofs.YtnkpbjmfdfjeiaaGreatDoor
open Go.RowKit
def SmE (w:World) (ga gb i:Nat):Prop:=∃ f1 c1 n1 k1 d1 m1 l1 f2 c2 k2 d2 l2 r,w.cell? ⟨ga,i * 3,none⟩ = some (.bool f1)∧w.cell? ⟨ga,i * 3 + 1,none⟩ = some (.slice c1 n1 k1)∧w.cell? ⟨ga,i * 3 + 2,none⟩ = some (.slice d1 m1 l1)∧w.cell? ⟨gb,i * 3,none⟩ = some (.bool f2)∧w.cell? ⟨gb,i * 3 + 1,none⟩ = some (.slice c2 n1 k2)∧w.cell? ⟨gb,i * 3 + 2,none⟩ = some (.slice d2 m1 l2)∧TR w f1 c1 n1 k1 d1 m1 l1 r 5000000∧TR w f2 c2 n1 k2 d2 m1 l2 r 5000000
theorem SmE.below {w w':World} {ga gb i:Nat} (h:SmE w ga gb i) (hb:Below w.heap.size w w'):SmE w' ga gb i:=by
 obtain ⟨f1,c1,n1,k1,d1,m1,l1,f2,c2,k2,d2,l2,r,h1,h2,h3,h4,h5,h6,h7,h8⟩:=h
 exact ⟨f1,c1,n1,k1,d1,m1,l1,f2,c2,k2,d2,l2,r,kept_c hb h1,kept_c hb h2,kept_c hb h3,kept_c hb h4,kept_c hb h5,kept_c hb h6,h7.below hb,h8.below hb⟩
set_option maxRecDepth 100000 in
set_option maxHeartbeats 16000000 in
theorem sameLQ {a b:Option Addr} {n ca cb:Nat} (w:World) (hn:n≤10000000) (h:n = 0∨∃ ga gb,a = some ⟨ga,0,none⟩∧b = some ⟨gb,0,none⟩∧∀ i,i < n→SmE w ga gb i) :
  Calls Tryz.prog 10 #[.slice a n ca,.slice b n cb] w fun e w'=>e = .returned (.bool true)∧Below w.heap.size w w':=by
 have HH:Hid (n = 0∨∃ ga gb,a = some ⟨ga,0,none⟩∧b = some ⟨gb,0,none⟩∧∀ i,i < n→SmE w ga gb i):=h
 clear h
 go_enter Tryz.func10,Tryz.ntmps10
 go_wp2
 go_loopw [5] (fun s5 wr=>∃ (i:Nat),i≤n∧s5 = .int .i64 i∧Below w.heap.size w wr) (fun s5 _=>n - (intOf s5).toNat)
 case atStart=>exact ⟨0,Nat.zero_le _,rfl,Below.refl _ _⟩
 case round =>
  obtain ⟨i,hi,rfl,hbr⟩:=hrel
  by_cases hlt:i < n
  ·have hkI:(i:Int) < (n:Int):=by omega
   rcases HH.out with h0 | ⟨ga,gb,rfl,rfl,hS⟩
   ·omega
   obtain ⟨f1,c1,n1,k1,d1,m1,l1,f2,c2,k2,d2,l2,r,h1,h2,h3,h4,h5,h6,T1,T2⟩:=(hS i hlt).below hbr
   have hkI3:(i:Int) * 3 = ((i * 3:Nat):Int):=by omega
   clear hS HH
   go_wp2_with fail
   have HBX:∀ w',Below wr.heap.size wr w'→w'.cell? ⟨ga,i * 3,none⟩ = some (.bool f1)∧w'.cell? ⟨ga,i * 3 + 1,none⟩ = some (.slice c1 n1 k1)∧w'.cell? ⟨ga,i * 3 + 2,none⟩ = some (.slice d1 m1 l1)∧w'.cell? ⟨gb,i * 3,none⟩ = some (.bool f2)∧w'.cell? ⟨gb,i * 3 + 1,none⟩ = some (.slice c2 n1 k2)∧w'.cell? ⟨gb,i * 3 + 2,none⟩ = some (.slice d2 m1 l2):=fun w' h=>⟨kept_c h h1,kept_c h h2,kept_c h h3,kept_c h h4,kept_c h h5,kept_c h h6⟩
   obtain ⟨tx,htx⟩:∃ tx,txtQ r = tx:=⟨_,rfl⟩
   refine wp_region_noPanic (wp_region_guard (fun _ w'=>w'.cell? ⟨ga,i * 3,none⟩ = some (.bool f1)∧w'.cell? ⟨ga,i * 3 + 1,none⟩ = some (.slice c1 n1 k1)∧w'.cell? ⟨ga,i * 3 + 2,none⟩ = some (.slice d1 m1 l1)∧w'.cell? ⟨gb,i * 3,none⟩ = some (.bool f2)∧w'.cell? ⟨gb,i * 3 + 1,none⟩ = some (.slice c2 n1 k2)∧w'.cell? ⟨gb,i * 3 + 2,none⟩ = some (.slice d2 m1 l2)) (by as_aux_lemma=>kernel_rfl) ?_)
   have hc0:Below wr.heap.size wr wr.drew:=bel_d1 _
   generalize wr.drew = z0 at *
   refine wpAnyG.tA 0 (v:=.slice (some ⟨ga,0,none⟩) n ca) (by decide) 2 (by as_aux_lemma=>kernel_rfl) (by rfl) ?y0 (HBX _ hc0) ?_
   case y0 =>
    rintro w' ⟨q0,q1,q2,q3,q4,q5⟩
    simp only [lgA,lgZ]
    go_simp
   simp only [lgA,lgZ,Act.put,lsA,lsZ,lsS]
   refine wpAnyG.tA 1 (v:=.int .i64 (i:Int)) (by decide) 2 (by as_aux_lemma=>kernel_rfl) (by rfl) ?y1 (HBX _ hc0) ?_
   case y1 =>
    rintro w' ⟨q0,q1,q2,q3,q4,q5⟩
    simp only [lgA,lgZ,lgS]
    go_simp
   simp only [lgA,lgZ,lgS,Act.put,lsA,lsZ,lsS]
   refine wpAnyG.tA 2 (v:=.pointer (some ⟨ga,i * 3,none⟩)) (by decide) 3 (by as_aux_lemma=>kernel_rfl) (by rfl) ?y2 (HBX _ hc0) ?_
   case y2 =>
    rintro w' ⟨q0,q1,q2,q3,q4,q5⟩
    simp only [lgA,lgZ,lgS]
    go_simp
   simp only [lgA,lgZ,lgS,Act.put,lsA,lsZ,lsS]
   refine wpAnyG.tA 3 (v:=.agg #[.bool f1,.slice c1 n1 k1,.slice d1 m1 l1]) (by decide) 4 (by as_aux_lemma=>kernel_rfl) (by rfl) ?y3 (HBX _ hc0) ?_
   case y3 =>
    rintro w' ⟨q0,q1,q2,q3,q4,q5⟩
    simp only [lgA,lgZ,lgS]
    go_simp
   simp only [lgA,lgZ,lgS,Act.put,lsA,lsZ,lsS]
   refine wpAnyG.tA 5 (v:=.slice (some ⟨gb,0,none⟩) n cb) (by decide) 7 (by as_aux_lemma=>kernel_rfl) (by rfl) ?y5 (HBX _ hc0) ?_
   case y5 =>
    rintro w' ⟨q0,q1,q2,q3,q4,q5⟩
    simp only [lgA,lgZ,lgS]
    go_simp
   simp only [lgA,lgZ,lgS,Act.put,lsA,lsZ,lsS]
   refine wpAnyG.tA 6 (v:=.int .i64 (i:Int)) (by decide) 7 (by as_aux_lemma=>kernel_rfl) (by rfl) ?y6 (HBX _ hc0) ?_
   case y6 =>
    rintro w' ⟨q0,q1,q2,q3,q4,q5⟩
    simp only [lgA,lgZ,lgS]
    go_simp
   simp only [lgA,lgZ,lgS,Act.put,lsA,lsZ,lsS]
   refine wpAnyG.tA 7 (v:=.pointer (some ⟨gb,i * 3,none⟩)) (by decide) 8 (by as_aux_lemma=>kernel_rfl) (by rfl) ?y7 (HBX _ hc0) ?_
   case y7 =>
    rintro w' ⟨q0,q1,q2,q3,q4,q5⟩
    simp only [lgA,lgZ,lgS]
    go_simp
   simp only [lgA,lgZ,lgS,Act.put,lsA,lsZ,lsS]
   refine wpAnyG.tA 8 (v:=.agg #[.bool f2,.slice c2 n1 k2,.slice d2 m1 l2]) (by decide) 9 (by as_aux_lemma=>kernel_rfl) (by rfl) ?y8 (HBX _ hc0) ?_
   case y8 =>
    rintro w' ⟨q0,q1,q2,q3,q4,q5⟩
    simp only [lgA,lgZ,lgS]
    go_simp
   simp only [lgA,lgZ,lgS,Act.put,lsA,lsZ,lsS]
   refine wpAnyG.one 4 (by as_aux_lemma=>kernel_rfl) (by decide) (by rfl) (fun K hK=>?_)
   simp only [lgA,lgZ,lgS]
   go_simp
   refine (textD z0 (T1.below hc0) (by decide) (by decide)).mono ?_
   rintro e z1 ⟨rfl,hk1⟩
   have hc1:Below wr.heap.size wr z1:=bel_tr hc0 hk1
   dsimp only
   refine hK _ _ (HBX _ hc1) ?_
   clear hK K
   refine wpAnyG.one 9 (by as_aux_lemma=>kernel_rfl) (by decide) (by rfl) (fun K hK=>?_)
   simp only [lgA,lgZ,lgS]
   go_simp
   refine (textD z1 (T2.below hc1) (by decide) (by decide)).mono ?_
   rintro e z2 ⟨rfl,hk2⟩
   have hc2:Below wr.heap.size wr z2:=bel_tr hc1 hk2
   dsimp only
   refine hK _ _ (HBX _ hc2) ?_
   clear hK K
   refine wpAnyG.tA 10 (v:=.bool false) (by decide) 11 (by as_aux_lemma=>kernel_rfl) (by rfl) ?y10 (HBX _ hc2) ?_
   case y10 =>
    rintro w' ⟨q0,q1,q2,q3,q4,q5⟩
    simp only [lgA,lgZ,lgS]
    go_simp
   simp only [lgA,lgZ,lgS,Act.put,lsA,lsZ,lsS]
   refine wpAnyG.tA 11 (v:=.bool false) (by decide) 26 (by as_aux_lemma=>kernel_rfl) (by rfl) ?y11 (HBX _ hc2) ?_
   case y11 =>
    rintro w' ⟨q0,q1,q2,q3,q4,q5⟩
    simp only [lgA,lgZ,lgS]
    go_simp
   simp only [lgA,lgZ,lgS,Act.put,lsA,lsZ,lsS]
   refine wpAnyG.tA 12 (v:=.slice (some ⟨ga,0,none⟩) n ca) (by decide) 14 (by as_aux_lemma=>kernel_rfl) (by rfl) ?y12 (HBX _ hc2) ?_
   case y12 =>
    rintro w' ⟨q0,q1,q2,q3,q4,q5⟩
    simp only [lgA,lgZ,lgS]
    go_simp
   simp only [lgA,lgZ,lgS,Act.put,lsA,lsZ,lsS]
   refine wpAnyG.tA 13 (v:=.int .i64 (i:Int)) (by decide) 14 (by as_aux_lemma=>kernel_rfl) (by rfl) ?y13 (HBX _ hc2) ?_
   case y13 =>
    rintro w' ⟨q0,q1,q2,q3,q4,q5⟩
    simp only [lgA,lgZ,lgS]
    go_simp
   simp only [lgA,lgZ,lgS,Act.put,lsA,lsZ,lsS]
   refine wpAnyG.tA 14 (v:=.pointer (some ⟨ga,i * 3,none⟩)) (by decide) 15 (by as_aux_lemma=>kernel_rfl) (by rfl) ?y14 (HBX _ hc2) ?_
   case y14 =>
    rintro w' ⟨q0,q1,q2,q3,q4,q5⟩
    simp only [lgA,lgZ,lgS]
    go_simp
   simp only [lgA,lgZ,lgS,Act.put,lsA,lsZ,lsS]
   refine wpAnyG.tA 15 (v:=.pointer (some ⟨ga,i * 3 + 2,none⟩)) (by decide) 16 (by as_aux_lemma=>kernel_rfl) (by rfl) ?y15 (HBX _ hc2) ?_
   case y15 =>
    rintro w' ⟨q0,q1,q2,q3,q4,q5⟩
    simp only [lgA,lgZ,lgS]
    go_simp
   simp only [lgA,lgZ,lgS,Act.put,lsA,lsZ,lsS]
   refine wpAnyG.tA 16 (v:=.slice d1 m1 l1) (by decide) 17 (by as_aux_lemma=>kernel_rfl) (by rfl) ?y16 (HBX _ hc2) ?_
   case y16 =>
    rintro w' ⟨q0,q1,q2,q3,q4,q5⟩
    simp only [lgA,lgZ,lgS]
    go_simp
   simp only [lgA,lgZ,lgS,Act.put,lsA,lsZ,lsS]
   refine wpAnyG.tA 17 (v:=.int .i64 (m1:Int)) (by decide) 24 (by as_aux_lemma=>kernel_rfl) (by rfl) ?y17 (HBX _ hc2) ?_
   case y17 =>
    rintro w' ⟨q0,q1,q2,q3,q4,q5⟩
    simp only [lgA,lgZ,lgS]
    go_simp
   simp only [lgA,lgZ,lgS,Act.put,lsA,lsZ,lsS]
   refine wpAnyG.tA 18 (v:=.slice (some ⟨gb,0,none⟩) n cb) (by decide) 20 (by as_aux_lemma=>kernel_rfl) (by rfl) ?y18 (HBX _ hc2) ?_
   case y18 =>
    rintro w' ⟨q0,q1,q2,q3,q4,q5⟩
    simp only [lgA,lgZ,lgS]
    go_simp
   simp only [lgA,lgZ,lgS,Act.put,lsA,lsZ,lsS]
   refine wpAnyG.tA 19 (v:=.int .i64 (i:Int)) (by decide) 20 (by as_aux_lemma=>kernel_rfl) (by rfl) ?y19 (HBX _ hc2) ?_
   case y19 =>
    rintro w' ⟨q0,q1,q2,q3,q4,q5⟩
    simp only [lgA,lgZ,lgS]
    go_simp
   simp only [lgA,lgZ,lgS,Act.put,lsA,lsZ,lsS]
   refine wpAnyG.tA 20 (v:=.pointer (some ⟨gb,i * 3,none⟩)) (by decide) 21 (by as_aux_lemma=>kernel_rfl) (by rfl) ?y20 (HBX _ hc2) ?_
   case y20 =>
    rintro w' ⟨q0,q1,q2,q3,q4,q5⟩
    simp only [lgA,lgZ,lgS]
    go_simp
   simp only [lgA,lgZ,lgS,Act.put,lsA,lsZ,lsS]
   refine wpAnyG.tA 21 (v:=.pointer (some ⟨gb,i * 3 + 2,none⟩)) (by decide) 22 (by as_aux_lemma=>kernel_rfl) (by rfl) ?y21 (HBX _ hc2) ?_
   case y21 =>
    rintro w' ⟨q0,q1,q2,q3,q4,q5⟩
    simp only [lgA,lgZ,lgS]
    go_simp
   simp only [lgA,lgZ,lgS,Act.put,lsA,lsZ,lsS]
   refine wpAnyG.tA 22 (v:=.slice d2 m1 l2) (by decide) 23 (by as_aux_lemma=>kernel_rfl) (by rfl) ?y22 (HBX _ hc2) ?_
   case y22 =>
    rintro w' ⟨q0,q1,q2,q3,q4,q5⟩
    simp only [lgA,lgZ,lgS]
    go_simp
   simp only [lgA,lgZ,lgS,Act.put,lsA,lsZ,lsS]
   refine wpAnyG.tA 23 (v:=.int .i64 (m1:Int)) (by decide) 24 (by as_aux_lemma=>kernel_rfl) (by rfl) ?y23 (HBX _ hc2) ?_
   case y23 =>
    rintro w' ⟨q0,q1,q2,q3,q4,q5⟩
    simp only [lgA,lgZ,lgS]
    go_simp
   simp only [lgA,lgZ,lgS,Act.put,lsA,lsZ,lsS]
   refine wpAnyG.tA 24 (v:=.bool false) (by decide) 25 (by as_aux_lemma=>kernel_rfl) (by rfl) ?y24 (HBX _ hc2) ?_
   case y24 =>
    rintro w' ⟨q0,q1,q2,q3,q4,q5⟩
    simp only [lgA,lgZ,lgS]
    go_simp
   simp only [lgA,lgZ,lgS,Act.put,lsA,lsZ,lsS]
   refine wpAnyG.tA 25 (v:=.bool false) (by decide) 26 (by as_aux_lemma=>kernel_rfl) (by rfl) ?y25 (HBX _ hc2) ?_
   case y25 =>
    rintro w' ⟨q0,q1,q2,q3,q4,q5⟩
    simp only [lgA,lgZ,lgS]
    go_simp
   simp only [lgA,lgZ,lgS,Act.put,lsA,lsZ,lsS]
   refine wpAnyG.tA 26 (v:=.bool false) (by decide) 42 (by as_aux_lemma=>kernel_rfl) (by rfl) ?y26 (HBX _ hc2) ?_
   case y26 =>
    rintro w' ⟨q0,q1,q2,q3,q4,q5⟩
    simp only [lgA,lgZ,lgS]
    go_simp
   simp only [lgA,lgZ,lgS,Act.put,lsA,lsZ,lsS]
   refine wpAnyG.tA 27 (v:=.slice (some ⟨ga,0,none⟩) n ca) (by decide) 29 (by as_aux_lemma=>kernel_rfl) (by rfl) ?y27 (HBX _ hc2) ?_
   case y27 =>
    rintro w' ⟨q0,q1,q2,q3,q4,q5⟩
    simp only [lgA,lgZ,lgS]
    go_simp
   simp only [lgA,lgZ,lgS,Act.put,lsA,lsZ,lsS]
   refine wpAnyG.tA 28 (v:=.int .i64 (i:Int)) (by decide) 29 (by as_aux_lemma=>kernel_rfl) (by rfl) ?y28 (HBX _ hc2) ?_
   case y28 =>
    rintro w' ⟨q0,q1,q2,q3,q4,q5⟩
    simp only [lgA,lgZ,lgS]
    go_simp
   simp only [lgA,lgZ,lgS,Act.put,lsA,lsZ,lsS]
   refine wpAnyG.tA 29 (v:=.pointer (some ⟨ga,i * 3,none⟩)) (by decide) 30 (by as_aux_lemma=>kernel_rfl) (by rfl) ?y29 (HBX _ hc2) ?_
   case y29 =>
    rintro w' ⟨q0,q1,q2,q3,q4,q5⟩
    simp only [lgA,lgZ,lgS]
    go_simp
   simp only [lgA,lgZ,lgS,Act.put,lsA,lsZ,lsS]
   refine wpAnyG.tA 30 (v:=.pointer (some ⟨ga,i * 3,none⟩)) (by decide) 31 (by as_aux_lemma=>kernel_rfl) (by rfl) ?y30 (HBX _ hc2) ?_
   case y30 =>
    rintro w' ⟨q0,q1,q2,q3,q4,q5⟩
    simp only [lgA,lgZ,lgS]
    go_simp
   simp only [lgA,lgZ,lgS,Act.put,lsA,lsZ,lsS]
   refine wpAnyG.tA 31 (v:=.pointer (some ⟨ga,i * 3 + 1,none⟩)) (by decide) 32 (by as_aux_lemma=>kernel_rfl) (by rfl) ?y31 (HBX _ hc2) ?_
   case y31 =>
    rintro w' ⟨q0,q1,q2,q3,q4,q5⟩
    simp only [lgA,lgZ,lgS]
    go_simp
   simp only [lgA,lgZ,lgS,Act.put,lsA,lsZ,lsS]
   refine wpAnyG.tA 32 (v:=.slice c1 n1 k1) (by decide) 33 (by as_aux_lemma=>kernel_rfl) (by rfl) ?y32 (HBX _ hc2) ?_
   case y32 =>
    rintro w' ⟨q0,q1,q2,q3,q4,q5⟩
    simp only [lgA,lgZ,lgS]
    go_simp
   simp only [lgA,lgZ,lgS,Act.put,lsA,lsZ,lsS]
   refine wpAnyG.tA 33 (v:=.int .i64 (n1:Int)) (by decide) 41 (by as_aux_lemma=>kernel_rfl) (by rfl) ?y33 (HBX _ hc2) ?_
   case y33 =>
    rintro w' ⟨q0,q1,q2,q3,q4,q5⟩
    simp only [lgA,lgZ,lgS]
    go_simp
   simp only [lgA,lgZ,lgS,Act.put,lsA,lsZ,lsS]
   refine wpAnyG.tA 34 (v:=.slice (some ⟨gb,0,none⟩) n cb) (by decide) 36 (by as_aux_lemma=>kernel_rfl) (by rfl) ?y34 (HBX _ hc2) ?_
   case y34 =>
    rintro w' ⟨q0,q1,q2,q3,q4,q5⟩
    simp only [lgA,lgZ,lgS]
    go_simp
   simp only [lgA,lgZ,lgS,Act.put,lsA,lsZ,lsS]
   refine wpAnyG.tA 35 (v:=.int .i64 (i:Int)) (by decide) 36 (by as_aux_lemma=>kernel_rfl) (by rfl) ?y35 (HBX _ hc2) ?_
   case y35 =>
    rintro w' ⟨q0,q1,q2,q3,q4,q5⟩
    simp only [lgA,lgZ,lgS]
    go_simp
   simp only [lgA,lgZ,lgS,Act.put,lsA,lsZ,lsS]
   refine wpAnyG.tA 36 (v:=.pointer (some ⟨gb,i * 3,none⟩)) (by decide) 37 (by as_aux_lemma=>kernel_rfl) (by rfl) ?y36 (HBX _ hc2) ?_
   case y36 =>
    rintro w' ⟨q0,q1,q2,q3,q4,q5⟩
    simp only [lgA,lgZ,lgS]
    go_simp
   simp only [lgA,lgZ,lgS,Act.put,lsA,lsZ,lsS]
   refine wpAnyG.tA 37 (v:=.pointer (some ⟨gb,i * 3,none⟩)) (by decide) 38 (by as_aux_lemma=>kernel_rfl) (by rfl) ?y37 (HBX _ hc2) ?_
   case y37 =>
    rintro w' ⟨q0,q1,q2,q3,q4,q5⟩
    simp only [lgA,lgZ,lgS]
    go_simp
   simp only [lgA,lgZ,lgS,Act.put,lsA,lsZ,lsS]
   refine wpAnyG.tA 38 (v:=.pointer (some ⟨gb,i * 3 + 1,none⟩)) (by decide) 39 (by as_aux_lemma=>kernel_rfl) (by rfl) ?y38 (HBX _ hc2) ?_
   case y38 =>
    rintro w' ⟨q0,q1,q2,q3,q4,q5⟩
    simp only [lgA,lgZ,lgS]
    go_simp
   simp only [lgA,lgZ,lgS,Act.put,lsA,lsZ,lsS]
   refine wpAnyG.tA 39 (v:=.slice c2 n1 k2) (by decide) 40 (by as_aux_lemma=>kernel_rfl) (by rfl) ?y39 (HBX _ hc2) ?_
   case y39 =>
    rintro w' ⟨q0,q1,q2,q3,q4,q5⟩
    simp only [lgA,lgZ,lgS]
    go_simp
   simp only [lgA,lgZ,lgS,Act.put,lsA,lsZ,lsS]
   refine wpAnyG.tA 40 (v:=.int .i64 (n1:Int)) (by decide) 41 (by as_aux_lemma=>kernel_rfl) (by rfl) ?y40 (HBX _ hc2) ?_
   case y40 =>
    rintro w' ⟨q0,q1,q2,q3,q4,q5⟩
    simp only [lgA,lgZ,lgS]
    go_simp
   simp only [lgA,lgZ,lgS,Act.put,lsA,lsZ,lsS]
   refine wpAnyG.tA 41 (v:=.bool false) (by decide) 42 (by as_aux_lemma=>kernel_rfl) (by rfl) ?y41 (HBX _ hc2) ?_
   case y41 =>
    rintro w' ⟨q0,q1,q2,q3,q4,q5⟩
    simp only [lgA,lgZ,lgS]
    go_simp
   simp only [lgA,lgZ,lgS,Act.put,lsA,lsZ,lsS]
   refine wpAnyG.one 42 (by as_aux_lemma=>kernel_rfl) (by decide) (by rfl) (fun K hK=>?_)
   simp only [lgA,lgZ,lgS]
   go_simp
   refine hK _ _ (HBX _ hc2) ?_
   clear hK K
   refine wpAnyG.done (by as_aux_lemma=>kernel_rfl) (NoPanic.normal ?_)
   replace hbr:=bel_tr hbr hc2
   go_wp2
   go_roundw
   case rel=>first | exact ⟨i + 1,by omega,by go_num,hbr⟩ | ((repeat apply Exists.intro);refine ⟨?_,rfl⟩;exact ⟨i + 1,by omega,by go_num,hbr⟩)
   case measure=>simp [intOf];omega
  ·have hkI:¬ (i:Int) < (n:Int):=by omega
   go_wp2
   go_ret
   exact ⟨rfl,hbr⟩
end Go.Proofs.YtnkpbjmfdfjeiaaGreatDoor
