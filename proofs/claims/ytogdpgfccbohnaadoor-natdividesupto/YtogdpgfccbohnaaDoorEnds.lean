import Derived.Test.YtogdpgfccbohnaaDoorTwo
import Derived.Deep.DrawnRows
import Derived.Deep.DeepFit
namespace Go.Proofs.YtogdpgfccbohnaaDoor
open Go.RowKit
attribute [local go_sem ↓] Go.wp_at_zero Go.wp_at_succ

/-- What came out of the calls: the list lv holds it; each has memory of its own above block T. -/
structure Outs (w : World) (T : Nat) (lv : Value) (l : List (Value × List Int)) : Prop where
  tl : TL w (T + 1) lv (l.map (·.1))
  ov : ∀ p ∈ l, OwnV w (T + 1) p.1 p.2
  dj : l.Pairwise fun p q => ∀ g, p.1.ownBlock = some g → q.1.ownBlock ≠ some g
  sz : ∀ p ∈ l, p.2.length ≤ 1000000000
theorem Outs.nil (w : World) (T : Nat) : Outs w T (.slice none 0 0) [] := ⟨TL.nil _ _, fun _ hp => absurd hp (List.not_mem_nil), List.Pairwise.nil, fun _ hp => absurd hp (List.not_mem_nil)⟩
theorem Outs.below {w w' : World} {T : Nat} {lv : Value} {l : List (Value × List Int)} (h : Outs w T lv l) (hb : Below w.heap.size w w') : Outs w' T lv l :=
  ⟨h.tl.below hb, fun p hp => (h.ov p hp).below hb, h.dj, h.sz⟩

theorem keep_grown {w w1 : World} {row : Option Nat} {p : Addr} {v : Value} {B : Nat} (hg : w.grownBy w1 row) (hr : ∀ q, row = some q → B ≤ q) (hp : p.block < B) (hc : w.cell? p = some v) : w1.cell? p = some v := by
  have hlt := World.block_lt_of_cell? _ _ hc
  rw [grown_cell hg (p := p) hlt (fun e => by have := hr _ e.symm; omega)]; exact hc
theorem cell_two {w : World} {h : Nat} {u v : Value} {t : TypeId} (hh : h = w.heap.size) : (w.alloc (.cells #[u, v] t)).cell? ⟨h, 0, none⟩ = some u ∧ (w.alloc (.cells #[u, v] t)).cell? ⟨h, 1, none⟩ = some v := by subst hh; simp
theorem TL.trow {w : World} {B g n cap : Nat} {l : List (Value × List Int)} (h : TL w B (.slice (some ⟨g, 0, none⟩) n cap) (l.map (·.1))) (hl : 0 < l.length) : n = l.length ∧ TRow w g l.length (fun i => (l.getD i (.slice none 0 0, [])).1) := by
  rcases h.row with ⟨h1, h2⟩ | ⟨g', cap', h1, _, _, h4⟩
  · simp at h2; subst h2; simp at hl
  · simp only [Value.slice.injEq, Option.some.injEq, Addr.mk.injEq, List.length_map, and_true] at h1
    obtain ⟨rfl, rfl, rfl⟩ := h1
    refine ⟨rfl, ?_⟩
    rw [List.length_map] at h4
    obtain ⟨cur, c1, c2⟩ := h4
    refine ⟨cur, c1, fun i hi => ?_⟩
    rw [c2 i hi]
    simp [List.getD_eq_getElem?_getD, List.getElem?_eq_getElem hi]
set_option maxHeartbeats 400000 in
theorem lnat_c (r gf cf n L : Nat) (w : World) (c0 : w.cell? ⟨r, 0, none⟩ = some (.slice (some ⟨gf, 0, none⟩) L cf)) (c2 : w.cell? ⟨r, 2, none⟩ = some (.int .i64 n)) (hn : n ≤ cf) :
    Calls Tryd.prog 13 #[.pointer (some ⟨r, 0, none⟩)] w fun e w' => e = .returned (.slice (some ⟨gf, 0, none⟩) n cf) ∧ ∃ m, w' = w.drewN m := by
  have h1 : (0 : Int) ≤ (n : Int) := by omega
  have h2 : (n : Int) ≤ (cf : Int) := by omega
  go_enter Tryd.func13, Tryd.ntmps13
  go_wp2
  go_quiet (fail)
  go_wp2
  go_ret
  exact ⟨rfl, nq, rfl⟩
theorem keptG (w : World) (b : LB) (xs : List Int) (h : b.is w xs) (hm : xs.length ≤ 2000000) :
    Calls Tryd.prog 18 #[.pointer (some ⟨b.r, 0, none⟩)] w fun e w' => e = .returned (.bool true) ∧ Below w.heap.size w w' := by
  refine (kept_any w b.r b.gf b.cf b.gw b.cw b.n _ _ h (by rw [length_lendL]; omega) rfl).mono ?_
  rintro e w' ⟨rfl, m, rfl⟩
  exact ⟨rfl, belN (Below.refl _ _) m⟩
theorem LB.own {w : World} {b : LB} {xs : List Int} (h : b.is w xs) (hn : b.n = xs.length) {B : Nat} (hB : B ≤ b.gf) : OwnV w B (.slice (some ⟨b.gf, 0, none⟩) b.n b.cf) xs := by
  have := h.rf.take xs.length
  have e : (lendL xs).take xs.length = xs := by unfold lendL; rw [List.take_append_of_le_length (Nat.le_refl _), List.take_length]
  rw [e] at this
  have := this.own hB
  rwa [← hn] at this

set_option maxHeartbeats 4000000 in
set_option maxRecDepth 100000 in
theorem ends_any (w : World) (B T : Nat) (x y : LB) (xs ys : List Int) (lv : Value) (l : List (Value × List Int)) (H : Two w B T x y xs ys lv) (O : Outs w T lv l) (hx : x.n = xs.length) (hy : y.n = ys.length) (hmx : xs.length ≤ 2000000) (hmy : ys.length ≤ 2000000) (hl : l.length ≤ 100) :
    Calls Tryd.prog 31 #[.pointer (some ⟨T, 0, none⟩)] w fun e w' => e = .returned (.bool true) ∧ Below B w w' := by
  have HT : Below w.heap.size w w := Below.refl _ _
  have Hx : Hid (x.n = xs.length) := hx
  have Hy : Hid (y.n = ys.length) := hy
  clear hx hy
  have hT0 := H.lt
  have k0 := H.c0
  have k1 := H.c1
  go_enter Tryd.func31, Tryd.ntmps31
  go_wp2_with fail
  refine (keptG w x xs H.lx hmx).mono ?_
  rintro e w1 ⟨rfl, hb⟩
  replace H := H.below hb
  replace O := O.below hb
  have HT := bel_tr HT hb
  clear hb k0 k1
  have k1 := H.c1
  go_wp2_with fail
  refine (keptG w1 y ys H.ly hmy).mono ?_
  rintro e w2 ⟨rfl, hb⟩
  replace H := H.below hb
  replace O := O.below hb
  replace HT := bel_tr HT hb
  clear hb k1
  have k0 := H.c0
  have k1 := H.c1
  have k2 := H.c2
  have kx0 := H.lx.c0
  have kx2 := H.lx.c2
  have ky0 := H.ly.c0
  have ky2 := H.ly.c2
  have kT := H.lt
  have hnx : x.n ≤ x.cf := by have := H.lx.le; have := H.lx.rf.le; omega
  have hny : y.n ≤ y.cf := by have := H.ly.le; have := H.ly.rf.le; omega
  have HLO := H.lo
  have bx : x.r < T + 1 := by have := H.lx.lf; omega
  have by' : y.r < T + 1 := by have := H.ly.lf; have := H.yT; omega
  have HLV : Hid ((l.map (·.1)).length = l.length) := List.length_map _
  have hrow : ∀ q, lv.ownBlock = some q → T + 1 ≤ q := fun q hq => (O.tl.lt q hq).1
  have HTL := O.tl
  have HO : Hid (Outs w2 T lv l) := O
  have HH : Hid (Two w2 B T x y xs ys lv) := H
  obtain ⟨n, hn⟩ : ∃ n, l.length = n := ⟨_, rfl⟩
  obtain ⟨lx, hlx⟩ : ∃ lx, (lendL xs).length = lx := ⟨_, rfl⟩
  obtain ⟨ly, hly⟩ : ∃ ly, (lendL ys).length = ly := ⟨_, rfl⟩
  rw [hlx] at kx0
  rw [hly] at ky0
  rw [hn] at HLV hl
  have HN : Hid (l.length = n) := hn
  clear H O hn hlx hly
  go_wp2_with fail
  go_region_held3 (fun w' => w'.cell? ⟨T, 0, none⟩ = some (.pointer (some ⟨x.r, 0, none⟩)) ∧ w'.cell? ⟨T, 1, none⟩ = some (.pointer (some ⟨y.r, 0, none⟩)) ∧ w'.cell? ⟨T, 2, none⟩ = some lv ∧ w'.cell? ⟨x.r, 0, none⟩ = some (.slice (some ⟨x.gf, 0, none⟩) lx x.cf) ∧ w'.cell? ⟨x.r, 2, none⟩ = some (.int .i64 x.n) ∧ w'.cell? ⟨y.r, 0, none⟩ = some (.slice (some ⟨y.gf, 0, none⟩) ly y.cf) ∧ w'.cell? ⟨y.r, 2, none⟩ = some (.int .i64 y.n))
    (first | (go_keep; done) | (refine ⟨?_, ?_, ?_, ?_, ?_, ?_, ?_⟩ <;> exact keep_grown hgrow hrow (by first | omega | (simp; done) | (simp; omega)) (by go_keep)))
    ((first
      | (go_at_call 13; go_fit (lnat_c x.r x.gf x.cf x.n lx _ (by simp [*]) (by simp [*]) hnx); rintro e w' ⟨rfl, mA, rfl⟩)
      | (go_at_call 13; go_fit (lnat_c y.r y.gf y.cf y.n ly _ (by simp [*]) (by simp [*]) hny); rintro e w' ⟨rfl, mB, rfl⟩)
      | (refine step_appendT2 _ (by rfl) _ _ (by rfl) (T + 1) lv (l.map (·.1)) n HLV (by rfl) (by exact HTL.alloc _) w2.heap.size _ (.slice (some ⟨x.gf, 0, none⟩) x.n x.cf) (.slice (some ⟨y.gf, 0, none⟩) y.n y.cf) (by rfl) (cell_two (by rfl)).1 (cell_two (by rfl)).2 rfl rfl (by omega) (by simp; omega) (w2.heap.size + 1) (by simp) ?_; intro g cap1 w3 hown1 hgrow hat hlt1)))
  have H := HH.out
  have O := HO.out
  have hsz := HT.size
  obtain ⟨u1, u2, u3, u4, u5⟩ := HLO
  obtain ⟨W, hW⟩ : ∃ W, W = (w2.drewN (1 + mA + mB)).alloc (.cells #[.slice (some ⟨x.gf, 0, none⟩) x.n x.cf, .slice (some ⟨y.gf, 0, none⟩) y.n y.cf] 23) := ⟨_, rfl⟩
  rw [← hW] at hgrow
  have hbW : Below w2.heap.size w2 W := by rw [hW]; exact (belN (Below.refl _ _) _).alloc (by simp) _
  clear hW
  have hbB : Below B w w3 := (HT.mono (by omega)).trans ((hbW.mono (by omega)).trans (grown_below hgrow (by have := hbW.size; omega) (fun q hq => by have := hrow q hq; omega)))
  have oX : OwnV w3 B (.slice (some ⟨x.gf, 0, none⟩) x.n x.cf) xs := ((LB.own H.lx Hx.out u2).below hbW).grown hgrow (.inr (fun e => by have := hrow x.gf e.symm; omega))
  have oY : OwnV w3 B (.slice (some ⟨y.gf, 0, none⟩) y.n y.cf) ys := ((LB.own H.ly Hy.out u3).below hbW).grown hgrow (.inr (fun e => by have := hrow y.gf e.symm; have := H.yT; omega))
  have oL : ∀ p ∈ l, OwnV w3 (T + 1) p.1 p.2 := fun p hp => ((O.ov p hp).below hbW).grown hgrow ((O.tl.below hbW).ne ((O.ov p hp).below hbW))
  have hbig : ∀ p ∈ l, ∀ q, p.1.ownBlock = some q → T + 1 ≤ q := fun p hp q hq => ((oL p hp).lt q hq).1
  have yT := H.yT
  have ET : TL w3 (T + 1) (.slice (some ⟨g, 0, none⟩) (n + 2) cap1) ((l ++ [(Value.slice (some ⟨x.gf, 0, none⟩) x.n x.cf, xs), (.slice (some ⟨y.gf, 0, none⟩) y.n y.cf, ys)]).map (·.1)) := by rw [List.map_append]; exact hown1
  obtain ⟨en, TR⟩ := ET.trow (by simp)
  have AP := apart_list g cap1 B _ w3 TR (fun p hp => ?ho) ?hd (by simp; have := HN.out; omega) (fun p hp => ?hl) (by have := hbB.size; omega)
  case ho =>
    rcases List.mem_append.1 hp with hp | hp
    · exact (oL p hp).mono (by omega)
    · simp only [List.mem_cons, List.not_mem_nil, or_false] at hp
      rcases hp with rfl | rfl
      · exact oX
      · exact oY
  case hd =>
    rw [List.pairwise_append]
    refine ⟨O.dj, ?_, ?_⟩
    · simp only [List.pairwise_cons, List.mem_cons, List.not_mem_nil, or_false, forall_eq, Value.ownBlock, Option.some.injEq, ne_eq, List.Pairwise.nil, and_true, false_implies, implies_true]
      intro q h
      omega
    · intro p hp q hq g2 hg2
      have := hbig p hp g2 hg2
      simp only [List.mem_cons, List.not_mem_nil, or_false] at hq
      rcases hq with rfl | rfl <;> simp only [Value.ownBlock, Option.some.injEq, ne_eq] <;> omega
  case hl =>
    rcases List.mem_append.1 hp with hp | hp
    · exact O.sz p hp
    · simp only [List.mem_cons, List.not_mem_nil, or_false] at hp
      rcases hp with rfl | rfl <;> simp only <;> omega
  rw [← en] at AP
  clear ET TR en oX oY oL hbig O H HO HH hown1 hgrow hbW HTL
  go_wp2_with fail
  refine AP.mono ?_
  rintro e w4 ⟨rfl, hb⟩
  have hbZ : Below B w w4 := hbB.trans hb
  clear AP hb
  go_wp2
  go_ret
  exact ⟨rfl, hbZ⟩
end Go.Proofs.YtogdpgfccbohnaaDoor
