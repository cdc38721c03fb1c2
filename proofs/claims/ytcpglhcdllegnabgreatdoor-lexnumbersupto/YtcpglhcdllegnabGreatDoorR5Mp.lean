import Derived.Test.YtcpglhcdllegnabGreatDoorR5IAll
namespace Go.Proofs.YtcpglhcdllegnabGreatDoor
open Go.RowKit Go.Shelf

/-- rat.Parse of every text; D, E: what else is known of it. -/
def PD (D : ByteArray → Rat → Prop) (E : ByteArray → Int → Prop) : Prop := ∀ s : ByteArray, s.size ≤ 1048576 →
  (∃ r S, S ≤ 3000000 ∧ (∀ w, TB w → Parses s r S w) ∧ D s r ∧ 0 < s.size) ∨ (Fails s 11 ∧ E s 5) ∨ (Fails s 12 ∧ E s 8) ∨ (Fails s 0 ∧ E s 3)
/-- Which texts are numbers, and which they are. -/
def NOk (s : ByteArray) : Prop :=
  (sgJ s 0 < runE s (sgJ s 0) ∧ runE s (sgJ s 0) < s.size ∧ byt s (runE s (sgJ s 0)) = 47 ∧ runE s (runE s (sgJ s 0) + 1) = s.size ∧ runE s (sgJ s 0) + 1 < s.size ∧ rdF s (runE s (sgJ s 0) + 1) (s.size - (runE s (sgJ s 0) + 1)) ≠ 0) ∨
  (¬ (sgJ s 0 < runE s (sgJ s 0) ∧ runE s (sgJ s 0) < s.size ∧ byt s (runE s (sgJ s 0)) = 47) ∧ ∃ j, Shp s (sgJ s 0) (runE s (sgJ s 0)) j ∧ -9999 ≤ exT s j ∧ exT s j ≤ 9999)
/-- Where the digits behind the point end. -/
def ptJ (s : ByteArray) (i : Nat) : Nat := if i < s.size ∧ byt s i = 46 then runE s (i + 1) else i
def rv (s : ByteArray) : Rat :=
  if sgJ s 0 < runE s (sgJ s 0) ∧ runE s (sgJ s 0) < s.size ∧ byt s (runE s (sgJ s 0)) = 47 then
    Rat.divInt (ws (cutS (s.extract 0 (runE s (sgJ s 0)))).1 (rdF (cutS (s.extract 0 (runE s (sgJ s 0)))).2 0 (cutS (s.extract 0 (runE s (sgJ s 0)))).2.size)) (rdF (s.extract (runE s (sgJ s 0) + 1) s.size) 0 (s.extract (runE s (sgJ s 0) + 1) s.size).size)
  else litV (litX s (sgJ s 0) (runE s (sgJ s 0)) (ptJ s (runE s (sgJ s 0)))) (exT s (ptJ s (runE s (sgJ s 0)))) (ptB s (runE s (sgJ s 0)) (ptJ s (runE s (sgJ s 0))))
theorem Shp.pj {s : ByteArray} {p0 i j : Nat} (h : Shp s p0 i j) : ptJ s i = j := by
  unfold ptJ
  rcases h.pt with ⟨h1, h2⟩ | ⟨h1, h2, h3⟩
  · rw [if_neg h2, h1]
  · rw [if_pos ⟨h1, h2⟩]
    exact (run_E s (by omega)).uniq h3
def NumD (s : ByteArray) (q : Rat) : Prop := NOk s ∧ q = rv s
def NumE (s : ByteArray) (_ : Int) : Prop := ¬ NOk s
theorem half : PD NumD NumE := by
  intro s hs
  obtain ⟨p0, h0⟩ : ∃ p0, sgJ s 0 = p0 := ⟨_, rfl⟩
  have hp : p0 ≤ s.size := by rw [← h0]; exact sgJ_le (Nat.zero_le _)
  obtain ⟨i, hi⟩ : ∃ i, runE s p0 = i := ⟨_, rfl⟩
  have hR : Run s p0 i := hi ▸ run_E s hp
  have hil := hR.sz
  have hpi := hR.le
  by_cases hA : p0 < i ∧ i < s.size ∧ byt s i = 47
  · obtain ⟨a1, a2, a3⟩ := hA
    obtain ⟨k, hk⟩ : ∃ k, runE s (i + 1) = k := ⟨_, rfl⟩
    have hK : Run s (i + 1) k := hk ▸ run_E s (by omega)
    obtain ⟨D, hD⟩ : ∃ D, rdF s (i + 1) (k - (i + 1)) = D := ⟨_, rfl⟩
    have hf : Lib.indexByte s.data.toList 47 = (i : Int) := ib_at a2 a3 fun t ht e => by
      by_cases h1 : t < p0
      · obtain ⟨rfl, h2⟩ := sg0 (h0 ▸ h1)
        have e' : byt s 0 = 47 := e
        omega
      · have := hR.dg t (by omega) ht
        have e' : byt s t = 47 := e
        unfold isDg at this; omega
    obtain ⟨u1, u2⟩ := iokW (s := s) (o := 0) (j := i) (by omega) hil
    rw [h0] at u1
    have hIa : IOk (s.extract 0 i) := u1.2 ⟨a1, hR.dg⟩
    obtain ⟨v1, v2⟩ := nokW (s := s) (o := i + 1) (j := s.size) (by omega) (Nat.le_refl _)
    have hza : (s.extract 0 i).size = i := by rw [size_extract _ _ _ (by omega)]; omega
    have hzb : (s.extract (i + 1) s.size).size = s.size - (i + 1) := size_extract _ _ _ (Nat.le_refl _)
    by_cases h5 : k = i + 1 ∨ k < s.size
    · refine .inr (.inl ⟨fun w ev E => parseSF w hf a2 (by omega) E fun w E => quoN2 w E (by omega) (by omega) hIa.1 hIa.2 fun hn => ?_, ?_⟩)
      · obtain ⟨n1, n2⟩ := v1.1 hn
        have : k = s.size := hK.uniq ⟨by omega, Nat.le_refl _, n2, fun h => absurd h (by omega)⟩
        omega
      · unfold NumE NOk
        rw [h0, hi, hk]
        rintro (⟨_, _, _, e1, e2, _⟩ | ⟨hn, _⟩)
        · omega
        · exact hn ⟨a1, a2, a3⟩
    · have hks : k = s.size := by have := hK.sz; omega
      have hNb2 := v1.2 ⟨by have := hK.le; omega, fun t t1 t2 => hK.dg t t1 (by omega)⟩
      have v3 : rdF (s.extract (i + 1) s.size) 0 (s.extract (i + 1) s.size).size = D := by rw [v2, ← hD, hks]
      by_cases hD0 : D = 0
      · exact .inr (.inr (.inr ⟨fun w ev E => parseSF w hf a2 (by omega) E fun w E => quoE (S := 1048576) w (by omega) (by omega) hIa.1 hIa.2 hNb2.1 hNb2.2 (by rw [v3]; exact hD0) (by omega) (by omega) (by omega) E, by
          unfold NumE NOk
          rw [h0, hi, hk]
          rintro (⟨_, _, _, e1, e2, e3⟩ | ⟨hn, _⟩)
          · rw [hks] at hD; exact e3 (hD.trans hD0)
          · exact hn ⟨a1, a2, a3⟩⟩))
      · exact .inl ⟨_, 1048576, by omega, fun w hT => parseS w hf a2 (by omega) (fun w hT => quoOk (S := 1048576) w (by omega) (by omega) hIa.1 hIa.2 hNb2.1 hNb2.2 (by rw [v3]; exact hD0) (by omega) (by omega) (by omega) hT) hT, ⟨.inl (by rw [h0, hi, hk]; exact ⟨a1, a2, a3, hks, by have := hK.le; omega, by rw [← hks, hD]; exact hD0⟩), by unfold rv; rw [h0, hi, if_pos ⟨a1, a2, a3⟩]⟩, by omega⟩
  · by_cases hS : ∃ j, Shp s p0 i j
    · obtain ⟨j, h⟩ := hS
      obtain ⟨E, e0, e1, e2⟩ := h.exN
      by_cases hr : -9999 ≤ exT s j ∧ exT s j ≤ 9999
      · refine .inl ⟨litV (litX s p0 i j) (exT s j) (ptB s i j), 3000000, by omega, fun w hT => ?_, ⟨.inr (by rw [h0, hi]; exact ⟨hA, j, h, hr⟩), by unfold rv; rw [h0, hi, if_neg hA, h.pj]⟩, ?_⟩
        · obtain ⟨S, s1, s2⟩ := h.read hs hr.1 hr.2 w hT
          exact s2.mono fun _ _ ⟨f, c, n, k, c', n', k', g1, g2, g3⟩ => ⟨f, c, n, k, c', n', k', g1, g2.le s1, g3⟩
        · have := h.mn
          have := h.ij
          omega
      · exact .inr (.inr (.inl ⟨h.far hs (by omega), by
        unfold NumE NOk
        rw [h0, hi]
        rintro (⟨e1, e2, e3, _⟩ | ⟨_, j', hj, e1⟩)
        · exact hA ⟨e1, e2, e3⟩
        · rw [← hj.pj, h.pj] at e1; exact hr e1⟩))
    · exact .inr (.inl ⟨prNum hs h0 hR hA (fun j h => hS ⟨j, h⟩), by
      unfold NumE NOk
      rw [h0, hi]
      rintro (⟨e1, e2, e3, _⟩ | ⟨_, j', hj, _⟩)
      · exact hA ⟨e1, e2, e3⟩
      · exact hS ⟨j', hj⟩⟩)
end Go.Proofs.YtcpglhcdllegnabGreatDoor
