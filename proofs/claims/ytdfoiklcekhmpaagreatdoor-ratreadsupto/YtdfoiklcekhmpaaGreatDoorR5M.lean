import Derived.Test.YtdfoiklcekhmpaaGreatDoorR5L
import Derived.Test.YtdfoiklcekhmpaaGreatDoorR5G
import Derived.Test.YtdfoiklcekhmpaaGreatDoorR5HPa
import Derived.Test.YtdfoiklcekhmpaaGreatDoorR5HPn
import Derived.Test.YtdfoiklcekhmpaaGreatDoorR5HEa
import Derived.Test.YtdfoiklcekhmpaaGreatDoorR5HEn
import Derived.Test.YtdfoiklcekhmpaaGreatDoorR5HLa
import Derived.Test.YtdfoiklcekhmpaaGreatDoorR5HLn
namespace Go.Proofs.YtdfoiklcekhmpaaGreatDoor
open Go.RowKit Go.Shelf

def DocErr (s : ByteArray) (code : Int) : Prop := ∀ w, Calls Tryz.prog 7 #[.string s] w fun e w' => e = .returned (.tuple #[.agg #[.bool false, .slice none 0 0, .slice none 0 0], .int .i64 code]) ∧ Below w.heap.size w w'
def DocOk (s : ByteArray) (r : Rat) (S : Nat) : Prop := ∀ w, Calls Tryz.prog 7 #[.string s] w fun e w' => ∃ f c n k c' n' k', e = .returned (.tuple #[.agg #[.bool f, .slice c n k, .slice c' n' k'], .int .i64 0]) ∧ GR w' w.heap.size f c n k c' n' k' r S ∧ Below w.heap.size w w'
theorem p10_add (a b : Nat) : p10 (a + b) = p10 a * p10 b := by
  induction b with
  | zero => simp [p10]
  | succ b ih => show p10 (a + b) * 10 = p10 a * (p10 b * 10); rw [ih, Int.mul_assoc]
theorem ws_mulL (neg : Bool) (x y : Int) : ws neg (x * y) = ws neg x * y := by
  cases neg
  · rfl
  · show -(x * y) = -x * y; rw [Int.neg_mul]
theorem litV_u (x : Int) (en b : Nat) : litV x (en : Int) b = Rat.divInt (x * p10 en) (p10 b) := by
  unfold litV
  rcases Nat.lt_or_ge en b with h | h
  · rw [show ((en : Int) - (b : Int)).toNat = 0 by omega, show ((b : Int) - (en : Int)).toNat = b - en by omega, show p10 0 = 1 by rfl, Int.mul_one, Rat.divInt_eq_divInt_iff (p10_ne _) (p10_ne _)]
    rw [Int.mul_assoc, ← p10_add, show en + (b - en) = b by omega]
  · rw [show ((en : Int) - (b : Int)).toNat = en - b by omega, show ((b : Int) - (en : Int)).toNat = 0 by omega, show p10 0 = 1 by rfl, Rat.divInt_eq_divInt_iff (by decide) (p10_ne _)]
    rw [Int.mul_one, Int.mul_assoc, ← p10_add, show en - b + b = en by omega]
theorem litV_d (x : Int) (en b : Nat) : litV x (-(en : Int)) b = Rat.divInt x (p10 b * p10 en) := by
  unfold litV
  rw [show (-(en : Int) - (b : Int)).toNat = 0 by omega, show ((b : Int) - -(en : Int)).toNat = b + en by omega, show p10 0 = 1 by rfl, Int.mul_one, p10_add]
theorem numBd {s : ByteArray} {p0 i b : Nat} {N D : Int} (hn : N < p10 (i - p0)) (hd0 : D < p10 b) (hs : i - p0 + b ≤ 1048576) {M1 : Nat} (hM1 : M1 = 1048577) (_ : s.size ≤ 1048576) : N * p10 b + D < pw M1 := by
  have h1 := p10_pos b
  have h2 : (N + 1) * p10 b ≤ p10 (i - p0) * p10 b := Int.mul_le_mul_of_nonneg_right (by omega) (by omega)
  rw [← p10_add, Int.add_mul, Int.one_mul] at h2
  have h3 := p10_lt (i - p0 + b)
  have h4 := pw_mono (a := i - p0 + b + 1) (b := M1) (by omega)
  omega
/-- The document's and the program's reading of any text agree. -/
theorem both (s : ByteArray) (hs : s.size ≤ 1048576) :
    (∃ r S R, S ≤ 5000000 ∧ R ≤ 5000000 ∧ (∀ w, TB w → Parses s r S w) ∧ DocOk s r R) ∨ (Fails s 2 ∧ DocErr s 5) ∨ (Fails s 0 ∧ DocErr s 8) ∨ (Fails s 1 ∧ DocErr s 3) := by
  obtain ⟨p0, h0⟩ : ∃ p0, sgJ s 0 = p0 := ⟨_, rfl⟩
  obtain ⟨neg, hneg⟩ : ∃ neg, sgN s 0 = neg := ⟨_, rfl⟩
  have hp : p0 ≤ s.size := by rw [← h0]; exact sgJ_le (Nat.zero_le _)
  obtain ⟨i, hi⟩ : ∃ i, runE s p0 = i := ⟨_, rfl⟩
  have hR : Run s p0 i := hi ▸ run_E s hp
  obtain ⟨N, hN⟩ : ∃ N, rdF s p0 (i - p0) = N := ⟨_, rfl⟩
  have hNb := rdF_run_bd hR.dg (i - p0) (by have := hR.le; omega)
  rw [hN] at hNb
  have hil := hR.sz
  have hpi := hR.le
  by_cases hA : p0 < i ∧ i < s.size ∧ byt s i = 47
  · obtain ⟨a1, a2, a3⟩ := hA
    obtain ⟨k, hk⟩ : ∃ k, runE s (i + 1) = k := ⟨_, rfl⟩
    have hK : Run s (i + 1) k := hk ▸ run_E s (by omega)
    obtain ⟨D, hD⟩ : ∃ D, rdF s (i + 1) (k - (i + 1)) = D := ⟨_, rfl⟩
    have hf : Lib.indexByte s.data.toList 47 = (i : Int) := ib_at a2 a3 fun t ht e => by
      by_cases h1 : t < p0
      · obtain ⟨rfl, h2⟩ := sg0 (h0 ▸ h1)
        have e' : byt s 0 = 47 := e
        omega
      · have := hR.dg t (by omega) ht
        have e' : byt s t = 47 := e
        unfold isDg at this; omega
    obtain ⟨u1, u2⟩ := iokW (s := s) (o := 0) (j := i) (by omega) hil
    rw [h0] at u1 u2
    rw [hN, hneg] at u2
    have hIa : IOk (s.extract 0 i) := u1.2 ⟨a1, hR.dg⟩
    obtain ⟨v1, v2⟩ := nokW (s := s) (o := i + 1) (j := s.size) (by omega) (Nat.le_refl _)
    have hza : (s.extract 0 i).size = i := by rw [size_extract _ _ _ (by omega)]; omega
    have hzb : (s.extract (i + 1) s.size).size = s.size - (i + 1) := size_extract _ _ _ (Nat.le_refl _)
    by_cases h5 : k = i + 1 ∨ k < s.size
    · refine .inr (.inl ⟨fun w ev E => parseSF w hf a2 (by omega) E fun w E => quoN2 w E (by omega) (by omega) hIa.1 hIa.2 fun hn => ?_, fun w => ?_⟩)
      · obtain ⟨n1, n2⟩ := v1.1 hn
        have : k = s.size := hK.uniq ⟨by omega, Nat.le_refl _, n2, fun h => absurd h (by omega)⟩
        omega
      · by_cases h6 : k = i + 1
        · exact dA5a w hs h0 hneg hi hN hp hil hpi a1 a2 a3 hk hD h6
        · exact dA5b w hs h0 hneg hi hN hp hil hpi a1 a2 a3 hk hD h6 (by omega)
    · have hks : k = s.size := by have := hK.sz; omega
      have hNb2 := v1.2 ⟨by have := hK.le; omega, fun t t1 t2 => hK.dg t t1 (by omega)⟩
      have v3 : rdF (s.extract (i + 1) s.size) 0 (s.extract (i + 1) s.size).size = D := by rw [v2, ← hD, hks]
      by_cases hD0 : D = 0
      · refine .inr (.inr (.inr ⟨fun w ev E => parseSF w hf a2 (by omega) E fun w E => quoE (S := 1048576) w (by omega) (by omega) hIa.1 hIa.2 hNb2.1 hNb2.2 (by rw [v3]; exact hD0) (by omega) (by omega) (by omega) E, fun w => ?_⟩))
        exact dA3 w hs h0 hneg hi hN hp hil hpi a1 a2 a3 hk hD (by omega) (by omega) hD0
      · refine .inl ⟨Rat.divInt (ws neg N) D, 1048576, 1048577, by omega, by omega, fun w hT => parseS w hf a2 (by omega) (fun w hT => ?_) hT, fun w => ?_⟩
        · have := quoOk (S := 1048576) w (by omega) (by omega) hIa.1 hIa.2 hNb2.1 hNb2.2 (by rw [v3]; exact hD0) (by omega) (by omega) (by omega) hT
          rw [v3, show ws (cutS (s.extract 0 i)).1 (rdF (cutS (s.extract 0 i)).2 0 (cutS (s.extract 0 i)).2.size) = ws neg N from u2] at this
          exact this
        · exact dA0 w hs h0 hneg hi hN hp hil hpi a1 a2 a3 hk hD (by omega) (by omega) hD0
  · by_cases hS : ∃ j, Shp s p0 i j
    · obtain ⟨j, h⟩ := hS
      have hok := h.ok
      obtain ⟨E, e0, e1, e2⟩ := h.exN
      obtain ⟨dn, hdn⟩ : ∃ dn, exD s j = dn := ⟨_, rfl⟩
      rw [hdn] at e2
      by_cases hE : E ≤ 9999
      · have e3 : exV s j = E := by rw [e1]; exact if_neg (by omega)
        obtain ⟨en, rfl⟩ : ∃ en : Nat, E = en := ⟨E.toNat, by omega⟩
        have hrng : -9999 ≤ exT s j ∧ exT s j ≤ 9999 := by rw [e2]; cases dn <;> simp [ws] <;> omega
        have hpr : ∀ w, TB w → Parses s (litV (litX s p0 i j) (exT s j) (ptB s i j)) 3000000 w := fun w hT => by
          obtain ⟨S, s1, s2⟩ := h.read hs hrng.1 hrng.2 w hT
          exact s2.mono fun _ _ ⟨f, c, n, k, c', n', k', g1, g2, g3⟩ => ⟨f, c, n, k, c', n', k', g1, g2.le s1, g3⟩
        refine .inl ⟨_, 3000000, 4194309, by omega, by omega, hpr, fun w => ?_⟩
        have hX : litX s p0 i j = ws neg (if i < s.size ∧ byt s i = 46 then N * p10 (j - (i + 1)) + rdF s (i + 1) (j - (i + 1)) else N) := by unfold litX; rw [hneg, hN]
        rcases h.pt with ⟨rfl, hno⟩ | ⟨b1, b2, b3⟩
        · have hmn := h.mn
          rw [if_neg hno] at hX
          have hpt : ptB s j j = 0 := if_neg hno
          have hmm : (j : Int) - (p0 : Int) = ((j - p0 : Nat) : Int) := by omega
          rw [hX, hpt, e2]
          by_cases hl : j < s.size
          · have g6 : byt s j ≠ 46 := fun e => hno ⟨hl, e⟩
            have g7 := h.no47 hl
            cases dn
            · have := dBLa0u w hs h0 hneg hi hN hp hil hpi (by omega) hl g6 g7 hmm e3 hdn hok (by omega) rfl rfl (by omega) rfl
              rw [show ws false (en : Int) = (en : Int) from rfl, litV_u, ← ws_mulL]; exact this
            · have := dBLa0d w hs h0 hneg hi hN hp hil hpi (by omega) hl g6 g7 hmm e3 hdn hok (by omega) rfl rfl (by omega) rfl
              rw [show ws true (en : Int) = -(en : Int) from rfl, litV_d]; exact this
          · cases dn
            · have := dBEa0u w hs h0 hneg hi hN hp hil hpi (by omega) hl hmm e3 hdn hok (by omega) rfl rfl (by omega) rfl
              rw [show ws false (en : Int) = (en : Int) from rfl, litV_u, ← ws_mulL]; exact this
            · have := dBEa0d w hs h0 hneg hi hN hp hil hpi (by omega) hl hmm e3 hdn hok (by omega) rfl rfl (by omega) rfl
              rw [show ws true (en : Int) = -(en : Int) from rfl, litV_d]; exact this
        · have hmn := h.mn
          have hle := b3.le
          have hjs := b3.sz
          rw [if_pos ⟨b1, b2⟩] at hX
          have hpt : ptB s i j = j - (i + 1) := if_pos ⟨b1, b2⟩
          obtain ⟨D, hD⟩ : ∃ D, rdF s (i + 1) (j - (i + 1)) = D := ⟨_, rfl⟩
          have hDb := rdF_run_bd b3.dg (j - (i + 1)) (by omega)
          rw [hD] at hDb hX
          have hk : runE s (i + 1) = j := (run_E s (by omega)).uniq b3
          obtain ⟨M1, hM1⟩ : ∃ M1 : Nat, M1 = 1048577 := ⟨_, rfl⟩
          have hMb : Hid (N * p10 (j - (i + 1)) + D < pw M1) := numBd (s := s) hNb.2 hDb.2 (by omega) hM1 hs
          obtain ⟨M, hM⟩ : ∃ M, Hid (N * p10 (j - (i + 1)) + D = M) := ⟨_, rfl⟩
          rw [hM.out] at hX hMb
          have hmm : (i : Int) - (p0 : Int) + ((j - (i + 1) : Nat) : Int) = ((i - p0 + (j - (i + 1)) : Nat) : Int) := by omega
          rw [hX, hpt, e2]
          by_cases ha : p0 < i
          · cases dn
            · have := dBPa0u w hs h0 hneg hi hN hp hil hpi ha b1 b2 hk (by omega) hjs hD hM hM1 hMb hmm e3 hdn hok (by omega) rfl rfl (by omega) rfl
              rw [show ws false (en : Int) = (en : Int) from rfl, litV_u, ← ws_mulL]; exact this
            · have := dBPa0d w hs h0 hneg hi hN hp hil hpi ha b1 b2 hk (by omega) hjs hD hM hM1 hMb hmm e3 hdn hok (by omega) rfl rfl (by omega) rfl
              rw [show ws true (en : Int) = -(en : Int) from rfl, litV_d]; exact this
          · cases dn
            · have := dBPn0u w hs h0 hneg hi hN hp hil hpi ha b1 b2 hk (by omega) hjs hD hM hM1 hMb hmm e3 hdn hok (by omega) rfl rfl (by omega) rfl
              rw [show ws false (en : Int) = (en : Int) from rfl, litV_u, ← ws_mulL]; exact this
            · have := dBPn0d w hs h0 hneg hi hN hp hil hpi ha b1 b2 hk (by omega) hjs hD hM hM1 hMb hmm e3 hdn hok (by omega) rfl rfl (by omega) rfl
              rw [show ws true (en : Int) = -(en : Int) from rfl, litV_d]; exact this
      · have e3 : 9999 < exV s j := by rw [e1]; unfold capV; split <;> omega
        have hout : exT s j < -9999 ∨ 9999 < exT s j := by rw [e2]; cases dn <;> simp [ws] <;> omega
        refine .inr (.inr (.inl ⟨h.far hs hout, fun w => ?_⟩))
        rcases h.pt with ⟨rfl, hno⟩ | ⟨b1, b2, b3⟩
        · have hmn := h.mn
          have hmm : (j : Int) - (p0 : Int) = ((j - p0 : Nat) : Int) := by omega
          by_cases hl : j < s.size
          · exact dBLa8 w hs h0 hneg hi hN hp hil hpi (by omega) hl (fun e => hno ⟨hl, e⟩) (h.no47 hl) hmm rfl hdn hok (by omega) rfl e3
          · exact dBEa8 w hs h0 hneg hi hN hp hil hpi (by omega) hl hmm rfl hdn hok (by omega) rfl e3
        · have hmn := h.mn
          have hle := b3.le
          have hjs := b3.sz
          obtain ⟨D, hD⟩ : ∃ D, rdF s (i + 1) (j - (i + 1)) = D := ⟨_, rfl⟩
          have hDb := rdF_run_bd b3.dg (j - (i + 1)) (by omega)
          rw [hD] at hDb
          have hk : runE s (i + 1) = j := (run_E s (by omega)).uniq b3
          obtain ⟨M1, hM1⟩ : ∃ M1 : Nat, M1 = 1048577 := ⟨_, rfl⟩
          have hMb : Hid (N * p10 (j - (i + 1)) + D < pw M1) := numBd (s := s) hNb.2 hDb.2 (by omega) hM1 hs
          have hmm : (i : Int) - (p0 : Int) + ((j - (i + 1) : Nat) : Int) = ((i - p0 + (j - (i + 1)) : Nat) : Int) := by omega
          by_cases ha : p0 < i
          · exact dBPa8 w hs h0 hneg hi hN hp hil hpi ha b1 b2 hk (by omega) hjs hD rfl hM1 hMb hmm rfl hdn hok (by omega) rfl e3
          · exact dBPn8 w hs h0 hneg hi hN hp hil hpi ha b1 b2 hk (by omega) hjs hD rfl hM1 hMb hmm rfl hdn hok (by omega) rfl e3
    · have hS' : ∀ j, ¬ Shp s p0 i j := fun j h => hS ⟨j, h⟩
      refine .inr (.inl ⟨prNum hs h0 hR hA hS', fun w => ?_⟩)
      by_cases hP : i < s.size ∧ byt s i = 46
      · obtain ⟨b1, b2⟩ := hP
        obtain ⟨k, hk⟩ : ∃ k, runE s (i + 1) = k := ⟨_, rfl⟩
        have hK : Run s (i + 1) k := hk ▸ run_E s (by omega)
        have hle := hK.le
        have hks := hK.sz
        obtain ⟨D, hD⟩ : ∃ D, rdF s (i + 1) (k - (i + 1)) = D := ⟨_, rfl⟩
        have hDb := rdF_run_bd hK.dg (k - (i + 1)) (by omega)
        rw [hD] at hDb
        obtain ⟨M1, hM1⟩ : ∃ M1 : Nat, M1 = 1048577 := ⟨_, rfl⟩
        have hMb : Hid (N * p10 (k - (i + 1)) + D < pw M1) := numBd (s := s) hNb.2 hDb.2 (by omega) hM1 hs
        have hmm : (i : Int) - (p0 : Int) + ((k - (i + 1) : Nat) : Int) = ((i - p0 + (k - (i + 1)) : Nat) : Int) := by omega
        by_cases hm : i - p0 + (k - (i + 1)) = 0
        · exact dBPn5a w hs h0 hneg hi hN hp hil hpi (by omega) b1 b2 hk (by omega) hks hD rfl hM1 hMb hmm rfl rfl rfl hm
        · have ho : exOk s k = false := by
            rw [← Bool.not_eq_true]; intro ho
            exact hS' k (docShp h0 hR (.inr ⟨b1, b2, hK⟩) ho (by omega))
          by_cases ha : p0 < i
          · exact dBPa5b w hs h0 hneg hi hN hp hil hpi ha b1 b2 hk (by omega) hks hD rfl hM1 hMb hmm rfl rfl ho hm rfl
          · exact dBPn5b w hs h0 hneg hi hN hp hil hpi ha b1 b2 hk (by omega) hks hD rfl hM1 hMb hmm rfl rfl ho hm rfl
      · have hmm : (i : Int) - (p0 : Int) = ((i - p0 : Nat) : Int) := by omega
        by_cases ha : p0 < i
        · have ho : exOk s i = false := by
            rw [← Bool.not_eq_true]; intro ho
            exact hS' i (docShp h0 hR (.inl ⟨rfl, hP⟩) ho (by omega))
          by_cases hl : i < s.size
          · exact dBLa5b w hs h0 hneg hi hN hp hil hpi ha hl (fun e => hP ⟨hl, e⟩) (fun e => hA ⟨ha, hl, e⟩) hmm rfl rfl ho (by omega) rfl
          · exact dBEa5b w hs h0 hneg hi hN hp hil hpi ha hl hmm rfl rfl ho (by omega) rfl
        · by_cases hl : i < s.size
          · exact dBLn5a w hs h0 hneg hi hN hp hil hpi ha hl (fun e => hP ⟨hl, e⟩) hmm rfl rfl rfl (by omega)
          · exact dBEn5a w hs h0 hneg hi hN hp hil hpi ha hl hmm rfl rfl rfl (by omega)
end Go.Proofs.YtdfoiklcekhmpaaGreatDoor
