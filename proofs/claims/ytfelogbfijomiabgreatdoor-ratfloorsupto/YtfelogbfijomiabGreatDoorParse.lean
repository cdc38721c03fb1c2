import Derived.Test.YtfelogbfijomiabGreatDoorParseA
import Derived.Test.YtfelogbfijomiabGreatDoorGotN
namespace Go.Proofs.YtfelogbfijomiabGreatDoor
open Go.RowKit

theorem parse_no (s : ByteArray) (w : World) (ev : Value) (hs : s.size ≤ 100000000) (hd : ¬ (Digs s s.size ∧ 0 < s.size)) (E : Errs w 2 ev) :
    Calls Tryz.prog 90 #[.string s] w fun e w' => e = .returned (.tuple #[.slice none 0 0, ev]) ∧ Below w.heap.size w w' := by
  go_enter Tryz.func90, Tryz.ntmps90
  go_wp2_with fail
  refine (allDigits_any s _ hs).mono ?_
  rintro e w1 ⟨_, he, hb⟩
  obtain rfl := he hd
  have hE := (E.below hb).1
  clear E he
  go_wp2
  go_quiet (fail)
  go_wp2
  go_ret2
  exact ⟨rfl, belN hb nq⟩

theorem readPieceE (t : ByteArray) (n : Nat) (w : World) (hn : n ≤ 19) (hl : n ≤ t.size) (hd : Digs t t.size) :
    Calls Tryz.prog 119 #[.string (t.extract 0 n)] w fun e w' => e = .returned (.int .u64 (rdF t 0 n)) ∧ Below w.heap.size w w' := by
  have e1 : (t.extract 0 n).size = n := by rw [size_extract _ _ _ hl]; omega
  have e2 : ∀ i, i < n → byt (t.extract 0 n) i = byt t (0 + i) := fun i hi => byt_extract t 0 n i hl (by omega)
  have h := readPiece_any (t.extract 0 n) w (by omega) (fun i hi => by rw [e2 i (by omega), Nat.zero_add]; exact hd i (by omega))
  rw [e1, rdF_congr n e2] at h
  exact h
def strLen : Value → Nat
  | .string t => t.size
  | _ => 0

set_option maxRecDepth 100000 in
set_option maxHeartbeats 1000000 in
theorem parse_yes (s : ByteArray) (w : World) (hs : s.size ≤ 100000000) (hd : Digs s s.size) (h0 : 0 < s.size) :
    Calls Tryz.prog 90 #[.string s] w fun e w' => ∃ c n cc, e = .returned (.tuple #[.slice c n cc, .nilIface]) ∧ Got w' w.heap.size (.slice c n cc) (rdF s 0 s.size) s.size ∧ Below w.heap.size w w' := by
  go_enter Tryz.func90, Tryz.ntmps90
  go_wp2_with fail
  refine (allDigits_any s _ hs).mono ?_
  rintro e w1 ⟨he, _, hb⟩
  obtain rfl := he hd h0
  clear he
  have hsz1 := hb.size
  go_wp2
  go_loopw [0, 4] (fun sv v wr => ∃ (t : ByteArray) (o : Nat) (a : Option Addr) (n cap : Nat) (xs : List Int), sv = .string t ∧ v = .slice a n cap ∧ o + t.size = s.size ∧ (o = 0 ∨ t.size % 19 = 0) ∧ (∀ i, i < t.size → byt t i = byt s (o + i)) ∧ OwnV wr w.heap.size (.slice a n cap) xs ∧ NF xs ∧ val xs = rdF s 0 o ∧ n ≤ o ∧ Below w.heap.size w wr) (fun sv _ _ => strLen sv)
  case atStart => exact ⟨s, 0, none, 0, 0, [], rfl, rfl, by omega, .inl rfl, fun i _ => by rw [Nat.zero_add], OwnV.nil _ _, NF.nil, rfl, Nat.le_refl _, hb⟩
  case round =>
    clear hb hsz1
    obtain ⟨t, o, a, n, cap, xs, rfl, rfl, hot, h19, hbt, hown, hnf, hv, hno, hbel⟩ := hrel
    have HOT : Hid (o + t.size = s.size) := hot
    have HBT : Hid (∀ i, i < t.size → byt t i = byt s (o + i)) := hbt
    have HNF : Hid (NF xs) := hnf
    have HV : Hid (val xs = rdF s 0 o) := hv
    have hob : o ≤ 100000000 := by omega
    have hts : t.size ≤ 100000000 := by omega
    have HDT : Hid (Digs t t.size) := fun i hi => by rw [hbt i hi]; exact hd _ (by omega)
    have hsz := hbel.size
    clear hot hbt hnf hv
    by_cases hlt : 0 < t.size
    · have hil : (0 : Int) < (t.size : Int) := by omega
      obtain ⟨r, hr, hr2⟩ : ∃ r : Nat, (t.size - 1) % 19 = r ∧ r < 19 := ⟨_, rfl, by omega⟩
      have hrt : r + 1 ≤ t.size := by omega
      have T1 : ((t.size : Int) - 1).tmod 19 = (r : Int) := by rw [Int.tmod_eq_emod_of_nonneg (by omega)]; omega
      have hrI : (r : Int) + 1 ≤ (t.size : Int) := by omega
      have HR : Hid ((t.size - 1) % 19 = r) := hr
      clear hr
      have HDR : Hid (Digs t (r + 1)) := fun i hi => HDT.out i (by omega)
      obtain ⟨v0, v1⟩ := rdF_bd (o := 0) HDR.out (r + 1) (by omega)
      have v2 := p10_mono (a := r + 1) (b := 19) (by omega)
      have v3 : p10 19 = 10000000000000000000 := by decide
      have HVV : Hid (rdF t 0 (r + 1) = rdF s o (r + 1)) := rdF_congr (r + 1) (fun i hi => HBT.out i (by omega))
      have v4 : rdF t 0 (r + 1) < 10000000000000000000 := by omega
      clear v1 v2 v3
      go_wp2_with fail
      refine (readPieceE t (r + 1) _ (by omega) hrt HDT.out).mono ?_
      rintro e w2 ⟨rfl, hb2⟩
      generalize rdF t 0 (r + 1) = V at *
      have hown2 := hown.below hb2
      have hbel2 := bel_tr hbel hb2
      have hsz2 := hb2.size
      clear hown hbel hb2
      go_wp2_with fail
      have hxl := hown2.reads.1
      have HXL : Hid (n = xs.length) := hxl
      clear hxl
      refine (scale_any a n cap xs 10000000000000000000 V _ w.heap.size hown2 (by omega) (by omega) HNF.out.1 ⟨by omega, by omega⟩ ⟨v0, by omega⟩).mono ?_
      rintro e w3 ⟨a', n', cap', rfl, hown3, hb3⟩
      have hbel3 := hbel2.trans hb3
      have HV3 := sclL_val (xs := xs) (d := 10000000000000000000) (c := V) HNF.out.1 ⟨by omega, by omega⟩ ⟨v0, by omega⟩
      have HN3 : Hid (NF (sclL xs 10000000000000000000 V)) := sclL_nf HNF.out ⟨by omega, by omega⟩ ⟨v0, by omega⟩ (by omega)
      have HVN : Hid (val (sclL xs 10000000000000000000 V) = rdF s 0 (o + (r + 1))) := by
        show _ = _
        rw [HV3.2.1, rdF_add, HV.out, HVV.out, Nat.zero_add]
        rcases h19 with h | h
        · subst h; simp [rdF]
        · have h2 := HR.out
          rw [show r + 1 = 19 by omega]
          rfl
      have hlen : n' ≤ o + (r + 1) := by
        have h1 := hown3.reads.1
        have h2 := HV3.2.2
        have h3 := HXL.out
        omega
      have HLE : Hid ((t.extract (r + 1) t.size).size = t.size - (r + 1)) := size_extract _ _ _ (Nat.le_refl _)
      have HBT2 : Hid (∀ i, i < (t.extract (r + 1) t.size).size → byt (t.extract (r + 1) t.size) i = byt s (o + (r + 1) + i)) := fun i hi => by
        rw [HLE.out] at hi
        rw [byt_extract _ _ _ _ (Nat.le_refl _) (by omega), HBT.out _ (by omega), show o + (r + 1 + i) = o + (r + 1) + i by omega]
      have H19 : Hid (o + (r + 1) = 0 ∨ (t.extract (r + 1) t.size).size % 19 = 0) := by
        right
        rw [HLE.out]
        have := HR.out
        omega
      clear hown2 hbel2 hb3 HV3 h19
      go_wp2
      go_roundw
      case rel => exact ⟨_, o + (r + 1), a', n', cap', _, rfl, rfl, by rw [HLE.out]; have := HOT.out; omega, H19.out, HBT2.out, hown3, HN3.out, HVN.out, hlen, hbel3⟩
      case measure => simp only [strLen]; rw [HLE.out]; omega
    · have hil : ¬ (0 : Int) < (t.size : Int) := by omega
      have HOS : Hid (o = s.size) := by show _ = _; have := HOT.out; omega
      have hG : Got wr w.heap.size (.slice a n cap) (rdF s 0 s.size) s.size := ⟨xs, hown, HNF.out, by rw [HV.out, HOS.out], by have := hown.reads.1; have := HOS.out; omega⟩
      clear hown
      go_wp2
      go_ret2
      exact ⟨a, n, cap, rfl, hG, hbel⟩
end Go.Proofs.YtfelogbfijomiabGreatDoor
