import Derived.Test.YtcpglhcdllegnabGreatDoorR4All
import Derived.Test.YtcpglhcdllegnabGreatDoorRbAll
namespace Go.Proofs.YtcpglhcdllegnabGreatDoor
open Go.RowKit Go.Shelf

/-- A byte list that lies there. -/
def ReadsB (w : World) (a : Option Addr) (xs : List Int) : Prop :=
  xs = [] ∨ ∃ b o, a = some ⟨b, o, none⟩ ∧ b < w.heap.size ∧ ∀ i, i < xs.length → w.cell? ⟨b, o + i, none⟩ = some (.int .u8 (xs.getD i 0))
theorem ReadsB.below {w w' : World} {a : Option Addr} {xs : List Int} (h : ReadsB w a xs) (hb : Below w.heap.size w w') : ReadsB w' a xs := by
  rcases h with h | ⟨b, o, h1, h2, h3⟩
  · exact .inl h
  · exact .inr ⟨b, o, h1, Nat.lt_of_lt_of_le h2 hb.size, fun i hi => (hb.cell (p := ⟨b, o + i, none⟩) h2).trans (h3 i hi)⟩
theorem strOfNums_append (a b : List Int) : strOfNums (a ++ b) = strOfNums a ++ strOfNums b := by apply ByteArray.ext; simp [strOfNums, ByteArray.data_append]
/-- The digits that bytes tell. -/
def dgs (xs : List Int) : ByteArray := strOfNums (xs.map fun x => 48 + x % 10)
theorem size_dgs (xs : List Int) : (dgs xs).size = xs.length := by unfold dgs; rw [strOfNums_size, List.length_map]
end Go.Proofs.YtcpglhcdllegnabGreatDoor

namespace Go.Proofs.YtcpglhcdllegnabGreatDoor
open Go.RowKit Go.Shelf

theorem dgs_mem (xs : List Int) {b : UInt8} (h : b ∈ (dgs xs).data.toList) : 48 ≤ b.toNat ∧ b.toNat ≤ 57 := by
  unfold dgs at h
  rw [strOfNums_data, List.mem_map] at h
  obtain ⟨z, hz, rfl⟩ := h
  obtain ⟨x, _, rfl⟩ := List.mem_map.1 hz
  have h1 : 0 ≤ x % 10 := Int.emod_nonneg _ (by omega)
  have h2 : x % 10 < 10 := Int.emod_lt_of_pos _ (by omega)
  rw [UInt8.toNat_ofNat']
  omega
/-- All its bytes are digits. -/
def AllD (s : ByteArray) : Prop := ∀ b ∈ s.data.toList, 48 ≤ b.toNat ∧ b.toNat ≤ 57
theorem AllD.digs {s : ByteArray} (h : AllD s) : Digs s s.size := by
  intro i hi
  have hi' : i < s.data.toList.length := by rw [sizeL]; exact hi
  have := h _ (List.getElem_mem hi')
  unfold byt
  simp only [List.getD, List.getElem?_eq_getElem hi', Option.getD_some]
  omega
theorem AllD.app {a b : ByteArray} (h : AllD a) (k : AllD b) : AllD (a ++ b) := by
  intro x hx
  rw [ByteArray.data_append, Array.toList_append, List.mem_append] at hx
  exact hx.elim (h x) (k x)
theorem allD_dgs (xs : List Int) : AllD (dgs xs) := fun _ h => dgs_mem xs h
theorem allD_txt (v : Nat) : AllD (txt v) := fun _ h => txt_mem v h
theorem AllD.asc {s : ByteArray} (h : AllD s) : Asc s := fun b hb => by have := h b hb; omega
theorem AllD.not {s : ByteArray} (h : AllD s) (c : UInt8) (hc : c.toNat < 48 ∨ 57 < c.toNat) : c ∉ s.data.toList := fun hm => by have := h c hm; omega
theorem AllD.noE {s : ByteArray} (h : AllD s) : ∀ b ∈ s.data.toList, b ∉ ([101, 69] : List UInt8) := fun b hb hc => by
  have h1 := h b hb
  simp at hc
  rcases hc with rfl | rfl <;> revert h1 <;> decide
theorem AllD.noS {s : ByteArray} (h : AllD s) : ∀ b ∈ s.data.toList, b ∉ ([43, 45] : List UInt8) := fun b hb hc => by
  have h1 := h b hb
  simp at hc
  rcases hc with rfl | rfl <;> revert h1 <;> decide
theorem parsesX_txt (k : Int) (h0 : -9999 ≤ k) (h1 : k ≤ 9999) (hs : (txtI k).size ≤ 100000000) : ParsesX (txtI k) k := fun w =>
  parseX (txtI k) k 100000000 w (fun w => (parseT (x := k) w hs).mono fun _ _ ⟨_, _, _, _, h1, h2, h3⟩ => ⟨_, h1, h2, h3⟩) (Nat.le_refl _) h0 h1
theorem noSign_nil : NoSign ⟨#[]⟩ := fun w => noSign ⟨#[]⟩ (by decide) (fun b hb => by cases hb) (fun b hb => by cases hb) w
theorem app_nil (s : ByteArray) : s ++ (⟨#[]⟩ : ByteArray) = s := by apply ByteArray.ext; simp [ByteArray.data_append]
theorem memApp {a b : ByteArray} {c : UInt8} (h : c ∈ (a ++ b).data.toList) : c ∈ a.data.toList ∨ c ∈ b.data.toList := by
  rw [ByteArray.data_append, Array.toList_append, List.mem_append] at h; exact h
theorem notApp {a b : ByteArray} {c : UInt8} (h : c ∉ a.data.toList) (k : c ∉ b.data.toList) : c ∉ (a ++ b).data.toList := fun m => (memApp m).elim h k
theorem Asc.app {a b : ByteArray} (h : Asc a) (k : Asc b) : Asc (a ++ b) := fun c m => (memApp m).elim (h c) (k c)
theorem asc_one {c : UInt8} (h : c.toNat < 128) : Asc ⟨#[c]⟩ := fun b hb => by
  have : b ∈ [c] := hb
  simp at this; subst this; exact h
theorem not_one {c d : UInt8} (h : c ≠ d) : c ∉ (⟨#[d]⟩ : ByteArray).data.toList := fun m => by
  have : c ∈ [d] := m
  simp at this; exact h this
theorem asc_txtI (k : Int) : Asc (txtI k) := fun b hb => by have := txtI_mem k hb; omega
theorem not_txtI (k : Int) (c : UInt8) (hc : c.toNat < 45 ∨ c.toNat = 46 ∨ c.toNat = 47 ∨ 57 < c.toNat) : c ∉ (txtI k).data.toList := fun m => by have := txtI_mem k m; omega
theorem parsesX_zero : ParsesX ⟨#[48]⟩ 0 := fun w => parseExp w
theorem size_txtI {k : Int} (h : (k.natAbs : Int) < 18446744073709551616) : (txtI k).size ≤ 22 := by
  have := txt_bd (v := k.natAbs) (S := 1) h
  unfold txtI; split
  · rw [ByteArray.size_append, strOfNums_size]; simp; omega
  · omega
/-- digits, no point, no exponent -/
theorem lit_plain (d : ByteArray) (hd : AllD d) (h0 : 0 < d.size) (hs : d.size ≤ 1100000) (w : World) (hT : TB w) : Parses d (litV (rdF d 0 d.size) 0 0) (d.size + 10001) w :=
  litG (ah := d) (be := ⟨#[]⟩) (S := d.size) w hT (hd.not 47 (by decide)) (fun w => cutsE_none d (by omega) hd.asc hd.noE w) (fun w => cutsP_none d (hd.not 46 (by decide)) w) noSign_nil (fun w => by rw [app_nil]; exact parsesI_digs d hd.digs h0 (by omega) w) parsesX_zero (by decide) (by decide) (by omega) (by decide) (by omega)
/-- digits and an exponent -/
theorem lit_exp (d x : ByteArray) (c : UInt8) (t : Int) (hc : c ∈ ([101, 69] : List UInt8)) (hd : AllD d) (h0 : 0 < d.size) (hs : d.size ≤ 1100000) (hx : Asc x) (hx47 : (47 : UInt8) ∉ x.data.toList) (hxs : x.size ≤ 1000) (hX : ParsesX x t) (h8 : -9999 ≤ t) (h9 : t ≤ 9999) (w : World) (hT : TB w) :
    Parses (d ++ ⟨#[c]⟩ ++ x) (litV (rdF d 0 d.size) t 0) (d.size + 10001) w := by
  have hc1 : c.toNat < 128 ∧ (47 : UInt8) ≠ c := by
    simp at hc
    rcases hc with rfl | rfl <;> decide
  exact litG (ah := d) (be := ⟨#[]⟩) (S := d.size) w hT (notApp (notApp (hd.not 47 (by decide)) (not_one hc1.2)) hx47) (fun w => cutsE_some d x c hc (by omega) ((hd.asc.app (asc_one hc1.1)).app hx) hd.noE w) (fun w => cutsP_none d (hd.not 46 (by decide)) w) noSign_nil (fun w => by rw [app_nil]; exact parsesI_digs d hd.digs h0 (by omega) w) hX h8 h9 (by omega) (by decide) (by omega)
theorem lit_expE (d x : ByteArray) (c : UInt8) (hc : c ∈ ([101, 69] : List UInt8)) (hd : AllD d) (h0 : 0 < d.size) (hs : d.size ≤ 1100000) (hx : Asc x) (hx47 : (47 : UInt8) ∉ x.data.toList) (hxs : x.size ≤ 1000) (w : World) {ev : Value} (E : Errs w 12 ev) (hX : ∀ w, Errs w 12 ev → Calls Tryz.prog 116 #[.string x] w fun e w' => e = .returned (.tuple #[.int .i64 0, ev]) ∧ Below w.heap.size w w') :
    Calls Tryz.prog 91 #[.string (d ++ ⟨#[c]⟩ ++ x)] w fun e w' => e = .returned (.tuple #[.agg #[.bool false, .slice none 0 0, .slice none 0 0], ev]) ∧ Below w.heap.size w w' := by
  have hc1 : c.toNat < 128 ∧ (47 : UInt8) ≠ c := by
    simp at hc
    rcases hc with rfl | rfl <;> decide
  exact litE (be := ⟨#[]⟩) w E (notApp (notApp (hd.not 47 (by decide)) (not_one hc1.2)) hx47) (fun w => cutsE_some d x c hc (by omega) ((hd.asc.app (asc_one hc1.1)).app hx) hd.noE w) (fun w => cutsP_none d (hd.not 46 (by decide)) w) noSign_nil (fun w => by rw [app_nil]; exact parsesI_digs d hd.digs h0 (by omega) w) hX (by omega) (by decide)
/-- digits with a point -/
theorem lit_point (a b : ByteArray) (ha : AllD a) (hb : AllD b) (h0 : 0 < (a ++ b).size) (hs : (a ++ b).size ≤ 1050000) (w : World) (hT : TB w) :
    Parses (a ++ ⟨#[46]⟩ ++ b) (litV (rdF (a ++ b) 0 (a ++ b).size) 0 b.size) ((a ++ b).size + b.size + 10001) w := by
  have hsz : (a ++ b).size = a.size + b.size := ByteArray.size_append
  have hss : (a ++ ⟨#[46]⟩ ++ b).size = a.size + 1 + b.size := by rw [ByteArray.size_append, ByteArray.size_append]; rfl
  have hE : ∀ x ∈ (a ++ ⟨#[46]⟩ ++ b).data.toList, x ∉ ([101, 69] : List UInt8) := fun x hx => by
    rcases memApp hx with h | h
    · rcases memApp h with h | h
      · exact ha.noE x h
      · have : x ∈ ([46] : List UInt8) := h
        simp at this; subst this; decide
    · exact hb.noE x h
  exact litG w hT (notApp (notApp (ha.not 47 (by decide)) (not_one (by decide))) (hb.not 47 (by decide))) (fun w => cutsE_none _ (by omega) ((ha.asc.app (asc_one (by decide))).app hb.asc) hE w) (fun w => cutsP_some a b (ha.not 46 (by decide)) (by omega) (by omega) w) (fun w => noSign b (by omega) hb.asc hb.noS w) (fun w => parsesI_digs (a ++ b) (ha.app hb).digs h0 (by omega) w) parsesX_zero (by decide) (by decide) (by omega) (by omega) (by omega)
theorem allD_one : AllD ⟨#[49]⟩ := fun b hb => by
  have : b ∈ [(49 : UInt8)] := hb
  simp at this; subst this; decide
/-- 1e and a whole number -/
theorem lit_one (c : UInt8) (k : Int) (hc : c ∈ ([101, 69] : List UInt8)) (h8 : -9999 ≤ k) (h9 : k ≤ 9999) (w : World) (hT : TB w) : Parses (⟨#[49]⟩ ++ ⟨#[c]⟩ ++ txtI k) (litV 1 k 0) 10002 w :=
  lit_exp ⟨#[49]⟩ (txtI k) c k hc allD_one (by decide) (by decide) (asc_txtI k) (not_txtI k 47 (by decide)) (by have := size_txtI (k := k) (by omega); omega) (parsesX_txt k h8 h9 (by have := size_txtI (k := k) (by omega); omega)) h8 h9 w hT
theorem lit_oneE (c : UInt8) (k : Int) (hc : c ∈ ([101, 69] : List UInt8)) (h9 : k = 10000) (w : World) {ev : Value} (E : Errs w 12 ev) :
    Calls Tryz.prog 91 #[.string (⟨#[49]⟩ ++ ⟨#[c]⟩ ++ txtI k)] w fun e w' => e = .returned (.tuple #[.agg #[.bool false, .slice none 0 0, .slice none 0 0], ev]) ∧ Below w.heap.size w w' :=
  lit_expE ⟨#[49]⟩ (txtI k) c hc allD_one (by decide) (by decide) (asc_txtI k) (not_txtI k 47 (by decide)) (by have := size_txtI (k := k) (by omega); omega) w E fun w E =>
    parseXE (txtI k) k 100000000 w E (fun w => (parseT (x := k) w (by have := size_txtI (k := k) (by omega); omega)).mono fun _ _ ⟨_, _, _, _, h1, h2, h3⟩ => ⟨_, h1, h2, h3⟩) (Nat.le_refl _) (by omega)
/-- 1e- and a number -/
theorem lit_neg (n : Nat) (h9 : n ≤ 9999) (w : World) (hT : TB w) : Parses (⟨#[49]⟩ ++ ⟨#[101]⟩ ++ (⟨#[45]⟩ ++ txt n)) (litV 1 (-(n : Int)) 0) 10002 w := by
  have hz := txt_bd (v := n) (S := 1) (by show (n : Int) < 18446744073709551616; omega)
  have hz2 : (⟨#[45]⟩ ++ txt n : ByteArray).size = 1 + (txt n).size := by rw [ByteArray.size_append]; rfl
  have hP : ParsesI (⟨#[45]⟩ ++ txt n) (-(n : Int)) (txt n).size := fun w => by
    have := parsesI_neg (txt n) (digs_txt n) (size_txt n) (by omega) w
    rw [rd_txt] at this
    exact this
  exact lit_exp ⟨#[49]⟩ (⟨#[45]⟩ ++ txt n) 101 (-(n : Int)) (by decide) allD_one (by decide) (by decide) ((asc_one (by decide)).app (allD_txt n).asc) (notApp (not_one (by decide)) ((allD_txt n).not 47 (by decide))) (by omega) (fun w => parseX _ _ _ w hP (by omega) (by omega) (by omega)) (by omega) (by omega) w hT
-- what literals are worth
theorem p10_ne (k : Nat) : p10 k ≠ 0 := Int.ne_of_gt (p10_pos k)
theorem litV_up (k : Int) : litV 1 k 0 * ((10 : Int) : Rat) = litV 1 (k + 1) 0 := by
  have e10 : ((10 : Int) : Rat) = Rat.divInt 10 1 := rfl
  unfold litV
  rw [e10, Rat.divInt_mul_divInt]
  simp only [Int.one_mul, Int.mul_one]
  by_cases h : 0 ≤ k
  · rw [show (k + 1 - ((0 : Nat) : Int)).toNat = (k - ((0 : Nat) : Int)).toNat + 1 by omega, show (((0 : Nat) : Int) - (k + 1)).toNat = 0 by omega, show (((0 : Nat) : Int) - k).toNat = 0 by omega]
    rfl
  · rw [show (k + 1 - ((0 : Nat) : Int)).toNat = 0 by omega, show (k - ((0 : Nat) : Int)).toNat = 0 by omega, show (((0 : Nat) : Int) - k).toNat = (((0 : Nat) : Int) - (k + 1)).toNat + 1 by omega]
    show Rat.divInt (1 * 10) (p10 _ * 10) = Rat.divInt 1 (p10 _)
    rw [Rat.divInt_eq_divInt_iff (by have := p10_pos (((0 : Nat) : Int) - (k + 1)).toNat; omega) (p10_ne _)]
    omega
theorem litV_exp (x k : Int) : litV x 0 0 * litV 1 k 0 = litV x k 0 := by
  unfold litV
  rw [Rat.divInt_mul_divInt]
  show Rat.divInt (x * 1 * (1 * p10 _)) (1 * p10 _) = _
  simp only [Int.one_mul, Int.mul_one]
theorem litV_point (x : Int) (n : Nat) : litV x 0 0 * litV 1 (-(n : Int)) 0 = litV x 0 n := by
  unfold litV
  rw [Rat.divInt_mul_divInt, show (-(n : Int) - ((0 : Nat) : Int)).toNat = 0 by omega, show (((0 : Nat) : Int) - -(n : Int)).toNat = n by omega, show ((0 : Int) - (n : Int)).toNat = 0 by omega, show ((n : Int) - 0).toNat = n by omega]
  show Rat.divInt (x * 1 * (1 * 1)) (1 * p10 _) = Rat.divInt (x * 1) _
  simp only [Int.one_mul, Int.mul_one]
end Go.Proofs.YtcpglhcdllegnabGreatDoor
