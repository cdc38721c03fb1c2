import Derived.Test.YtdfoiklcekhmpaaGreatDoorR3X
namespace Go.Proofs.YtdfoiklcekhmpaaGreatDoor
open Go.RowKit Go.Shelf

theorem Got.ti' {w : World} {B : Nat} {a : Option Addr} {n c : Nat} {x : Int} {S : Nat} (h : Got w B (.slice a n c) x S) : TI w false a n c x S := ⟨_, h.num, rfl⟩
set_option maxHeartbeats 4000000 in
/-- rat.parseQuotient of two texts -/
theorem quotT {x : Int} {v S : Nat} (w : World) (h1 : (txtI x).size ≤ 100000000) (h2 : (txt v).size ≤ 100000000) (LX : (x.natAbs : Int) < pw S) (LV : (v : Int) < pw S) (hv : v ≠ 0) (hS : S ≤ 7000000) (hT : TB w) :
    Calls Tryz.prog 21 #[.string (txtI x), .string (txt v)] w fun e w' => ∃ f c n k c' n' k', e = .returned (.tuple #[.agg #[.bool f, .slice c n k, .slice c' n' k'], .nilIface]) ∧ GR w' w.heap.size f c n k c' n' k' (Rat.divInt x v) (S) ∧ Below w.heap.size w w' := by
  have R0 := var3_new w (.bool false) (.slice none 0 0) (.slice none 0 0) 28
  have hb0 := bel_d0 w (.cells #[.bool false, .slice none 0 0, .slice none 0 0] 28)
  have hsz : w.heap.size + 1 ≤ (w.alloc (.cells #[.bool false, .slice none 0 0, .slice none 0 0] 28)).heap.size := by simp
  replace hT := hT.below hb0
  go_enter Tryz.func21, Tryz.ntmps21
  go_wp2_with fail
  generalize w.alloc (.cells #[.bool false, .slice none 0 0, .slice none 0 0] 28) = W0 at *
  refine (parseT (x := x) _ h1).mono ?_
  rintro e w1 ⟨f1, c1, n1, k1, rfl, K1, hx⟩
  replace K1 := K1.mono (B' := w.heap.size + 1) hsz
  replace hT := hT.below hx
  replace R0 := R0.below hx
  replace hb0 := bel_tr hb0 hx
  replace hsz := Nat.le_trans hsz (Below.size hx)
  clear hx
  replace K1 := K1.shrink LX
  have hx := bel_d0 w1 (.cells #[.bool f1, .slice c1 n1 k1] 26)
  replace hT := hT.below hx
  replace K1 := K1.below hx
  replace R0 := R0.below hx
  replace hb0 := bel_tr hb0 hx
  replace hsz := Nat.le_trans hsz (Below.size hx)
  have Vn := var2_new w1 (.bool f1) (.slice c1 n1 k1) 26
  clear hx
  go_wp2_with fail
  generalize w1.alloc (.cells #[.bool f1, .slice c1 n1 k1] 26) = w2 at *
  refine (parseTN v _ h2).mono ?_
  rintro e w3 ⟨c2, n2, k2, rfl, G2, hx⟩
  replace G2 := G2.mono (B' := w.heap.size + 1) hsz
  replace hT := hT.below hx
  replace K1 := K1.below hx
  replace R0 := R0.below hx
  replace Vn := Vn.below hx
  replace hb0 := bel_tr hb0 hx
  replace hsz := Nat.le_trans hsz (Below.size hx)
  clear hx
  replace G2 := G2.shrink LV
  obtain ⟨vnc0, vnc1, vnc2, vnc3⟩ := id Vn
  go_wp2_with fail
  refine (makeQ _ K1.ti G2.ti' (by omega) hS hT).mono ?_
  rintro e w4 ⟨f5, c5, n5, k5, d5, m5, l5, rfl, G5, hx⟩
  replace G5 := G5.mono (B' := w.heap.size + 1) hsz
  clear vnc0 vnc1 vnc2 vnc3
  replace hT := hT.below hx
  replace K1 := K1.below hx
  replace G2 := G2.below hx
  replace R0 := R0.below hx
  replace Vn := Vn.below hx
  replace hb0 := bel_tr hb0 hx
  replace hsz := Nat.le_trans hsz (Below.size hx)
  clear hx
  clear K1
  clear G2
  clear Vn
  clear hT
  obtain ⟨r0c0, r0c1, r0c2, r0c3, r0c4, r0c5⟩ := id R0
  obtain ⟨V, OO⟩ := R0.set (.bool f5) (.slice c5 n5 k5) (.slice d5 m5 l5)
  have hw := hb0.trans (OO.below (B := w.heap.size) (by omega))
  have GF := G5.off OO (by omega)
  clear G5
  clear R0 OO hb0
  go_wp2
  refine bodyPost_ret (v := .tuple #[.agg #[.bool f5, .slice c5 n5 k5, .slice d5 m5 l5], .nilIface]) (by simp [results, Tryz.results21, go_sem, V.c0, V.c1, V.c2]) rfl ⟨_, _, _, _, _, _, _, rfl, GF.mono (by omega), hw⟩
theorem ext_ab (a b : ByteArray) (c : UInt8) : (a ++ ⟨#[c]⟩ ++ b).extract 0 a.size = a ∧ (a ++ ⟨#[c]⟩ ++ b).extract (a.size + 1) (a ++ ⟨#[c]⟩ ++ b).size = b := by
  obtain ⟨⟨l⟩⟩ := a
  obtain ⟨⟨r⟩⟩ := b
  have e1 : ({ data := { toList := l } } : ByteArray).size = l.length := rfl
  have e2 : ({ data := { toList := r } } : ByteArray).size = r.length := rfl
  constructor
  · apply ByteArray.ext
    simp only [ByteArray.data_extract, ByteArray.data_append, e1]
    simp
  · apply ByteArray.ext
    rw [ByteArray.size_append, ByteArray.size_append]
    simp only [ByteArray.data_extract, ByteArray.data_append, e1, e2]
    have e3 : ({ data := #[c] } : ByteArray).size = 1 := rfl
    simp [e3]
theorem txt_mem (v : Nat) {b : UInt8} (h : b ∈ (txt v).data.toList) : 48 ≤ b.toNat ∧ b.toNat ≤ 57 := by
  obtain ⟨i, hi, e⟩ := List.getElem_of_mem h
  have h1 := digs_txt v i (by simpa using hi)
  unfold byt at h1
  simp only [List.getD, List.getElem?_eq_getElem hi, Option.getD_some, e] at h1
  omega
theorem txtI_mem (x : Int) {b : UInt8} (h : b ∈ (txtI x).data.toList) : b.toNat = 45 ∨ 48 ≤ b.toNat ∧ b.toNat ≤ 57 := by
  unfold txtI at h
  split at h
  · rw [ByteArray.data_append, Array.toList_append, List.mem_append] at h
    rcases h with h | h
    · left
      have : b ∈ ([45] : List UInt8) := h
      simp at this; subst this; rfl
    · exact .inr (txt_mem _ h)
  · exact .inr (txt_mem _ h)
theorem txtI_pos (x : Int) : 0 < (txtI x).size := by
  have := size_txt x.natAbs
  unfold txtI; split
  · rw [ByteArray.size_append]; omega
  · exact this
set_option maxHeartbeats 4000000 in
/-- rat.Parse of a quotient's text -/
theorem parseQT {x : Int} {v S : Nat} (w : World) (hz : (txtI x ++ ⟨#[47]⟩ ++ txt v).size ≤ 100000000) (LX : (x.natAbs : Int) < pw S) (LV : (v : Int) < pw S) (hv : v ≠ 0) (hS : S ≤ 7000000) (hT : TB w) :
    Calls Tryz.prog 6 #[.string (txtI x ++ ⟨#[47]⟩ ++ txt v)] w fun e w' => ∃ f c n k c' n' k', e = .returned (.tuple #[.agg #[.bool f, .slice c n k, .slice c' n' k'], .nilIface]) ∧ GR w' w.heap.size f c n k c' n' k' (Rat.divInt x v) (S) ∧ Below w.heap.size w w' := by
  have R0 := var3_new w (.bool false) (.slice none 0 0) (.slice none 0 0) 28
  have hb0 := bel_d0 w (.cells #[.bool false, .slice none 0 0, .slice none 0 0] 28)
  have hsz : w.heap.size + 1 ≤ (w.alloc (.cells #[.bool false, .slice none 0 0, .slice none 0 0] 28)).heap.size := by simp
  replace hT := hT.below hb0
  go_enter Tryz.func6, Tryz.ntmps6
  go_wp2_with fail
  generalize w.alloc (.cells #[.bool false, .slice none 0 0, .slice none 0 0] 28) = W0 at *
  obtain ⟨x1, x2⟩ := ext_ab (txtI x) (txt v) 47
  have HX1 : Hid (_ = _) := x1
  have HX2 : Hid (_ = _) := x2
  clear x1 x2
  obtain ⟨s, hs⟩ : ∃ s, txtI x ++ ⟨#[47]⟩ ++ txt v = s := ⟨_, rfl⟩
  have HSS : Hid (txtI x ++ ⟨#[47]⟩ ++ txt v = s) := hs
  rw [hs] at HX1 HX2 hz ⊢
  clear hs
  have hix : Lib.indexByte s.data.toList 47 = ((txtI x).size : Int) := by
    rw [← HSS.out, ByteArray.data_append, ByteArray.data_append, Array.toList_append, Array.toList_append, List.append_assoc]
    have := ixb_at (l := (txtI x).data.toList) (r := (txt v).data.toList) (c := 47) (fun h => by rcases txtI_mem x h with h | h <;> revert h <;> decide)
    simpa using this
  have hss : s.size = (txtI x).size + 1 + (txt v).size := by
    rw [← HSS.out, ByteArray.size_append, ByteArray.size_append]; rfl
  have hp := txtI_pos x
  have hne : ([47] == s.toList) = false := by
    rw [beq_eq_false_iff_ne, ByteArray.toList_eq]
    intro e
    have := congrArg List.length e
    simp at this
    omega
  have hk := fun u => cutY47 s (txtI x).size u hne hix hz (by omega)
  rw [HX1.out, HX2.out] at hk
  clear HX1 HX2 hix hne hp
  refine (hk _).mono ?_
  rintro e w1 ⟨rfl, hx⟩
  replace hT := hT.below hx
  replace R0 := R0.below hx
  replace hb0 := bel_tr hb0 hx
  replace hsz := Nat.le_trans hsz (Below.size hx)
  clear hx
  clear hk
  go_wp2_with fail
  refine (quotT _ (by omega) (by omega) LX LV hv hS hT).mono ?_
  rintro e w2 ⟨f5, c5, n5, k5, d5, m5, l5, rfl, G5, hx⟩
  replace G5 := G5.mono (B' := w.heap.size + 1) hsz
  replace hT := hT.below hx
  replace R0 := R0.below hx
  replace hb0 := bel_tr hb0 hx
  replace hsz := Nat.le_trans hsz (Below.size hx)
  clear hx
  clear hT
  obtain ⟨r0c0, r0c1, r0c2, r0c3, r0c4, r0c5⟩ := id R0
  obtain ⟨V, OO⟩ := R0.set (.bool f5) (.slice c5 n5 k5) (.slice d5 m5 l5)
  have hw := hb0.trans (OO.below (B := w.heap.size) (by omega))
  have GF := G5.off OO (by omega)
  clear G5
  clear R0 OO hb0
  go_wp2
  refine bodyPost_ret (v := .tuple #[.agg #[.bool f5, .slice c5 n5 k5, .slice d5 m5 l5], .nilIface]) (by simp [results, Tryz.results6, go_sem, V.c0, V.c1, V.c2]) rfl ⟨_, _, _, _, _, _, _, rfl, GF.mono (by omega), hw⟩
end Go.Proofs.YtdfoiklcekhmpaaGreatDoor
