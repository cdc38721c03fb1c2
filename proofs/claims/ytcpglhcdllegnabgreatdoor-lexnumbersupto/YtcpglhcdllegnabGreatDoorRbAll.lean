import Derived.Test.YtcpglhcdllegnabGreatDoorR4All
import Derived.Test.YtcpglhcdllegnabGreatDoorR3XAll
namespace Go.Proofs.YtcpglhcdllegnabGreatDoor
open Go.RowKit Go.Shelf

set_option maxRecDepth 100000 in
set_option maxHeartbeats 4000000 in
/-- rat.parseDecimal where the exponent is at fault -/
theorem decXE {s dg ex ah be : ByteArray} {x : Int} {S : Nat} (w : World) (hE : CutsE s dg ex) (hC : CutsP dg ah be) (hN : NoSign be) (hP : ParsesI (ah ++ be) x S) {ev : Value} (E : Errs w 12 ev) (hX : ∀ w, Errs w 12 ev → Calls Tryz.prog 116 #[.string ex] w fun e w' => e = .returned (.tuple #[.int .i64 0, ev]) ∧ Below w.heap.size w w') (hah : ah.size ≤ 2000000) (hb9 : be.size ≤ 2000000) :
    Calls Tryz.prog 105 #[.string s] w fun e w' => e = .returned (.tuple #[.agg #[.bool false, .slice none 0 0, .slice none 0 0], ev]) ∧ Below w.heap.size w w' := by
  have R0 := var3_new w (.bool false) (.slice none 0 0) (.slice none 0 0) 27
  have hb0 := bel_d0 w (.cells #[.bool false, .slice none 0 0, .slice none 0 0] 27)
  have hsz : w.heap.size + 1 ≤ (w.alloc (.cells #[.bool false, .slice none 0 0, .slice none 0 0] 27)).heap.size := by simp
  replace E := E.below hb0
  go_enter Tryz.func105, Tryz.ntmps105
  go_wp2_with fail
  generalize w.alloc (.cells #[.bool false, .slice none 0 0, .slice none 0 0] 27) = W0 at *
  refine (hE _).mono ?_
  rintro e w1 ⟨rfl, hx⟩
  replace E := E.below hx
  replace R0 := R0.below hx
  replace hb0 := bel_tr hb0 hx
  replace hsz := Nat.le_trans hsz (Below.size hx)
  clear hx hE
  go_wp2_with fail
  refine (hC _).mono ?_
  rintro e w2 ⟨b, rfl, hx⟩
  replace E := E.below hx
  replace R0 := R0.below hx
  replace hb0 := bel_tr hb0 hx
  replace hsz := Nat.le_trans hsz (Below.size hx)
  clear hx hC
  go_wp2_with fail
  refine (hN _).mono ?_
  rintro e w3 ⟨rfl, hx⟩
  replace E := E.below hx
  replace R0 := R0.below hx
  replace hb0 := bel_tr hb0 hx
  replace hsz := Nat.le_trans hsz (Below.size hx)
  clear hx hN
  go_wp2_with fail
  refine (hP _).mono ?_
  rintro e w4 ⟨v4, rfl, K0, hx⟩
  obtain ⟨f1, c1, n1, k1, rfl⟩ := K0.form
  replace K0 := K0.mono (B' := w.heap.size + 1) hsz
  replace E := E.below hx
  replace R0 := R0.below hx
  replace hb0 := bel_tr hb0 hx
  replace hsz := Nat.le_trans hsz (Below.size hx)
  clear hx hP
  have hszN := hsz
  have hx := bel_d0 w4 (.cells #[.bool f1, .slice c1 n1 k1] 25)
  replace E := E.below hx
  replace K0 := K0.below hx
  replace R0 := R0.below hx
  replace hb0 := bel_tr hb0 hx
  replace hsz := Nat.le_trans hsz (Below.size hx)
  have Vn := var2_new w4 (.bool f1) (.slice c1 n1 k1) 25
  clear hx
  go_wp2_with fail
  generalize w4.alloc (.cells #[.bool f1, .slice c1 n1 k1] 25) = w5 at *
  refine (hX _ E).mono ?_
  rintro e w6 ⟨rfl, hx⟩
  replace E := E.below hx
  replace R0 := R0.below hx
  replace hb0 := bel_tr hb0 hx
  replace hsz := Nat.le_trans hsz (Below.size hx)
  clear hx hX K0 Vn
  obtain ⟨r0c0, r0c1, r0c2, r0c3, r0c4, r0c5⟩ := id R0
  obtain ⟨V, O⟩ := R0.set (.bool false) (.slice none 0 0) (.slice none 0 0)
  have hw := hb0.trans (O.below (B := w.heap.size) (by omega))
  obtain ⟨p, rfl⟩ := E.2
  clear R0 O hb0 E
  go_wp2
  refine bodyPost_ret (v := .tuple #[.agg #[.bool false, .slice none 0 0, .slice none 0 0], _]) (by simp [results, Tryz.results105, go_sem, V.c0, V.c1, V.c2]) rfl ⟨rfl, hw⟩
set_option maxHeartbeats 4000000 in
theorem parseDE {s : ByteArray} (w : World) (hno : (47 : UInt8) ∉ s.data.toList) {ev : Value} (E : Errs w 12 ev) (hD : ∀ w, Errs w 12 ev → Calls Tryz.prog 105 #[.string s] w fun e w' => e = .returned (.tuple #[.agg #[.bool false, .slice none 0 0, .slice none 0 0], ev]) ∧ Below w.heap.size w w') :
    Calls Tryz.prog 91 #[.string s] w fun e w' => e = .returned (.tuple #[.agg #[.bool false, .slice none 0 0, .slice none 0 0], ev]) ∧ Below w.heap.size w w' := by
  have R0 := var3_new w (.bool false) (.slice none 0 0) (.slice none 0 0) 27
  have hb0 := bel_d0 w (.cells #[.bool false, .slice none 0 0, .slice none 0 0] 27)
  have hsz : w.heap.size + 1 ≤ (w.alloc (.cells #[.bool false, .slice none 0 0, .slice none 0 0] 27)).heap.size := by simp
  replace E := E.below hb0
  go_enter Tryz.func91, Tryz.ntmps91
  go_wp2_with fail
  generalize w.alloc (.cells #[.bool false, .slice none 0 0, .slice none 0 0] 27) = W0 at *
  refine (cutN47 _ _ hno).mono ?_
  rintro e w1 ⟨rfl, hx⟩
  replace E := E.below hx
  replace R0 := R0.below hx
  replace hb0 := bel_tr hb0 hx
  replace hsz := Nat.le_trans hsz (Below.size hx)
  clear hx
  clear hno
  go_wp2_with fail
  refine (hD _ E).mono ?_
  rintro e w2 ⟨rfl, hx⟩
  replace E := E.below hx
  replace R0 := R0.below hx
  replace hb0 := bel_tr hb0 hx
  replace hsz := Nat.le_trans hsz (Below.size hx)
  clear hx hD
  obtain ⟨r0c0, r0c1, r0c2, r0c3, r0c4, r0c5⟩ := id R0
  obtain ⟨V, O⟩ := R0.set (.bool false) (.slice none 0 0) (.slice none 0 0)
  have hw := hb0.trans (O.below (B := w.heap.size) (by omega))
  obtain ⟨p, rfl⟩ := E.2
  clear R0 O hb0 E
  go_wp2
  refine bodyPost_ret (v := .tuple #[.agg #[.bool false, .slice none 0 0, .slice none 0 0], _]) (by simp [results, Tryz.results91, go_sem, V.c0, V.c1, V.c2]) rfl ⟨rfl, hw⟩
/-- rat.Parse of a literal whose exponent is too great -/
theorem litE {s dg ex ah be : ByteArray} {x : Int} {S : Nat} (w : World) {ev : Value} (E : Errs w 12 ev) (hno : (47 : UInt8) ∉ s.data.toList) (hE : CutsE s dg ex) (hC : CutsP dg ah be) (hN : NoSign be) (hP : ParsesI (ah ++ be) x S) (hX : ∀ w, Errs w 12 ev → Calls Tryz.prog 116 #[.string ex] w fun e w' => e = .returned (.tuple #[.int .i64 0, ev]) ∧ Below w.heap.size w w') (hah : ah.size ≤ 1100000) (hb9 : be.size ≤ 1100000) :
    Calls Tryz.prog 91 #[.string s] w fun e w' => e = .returned (.tuple #[.agg #[.bool false, .slice none 0 0, .slice none 0 0], ev]) ∧ Below w.heap.size w w' :=
  parseDE w hno E fun w E => decXE w hE hC hN hP E hX (by omega) (by omega)
end Go.Proofs.YtcpglhcdllegnabGreatDoor

namespace Go.Proofs.YtcpglhcdllegnabGreatDoor
open Go.RowKit

theorem TR.bd {w : World} {p : Bool} {a : Option Addr} {na ca : Nat} {d : Option Addr} {nd cd : Nat} {r : Rat} {S : Nat} (h : TR w p a na ca d nd cd r S) (hS1 : 1 ≤ S) : (r.num.natAbs : Int) < pw S ∧ (r.den : Int) < pw S := by
  obtain ⟨x, y, hx, hy, rfl⟩ := h
  have h1 := hx.lt
  have h2 : y < pw S := by
    obtain ⟨xs, a1, a2, a3, a4, a5, a6⟩ := hy
    have a7 := val_lt a4
    have a8 := pw_mono (show xs.length ≤ S by omega)
    rw [← a5]; omega
  have h3 := hy.nn
  have h4 : (1 : Int) < pw S := by
    have b := pw_mono hS1
    have e : pw 1 = 18446744073709551616 := by simp [pw]
    omega
  by_cases hz : y = 0
  · subst hz
    rw [Rat.divInt_zero]
    exact ⟨by simpa using (by omega : (0 : Int) < pw S), h4⟩
  · have hs : y.sign = 1 := Int.sign_eq_one_of_pos (by omega)
    refine ⟨?_, ?_⟩
    · rw [Rat.num_divInt, hs, Int.one_mul]
      have := Int.natAbs_ediv_le_natAbs x (Int.gcd y x)
      omega
    · rw [Rat.den_divInt, if_neg hz]
      have := Nat.div_le_self y.natAbs (Int.gcd y x)
      omega
theorem txt_bd {v S : Nat} (h : (v : Int) < pw S) : (txt v).size ≤ 20 * S + 1 := by
  have h1 : (decs v).length ≤ 20 * S := by
    refine decs_le _ _ ?_
    have h2 := pw_ten S
    generalize 10 ^ (20 * S) = T at *
    omega
  unfold txt
  split
  · rw [strOfNums_size]; simp
  · rw [strOfNums_size]; simp; omega
theorem txtI_bd {x : Int} {S : Nat} (h : (x.natAbs : Int) < pw S) : (txtI x).size ≤ 20 * S + 2 := by
  have := txt_bd h
  unfold txtI
  split
  · rw [ByteArray.size_append, strOfNums_size]; simp only [List.length_cons, List.length_nil]; omega
  · omega
theorem txtQ_bd {r : Rat} {S : Nat} (h1 : (r.num.natAbs : Int) < pw S) (h2 : (r.den : Int) < pw S) : (txtQ r).size ≤ 40 * S + 4 := by
  have a := txtI_bd h1
  have b := txt_bd h2
  unfold txtQ
  split
  · omega
  · rw [ByteArray.size_append, ByteArray.size_append]
    have : ({ data := #[47] } : ByteArray).size = 1 := rfl
    omega
theorem txtQ_pos (r : Rat) : 0 < (txtQ r).size := by
  have := txtI_pos r.num
  unfold txtQ
  split
  · exact this
  · rw [ByteArray.size_append, ByteArray.size_append]; omega
theorem byt_mem {s : ByteArray} {i : Nat} (h : i < s.size) : ∃ b, b ∈ s.data.toList ∧ byt s i = (b.toNat : Int) := by
  have hi : i < s.data.toList.length := by simpa using h
  refine ⟨s.data.toList[i], List.getElem_mem hi, ?_⟩
  unfold byt
  simp only [List.getD, List.getElem?_eq_getElem hi, Option.getD_some]
theorem byt_left {a b : ByteArray} {i : Nat} (h : i < a.size) : byt (a ++ b) i = byt a i := by
  have hi : i < a.data.toList.length := by simpa using h
  unfold byt
  rw [ByteArray.data_append, Array.toList_append]
  simp only [List.getD, List.getElem?_append_left hi]
theorem byt_right {a b : ByteArray} {i : Nat} (h : a.size ≤ i) : byt (a ++ b) i = byt b (i - a.size) := by
  have hi : a.data.toList.length ≤ i := by simpa using h
  unfold byt
  rw [ByteArray.data_append, Array.toList_append]
  simp only [List.getD, List.getElem?_append_right hi]
  congr 3
theorem txtI_byte (x : Int) {i : Nat} (h : i < (txtI x).size) : (48 ≤ byt (txtI x) i ∧ byt (txtI x) i ≤ 57) ∨ (byt (txtI x) i = 45 ∧ i = 0) := by
  unfold txtI at h ⊢
  split at h
  · rename_i hx
    rw [if_pos hx]
    have e1 : (strOfNums [45]).size = 1 := by rw [strOfNums_size]; rfl
    rw [ByteArray.size_append, e1] at h
    rcases (by omega : i = 0 ∨ 1 ≤ i) with rfl | hi
    · right
      rw [byt_left (by omega)]
      exact ⟨by decide, rfl⟩
    · left
      rw [byt_right (by omega), e1]
      exact digs_txt _ _ (by omega)
  · rename_i hx
    rw [if_neg hx]
    exact .inl (digs_txt _ _ h)
theorem txtQ_byte (r : Rat) {i : Nat} (h : i < (txtQ r).size) : (48 ≤ byt (txtQ r) i ∧ byt (txtQ r) i ≤ 57) ∨ (byt (txtQ r) i = 45 ∧ i = 0) ∨ byt (txtQ r) i = 47 := by
  unfold txtQ at h ⊢
  split at h
  · rename_i hx
    rw [if_pos hx]
    rcases txtI_byte _ h with h | h
    · exact .inl h
    · exact .inr (.inl h)
  · rename_i hx
    rw [if_neg hx]
    have e1 : ({ data := #[47] } : ByteArray).size = 1 := rfl
    rw [ByteArray.size_append, ByteArray.size_append, e1] at h
    rcases (by omega : i < (txtI r.num).size ∨ i = (txtI r.num).size ∨ (txtI r.num).size + 1 ≤ i) with hi | hi | hi
    · rw [byt_left (by rw [ByteArray.size_append]; omega), byt_left hi]
      rcases txtI_byte _ hi with h | h
      · exact .inl h
      · exact .inr (.inl h)
    · right; right
      rw [byt_left (by rw [ByteArray.size_append, e1]; omega), byt_right (by omega), hi, Nat.sub_self]
      decide
    · left
      rw [byt_right (by rw [ByteArray.size_append, e1]; omega), ByteArray.size_append, e1]
      exact digs_txt _ _ (by omega)
theorem txt_inj {u v : Nat} (h : txt u = txt v) : u = v := by
  have h1 := rd_txt u
  rw [h, rd_txt v] at h1
  omega
theorem txtI_inj {x y : Int} (h : txtI x = txtI y) : x = y := by
  have h1 := cut_txtI x
  rw [h, cut_txtI y] at h1
  simp only [Prod.mk.injEq] at h1
  have h2 := txt_inj h1.2
  have h3 := h1.1
  rw [decide_eq_decide] at h3
  omega
theorem txtQ_inj {r s : Rat} (h : txtQ r = txtQ s) : r = s := by
  have no : ∀ x : Int, (47 : UInt8) ∉ (txtI x).data.toList := fun x hm => by rcases txtI_mem x hm with h | h <;> revert h <;> decide
  have yes : ∀ (a b : ByteArray), (47 : UInt8) ∈ (a ++ ⟨#[47]⟩ ++ b).data.toList := fun a b => by
    rw [ByteArray.data_append, ByteArray.data_append, Array.toList_append, Array.toList_append]; simp
  have ix : ∀ (x : Int) (b : ByteArray), Lib.indexByte (txtI x ++ ⟨#[47]⟩ ++ b).data.toList 47 = ((txtI x).size : Int) := fun x b => by
    rw [ByteArray.data_append, ByteArray.data_append, Array.toList_append, Array.toList_append, List.append_assoc]
    have := ixb_at (l := (txtI x).data.toList) (r := b.data.toList) (c := 47) (no x)
    simpa using this
  unfold txtQ at h
  by_cases h1 : r.den = 1 <;> by_cases h2 : s.den = 1
  · rw [if_pos h1, if_pos h2] at h
    exact Rat.ext (txtI_inj h) (by rw [h1, h2])
  · rw [if_pos h1, if_neg h2] at h
    exact absurd (h ▸ yes (txtI s.num) (txt s.den)) (no r.num)
  · rw [if_neg h1, if_pos h2] at h
    exact absurd (h ▸ yes (txtI r.num) (txt r.den)) (no s.num)
  · rw [if_neg h1, if_neg h2] at h
    have e1 := ix r.num (txt r.den)
    rw [h, ix s.num (txt s.den)] at e1
    obtain ⟨a1, a2⟩ := ext_ab (txtI r.num) (txt r.den) 47
    obtain ⟨b1, b2⟩ := ext_ab (txtI s.num) (txt s.den) 47
    have e2 : (txtI s.num).size = (txtI r.num).size := by omega
    rw [h, ← e2] at a1 a2
    have c1 := b1.symm.trans a1
    have c2 := b2.symm.trans a2
    exact Rat.ext (txtI_inj c1).symm (txt_inj c2).symm
end Go.Proofs.YtcpglhcdllegnabGreatDoor
