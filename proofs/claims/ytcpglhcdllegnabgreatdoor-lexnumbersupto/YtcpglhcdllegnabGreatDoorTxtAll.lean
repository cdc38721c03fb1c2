import Derived.Test.YtcpglhcdllegnabGreatDoorDigAll
import Derived.Test.YtcpglhcdllegnabGreatDoorWhEAll
import Derived.Test.YtcpglhcdllegnabGreatDoorLawAll
import Derived.Test.YtcpglhcdllegnabGreatDoorRatAll
namespace Go.Proofs.YtcpglhcdllegnabGreatDoor
open Go.RowKit

/-- What digits tell, the least first. -/
def vl : List Int → Int
  | [] => 0
  | d :: r => d + 10 * vl r
theorem vl_nn : ∀ (zs : List Int), (∀ d ∈ zs, 0 ≤ d ∧ d ≤ 9) → 0 ≤ vl zs := by
  intro zs
  induction zs with
  | nil => intro _; simp [vl]
  | cons d r ih => intro h; have h1 := ih (fun x hx => h x (List.mem_cons_of_mem _ hx)); have h2 := h d (List.mem_cons_self ..); simp only [vl]; omega
theorem vl_decs (v : Nat) : vl (decs v) = v := by
  induction v using Nat.strongRecOn with
  | ind v ih =>
    by_cases hv : v = 0
    · subst hv; rw [decs_zero]; rfl
    · rw [decs_pos hv]
      have h := ih (v / 10) (by omega)
      simp only [vl]; omega
theorem decs_vl : ∀ (zs : List Int), (∀ d ∈ zs, 0 ≤ d ∧ d ≤ 9) → zs.getLast? ≠ some 0 → decs (vl zs).toNat = zs := by
  intro zs
  induction zs with
  | nil => intro _ _; show decs 0 = []; exact decs_zero
  | cons d r ih =>
    intro h hl
    have h2 := h d (List.mem_cons_self ..)
    have hr : ∀ x ∈ r, 0 ≤ x ∧ x ≤ 9 := fun x hx => h x (List.mem_cons_of_mem _ hx)
    have hn := vl_nn r hr
    have h3 : decs (vl r).toNat = r := by
      cases r with
      | nil => show decs 0 = []; exact decs_zero
      | cons x r => exact ih hr (by rw [List.getLast?_cons_cons] at hl; exact hl)
    have h4 : d ≠ 0 ∨ vl r ≠ 0 := by
      cases r with
      | nil => left; intro e; apply hl; subst e; rfl
      | cons x r => right; intro e; rw [e] at h3; rw [show (0 : Int).toNat = 0 from rfl, decs_zero] at h3; cases h3
    have e1 : (vl (d :: r)).toNat % 10 = d.toNat := by simp only [vl]; omega
    have e2 : (vl (d :: r)).toNat / 10 = (vl r).toNat := by simp only [vl]; omega
    rw [decs_pos (by simp only [vl]; omega), e1, e2, h3]
    congr 1
    omega

theorem byt_str {xs : List Int} (h : ∀ d ∈ xs, 0 ≤ d ∧ d < 256) {i : Nat} (hi : i < xs.length) : byt (strOfNums xs) i = xs[i] := by
  unfold byt
  rw [strOfNums_data, List.getD_eq_getElem?_getD, List.getElem?_map, List.getElem?_eq_getElem hi]
  have := h xs[i] (List.getElem_mem hi)
  simp only [Option.map_some, Option.getD_some, UInt8.toNat_ofNat']
  omega
theorem vl_app (a : List Int) (d : Int) (xs : List Int) (h : xs = a ++ [d]) : vl xs.reverse = vl a.reverse * 10 + d := by
  subst h
  simp only [List.reverse_append, List.reverse_cons, List.reverse_nil, List.nil_append, List.cons_append, vl]
  omega
theorem rd_str (xs : List Int) (h : ∀ d ∈ xs, 48 ≤ d ∧ d ≤ 57) (k : Nat) (hk : k ≤ xs.length) : rdF (strOfNums xs) 0 k = vl ((xs.take k).map (· - 48)).reverse := by
  induction k with
  | zero => rfl
  | succ k ih =>
    have hb := byt_str (xs := xs) (fun d hd => by have := h d hd; omega) (i := k) (by omega)
    show rdF _ 0 k * 10 + (byt _ (0 + k) - 48) = _
    have e := vl_app ((xs.take k).map (· - 48)) (xs[k] - 48) ((xs.take (k + 1)).map (· - 48)) (by rw [List.take_succ_eq_append_getElem (by omega), List.map_append]; rfl)
    rw [Nat.zero_add, hb, ih (by omega), e]
theorem rd_str_all (xs : List Int) (h : ∀ d ∈ xs, 48 ≤ d ∧ d ≤ 57) : rdF (strOfNums xs) 0 (strOfNums xs).size = vl (xs.map (· - 48)).reverse := by
  rw [strOfNums_size, rd_str xs h _ (Nat.le_refl _), List.take_length]
/-- A number's text, as a list. -/
def txtL (v : Nat) : List Int := if v = 0 then [48] else ((decs v).map (48 + ·)).reverse
theorem txt_txtL (v : Nat) : txt v = strOfNums (txtL v) := by unfold txt txtL; split <;> rfl
theorem txtL_bd (v : Nat) : ∀ d ∈ txtL v, 48 ≤ d ∧ d ≤ 57 := by
  intro d hd
  unfold txtL at hd
  split at hd
  · simp at hd; omega
  · rw [List.mem_reverse, List.mem_map] at hd
    obtain ⟨x, h1, rfl⟩ := hd
    have := decs_bd v x h1
    omega
theorem txtL_len (v : Nat) : 0 < (txtL v).length := by
  unfold txtL
  split
  · decide
  · rename_i h
    rw [List.length_reverse, List.length_map]
    rw [decs_pos h]; simp
theorem rd_txt (v : Nat) : rdF (txt v) 0 (txt v).size = v := by
  rw [txt_txtL, rd_str_all _ (txtL_bd v)]
  unfold txtL
  split
  · rename_i h; subst h; rfl
  · rw [List.map_reverse, List.reverse_reverse, List.map_map]
    rw [show ((fun x : Int => x - 48) ∘ fun x => 48 + x) = id by funext x; simp only [Function.comp, id]; omega, List.map_id]
    exact vl_decs v
theorem digs_txt (v : Nat) : Digs (txt v) (txt v).size := by
  intro i hi
  rw [txt_txtL] at hi ⊢
  rw [strOfNums_size] at hi
  rw [byt_str (fun d hd => by have := txtL_bd v d hd; omega) hi]
  exact txtL_bd v _ (List.getElem_mem hi)
theorem size_txt (v : Nat) : 0 < (txt v).size := by rw [txt_txtL, strOfNums_size]; exact txtL_len v
/-- Digits that don't open with nought, or are one, are the text of what they tell. -/
theorem txt_rd (t : ByteArray) (hd : Digs t t.size) (h0 : 0 < t.size) (h1 : t.size = 1 ∨ byt t 0 ≠ 48) : txt (rdF t 0 t.size).toNat = t := by
  obtain ⟨xs, rfl, hx⟩ : ∃ xs : List Int, t = strOfNums xs ∧ ∀ d ∈ xs, 48 ≤ d ∧ d ≤ 57 := by
    refine ⟨t.data.toList.map fun b => (b.toNat : Int), ?_, ?_⟩
    · obtain ⟨⟨l⟩⟩ := t
      simp only [strOfNums, List.map_map, ByteArray.mk.injEq]
      rw [show ((fun n : Int => UInt8.ofNat n.toNat) ∘ fun b : UInt8 => (b.toNat : Int)) = id by funext b; simp, List.map_id]
    · intro d hm
      obtain ⟨b, hb, rfl⟩ := List.mem_map.1 hm
      obtain ⟨i, hi, rfl⟩ := List.getElem_of_mem hb
      have := hd i hi
      unfold byt at this
      rw [List.getD_eq_getElem?_getD, List.getElem?_eq_getElem hi] at this
      exact this
  have hb : ∀ d ∈ xs, 0 ≤ d ∧ d < 256 := fun d hd => by have := hx d hd; omega
  rw [rd_str_all _ hx]
  rw [strOfNums_size] at h0 h1
  rw [byt_str hb h0] at h1
  clear hd
  rw [txt_txtL]
  congr 1
  by_cases hz : xs = [48]
  · subst hz; rfl
  · cases xs with
    | nil => exact absurd h0 (by simp)
    | cons d r =>
      have hd0 : d ≠ 48 := by
        rcases h1 with h1 | h1
        · rintro rfl
          apply hz
          cases r with
          | nil => rfl
          | cons y r => simp at h1
        · exact h1
      have hB : ∀ x ∈ ((d :: r).map (· - 48)).reverse, 0 ≤ x ∧ x ≤ 9 := by
        intro x hm
        rw [List.mem_reverse, List.mem_map] at hm
        obtain ⟨y, h2, rfl⟩ := hm
        have := hx y h2
        omega
      have e := decs_vl ((d :: r).map (· - 48)).reverse hB (by rw [List.getLast?_reverse]; simp; omega)
      unfold txtL
      rw [e, if_neg ?_]
      · rw [List.map_reverse, List.reverse_reverse, List.map_map]
        rw [show ((fun x : Int => 48 + x) ∘ fun x => x - 48) = id by funext x; simp only [Function.comp, id]; omega, List.map_id]
      · intro hq
        rw [hq, decs_zero] at e
        simp at e
end Go.Proofs.YtcpglhcdllegnabGreatDoor

namespace Go.Proofs.YtcpglhcdllegnabGreatDoor
open Go.RowKit

theorem byt_app (t u : ByteArray) (h : 0 < t.size) : byt (t ++ u) 0 = byt t 0 := by
  obtain ⟨⟨l⟩⟩ := t
  obtain ⟨⟨r⟩⟩ := u
  cases l with
  | nil => exact absurd h (by decide)
  | cons x l => simp [byt, ByteArray.data_append]
theorem ext_app (t u : ByteArray) (h : t.size = 1) : (t ++ u).extract 1 (t ++ u).size = u := by
  obtain ⟨⟨l⟩⟩ := t
  obtain ⟨⟨r⟩⟩ := u
  have h1 : l.length = 1 := h
  obtain ⟨y, rfl⟩ := List.length_eq_one_iff.1 h1
  apply ByteArray.ext
  rw [ByteArray.size_append]
  simp only [ByteArray.data_extract, ByteArray.data_append]
  have : ({ data := { toList := [y] } } : ByteArray).size = 1 := rfl
  have : ({ data := { toList := r } } : ByteArray).size = r.length := rfl
  simp [*]
theorem cut_txtI (x : Int) : cutS (txtI x) = (decide (x < 0), txt x.natAbs) := by
  have hd := digs_txt x.natAbs 0 (size_txt _)
  have hs := size_txt x.natAbs
  unfold txtI
  split
  · rename_i h
    unfold cutS
    rw [if_pos ⟨by rw [ByteArray.size_append, strOfNums_size]; simp only [List.length_cons, List.length_nil]; omega, by rw [byt_app _ _ (by decide)]; decide⟩, ext_app _ _ (by decide), decide_eq_true h]
  · rename_i h
    unfold cutS
    rw [if_neg (by omega), if_neg (by omega), decide_eq_false h]
theorem parseT {x : Int} (w : World) (hs : (txtI x).size ≤ 100000000) :
    Calls Tryz.prog 111 #[.string (txtI x)] w fun e w' => ∃ f c n d, e = .returned (.tuple #[.agg #[.bool f, .slice c n d], .nilIface]) ∧ GI w' w.heap.size (.agg #[.bool f, .slice c n d]) x 100000000 ∧ Below w.heap.size w w' := by
  have hz := cutS_size (txtI x)
  have h := parseI (txtI x) w hs (by rw [cut_txtI]; exact digs_txt _) (by rw [cut_txtI]; exact size_txt _)
  refine h.mono ?_
  rintro e w' ⟨v, rfl, G, hb⟩
  obtain ⟨f, c, n, d, rfl⟩ := G.form
  rw [cut_txtI] at G
  have e1 : rdF (txt x.natAbs) 0 (txt x.natAbs).size = (x.natAbs : Int) := rd_txt _
  have G' : GI w' w.heap.size _ (ws (decide (x < 0)) (rdF (txt x.natAbs) 0 (txt x.natAbs).size)) _ := G
  rw [e1, ws_sign] at G'
  exact ⟨f, c, n, d, rfl, G'.le (by rw [cut_txtI] at hz; exact Nat.le_trans hz hs), hb⟩
/-- nat.Parse of a number's text. -/
theorem parseTN (v : Nat) (w : World) (hs : (txt v).size ≤ 100000000) :
    Calls Tryz.prog 112 #[.string (txt v)] w fun e w' => ∃ c n d, e = .returned (.tuple #[.slice c n d, .nilIface]) ∧ Got w' w.heap.size (.slice c n d) (v : Int) 100000000 ∧ Below w.heap.size w w' := by
  refine (parse_yes (txt v) w hs (digs_txt v) (size_txt v)).mono ?_
  rintro e w' ⟨c, n, k, rfl, G, hb⟩
  exact ⟨c, n, k, rfl, (G.val (rd_txt v)).le hs, hb⟩
end Go.Proofs.YtcpglhcdllegnabGreatDoor
