import Derived.Test.YtbkkepbmaadomaaGreatDoorNtGAll
namespace Go.Proofs.YtbkkepbmaadomaaGreatDoor
open Go.RowKit Go.Shelf

/-- What stands behind the digits. -/
def tlx (x : Int) : ByteArray := if x = 0 then ⟨#[]⟩ else ⟨#[101]⟩ ++ txtI x
theorem dtx_tl (d : Nat) (x : Int) : dtx d x = txt d ++ tlx x := by
  unfold dtx tlx
  split
  · exact (app_nil _).symm
  · rfl
theorem tlx_size {x : Int} (h1 : -340 ≤ x) (h2 : x ≤ 340) : (tlx x).size ≤ 23 := by
  have := size_txtI (k := x) (by omega)
  unfold tlx
  split
  · decide
  · rw [ByteArray.size_append, show (⟨#[101]⟩ : ByteArray).size = 1 from rfl]; omega
theorem tlx_head (x : Int) (h : 0 < (tlx x).size) : byt (tlx x) 0 = 101 := by
  unfold tlx at *
  split at h
  · exact absurd h (by decide)
  · rename_i h0
    rw [if_neg h0]
    unfold byt
    rw [ByteArray.data_append, Array.toList_append]
    rfl
/-- Digits with that behind them. -/
theorem tail_parses {td : ByteArray} {V : Nat} {x : Int} (hd : AllD td) (h0 : 0 < td.size) (hs : td.size ≤ 20) (hv : rdF td 0 td.size = (V : Int)) (h1 : -340 ≤ x) (h2 : x ≤ 340) (w : World) (hT : TB w) : Parses (td ++ tlx x) (dec V x) 10021 w := by
  rw [← litV_dec]
  unfold tlx
  have key : ∀ {s : ByteArray} {r : Rat} {S : Nat}, Parses s r S w → S ≤ 10021 → Parses s r 10021 w := fun h hS => h.mono (by
    rintro e w1 ⟨f, c, n, k, c', n', k', rfl, G, hx⟩
    exact ⟨f, c, n, k, c', n', k', rfl, G.le hS, hx⟩)
  split
  · rename_i h0
    subst h0
    have := lit_plain td hd h0 (by omega) w hT
    rw [hv] at this
    rw [app_nil]
    exact key this (by omega)
  · have := lit_exp td (txtI x) 101 x (by decide) hd h0 (by omega) (asc_txtI x) (not_txtI x 47 (by decide)) (by have := size_txtI (k := x) (by omega); omega) (parsesX_txt x (by omega) (by omega) (by have := size_txtI (k := x) (by omega); omega)) (by omega) (by omega) w hT
    rw [hv, ByteArray.append_assoc] at this
    exact key this (by omega)
/-- What is not read as k. -/
theorem tail_other {td : ByteArray} {k V : Nat} {x : Int} (hd : AllD td) (h0 : 0 < td.size) (hs : td.size ≤ 20) (hv : rdF td 0 td.size = (V : Int)) (hV : 1 ≤ V) (h1 : -340 ≤ x) (h2 : x ≤ 340) (hk : k < 9218868437227405312) (hn : ¬ Rk k V x) :
    ∃ F : Nat, (∀ w, TB w → Calls Tryz.prog 14 #[.string (td ++ tlx x)] w fun e w' => e = .returned (.tuple #[.float .f64 F, .nilIface]) ∧ Below w.heap.size w w') ∧ (FloatKind.f64.format.order F k == some .eq) = false := by
  obtain ⟨t, P1, P2, -⟩ := dec_at (d := V) x hV
  refine ⟨fb (flz t), fun w hT => readOk (t : Int) w (tail_parses hd h0 hs hv h1 h2 w hT) (by decide) P2 rfl, ?_⟩
  have := eqF (j := flz t) (k := (k : Int)) P2.fl ⟨by omega, by omega⟩
  rw [show fb (k : Int) = k by unfold fb; rw [if_neg (by omega)]; omega] at this
  rw [this]
  refine decide_eq_false fun e => hn ⟨t, P1, ?_⟩
  rw [flz_nat] at e
  omega
theorem strOfNums_app (xs ys : List Int) : strOfNums (xs ++ ys) = strOfNums xs ++ strOfNums ys := by
  apply ByteArray.ext
  simp [strOfNums]
theorem one_byte (n : Int) : strOfNums [n] = ⟨#[UInt8.ofNat n.toNat]⟩ := rfl
/-- The last digit. -/
theorem txt_snoc {d : Nat} (h : 10 ≤ d) : txt d = txt (d / 10) ++ strOfNums [48 + ((d % 10 : Nat) : Int)] := by
  unfold txt
  rw [if_neg (by omega), if_neg (by omega), decs_pos (by omega), List.map_cons, List.reverse_cons, strOfNums_app]
theorem txt_one {d : Nat} (h0 : 1 ≤ d) (h : d < 10) : txt d = strOfNums [48 + (d : Int)] := by
  unfold txt
  rw [if_neg (by omega), decs_pos (by omega), show d / 10 = 0 by omega, show d % 10 = d by omega]
  rfl
theorem byt_nums {xs : List Int} (h : ∀ x ∈ xs, 48 ≤ x ∧ x ≤ 57) {i : Nat} (hi : i < xs.length) : byt (strOfNums xs) i = lm xs i := by
  unfold byt lm
  rw [strOfNums_data]
  have hm := h xs[i] (List.getElem_mem hi)
  simp only [List.getD, List.getElem?_map, List.getElem?_eq_getElem hi, Option.map_some, Option.getD_some]
  rw [UInt8.toNat_ofNat']
  omega
theorem byt_app_l {a b : ByteArray} {i : Nat} (h : i < a.size) : byt (a ++ b) i = byt a i := by
  unfold byt
  have h' : i < a.data.toList.length := by simpa using h
  rw [ByteArray.data_append, Array.toList_append, List.getD, List.getElem?_append_left h']
  rfl
theorem byt_app_r {a b : ByteArray} {i : Nat} : byt (a ++ b) (a.size + i) = byt b i := by
  unfold byt
  have h' : a.data.toList.length = a.size := by simp
  rw [ByteArray.data_append, Array.toList_append, List.getD, List.getElem?_append_right (by omega), h', show a.size + i - a.size = i by omega]
  rfl
theorem txt_first : ∀ {n d : Nat}, d ≤ n → 1 ≤ d → ¬ byt (txt d) 0 = 48
  | 0, _, h1, h2 => by omega
  | n + 1, d, h1, h2 => by
    by_cases h : d < 10
    · rw [txt_one h2 h, byt_nums (xs := [48 + (d : Int)]) (fun x hx => by simp at hx; omega) (by simp)]
      show ¬ (48 + (d : Int)) = 48
      omega
    · rw [txt_snoc (by omega), byt_app_l (size_txt _)]
      exact txt_first (n := n) (by omega) (by omega)
theorem txt_last {d : Nat} (h : 1 ≤ d) : byt (txt d) ((txt d).size - 1) = 48 + ((d % 10 : Nat) : Int) := by
  by_cases h1 : d < 10
  · rw [txt_one h h1, strOfNums_size, byt_nums (xs := [48 + (d : Int)]) (fun x hx => by simp at hx; omega) (by simp), show d % 10 = d by omega]
    rfl
  · rw [txt_snoc (by omega), ByteArray.size_append, strOfNums_size]
    show byt _ ((txt (d / 10)).size + 0) = _
    rw [byt_app_r, byt_nums (xs := [48 + ((d % 10 : Nat) : Int)]) (fun x hx => by simp at hx; omega) (by simp)]
    rfl
theorem txt_two {d : Nat} (h : 1 ≤ d) : 2 ≤ (txt d).size ↔ 10 ≤ d := by
  by_cases h1 : d < 10
  · rw [txt_one h h1, strOfNums_size]; simp; omega
  · rw [txt_snoc (by omega), ByteArray.size_append, strOfNums_size]
    have := size_txt (d / 10)
    simp; omega
theorem txt_17 {d : Nat} (h : d < 100000000000000000) : (txt d).size ≤ 17 := by
  unfold txt
  split
  · decide
  · rw [strOfNums_size, List.length_reverse, List.length_map]
    exact decs_le 17 d h
/-- The number that so many digits of a list tell. -/
def vX (xs : List Int) : Nat → Int
  | 0 => 0
  | k + 1 => vX xs k * 10 + (lm xs k - 48)
theorem rdF_vX {xs : List Int} (h : ∀ x ∈ xs, 48 ≤ x ∧ x ≤ 57) : ∀ k, k ≤ xs.length → rdF (strOfNums xs) 0 k = vX xs k
  | 0, _ => rfl
  | k + 1, hk => by
    show rdF (strOfNums xs) 0 k * 10 + (byt (strOfNums xs) (0 + k) - 48) = vX xs k * 10 + (lm xs k - 48)
    rw [rdF_vX h k (by omega), Nat.zero_add, byt_nums h (by omega)]
theorem vX_set_ge {xs : List Int} {i : Nat} (z : Int) : ∀ k, k ≤ i → vX (xs.set i z) k = vX xs k
  | 0, _ => rfl
  | k + 1, hk => by
    show vX (xs.set i z) k * 10 + (lm (xs.set i z) k - 48) = _
    rw [vX_set_ge z k (by omega), lm_set, if_neg (by omega)]; rfl
theorem vX_set {xs : List Int} {i : Nat} (z : Int) (hi : i < xs.length) (m : Nat) : vX (xs.set i z) (i + 1 + m) = vX xs (i + 1 + m) + (z - lm xs i) * p10 m := by
  induction m with
  | zero =>
    show vX (xs.set i z) i * 10 + (lm (xs.set i z) i - 48) = vX xs i * 10 + (lm xs i - 48) + (z - lm xs i) * 1
    rw [vX_set_ge z i (Nat.le_refl _), lm_set, if_pos ⟨rfl, hi⟩]; omega
  | succ m ih =>
    show vX (xs.set i z) (i + 1 + m) * 10 + (lm (xs.set i z) (i + 1 + m) - 48) = vX xs (i + 1 + m) * 10 + (lm xs (i + 1 + m) - 48) + (z - lm xs i) * (p10 m * 10)
    rw [ih, lm_set, if_neg (by omega), Int.add_mul, ← Int.mul_assoc]; omega
/-- Bytes in a block, to be written. -/
def Brw (w : World) (g : Nat) (xs : List Int) : Prop := ∃ (cs : Array Value) (e : TypeId) (m : Nat), w.heap[g]? = some (.cells cs e (m, m + 1)) ∧ xs.length ≤ m ∧ ∀ i, i < xs.length → cs[i]? = some (.int .u8 (lm xs i))
theorem Brw.cell {w : World} {g : Nat} {xs : List Int} (h : Brw w g xs) {i : Nat} (hi : i < xs.length) : w.cell? ⟨g, i, none⟩ = some (.int .u8 (lm xs i)) := by
  obtain ⟨cs, e, m, h1, h2, h3⟩ := h
  simp [World.cell?, h1, h3 i hi]
theorem Brw.frozen {w : World} {g : Nat} {xs : List Int} (h : Brw w g xs) {i : Nat} (hi : i < xs.length) : w.frozen? ⟨g, i, none⟩ = false := by
  obtain ⟨cs, e, m, h1, h2, h3⟩ := h
  simp [World.frozen?, h1]
  omega
theorem Brw.set {w : World} {g : Nat} {xs : List Int} (h : Brw w g xs) {i : Nat} (hi : i < xs.length) (z : Int) : Brw (w.setCell ⟨g, i, none⟩ (.int .u8 z)) g (xs.set i z) := by
  obtain ⟨cs, e, m, h1, h2, h3⟩ := h
  refine ⟨cs.set! i (.int .u8 z), e, m, ?_, by simpa using h2, fun j hj => ?_⟩
  · simp [World.setCell, Array.getElem?_modify, h1]
  · rw [List.length_set] at hj
    have hl := (Array.getElem?_eq_some_iff.1 (h3 i hi)).1
    rw [lm_set]
    by_cases hij : i = j
    · subst hij
      rw [if_pos ⟨rfl, hi⟩]
      simp [hl]
    · rw [if_neg (by omega)]
      simp [hij, h3 j hj]
theorem Brw.lt {w : World} {g : Nat} {xs : List Int} (h : Brw w g xs) : g < w.heap.size := by
  obtain ⟨cs, e, m, h1, h2, h3⟩ := h
  exact (Array.getElem?_eq_some_iff.1 h1).1
theorem Brw.below {w w' : World} {g : Nat} {xs : List Int} (h : Brw w g xs) (hb : Below w.heap.size w w') : Brw w' g xs := by
  have hl := h.lt
  obtain ⟨cs, e, m, h1, h2, h3⟩ := h
  exact ⟨cs, e, m, by rw [hb.block g hl]; exact h1, h2, h3⟩
def byL (s : ByteArray) : List Int := s.data.toList.map fun b => (b.toNat : Int)
theorem byL_len (s : ByteArray) : (byL s).length = s.size := by simp [byL]
theorem byL_str (s : ByteArray) : strOfNums (byL s) = s := by
  apply ByteArray.ext
  have e : ((fun n : Int => UInt8.ofNat n.toNat) ∘ fun b : UInt8 => (b.toNat : Int)) = id := by funext b; simp
  simp only [strOfNums, byL, List.map_map, e, List.map_id]
theorem byL_at (s : ByteArray) {i : Nat} (h : i < s.size) : lm (byL s) i = byt s i := by
  have h' : i < s.data.toList.length := by simpa using h
  unfold lm byL byt
  simp only [List.getD, List.getElem?_map, List.getElem?_eq_getElem h', Option.map_some, Option.getD_some]
theorem byL_dig {s : ByteArray} (h : AllD s) : ∀ x ∈ byL s, 48 ≤ x ∧ x ≤ 57 := by
  intro x hx
  unfold byL at hx
  obtain ⟨b, hb, rfl⟩ := List.mem_map.1 hx
  have := h b hb
  omega
theorem brw_new (w : World) (s : ByteArray) (e : TypeId) (cap : Nat) : Brw (w.drew.alloc (.cells (bytesRow s cap) e ((bytesRow s cap).size, (bytesRow s cap).size + 1))) w.heap.size (byL s) := by
  refine ⟨bytesRow s cap, e, (bytesRow s cap).size, ?_, ?_, fun i hi => ?_⟩
  · show (w.heap.push _)[w.heap.size]? = _
    simp
  · rw [byL_len]; unfold bytesRow; simp
  · rw [byL_len] at hi
    have h' : i < s.data.size := hi
    rw [byL_at s hi]
    unfold bytesRow byt
    rw [Array.getElem?_append_left (by simpa using h')]
    simp [List.getD]
    exact ⟨s.data[i], Array.getElem?_eq_getElem h', by rw [Array.getElem?_eq_getElem h']; rfl⟩
end Go.Proofs.YtbkkepbmaadomaaGreatDoor
