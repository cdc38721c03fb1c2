import Derived.Test.YtbkkepbmaadomaaGreatDoorNtGAll
import Derived.Test.YtbkkepbmaadomaaGreatDoorNrLAll
import Derived.Test.YtbkkepbmaadomaaGreatDoorNtK
namespace Go.Proofs.YtbkkepbmaadomaaGreatDoor
open Go.RowKit Go.Shelf

/-- What stands behind the digits. -/
def tlx (x : Int) : ByteArray := if x = 0 then ⟨#[]⟩ else ⟨#[101]⟩ ++ txtI x
theorem dtx_tl (d : Nat) (x : Int) : dtx d x = txt d ++ tlx x := by
  unfold dtx tlx
  split
  · exact (app_nil _).symm
  · rfl
theorem tlx_size {x : Int} (h1 : -340 ≤ x) (h2 : x ≤ 340) : (tlx x).size ≤ 23 := by
  have := size_txtI (k := x) (by omega)
  unfold tlx
  split
  · decide
  · rw [ByteArray.size_append, show (⟨#[101]⟩ : ByteArray).size = 1 from rfl]; omega
theorem tlx_head (x : Int) (h : 0 < (tlx x).size) : byt (tlx x) 0 = 101 := by
  unfold tlx at *
  split at h
  · exact absurd h (by decide)
  · rename_i h0
    rw [if_neg h0]
    unfold byt
    rw [ByteArray.data_append, Array.toList_append]
    rfl
/-- Digits with that behind them. -/
theorem tail_parses {td : ByteArray} {V : Nat} {x : Int} (hd : AllD td) (h0 : 0 < td.size) (hs : td.size ≤ 20) (hv : rdF td 0 td.size = (V : Int)) (h1 : -340 ≤ x) (h2 : x ≤ 340) (w : World) (hT : TB w) : Parses (td ++ tlx x) (dec V x) 10021 w := by
  rw [← litV_dec]
  unfold tlx
  have key : ∀ {s : ByteArray} {r : Rat} {S : Nat}, Parses s r S w → S ≤ 10021 → Parses s r 10021 w := fun h hS => h.mono (by
    rintro e w1 ⟨f, c, n, k, c', n', k', rfl, G, hx⟩
    exact ⟨f, c, n, k, c', n', k', rfl, G.le hS, hx⟩)
  split
  · rename_i h0
    subst h0
    have := lit_plain td hd h0 (by omega) w hT
    rw [hv] at this
    rw [app_nil]
    exact key this (by omega)
  · have := lit_exp td (txtI x) 101 x (by decide) hd h0 (by omega) (asc_txtI x) (not_txtI x 47 (by decide)) (by have := size_txtI (k := x) (by omega); omega) (parsesX_txt x (by omega) (by omega) (by have := size_txtI (k := x) (by omega); omega)) (by omega) (by omega) w hT
    rw [hv, ByteArray.append_assoc] at this
    exact key this (by omega)
/-- What is not read as k. -/
theorem tail_other {td : ByteArray} {k V : Nat} {x : Int} (hd : AllD td) (h0 : 0 < td.size) (hs : td.size ≤ 20) (hv : rdF td 0 td.size = (V : Int)) (hV : 1 ≤ V) (h1 : -340 ≤ x) (h2 : x ≤ 340) (hk : k < 9218868437227405312) (hn : ¬ Rk k V x) :
    ∃ F : Nat, (∀ w, TB w → Calls Tryz.prog 14 #[.string (td ++ tlx x)] w fun e w' => e = .returned (.tuple #[.float .f64 F, .nilIface]) ∧ Below w.heap.size w w') ∧ (FloatKind.f64.format.order F k == some .eq) = false := by
  obtain ⟨t, P1, P2, -⟩ := dec_at (d := V) x hV
  refine ⟨fb (flz t), fun w hT => readOk (t : Int) w (tail_parses hd h0 hs hv h1 h2 w hT) (by decide) P2 rfl, ?_⟩
  have := eqF (j := flz t) (k := (k : Int)) P2.fl ⟨by omega, by omega⟩
  rw [show fb (k : Int) = k by unfold fb; rw [if_neg (by omega)]; omega] at this
  rw [this]
  refine decide_eq_false fun e => hn ⟨t, P1, ?_⟩
  rw [flz_nat] at e
  omega
theorem strOfNums_app (xs ys : List Int) : strOfNums (xs ++ ys) = strOfNums xs ++ strOfNums ys := by
  apply ByteArray.ext
  simp [strOfNums]
theorem one_byte (n : Int) : strOfNums [n] = ⟨#[UInt8.ofNat n.toNat]⟩ := rfl
/-- The last digit. -/
theorem txt_snoc {d : Nat} (h : 10 ≤ d) : txt d = txt (d / 10) ++ strOfNums [48 + ((d % 10 : Nat) : Int)] := by
  unfold txt
  rw [if_neg (by omega), if_neg (by omega), decs_pos (by omega), List.map_cons, List.reverse_cons, strOfNums_app]
theorem txt_one {d : Nat} (h0 : 1 ≤ d) (h : d < 10) : txt d = strOfNums [48 + (d : Int)] := by
  unfold txt
  rw [if_neg (by omega), decs_pos (by omega), show d / 10 = 0 by omega, show d % 10 = d by omega]
  rfl
theorem byt_nums {xs : List Int} (h : ∀ x ∈ xs, 48 ≤ x ∧ x ≤ 57) {i : Nat} (hi : i < xs.length) : byt (strOfNums xs) i = lm xs i := by
  unfold byt lm
  rw [strOfNums_data]
  have hm := h xs[i] (List.getElem_mem hi)
  simp only [List.getD, List.getElem?_map, List.getElem?_eq_getElem hi, Option.map_some, Option.getD_some]
  rw [UInt8.toNat_ofNat']
  omega
theorem byt_app_l {a b : ByteArray} {i : Nat} (h : i < a.size) : byt (a ++ b) i = byt a i := by
  unfold byt
  have h' : i < a.data.toList.length := by simpa using h
  rw [ByteArray.data_append, Array.toList_append, List.getD, List.getElem?_append_left h']
  rfl
theorem byt_app_r {a b : ByteArray} {i : Nat} : byt (a ++ b) (a.size + i) = byt b i := by
  unfold byt
  have h' : a.data.toList.length = a.size := by simp
  rw [ByteArray.data_append, Array.toList_append, List.getD, List.getElem?_append_right (by omega), h', show a.size + i - a.size = i by omega]
  rfl
theorem txt_first : ∀ {n d : Nat}, d ≤ n → 1 ≤ d → ¬ byt (txt d) 0 = 48
  | 0, _, h1, h2 => by omega
  | n + 1, d, h1, h2 => by
    by_cases h : d < 10
    · rw [txt_one h2 h, byt_nums (xs := [48 + (d : Int)]) (fun x hx => by simp at hx; omega) (by simp)]
      show ¬ (48 + (d : Int)) = 48
      omega
    · rw [txt_snoc (by omega), byt_app_l (size_txt _)]
      exact txt_first (n := n) (by omega) (by omega)
theorem txt_last {d : Nat} (h : 1 ≤ d) : byt (txt d) ((txt d).size - 1) = 48 + ((d % 10 : Nat) : Int) := by
  by_cases h1 : d < 10
  · rw [txt_one h h1, strOfNums_size, byt_nums (xs := [48 + (d : Int)]) (fun x hx => by simp at hx; omega) (by simp), show d % 10 = d by omega]
    rfl
  · rw [txt_snoc (by omega), ByteArray.size_append, strOfNums_size]
    show byt _ ((txt (d / 10)).size + 0) = _
    rw [byt_app_r, byt_nums (xs := [48 + ((d % 10 : Nat) : Int)]) (fun x hx => by simp at hx; omega) (by simp)]
    rfl
theorem txt_two {d : Nat} (h : 1 ≤ d) : 2 ≤ (txt d).size ↔ 10 ≤ d := by
  by_cases h1 : d < 10
  · rw [txt_one h h1, strOfNums_size]; simp; omega
  · rw [txt_snoc (by omega), ByteArray.size_append, strOfNums_size]
    have := size_txt (d / 10)
    simp; omega
theorem txt_17 {d : Nat} (h : d < 100000000000000000) : (txt d).size ≤ 17 := by
  unfold txt
  split
  · decide
  · rw [strOfNums_size, List.length_reverse, List.length_map]
    exact decs_le 17 d h
/-- The number that so many digits of a list tell. -/
def vX (xs : List Int) : Nat → Int
  | 0 => 0
  | k + 1 => vX xs k * 10 + (lm xs k - 48)
theorem rdF_vX {xs : List Int} (h : ∀ x ∈ xs, 48 ≤ x ∧ x ≤ 57) : ∀ k, k ≤ xs.length → rdF (strOfNums xs) 0 k = vX xs k
  | 0, _ => rfl
  | k + 1, hk => by
    show rdF (strOfNums xs) 0 k * 10 + (byt (strOfNums xs) (0 + k) - 48) = vX xs k * 10 + (lm xs k - 48)
    rw [rdF_vX h k (by omega), Nat.zero_add, byt_nums h (by omega)]
theorem vX_set_ge {xs : List Int} {i : Nat} (z : Int) : ∀ k, k ≤ i → vX (xs.set i z) k = vX xs k
  | 0, _ => rfl
  | k + 1, hk => by
    show vX (xs.set i z) k * 10 + (lm (xs.set i z) k - 48) = _
    rw [vX_set_ge z k (by omega), lm_set, if_neg (by omega)]; rfl
theorem vX_set {xs : List Int} {i : Nat} (z : Int) (hi : i < xs.length) (m : Nat) : vX (xs.set i z) (i + 1 + m) = vX xs (i + 1 + m) + (z - lm xs i) * p10 m := by
  induction m with
  | zero =>
    show vX (xs.set i z) i * 10 + (lm (xs.set i z) i - 48) = vX xs i * 10 + (lm xs i - 48) + (z - lm xs i) * 1
    rw [vX_set_ge z i (Nat.le_refl _), lm_set, if_pos ⟨rfl, hi⟩]; omega
  | succ m ih =>
    show vX (xs.set i z) (i + 1 + m) * 10 + (lm (xs.set i z) (i + 1 + m) - 48) = vX xs (i + 1 + m) * 10 + (lm xs (i + 1 + m) - 48) + (z - lm xs i) * (p10 m * 10)
    rw [ih, lm_set, if_neg (by omega), Int.add_mul, ← Int.mul_assoc]; omega
/-- Bytes in a block, to be written. -/
def Brw (w : World) (g : Nat) (xs : List Int) : Prop := ∃ (cs : Array Value) (e : TypeId) (m : Nat), w.heap[g]? = some (.cells cs e (m, m + 1)) ∧ xs.length ≤ m ∧ ∀ i, i < xs.length → cs[i]? = some (.int .u8 (lm xs i))
theorem Brw.cell {w : World} {g : Nat} {xs : List Int} (h : Brw w g xs) {i : Nat} (hi : i < xs.length) : w.cell? ⟨g, i, none⟩ = some (.int .u8 (lm xs i)) := by
  obtain ⟨cs, e, m, h1, h2, h3⟩ := h
  simp [World.cell?, h1, h3 i hi]
theorem Brw.frozen {w : World} {g : Nat} {xs : List Int} (h : Brw w g xs) {i : Nat} (hi : i < xs.length) : w.frozen? ⟨g, i, none⟩ = false := by
  obtain ⟨cs, e, m, h1, h2, h3⟩ := h
  simp [World.frozen?, h1]
  omega
theorem Brw.set {w : World} {g : Nat} {xs : List Int} (h : Brw w g xs) {i : Nat} (hi : i < xs.length) (z : Int) : Brw (w.setCell ⟨g, i, none⟩ (.int .u8 z)) g (xs.set i z) := by
  obtain ⟨cs, e, m, h1, h2, h3⟩ := h
  refine ⟨cs.set! i (.int .u8 z), e, m, ?_, by simpa using h2, fun j hj => ?_⟩
  · simp [World.setCell, Array.getElem?_modify, h1]
  · rw [List.length_set] at hj
    have hl := (Array.getElem?_eq_some_iff.1 (h3 i hi)).1
    rw [lm_set]
    by_cases hij : i = j
    · subst hij
      rw [if_pos ⟨rfl, hi⟩]
      simp [hl]
    · rw [if_neg (by omega)]
      simp [hij, h3 j hj]
theorem Brw.lt {w : World} {g : Nat} {xs : List Int} (h : Brw w g xs) : g < w.heap.size := by
  obtain ⟨cs, e, m, h1, h2, h3⟩ := h
  exact (Array.getElem?_eq_some_iff.1 h1).1
theorem Brw.below {w w' : World} {g : Nat} {xs : List Int} (h : Brw w g xs) (hb : Below w.heap.size w w') : Brw w' g xs := by
  have hl := h.lt
  obtain ⟨cs, e, m, h1, h2, h3⟩ := h
  exact ⟨cs, e, m, by rw [hb.block g hl]; exact h1, h2, h3⟩
def byL (s : ByteArray) : List Int := s.data.toList.map fun b => (b.toNat : Int)
theorem byL_len (s : ByteArray) : (byL s).length = s.size := by simp [byL]
theorem byL_str (s : ByteArray) : strOfNums (byL s) = s := by
  apply ByteArray.ext
  have e : ((fun n : Int => UInt8.ofNat n.toNat) ∘ fun b : UInt8 => (b.toNat : Int)) = id := by funext b; simp
  simp only [strOfNums, byL, List.map_map, e, List.map_id]
theorem byL_at (s : ByteArray) {i : Nat} (h : i < s.size) : lm (byL s) i = byt s i := by
  have h' : i < s.data.toList.length := by simpa using h
  unfold lm byL byt
  simp only [List.getD, List.getElem?_map, List.getElem?_eq_getElem h', Option.map_some, Option.getD_some]
theorem byL_dig {s : ByteArray} (h : AllD s) : ∀ x ∈ byL s, 48 ≤ x ∧ x ≤ 57 := by
  intro x hx
  unfold byL at hx
  obtain ⟨b, hb, rfl⟩ := List.mem_map.1 hx
  have := h b hb
  omega
theorem brw_new (w : World) (s : ByteArray) (e : TypeId) (cap : Nat) : Brw (w.drew.alloc (.cells (bytesRow s cap) e ((bytesRow s cap).size, (bytesRow s cap).size + 1))) w.heap.size (byL s) := by
  refine ⟨bytesRow s cap, e, (bytesRow s cap).size, ?_, ?_, fun i hi => ?_⟩
  · show (w.heap.push _)[w.heap.size]? = _
    simp
  · rw [byL_len]; unfold bytesRow; simp
  · rw [byL_len] at hi
    have h' : i < s.data.size := hi
    rw [byL_at s hi]
    unfold bytesRow byt
    rw [Array.getElem?_append_left (by simpa using h')]
    simp [List.getD]
    exact ⟨s.data[i], Array.getElem?_eq_getElem h', by rw [Array.getElem?_eq_getElem h']; rfl⟩
end Go.Proofs.YtbkkepbmaadomaaGreatDoor

namespace Go.Proofs.YtbkkepbmaadomaaGreatDoor
open Go.RowKit Go.Shelf

theorem ext_l (a b : ByteArray) : (a ++ b).extract 0 a.size = a := by
  apply ByteArray.ext
  simp only [ByteArray.data_extract, ByteArray.data_append]
  have : a.size = a.data.size := rfl
  rw [this, Array.extract_append_left]
  simp
theorem ext_r (a b : ByteArray) : (a ++ b).extract a.size (a ++ b).size = b := by
  apply ByteArray.ext
  simp only [ByteArray.data_extract, ByteArray.data_append]
  have h1 : a.size = a.data.size := rfl
  have h2 : (a ++ b).size = a.data.size + b.data.size := by rw [ByteArray.size_append]; rfl
  rw [h1, h2, Array.extract_append_right]
  simp
theorem TB.drewN {w : World} (h : TB w) (k : Nat) : TB (w.drewN k) := h.below (belN (Below.refl _ w) k)
/-- near.Read of it is a float other than k's. -/
def Oth (k : Nat) (s : ByteArray) : Prop := ∃ F : Nat, (∀ w, TB w → Calls Tryz.prog 14 #[.string s] w fun e w' => e = .returned (.tuple #[.float .f64 F, .nilIface]) ∧ Below w.heap.size w w') ∧ (FloatKind.f64.format.order F k == some .eq) = false
theorem allD_nums {xs : List Int} (h : ∀ x ∈ xs, 48 ≤ x ∧ x ≤ 57) : AllD (strOfNums xs) := fun b hb => by
  rw [strOfNums_data] at hb
  obtain ⟨x, hx, rfl⟩ := List.mem_map.1 hb
  have := h x hx
  rw [UInt8.toNat_ofNat']
  omega
theorem rdF_app (a b : ByteArray) : rdF (a ++ b) 0 (a ++ b).size = rdF a 0 a.size * p10 b.size + rdF b 0 b.size := by
  rw [ByteArray.size_append, rdF_add, Nat.zero_add]
  congr 1
  · congr 1
    exact rdF_congr a.size fun i hi => by rw [Nat.zero_add, byt_app_l hi]
  · exact (rdF_congr b.size fun i hi => by rw [byt_app_r]).symm
structure Sf (k N : Nat) (s P tl : ByteArray) (e : Nat) : Prop where
  n1 : 1 ≤ N
  n17 : N ≤ 17
  le : N ≤ s.size
  sz : s.size ≤ 100
  dg : ∀ i, i < N → 48 ≤ byt s i ∧ byt s i ≤ 57
  nx : N < s.size → byt s N = 101
  last : ¬ byt s (N - 1) = 48
  first : ¬ byt s 0 = 48
  xl : 2 ≤ N → s.extract 0 (N - 1) = P
  xr : s.extract N s.size = tl
  ps : 2 ≤ N → P.size = N - 1
  ts : tl.size ≤ 23
  pd : AllD P
  low : 2 ≤ N → Oth k (P ++ ⟨#[48]⟩ ++ tl)
  val : vX (byL P) P.size = (e : Int)
  high : 2 ≤ N → ∀ td : ByteArray, AllD td → 0 < td.size → td.size ≤ 20 → rdF td 0 td.size = 10 * ((e : Int) + 1) → Oth k (td ++ tl)
theorem sf_of {k d : Nat} {x : Int} (D : Dc k d x) (S : Sd k d x) (hk : 1 ≤ k) (hki : k < 9218868437227405312) : ∃ N P tl e, Sf k N (dtx d x) P tl e := by
  obtain ⟨d1, d17, d10, dm⟩ := S.short hk hki
  obtain ⟨-, -, x1, x2, -⟩ := D
  have hz := txt_17 d17
  have ht := tlx_size x1 x2
  have h0 := size_txt d
  have hs : (txt d ++ tlx x).size = (txt d).size + (tlx x).size := ByteArray.size_append
  rw [dtx_tl]
  have h2 := txt_two d1
  have hP : 2 ≤ (txt d).size → txt d = txt (d / 10) ++ strOfNums [48 + ((d % 10 : Nat) : Int)] := fun h => txt_snoc (h2.1 h)
  have hPs : 2 ≤ (txt d).size → (txt (d / 10)).size = (txt d).size - 1 := fun h => by
    have := congrArg ByteArray.size (hP h)
    rw [ByteArray.size_append, strOfNums_size] at this
    simp at this
    omega
  refine ⟨(txt d).size, txt (d / 10), tlx x, d / 10, ?_⟩
  have hE : vX (byL (txt (d / 10))) (txt (d / 10)).size = ((d / 10 : Nat) : Int) := by
    rw [← byL_len, ← rdF_vX (byL_dig (allD_txt _)) _ (Nat.le_refl _), byL_str, byL_len]; exact rd_txt _
  exact {
    n1 := h0
    n17 := hz
    le := by omega
    sz := by omega
    dg := fun i hi => by rw [byt_app_l hi]; exact (allD_txt d).digs i hi
    nx := fun h => by
      have := tlx_head x (by omega)
      rw [show (txt d).size = (txt d).size + 0 from rfl, byt_app_r]; exact this
    last := by rw [byt_app_l (by omega), txt_last d1]; omega
    first := by rw [byt_app_l h0]; exact txt_first (Nat.le_refl _) d1
    xl := fun h => by
      rw [← hPs h]
      have e := hP h
      have : txt d ++ tlx x = txt (d / 10) ++ (strOfNums [48 + ((d % 10 : Nat) : Int)] ++ tlx x) := by rw [← ByteArray.append_assoc, ← e]
      rw [this]
      exact ext_l _ _
    xr := ext_r _ _
    ps := hPs
    ts := ht
    pd := allD_txt _
    low := fun h => by
      have hd := h2.1 h
      refine tail_other (V := 10 * (d / 10)) ((allD_txt _).app (allD_nums (xs := [48]) (fun y hy => by simp at hy; omega))) ?_ ?_ ?_ (by omega) x1 x2 hki (fun hr => (dm hd).1 (Rk.ten.1 hr))
      · rw [ByteArray.size_append]; have := size_txt (d / 10); omega
      · rw [ByteArray.size_append, hPs h]; show _ + 1 ≤ _; omega
      · rw [rdF_app, rd_txt]
        show ((d / 10 : Nat) : Int) * 10 + 0 = _
        omega
    val := hE
    high := fun h td t1 t2 t3 t4 => by
      have hd := h2.1 h
      exact tail_other (V := 10 * (d / 10 + 1)) t1 t2 t3 (by rw [t4]; omega) (by omega) x1 x2 hki (fun hr => (dm hd).2 (Rk.ten.1 hr)) }
end Go.Proofs.YtbkkepbmaadomaaGreatDoor

namespace Go.Proofs.YtbkkepbmaadomaaGreatDoor
open Go.RowKit Go.Shelf

attribute [local go_sem] neg_f
set_option maxRecDepth 100000 in
set_option maxHeartbeats 8000000 in
theorem short_P (k : Nat) (w : World) (hk : 1 ≤ k) (hki : k < 9218868437227405312) (hT : TB w) (hP : TP w) :
    Calls Tryz.prog 5 #[.int .u64 (k : Int)] w fun e w' => e = .returned (.bool true) ∧ Below w.heap.size w w' := by
  have hkb : key k = (k : Int) := by have := key_fin (b := k) (by omega) (by omega); omega
  have HSH := fun u hu => showP k u hk hki hu
  have oz : FloatKind.f64.format.order k 0 = some .gt := by
    have : FloatKind.f64.format.order k 0 = some (compare (key k) (key 0)) := order_key (by omega) (by decide)
    rw [this, show key 0 = 0 from rfl, hkb, Int.compare_eq_gt.2 (by omega)]
  have HFT := fun u => finiteT (b := k) u (by omega)
  have HB := fun u => ext_from (k : Int) u
  have hT0 := hT
  have HK : Hid (1 ≤ k ∧ k < 9218868437227405312) := ⟨hk, hki⟩
  clear hkb hk hki
  go_enter Tryz.func5, Tryz.ntmps5
  go_wp2_with fail
  refine (awake4 _ hT).mono ?_
  rintro e0 w1 ⟨rfl, hx⟩
  replace hT := hT.below hx
  replace hP := hP.below hx
  have hb0 := hx
  clear hx
  go_wp2_with fail
  refine (HFT _).mono ?_
  rintro e0 w2 ⟨rfl, hx⟩
  replace hT := hT.below hx
  replace hP := hP.below hx
  replace hb0 := bel_tr hb0 hx
  clear hx HFT
  go_wp2_with fail
  refine (HSH _ hP).mono ?_
  rintro e0 w3 ⟨d, x, rfl, D, SD, hx⟩
  replace hT := hT.below hx
  replace hb0 := bel_tr hb0 hx
  clear hx hP HSH
  obtain ⟨N, P, tl, e, SF⟩ := sf_of D SD HK.out.1 HK.out.2
  clear D SD HK HB
  generalize dtx d x = s at *
  obtain ⟨M, hNM⟩ : ∃ M, N = M + 1 := ⟨N - 1, by have := SF.n1; omega⟩
  have HNM : Hid (N = M + 1) := hNM
  clear hNM
  go_wp2
  go_loopw [6] (fun v wr => ∃ i : Nat, v = .int .i64 i ∧ i ≤ N ∧ wr = w3) (fun v _ => N + 1 - (intOf v).toNat)
  case atStart => exact ⟨0, rfl, by omega, rfl⟩
  case round =>
    obtain ⟨i, rfl, hiN, rfl⟩ := hrel
    by_cases hlt : i < N
    · have hls : i < s.size := by have := SF.le; omega
      have hil : (i : Int) < (s.size : Int) := by omega
      have hi0 : (0 : Int) ≤ (i : Int) := by omega
      have hby := byt_get hls
      obtain ⟨d0, d1⟩ := SF.dg i hlt
      generalize byt s i = B at *
      have wi : IntKind.i64.wrap ((i : Int) + 1) = ((i + 1 : Nat) : Int) := by rw [IntKind.wrap_i64]; have := SF.n17; omega
      go_wp2
      go_roundw
      case rel => exact ⟨i + 1, rfl, by omega, by trivial⟩
      case measure => simp [intOf]; omega
    · obtain rfl : i = N := by omega
      by_cases hls : i < s.size
      · have hil : (i : Int) < (s.size : Int) := by omega
        have hi0 : (0 : Int) ≤ (i : Int) := by omega
        have hby := byt_get hls
        rw [SF.nx hls] at hby
        have hM0 : (0 : Int) ≤ (M : Int) := by omega
        have hMs : M < s.size := by have := SF.le; have := HNM.out; omega
        have hMsI : (M : Int) < (s.size : Int) := by omega
        have w1 : IntKind.i64.wrap ((i : Int) - 1) = (M : Int) := by rw [IntKind.wrap_i64]; have := HNM.out; have := SF.n17; omega
        have hN0 : ¬ (i : Int) = 0 := by have := SF.n1; omega
        have hN0b : ((i : Int) == 0) = false := beq_false_of_ne hN0
        have hN17 : ¬ (17 : Int) < (i : Int) := by have := SF.n17; omega
        have hs0 : 0 < s.size := by omega
        have hs0I : (0 : Int) < (s.size : Int) := by omega
        have byM := byt_get hMs
        have by0 := byt_get hs0
        have hl1 : ¬ byt s M = 48 := by have := SF.last; rwa [show i - 1 = M by have := HNM.out; omega] at this
        have hl1b : (byt s M == 48) = false := beq_false_of_ne hl1
        have hf1 := SF.first
        have hf1b : (byt s 0 == 48) = false := beq_false_of_ne hf1
        by_cases hN1 : i = 1
        · subst hN1
          clear HNM
          go_wp2
          go_ret
          exact ⟨rfl, hb0⟩
        · have hN2 : 2 ≤ i := by have := SF.n1; omega
          have hN1' : ¬ (i : Int) = 1 := by omega
          have hN1b : ((i : Int) == 1) = false := beq_false_of_ne hN1'
          have xl : s.extract 0 M = P := by have := SF.xl hN2; rwa [show i - 1 = M by have := HNM.out; omega] at this
          have xr := SF.xr
          have ps : P.size = M := by have := SF.ps hN2; have := HNM.out; omega
          have hNs : (i : Int) ≤ (s.size : Int) := by have := SF.le; omega
          have hMs2 : (M : Int) ≤ (s.size : Int) := by omega
          have hNn : (0 : Int) ≤ (i : Int) := by omega
          have c0 := SF.ts
          have hM16 : M ≤ 16 := by have := SF.n17; have := HNM.out; omega
          have c1 : ¬ 9223372036854775807 < M + 1 := by omega
          have c2 : ¬ 9223372036854775807 < M + 1 + tl.size := by omega
          obtain ⟨F1, HR1, o1⟩ := SF.low hN2
          have hM1 : 1 ≤ M := by have := HNM.out; omega
          go_wp2_with fail
          go_region_held3 (fun _ => True)
            (trivial)
            ((go_at_call 14; go_fit (HR1 _ (hT.drewN _)); rintro e1 w5 ⟨rfl, hx⟩))
          replace hT := (hT.drewN 1).below hx
          replace hb0 := bel_tr (bel_tr hb0 (belN (Below.refl _ _) 1)) hx
          clear hx HR1
          have hcv := fun u => run_bytes_of_string (P := Tryz.prog) u 9 47 5 P Tryz.underlying9 Tryz.underlying47 Tryz.underlying5
          rw [ps] at hcv
          have w2 : IntKind.i64.wrap ((M : Int) - 1) = (M : Int) - 1 := by rw [IntKind.wrap_i64]; omega
          have B0 : Brw ((w5.alloc (.cells (bytesRow P (grownCap w5 M 0 5)) 5 ((bytesRow P (grownCap w5 M 0 5)).size, (bytesRow P (grownCap w5 M 0 5)).size + 1))).drew) w5.heap.size (byL P) := brw_new w5 P 5 (grownCap w5 M 0 5)
          have hbx : Below w.heap.size w ((w5.alloc (.cells (bytesRow P (grownCap w5 M 0 5)) 5 ((bytesRow P (grownCap w5 M 0 5)).size, (bytesRow P (grownCap w5 M 0 5)).size + 1))).drew) := (hb0.alloc (show w.heap.size ≤ w5.heap.size from hb0.size) _).drew
          have hG : w.heap.size ≤ w5.heap.size := Below.size hb0
          go_wp2
          generalize (w5.alloc (.cells (bytesRow P (grownCap w5 M 0 5)) 5 ((bytesRow P (grownCap w5 M 0 5)).size, (bytesRow P (grownCap w5 M 0 5)).size + 1))).drew = w6 at *
          generalize grownCap w5 M 0 5 = cap at *
          generalize w5.heap.size = G at *
          clear hcv hb0 hT
          go_loopw [10] (fun v wr => ∃ (j : Nat) (xs : List Int), v = .int .i64 ((j : Int) - 1) ∧ j ≤ M ∧ xs.length = M ∧ (∀ y ∈ xs, 48 ≤ y ∧ y ≤ 57) ∧ vX xs M + p10 (M - j) = (e : Int) + 1 ∧ Brw wr G xs ∧ Below w.heap.size w wr) (fun v _ => (intOf v + 1).toNat)
          case atStart =>
            refine ⟨M, byL P, rfl, Nat.le_refl _, by rw [byL_len, ps], byL_dig SF.pd, ?_, B0, hbx⟩
            have := SF.val
            rw [ps] at this
            rw [this, Nat.sub_self]; rfl
          case round =>
            obtain ⟨j, xs, rfl, hj, hxl, hxd, HV, BR, hbl⟩ := hrel
            clear B0 hbx
            by_cases hj0 : j = 0
            · subst hj0
              have hT := hT0.below hbl
              have hcv := fun (u : World) (hu : Below wr.heap.size wr u) => run_convert_bytes_arg (P := Tryz.prog) u 47 5 Tryz.underlying47 Tryz.underlying5 G 0 M cap xs hxl (fun i hi => by rw [Nat.zero_add]; exact (BR.below hu).cell (by omega)) 9 Tryz.underlying9
              have hsz : (strOfNums xs).size = M := by rw [strOfNums_size, hxl]
              obtain ⟨F2, HR2, o2⟩ := SF.high hN2 (⟨#[49]⟩ ++ strOfNums xs ++ ⟨#[48]⟩) (((allD_nums (xs := [49]) (fun y hy => by simp at hy; omega)).app (allD_nums hxd)).app (allD_nums (xs := [48]) (fun y hy => by simp at hy; omega))) (by rw [ByteArray.size_append, ByteArray.size_append]; show 0 < _ + 1; omega) (by rw [ByteArray.size_append, ByteArray.size_append, hsz]; show 1 + M + 1 ≤ 20; omega) (by
                rw [rdF_app, rdF_app, rdF_vX hxd _ (by rw [hsz]; omega), hsz]
                show (1 * p10 M + vX xs M) * 10 + 0 = _
                rw [Nat.sub_zero] at HV
                omega)
              generalize strOfNums xs = sx at *
              have c3 : ¬ 9223372036854775807 < 1 + M := by omega
              have c4 : ¬ 9223372036854775807 < 1 + M + 1 := by omega
              have c5 : ¬ 9223372036854775807 < 1 + M + 1 + tl.size := by omega
              clear HV BR hxd hxl SF
              go_wp2_with fail
              go_region_held3 (fun w' => (convert 47 9 (.slice (some ⟨G, 0, none⟩) M cap)).run Tryz.prog w' = .ok (.string sx) w')
                (first | exact hcv _ (Below.refl _ _) | exact hcv _ (Below.refl _ _).drew | exact hcv _ (belN (Below.refl _ _) 1) | exact hcv _ (bel_tr (belN (Below.refl _ _) 1) hx))
                ((go_at_call 14; go_fit (HR2 _ (hT.drewN _)); rintro e2 w7 ⟨rfl, hx⟩))
              replace hbl := bel_tr (bel_tr hbl (belN (Below.refl _ _) 1)) hx
              clear hx HR2 hcv
              have o2n : ¬ FloatKind.f64.format.order F2 k = some .eq := by simpa using o2
              go_wp2
              go_ret
              exact ⟨by simp [o2n], hbl⟩
            · obtain ⟨q, rfl⟩ : ∃ q, j = q + 1 := ⟨j - 1, by omega⟩
              rw [show (((q + 1 : Nat) : Int) - 1) = (q : Int) by omega]
              have hq0 : (0 : Int) ≤ (q : Int) := by omega
              have hqM : (q : Int) < (M : Int) := by omega
              have hc := BR.cell (i := q) (by omega)
              have hf := BR.frozen (i := q) (by omega)
              have hz := hxd (lm xs q) (by unfold lm; simp only [List.getD, List.getElem?_eq_getElem (show q < xs.length by omega), Option.getD_some]; exact List.getElem_mem _)
              obtain ⟨Z, hZ⟩ : ∃ Z, lm xs q = Z := ⟨_, rfl⟩
              rw [hZ] at hc hz
              have hm : M = q + 1 + (M - (q + 1)) := by omega
              by_cases h9 : Z = 57
              · subst h9
                have HB2 := BR.set (i := q) (by omega) 48
                have HL2 := hbl.setCell (p := ⟨G, q, none⟩) hG (.int .u8 48)
                have HV2 : Hid (vX (xs.set q 48) M + p10 (M - q) = (e : Int) + 1) := by
                  show _ = _
                  have := vX_set (xs := xs) (i := q) 48 (by omega) (M - (q + 1))
                  rw [← hm, hZ] at this
                  rw [this, show M - q = (M - (q + 1)) + 1 by omega]
                  show vX xs M + (48 - 57) * p10 (M - (q + 1)) + p10 (M - (q + 1)) * 10 = _
                  omega
                have HD2 : Hid (∀ y ∈ xs.set q 48, 48 ≤ y ∧ y ≤ 57) := fun y hy => by
                  rcases List.mem_or_eq_of_mem_set hy with h | h
                  · exact hxd y h
                  · omega
                have HX2 : Hid ((xs.set q 48).length = M) := by show _ = _; rw [List.length_set]; exact hxl
                have wq : IntKind.i64.wrap ((q : Int) - 1) = (q : Int) - 1 := by rw [IntKind.wrap_i64]; omega
                clear HV BR hxd hxl SF hm hZ hz
                go_wp2
                go_roundw
                case rel => exact ⟨q, _, rfl, by omega, HX2.out, HD2.out, HV2.out, HB2, HL2⟩
                case measure => simp [intOf]
              · have h9b : (Z == 57) = false := beq_false_of_ne h9
                have hT9 : IntKind.u8.wrap (Z + 1) = Z + 1 := by rw [IntKind.wrap_u8]; omega
                have HB2 := BR.set (i := q) (by omega) (Z + 1)
                have HL2 := hbl.setCell (p := ⟨G, q, none⟩) hG (.int .u8 (Z + 1))
                have HD2 : ∀ y ∈ xs.set q (Z + 1), 48 ≤ y ∧ y ≤ 57 := fun y hy => by
                  rcases List.mem_or_eq_of_mem_set hy with h | h
                  · exact hxd y h
                  · omega
                have HX2 : (xs.set q (Z + 1)).length = M := by rw [List.length_set]; exact hxl
                have hsz : (strOfNums (xs.set q (Z + 1))).size = M := by rw [strOfNums_size, HX2]
                obtain ⟨F2, HR2, o2⟩ := SF.high hN2 (⟨#[]⟩ ++ strOfNums (xs.set q (Z + 1)) ++ ⟨#[48]⟩) (((allD_nums (xs := []) (fun y hy => by simp at hy)).app (allD_nums HD2)).app (allD_nums (xs := [48]) (fun y hy => by simp at hy; omega))) (by rw [ByteArray.size_append]; show 0 < _ + 1; omega) (by rw [ByteArray.size_append, ByteArray.size_append, hsz]; show 0 + M + 1 ≤ 20; omega) (by
                  rw [rdF_app, rdF_app, rdF_vX HD2 _ (by rw [hsz]; omega), hsz]
                  show (0 * p10 M + vX (xs.set q (Z + 1)) M) * 10 + 0 = _
                  have := vX_set (xs := xs) (i := q) (Z + 1) (by omega) (M - (q + 1))
                  rw [← hm, hZ] at this
                  rw [this, show Z + 1 - Z = 1 by omega, Int.one_mul]
                  omega)
                have hcv1 := fun (u : World) (hu : Below (wr.setCell ⟨G, q, none⟩ (.int .u8 (Z + 1))).heap.size (wr.setCell ⟨G, q, none⟩ (.int .u8 (Z + 1))) u) => run_convert_bytes_arg (P := Tryz.prog) u 47 5 Tryz.underlying47 Tryz.underlying5 G 0 M cap (xs.set q (Z + 1)) HX2 (fun i hi => by rw [Nat.zero_add]; exact (HB2.below hu).cell (by omega)) 9 Tryz.underlying9
                have hT := hT0.below HL2
                have c3 : ¬ 9223372036854775807 < M := by omega
                have hq1 : ¬ (q : Int) < 0 := by omega
                clear HV BR hxd hxl SF hm hZ HD2 HX2 hbl HB2
                generalize strOfNums (xs.set q (Z + 1)) = sx at *
                go_wp2_with fail
                go_region_held3 (fun w' => (convert 47 9 (.slice (some ⟨G, 0, none⟩) M cap)).run Tryz.prog w' = .ok (.string sx) w')
                  (first | exact hcv1 _ (Below.refl _ _) | exact hcv1 _ (Below.refl _ _).drew | exact hcv1 _ (belN (Below.refl _ _) 1) | exact hcv1 _ (bel_tr (belN (Below.refl _ _) 1) hx))
                  ((go_at_call 14; go_fit (HR2 _ (hT.drewN _)); rintro e2 w7 ⟨rfl, hx⟩))
                replace HL2 := bel_tr (bel_tr HL2 (belN (Below.refl _ _) 1)) hx
                clear hx HR2 hcv1
                have o2n : ¬ FloatKind.f64.format.order F2 k = some .eq := by simpa using o2
                go_wp2
                go_ret
                exact ⟨by simp [o2n], HL2⟩
      · have hil : ¬ (i : Int) < (s.size : Int) := by omega
        have hM0 : (0 : Int) ≤ (M : Int) := by omega
        have hMs : M < s.size := by have := SF.le; have := HNM.out; omega
        have hMsI : (M : Int) < (s.size : Int) := by omega
        have w1 : IntKind.i64.wrap ((i : Int) - 1) = (M : Int) := by rw [IntKind.wrap_i64]; have := HNM.out; have := SF.n17; omega
        have hN0 : ¬ (i : Int) = 0 := by have := SF.n1; omega
        have hN0b : ((i : Int) == 0) = false := beq_false_of_ne hN0
        have hN17 : ¬ (17 : Int) < (i : Int) := by have := SF.n17; omega
        have hs0 : 0 < s.size := by omega
        have hs0I : (0 : Int) < (s.size : Int) := by omega
        have byM := byt_get hMs
        have by0 := byt_get hs0
        have hl1 : ¬ byt s M = 48 := by have := SF.last; rwa [show i - 1 = M by have := HNM.out; omega] at this
        have hl1b : (byt s M == 48) = false := beq_false_of_ne hl1
        have hf1 := SF.first
        have hf1b : (byt s 0 == 48) = false := beq_false_of_ne hf1
        by_cases hN1 : i = 1
        · subst hN1
          clear HNM
          go_wp2
          go_ret
          exact ⟨rfl, hb0⟩
        · have hN2 : 2 ≤ i := by have := SF.n1; omega
          have hN1' : ¬ (i : Int) = 1 := by omega
          have hN1b : ((i : Int) == 1) = false := beq_false_of_ne hN1'
          have xl : s.extract 0 M = P := by have := SF.xl hN2; rwa [show i - 1 = M by have := HNM.out; omega] at this
          have xr := SF.xr
          have ps : P.size = M := by have := SF.ps hN2; have := HNM.out; omega
          have hNs : (i : Int) ≤ (s.size : Int) := by have := SF.le; omega
          have hMs2 : (M : Int) ≤ (s.size : Int) := by omega
          have hNn : (0 : Int) ≤ (i : Int) := by omega
          have c0 := SF.ts
          have hM16 : M ≤ 16 := by have := SF.n17; have := HNM.out; omega
          have c1 : ¬ 9223372036854775807 < M + 1 := by omega
          have c2 : ¬ 9223372036854775807 < M + 1 + tl.size := by omega
          obtain ⟨F1, HR1, o1⟩ := SF.low hN2
          have hM1 : 1 ≤ M := by have := HNM.out; omega
          go_wp2_with fail
          go_region_held3 (fun _ => True)
            (trivial)
            ((go_at_call 14; go_fit (HR1 _ (hT.drewN _)); rintro e1 w5 ⟨rfl, hx⟩))
          replace hT := (hT.drewN 1).below hx
          replace hb0 := bel_tr (bel_tr hb0 (belN (Below.refl _ _) 1)) hx
          clear hx HR1
          have hcv := fun u => run_bytes_of_string (P := Tryz.prog) u 9 47 5 P Tryz.underlying9 Tryz.underlying47 Tryz.underlying5
          rw [ps] at hcv
          have w2 : IntKind.i64.wrap ((M : Int) - 1) = (M : Int) - 1 := by rw [IntKind.wrap_i64]; omega
          have B0 : Brw ((w5.alloc (.cells (bytesRow P (grownCap w5 M 0 5)) 5 ((bytesRow P (grownCap w5 M 0 5)).size, (bytesRow P (grownCap w5 M 0 5)).size + 1))).drew) w5.heap.size (byL P) := brw_new w5 P 5 (grownCap w5 M 0 5)
          have hbx : Below w.heap.size w ((w5.alloc (.cells (bytesRow P (grownCap w5 M 0 5)) 5 ((bytesRow P (grownCap w5 M 0 5)).size, (bytesRow P (grownCap w5 M 0 5)).size + 1))).drew) := (hb0.alloc (show w.heap.size ≤ w5.heap.size from hb0.size) _).drew
          have hG : w.heap.size ≤ w5.heap.size := Below.size hb0
          go_wp2
          generalize (w5.alloc (.cells (bytesRow P (grownCap w5 M 0 5)) 5 ((bytesRow P (grownCap w5 M 0 5)).size, (bytesRow P (grownCap w5 M 0 5)).size + 1))).drew = w6 at *
          generalize grownCap w5 M 0 5 = cap at *
          generalize w5.heap.size = G at *
          clear hcv hb0 hT
          go_loopw [10] (fun v wr => ∃ (j : Nat) (xs : List Int), v = .int .i64 ((j : Int) - 1) ∧ j ≤ M ∧ xs.length = M ∧ (∀ y ∈ xs, 48 ≤ y ∧ y ≤ 57) ∧ vX xs M + p10 (M - j) = (e : Int) + 1 ∧ Brw wr G xs ∧ Below w.heap.size w wr) (fun v _ => (intOf v + 1).toNat)
          case atStart =>
            refine ⟨M, byL P, rfl, Nat.le_refl _, by rw [byL_len, ps], byL_dig SF.pd, ?_, B0, hbx⟩
            have := SF.val
            rw [ps] at this
            rw [this, Nat.sub_self]; rfl
          case round =>
            obtain ⟨j, xs, rfl, hj, hxl, hxd, HV, BR, hbl⟩ := hrel
            clear B0 hbx
            by_cases hj0 : j = 0
            · subst hj0
              have hT := hT0.below hbl
              have hcv := fun (u : World) (hu : Below wr.heap.size wr u) => run_convert_bytes_arg (P := Tryz.prog) u 47 5 Tryz.underlying47 Tryz.underlying5 G 0 M cap xs hxl (fun i hi => by rw [Nat.zero_add]; exact (BR.below hu).cell (by omega)) 9 Tryz.underlying9
              have hsz : (strOfNums xs).size = M := by rw [strOfNums_size, hxl]
              obtain ⟨F2, HR2, o2⟩ := SF.high hN2 (⟨#[49]⟩ ++ strOfNums xs ++ ⟨#[48]⟩) (((allD_nums (xs := [49]) (fun y hy => by simp at hy; omega)).app (allD_nums hxd)).app (allD_nums (xs := [48]) (fun y hy => by simp at hy; omega))) (by rw [ByteArray.size_append, ByteArray.size_append]; show 0 < _ + 1; omega) (by rw [ByteArray.size_append, ByteArray.size_append, hsz]; show 1 + M + 1 ≤ 20; omega) (by
                rw [rdF_app, rdF_app, rdF_vX hxd _ (by rw [hsz]; omega), hsz]
                show (1 * p10 M + vX xs M) * 10 + 0 = _
                rw [Nat.sub_zero] at HV
                omega)
              generalize strOfNums xs = sx at *
              have c3 : ¬ 9223372036854775807 < 1 + M := by omega
              have c4 : ¬ 9223372036854775807 < 1 + M + 1 := by omega
              have c5 : ¬ 9223372036854775807 < 1 + M + 1 + tl.size := by omega
              clear HV BR hxd hxl SF
              go_wp2_with fail
              go_region_held3 (fun w' => (convert 47 9 (.slice (some ⟨G, 0, none⟩) M cap)).run Tryz.prog w' = .ok (.string sx) w')
                (first | exact hcv _ (Below.refl _ _) | exact hcv _ (Below.refl _ _).drew | exact hcv _ (belN (Below.refl _ _) 1) | exact hcv _ (bel_tr (belN (Below.refl _ _) 1) hx))
                ((go_at_call 14; go_fit (HR2 _ (hT.drewN _)); rintro e2 w7 ⟨rfl, hx⟩))
              replace hbl := bel_tr (bel_tr hbl (belN (Below.refl _ _) 1)) hx
              clear hx HR2 hcv
              have o2n : ¬ FloatKind.f64.format.order F2 k = some .eq := by simpa using o2
              go_wp2
              go_ret
              exact ⟨by simp [o2n], hbl⟩
            · obtain ⟨q, rfl⟩ : ∃ q, j = q + 1 := ⟨j - 1, by omega⟩
              rw [show (((q + 1 : Nat) : Int) - 1) = (q : Int) by omega]
              have hq0 : (0 : Int) ≤ (q : Int) := by omega
              have hqM : (q : Int) < (M : Int) := by omega
              have hc := BR.cell (i := q) (by omega)
              have hf := BR.frozen (i := q) (by omega)
              have hz := hxd (lm xs q) (by unfold lm; simp only [List.getD, List.getElem?_eq_getElem (show q < xs.length by omega), Option.getD_some]; exact List.getElem_mem _)
              obtain ⟨Z, hZ⟩ : ∃ Z, lm xs q = Z := ⟨_, rfl⟩
              rw [hZ] at hc hz
              have hm : M = q + 1 + (M - (q + 1)) := by omega
              by_cases h9 : Z = 57
              · subst h9
                have HB2 := BR.set (i := q) (by omega) 48
                have HL2 := hbl.setCell (p := ⟨G, q, none⟩) hG (.int .u8 48)
                have HV2 : Hid (vX (xs.set q 48) M + p10 (M - q) = (e : Int) + 1) := by
                  show _ = _
                  have := vX_set (xs := xs) (i := q) 48 (by omega) (M - (q + 1))
                  rw [← hm, hZ] at this
                  rw [this, show M - q = (M - (q + 1)) + 1 by omega]
                  show vX xs M + (48 - 57) * p10 (M - (q + 1)) + p10 (M - (q + 1)) * 10 = _
                  omega
                have HD2 : Hid (∀ y ∈ xs.set q 48, 48 ≤ y ∧ y ≤ 57) := fun y hy => by
                  rcases List.mem_or_eq_of_mem_set hy with h | h
                  · exact hxd y h
                  · omega
                have HX2 : Hid ((xs.set q 48).length = M) := by show _ = _; rw [List.length_set]; exact hxl
                have wq : IntKind.i64.wrap ((q : Int) - 1) = (q : Int) - 1 := by rw [IntKind.wrap_i64]; omega
                clear HV BR hxd hxl SF hm hZ hz
                go_wp2
                go_roundw
                case rel => exact ⟨q, _, rfl, by omega, HX2.out, HD2.out, HV2.out, HB2, HL2⟩
                case measure => simp [intOf]
              · have h9b : (Z == 57) = false := beq_false_of_ne h9
                have hT9 : IntKind.u8.wrap (Z + 1) = Z + 1 := by rw [IntKind.wrap_u8]; omega
                have HB2 := BR.set (i := q) (by omega) (Z + 1)
                have HL2 := hbl.setCell (p := ⟨G, q, none⟩) hG (.int .u8 (Z + 1))
                have HD2 : ∀ y ∈ xs.set q (Z + 1), 48 ≤ y ∧ y ≤ 57 := fun y hy => by
                  rcases List.mem_or_eq_of_mem_set hy with h | h
                  · exact hxd y h
                  · omega
                have HX2 : (xs.set q (Z + 1)).length = M := by rw [List.length_set]; exact hxl
                have hsz : (strOfNums (xs.set q (Z + 1))).size = M := by rw [strOfNums_size, HX2]
                obtain ⟨F2, HR2, o2⟩ := SF.high hN2 (⟨#[]⟩ ++ strOfNums (xs.set q (Z + 1)) ++ ⟨#[48]⟩) (((allD_nums (xs := []) (fun y hy => by simp at hy)).app (allD_nums HD2)).app (allD_nums (xs := [48]) (fun y hy => by simp at hy; omega))) (by rw [ByteArray.size_append]; show 0 < _ + 1; omega) (by rw [ByteArray.size_append, ByteArray.size_append, hsz]; show 0 + M + 1 ≤ 20; omega) (by
                  rw [rdF_app, rdF_app, rdF_vX HD2 _ (by rw [hsz]; omega), hsz]
                  show (0 * p10 M + vX (xs.set q (Z + 1)) M) * 10 + 0 = _
                  have := vX_set (xs := xs) (i := q) (Z + 1) (by omega) (M - (q + 1))
                  rw [← hm, hZ] at this
                  rw [this, show Z + 1 - Z = 1 by omega, Int.one_mul]
                  omega)
                have hcv1 := fun (u : World) (hu : Below (wr.setCell ⟨G, q, none⟩ (.int .u8 (Z + 1))).heap.size (wr.setCell ⟨G, q, none⟩ (.int .u8 (Z + 1))) u) => run_convert_bytes_arg (P := Tryz.prog) u 47 5 Tryz.underlying47 Tryz.underlying5 G 0 M cap (xs.set q (Z + 1)) HX2 (fun i hi => by rw [Nat.zero_add]; exact (HB2.below hu).cell (by omega)) 9 Tryz.underlying9
                have hT := hT0.below HL2
                have c3 : ¬ 9223372036854775807 < M := by omega
                have hq1 : ¬ (q : Int) < 0 := by omega
                clear HV BR hxd hxl SF hm hZ HD2 HX2 hbl HB2
                generalize strOfNums (xs.set q (Z + 1)) = sx at *
                go_wp2_with fail
                go_region_held3 (fun w' => (convert 47 9 (.slice (some ⟨G, 0, none⟩) M cap)).run Tryz.prog w' = .ok (.string sx) w')
                  (first | exact hcv1 _ (Below.refl _ _) | exact hcv1 _ (Below.refl _ _).drew | exact hcv1 _ (belN (Below.refl _ _) 1) | exact hcv1 _ (bel_tr (belN (Below.refl _ _) 1) hx))
                  ((go_at_call 14; go_fit (HR2 _ (hT.drewN _)); rintro e2 w7 ⟨rfl, hx⟩))
                replace HL2 := bel_tr (bel_tr HL2 (belN (Below.refl _ _) 1)) hx
                clear hx HR2 hcv1
                have o2n : ¬ FloatKind.f64.format.order F2 k = some .eq := by simpa using o2
                go_wp2
                go_ret
                exact ⟨by simp [o2n], HL2⟩
end Go.Proofs.YtbkkepbmaadomaaGreatDoor

namespace Go.Proofs.YtbkkepbmaadomaaGreatDoor
open Go.RowKit Go.Shelf

attribute [local go_sem] neg_f
set_option maxRecDepth 100000 in
set_option maxHeartbeats 8000000 in
theorem short_N (k : Nat) (w : World) (hk : 1 ≤ k) (hki : k < 9218868437227405312) (hT : TB w) (hP : TP w) :
    Calls Tryz.prog 5 #[.int .u64 ((k + 9223372036854775808 : Nat) : Int)] w fun e w' => e = .returned (.bool true) ∧ Below w.heap.size w w' := by
  obtain ⟨b, hb⟩ : ∃ b, k + 9223372036854775808 = b := ⟨_, rfl⟩
  have HG : Op.negFloat .f64 b = k := by rw [← hb]; exact neg_hi (by omega)
  have hkb : key b = -(k : Int) := by have := key_fin (b := b) (by omega) (by omega); omega
  have HSH := fun u hu => showN k u hk hki hu
  rw [hb] at HSH ⊢
  have oz : FloatKind.f64.format.order b 0 = some .lt := by
    have : FloatKind.f64.format.order b 0 = some (compare (key b) (key 0)) := order_key (by omega) (by decide)
    rw [this, show key 0 = 0 from rfl, hkb, Int.compare_eq_lt.2 (by omega)]
  have HFT := fun u => finiteT (b := b) u (by omega)
  have HB := fun u => ext_from (b : Int) u
  have hT0 := hT
  have HK : Hid (1 ≤ k ∧ k < 9218868437227405312) := ⟨hk, hki⟩
  clear hkb hb hk hki
  go_enter Tryz.func5, Tryz.ntmps5
  go_wp2_with fail
  refine (awake4 _ hT).mono ?_
  rintro e0 w1 ⟨rfl, hx⟩
  replace hT := hT.below hx
  replace hP := hP.below hx
  have hb0 := hx
  clear hx
  go_wp2_with fail
  refine (HFT _).mono ?_
  rintro e0 w2 ⟨rfl, hx⟩
  replace hT := hT.below hx
  replace hP := hP.below hx
  replace hb0 := bel_tr hb0 hx
  clear hx HFT
  go_wp2_with fail
  refine (HSH _ hP).mono ?_
  rintro e0 w3 ⟨d, x, rfl, D, SD, hx⟩
  replace hT := hT.below hx
  replace hb0 := bel_tr hb0 hx
  clear hx hP HSH
  obtain ⟨N, P, tl, e, SF⟩ := sf_of D SD HK.out.1 HK.out.2
  clear D SD HK HB
  generalize dtx d x = s at *
  obtain ⟨M, hNM⟩ : ∃ M, N = M + 1 := ⟨N - 1, by have := SF.n1; omega⟩
  have HNM : Hid (N = M + 1) := hNM
  clear hNM
  have hsz1 : (⟨#[45]⟩ ++ s : ByteArray).size = s.size + 1 := by rw [ByteArray.size_append]; show 1 + _ = _; omega
  have xs1 : (⟨#[45]⟩ ++ s : ByteArray).extract 1 (s.size + 1) = s := by have := ext_r ⟨#[45]⟩ s; rwa [hsz1] at this
  have h45 : byt (⟨#[45]⟩ ++ s) 0 = 45 := by rw [byt_app_l (by decide)]; rfl
  obtain ⟨ms, hms⟩ : ∃ ms, ⟨#[45]⟩ ++ s = ms := ⟨_, rfl⟩
  rw [hms] at hsz1 xs1 h45 ⊢
  have hm0 : 0 < ms.size := by omega
  have hm0I : (0 : Int) < (ms.size : Int) := by omega
  have hmn : ¬ (ms.size : Int) = 0 := by omega
  have hmb : ((ms.size : Int) == 0) = false := beq_false_of_ne hmn
  have bym := byt_get hm0
  rw [h45] at bym
  rw [← hsz1] at xs1
  have hm1 : (1 : Int) ≤ (ms.size : Int) := by omega
  clear hms h45 hsz1
  go_wp2
  go_loopw [6] (fun v wr => ∃ i : Nat, v = .int .i64 i ∧ i ≤ N ∧ wr = w3) (fun v _ => N + 1 - (intOf v).toNat)
  case atStart => exact ⟨0, rfl, by omega, rfl⟩
  case round =>
    obtain ⟨i, rfl, hiN, rfl⟩ := hrel
    by_cases hlt : i < N
    · have hls : i < s.size := by have := SF.le; omega
      have hil : (i : Int) < (s.size : Int) := by omega
      have hi0 : (0 : Int) ≤ (i : Int) := by omega
      have hby := byt_get hls
      obtain ⟨d0, d1⟩ := SF.dg i hlt
      generalize byt s i = B at *
      have wi : IntKind.i64.wrap ((i : Int) + 1) = ((i + 1 : Nat) : Int) := by rw [IntKind.wrap_i64]; have := SF.n17; omega
      go_wp2
      go_roundw
      case rel => exact ⟨i + 1, rfl, by omega, by trivial⟩
      case measure => simp [intOf]; omega
    · obtain rfl : i = N := by omega
      by_cases hls : i < s.size
      · have hil : (i : Int) < (s.size : Int) := by omega
        have hi0 : (0 : Int) ≤ (i : Int) := by omega
        have hby := byt_get hls
        rw [SF.nx hls] at hby
        have hM0 : (0 : Int) ≤ (M : Int) := by omega
        have hMs : M < s.size := by have := SF.le; have := HNM.out; omega
        have hMsI : (M : Int) < (s.size : Int) := by omega
        have w1 : IntKind.i64.wrap ((i : Int) - 1) = (M : Int) := by rw [IntKind.wrap_i64]; have := HNM.out; have := SF.n17; omega
        have hN0 : ¬ (i : Int) = 0 := by have := SF.n1; omega
        have hN0b : ((i : Int) == 0) = false := beq_false_of_ne hN0
        have hN17 : ¬ (17 : Int) < (i : Int) := by have := SF.n17; omega
        have hs0 : 0 < s.size := by omega
        have hs0I : (0 : Int) < (s.size : Int) := by omega
        have byM := byt_get hMs
        have by0 := byt_get hs0
        have hl1 : ¬ byt s M = 48 := by have := SF.last; rwa [show i - 1 = M by have := HNM.out; omega] at this
        have hl1b : (byt s M == 48) = false := beq_false_of_ne hl1
        have hf1 := SF.first
        have hf1b : (byt s 0 == 48) = false := beq_false_of_ne hf1
        by_cases hN1 : i = 1
        · subst hN1
          clear HNM
          go_wp2
          go_ret
          exact ⟨rfl, hb0⟩
        · have hN2 : 2 ≤ i := by have := SF.n1; omega
          have hN1' : ¬ (i : Int) = 1 := by omega
          have hN1b : ((i : Int) == 1) = false := beq_false_of_ne hN1'
          have xl : s.extract 0 M = P := by have := SF.xl hN2; rwa [show i - 1 = M by have := HNM.out; omega] at this
          have xr := SF.xr
          have ps : P.size = M := by have := SF.ps hN2; have := HNM.out; omega
          have hNs : (i : Int) ≤ (s.size : Int) := by have := SF.le; omega
          have hMs2 : (M : Int) ≤ (s.size : Int) := by omega
          have hNn : (0 : Int) ≤ (i : Int) := by omega
          have c0 := SF.ts
          have hM16 : M ≤ 16 := by have := SF.n17; have := HNM.out; omega
          have c1 : ¬ 9223372036854775807 < M + 1 := by omega
          have c2 : ¬ 9223372036854775807 < M + 1 + tl.size := by omega
          obtain ⟨F1, HR1, o1⟩ := SF.low hN2
          have hM1 : 1 ≤ M := by have := HNM.out; omega
          go_wp2_with fail
          go_region_held3 (fun _ => True)
            (trivial)
            ((go_at_call 14; go_fit (HR1 _ (hT.drewN _)); rintro e1 w5 ⟨rfl, hx⟩))
          replace hT := (hT.drewN 1).below hx
          replace hb0 := bel_tr (bel_tr hb0 (belN (Below.refl _ _) 1)) hx
          clear hx HR1
          have hcv := fun u => run_bytes_of_string (P := Tryz.prog) u 9 47 5 P Tryz.underlying9 Tryz.underlying47 Tryz.underlying5
          rw [ps] at hcv
          have w2 : IntKind.i64.wrap ((M : Int) - 1) = (M : Int) - 1 := by rw [IntKind.wrap_i64]; omega
          have B0 : Brw ((w5.alloc (.cells (bytesRow P (grownCap w5 M 0 5)) 5 ((bytesRow P (grownCap w5 M 0 5)).size, (bytesRow P (grownCap w5 M 0 5)).size + 1))).drew) w5.heap.size (byL P) := brw_new w5 P 5 (grownCap w5 M 0 5)
          have hbx : Below w.heap.size w ((w5.alloc (.cells (bytesRow P (grownCap w5 M 0 5)) 5 ((bytesRow P (grownCap w5 M 0 5)).size, (bytesRow P (grownCap w5 M 0 5)).size + 1))).drew) := (hb0.alloc (show w.heap.size ≤ w5.heap.size from hb0.size) _).drew
          have hG : w.heap.size ≤ w5.heap.size := Below.size hb0
          go_wp2
          generalize (w5.alloc (.cells (bytesRow P (grownCap w5 M 0 5)) 5 ((bytesRow P (grownCap w5 M 0 5)).size, (bytesRow P (grownCap w5 M 0 5)).size + 1))).drew = w6 at *
          generalize grownCap w5 M 0 5 = cap at *
          generalize w5.heap.size = G at *
          clear hcv hb0 hT
          go_loopw [10] (fun v wr => ∃ (j : Nat) (xs : List Int), v = .int .i64 ((j : Int) - 1) ∧ j ≤ M ∧ xs.length = M ∧ (∀ y ∈ xs, 48 ≤ y ∧ y ≤ 57) ∧ vX xs M + p10 (M - j) = (e : Int) + 1 ∧ Brw wr G xs ∧ Below w.heap.size w wr) (fun v _ => (intOf v + 1).toNat)
          case atStart =>
            refine ⟨M, byL P, rfl, Nat.le_refl _, by rw [byL_len, ps], byL_dig SF.pd, ?_, B0, hbx⟩
            have := SF.val
            rw [ps] at this
            rw [this, Nat.sub_self]; rfl
          case round =>
            obtain ⟨j, xs, rfl, hj, hxl, hxd, HV, BR, hbl⟩ := hrel
            clear B0 hbx
            by_cases hj0 : j = 0
            · subst hj0
              have hT := hT0.below hbl
              have hcv := fun (u : World) (hu : Below wr.heap.size wr u) => run_convert_bytes_arg (P := Tryz.prog) u 47 5 Tryz.underlying47 Tryz.underlying5 G 0 M cap xs hxl (fun i hi => by rw [Nat.zero_add]; exact (BR.below hu).cell (by omega)) 9 Tryz.underlying9
              have hsz : (strOfNums xs).size = M := by rw [strOfNums_size, hxl]
              obtain ⟨F2, HR2, o2⟩ := SF.high hN2 (⟨#[49]⟩ ++ strOfNums xs ++ ⟨#[48]⟩) (((allD_nums (xs := [49]) (fun y hy => by simp at hy; omega)).app (allD_nums hxd)).app (allD_nums (xs := [48]) (fun y hy => by simp at hy; omega))) (by rw [ByteArray.size_append, ByteArray.size_append]; show 0 < _ + 1; omega) (by rw [ByteArray.size_append, ByteArray.size_append, hsz]; show 1 + M + 1 ≤ 20; omega) (by
                rw [rdF_app, rdF_app, rdF_vX hxd _ (by rw [hsz]; omega), hsz]
                show (1 * p10 M + vX xs M) * 10 + 0 = _
                rw [Nat.sub_zero] at HV
                omega)
              generalize strOfNums xs = sx at *
              have c3 : ¬ 9223372036854775807 < 1 + M := by omega
              have c4 : ¬ 9223372036854775807 < 1 + M + 1 := by omega
              have c5 : ¬ 9223372036854775807 < 1 + M + 1 + tl.size := by omega
              clear HV BR hxd hxl SF
              go_wp2_with fail
              go_region_held3 (fun w' => (convert 47 9 (.slice (some ⟨G, 0, none⟩) M cap)).run Tryz.prog w' = .ok (.string sx) w')
                (first | exact hcv _ (Below.refl _ _) | exact hcv _ (Below.refl _ _).drew | exact hcv _ (belN (Below.refl _ _) 1) | exact hcv _ (bel_tr (belN (Below.refl _ _) 1) hx))
                ((go_at_call 14; go_fit (HR2 _ (hT.drewN _)); rintro e2 w7 ⟨rfl, hx⟩))
              replace hbl := bel_tr (bel_tr hbl (belN (Below.refl _ _) 1)) hx
              clear hx HR2 hcv
              have o2n : ¬ FloatKind.f64.format.order F2 k = some .eq := by simpa using o2
              go_wp2
              go_ret
              exact ⟨by simp [o2n], hbl⟩
            · obtain ⟨q, rfl⟩ : ∃ q, j = q + 1 := ⟨j - 1, by omega⟩
              rw [show (((q + 1 : Nat) : Int) - 1) = (q : Int) by omega]
              have hq0 : (0 : Int) ≤ (q : Int) := by omega
              have hqM : (q : Int) < (M : Int) := by omega
              have hc := BR.cell (i := q) (by omega)
              have hf := BR.frozen (i := q) (by omega)
              have hz := hxd (lm xs q) (by unfold lm; simp only [List.getD, List.getElem?_eq_getElem (show q < xs.length by omega), Option.getD_some]; exact List.getElem_mem _)
              obtain ⟨Z, hZ⟩ : ∃ Z, lm xs q = Z := ⟨_, rfl⟩
              rw [hZ] at hc hz
              have hm : M = q + 1 + (M - (q + 1)) := by omega
              by_cases h9 : Z = 57
              · subst h9
                have HB2 := BR.set (i := q) (by omega) 48
                have HL2 := hbl.setCell (p := ⟨G, q, none⟩) hG (.int .u8 48)
                have HV2 : Hid (vX (xs.set q 48) M + p10 (M - q) = (e : Int) + 1) := by
                  show _ = _
                  have := vX_set (xs := xs) (i := q) 48 (by omega) (M - (q + 1))
                  rw [← hm, hZ] at this
                  rw [this, show M - q = (M - (q + 1)) + 1 by omega]
                  show vX xs M + (48 - 57) * p10 (M - (q + 1)) + p10 (M - (q + 1)) * 10 = _
                  omega
                have HD2 : Hid (∀ y ∈ xs.set q 48, 48 ≤ y ∧ y ≤ 57) := fun y hy => by
                  rcases List.mem_or_eq_of_mem_set hy with h | h
                  · exact hxd y h
                  · omega
                have HX2 : Hid ((xs.set q 48).length = M) := by show _ = _; rw [List.length_set]; exact hxl
                have wq : IntKind.i64.wrap ((q : Int) - 1) = (q : Int) - 1 := by rw [IntKind.wrap_i64]; omega
                clear HV BR hxd hxl SF hm hZ hz
                go_wp2
                go_roundw
                case rel => exact ⟨q, _, rfl, by omega, HX2.out, HD2.out, HV2.out, HB2, HL2⟩
                case measure => simp [intOf]
              · have h9b : (Z == 57) = false := beq_false_of_ne h9
                have hT9 : IntKind.u8.wrap (Z + 1) = Z + 1 := by rw [IntKind.wrap_u8]; omega
                have HB2 := BR.set (i := q) (by omega) (Z + 1)
                have HL2 := hbl.setCell (p := ⟨G, q, none⟩) hG (.int .u8 (Z + 1))
                have HD2 : ∀ y ∈ xs.set q (Z + 1), 48 ≤ y ∧ y ≤ 57 := fun y hy => by
                  rcases List.mem_or_eq_of_mem_set hy with h | h
                  · exact hxd y h
                  · omega
                have HX2 : (xs.set q (Z + 1)).length = M := by rw [List.length_set]; exact hxl
                have hsz : (strOfNums (xs.set q (Z + 1))).size = M := by rw [strOfNums_size, HX2]
                obtain ⟨F2, HR2, o2⟩ := SF.high hN2 (⟨#[]⟩ ++ strOfNums (xs.set q (Z + 1)) ++ ⟨#[48]⟩) (((allD_nums (xs := []) (fun y hy => by simp at hy)).app (allD_nums HD2)).app (allD_nums (xs := [48]) (fun y hy => by simp at hy; omega))) (by rw [ByteArray.size_append]; show 0 < _ + 1; omega) (by rw [ByteArray.size_append, ByteArray.size_append, hsz]; show 0 + M + 1 ≤ 20; omega) (by
                  rw [rdF_app, rdF_app, rdF_vX HD2 _ (by rw [hsz]; omega), hsz]
                  show (0 * p10 M + vX (xs.set q (Z + 1)) M) * 10 + 0 = _
                  have := vX_set (xs := xs) (i := q) (Z + 1) (by omega) (M - (q + 1))
                  rw [← hm, hZ] at this
                  rw [this, show Z + 1 - Z = 1 by omega, Int.one_mul]
                  omega)
                have hcv1 := fun (u : World) (hu : Below (wr.setCell ⟨G, q, none⟩ (.int .u8 (Z + 1))).heap.size (wr.setCell ⟨G, q, none⟩ (.int .u8 (Z + 1))) u) => run_convert_bytes_arg (P := Tryz.prog) u 47 5 Tryz.underlying47 Tryz.underlying5 G 0 M cap (xs.set q (Z + 1)) HX2 (fun i hi => by rw [Nat.zero_add]; exact (HB2.below hu).cell (by omega)) 9 Tryz.underlying9
                have hT := hT0.below HL2
                have c3 : ¬ 9223372036854775807 < M := by omega
                have hq1 : ¬ (q : Int) < 0 := by omega
                clear HV BR hxd hxl SF hm hZ HD2 HX2 hbl HB2
                generalize strOfNums (xs.set q (Z + 1)) = sx at *
                go_wp2_with fail
                go_region_held3 (fun w' => (convert 47 9 (.slice (some ⟨G, 0, none⟩) M cap)).run Tryz.prog w' = .ok (.string sx) w')
                  (first | exact hcv1 _ (Below.refl _ _) | exact hcv1 _ (Below.refl _ _).drew | exact hcv1 _ (belN (Below.refl _ _) 1) | exact hcv1 _ (bel_tr (belN (Below.refl _ _) 1) hx))
                  ((go_at_call 14; go_fit (HR2 _ (hT.drewN _)); rintro e2 w7 ⟨rfl, hx⟩))
                replace HL2 := bel_tr (bel_tr HL2 (belN (Below.refl _ _) 1)) hx
                clear hx HR2 hcv1
                have o2n : ¬ FloatKind.f64.format.order F2 k = some .eq := by simpa using o2
                go_wp2
                go_ret
                exact ⟨by simp [o2n], HL2⟩
      · have hil : ¬ (i : Int) < (s.size : Int) := by omega
        have hM0 : (0 : Int) ≤ (M : Int) := by omega
        have hMs : M < s.size := by have := SF.le; have := HNM.out; omega
        have hMsI : (M : Int) < (s.size : Int) := by omega
        have w1 : IntKind.i64.wrap ((i : Int) - 1) = (M : Int) := by rw [IntKind.wrap_i64]; have := HNM.out; have := SF.n17; omega
        have hN0 : ¬ (i : Int) = 0 := by have := SF.n1; omega
        have hN0b : ((i : Int) == 0) = false := beq_false_of_ne hN0
        have hN17 : ¬ (17 : Int) < (i : Int) := by have := SF.n17; omega
        have hs0 : 0 < s.size := by omega
        have hs0I : (0 : Int) < (s.size : Int) := by omega
        have byM := byt_get hMs
        have by0 := byt_get hs0
        have hl1 : ¬ byt s M = 48 := by have := SF.last; rwa [show i - 1 = M by have := HNM.out; omega] at this
        have hl1b : (byt s M == 48) = false := beq_false_of_ne hl1
        have hf1 := SF.first
        have hf1b : (byt s 0 == 48) = false := beq_false_of_ne hf1
        by_cases hN1 : i = 1
        · subst hN1
          clear HNM
          go_wp2
          go_ret
          exact ⟨rfl, hb0⟩
        · have hN2 : 2 ≤ i := by have := SF.n1; omega
          have hN1' : ¬ (i : Int) = 1 := by omega
          have hN1b : ((i : Int) == 1) = false := beq_false_of_ne hN1'
          have xl : s.extract 0 M = P := by have := SF.xl hN2; rwa [show i - 1 = M by have := HNM.out; omega] at this
          have xr := SF.xr
          have ps : P.size = M := by have := SF.ps hN2; have := HNM.out; omega
          have hNs : (i : Int) ≤ (s.size : Int) := by have := SF.le; omega
          have hMs2 : (M : Int) ≤ (s.size : Int) := by omega
          have hNn : (0 : Int) ≤ (i : Int) := by omega
          have c0 := SF.ts
          have hM16 : M ≤ 16 := by have := SF.n17; have := HNM.out; omega
          have c1 : ¬ 9223372036854775807 < M + 1 := by omega
          have c2 : ¬ 9223372036854775807 < M + 1 + tl.size := by omega
          obtain ⟨F1, HR1, o1⟩ := SF.low hN2
          have hM1 : 1 ≤ M := by have := HNM.out; omega
          go_wp2_with fail
          go_region_held3 (fun _ => True)
            (trivial)
            ((go_at_call 14; go_fit (HR1 _ (hT.drewN _)); rintro e1 w5 ⟨rfl, hx⟩))
          replace hT := (hT.drewN 1).below hx
          replace hb0 := bel_tr (bel_tr hb0 (belN (Below.refl _ _) 1)) hx
          clear hx HR1
          have hcv := fun u => run_bytes_of_string (P := Tryz.prog) u 9 47 5 P Tryz.underlying9 Tryz.underlying47 Tryz.underlying5
          rw [ps] at hcv
          have w2 : IntKind.i64.wrap ((M : Int) - 1) = (M : Int) - 1 := by rw [IntKind.wrap_i64]; omega
          have B0 : Brw ((w5.alloc (.cells (bytesRow P (grownCap w5 M 0 5)) 5 ((bytesRow P (grownCap w5 M 0 5)).size, (bytesRow P (grownCap w5 M 0 5)).size + 1))).drew) w5.heap.size (byL P) := brw_new w5 P 5 (grownCap w5 M 0 5)
          have hbx : Below w.heap.size w ((w5.alloc (.cells (bytesRow P (grownCap w5 M 0 5)) 5 ((bytesRow P (grownCap w5 M 0 5)).size, (bytesRow P (grownCap w5 M 0 5)).size + 1))).drew) := (hb0.alloc (show w.heap.size ≤ w5.heap.size from hb0.size) _).drew
          have hG : w.heap.size ≤ w5.heap.size := Below.size hb0
          go_wp2
          generalize (w5.alloc (.cells (bytesRow P (grownCap w5 M 0 5)) 5 ((bytesRow P (grownCap w5 M 0 5)).size, (bytesRow P (grownCap w5 M 0 5)).size + 1))).drew = w6 at *
          generalize grownCap w5 M 0 5 = cap at *
          generalize w5.heap.size = G at *
          clear hcv hb0 hT
          go_loopw [10] (fun v wr => ∃ (j : Nat) (xs : List Int), v = .int .i64 ((j : Int) - 1) ∧ j ≤ M ∧ xs.length = M ∧ (∀ y ∈ xs, 48 ≤ y ∧ y ≤ 57) ∧ vX xs M + p10 (M - j) = (e : Int) + 1 ∧ Brw wr G xs ∧ Below w.heap.size w wr) (fun v _ => (intOf v + 1).toNat)
          case atStart =>
            refine ⟨M, byL P, rfl, Nat.le_refl _, by rw [byL_len, ps], byL_dig SF.pd, ?_, B0, hbx⟩
            have := SF.val
            rw [ps] at this
            rw [this, Nat.sub_self]; rfl
          case round =>
            obtain ⟨j, xs, rfl, hj, hxl, hxd, HV, BR, hbl⟩ := hrel
            clear B0 hbx
            by_cases hj0 : j = 0
            · subst hj0
              have hT := hT0.below hbl
              have hcv := fun (u : World) (hu : Below wr.heap.size wr u) => run_convert_bytes_arg (P := Tryz.prog) u 47 5 Tryz.underlying47 Tryz.underlying5 G 0 M cap xs hxl (fun i hi => by rw [Nat.zero_add]; exact (BR.below hu).cell (by omega)) 9 Tryz.underlying9
              have hsz : (strOfNums xs).size = M := by rw [strOfNums_size, hxl]
              obtain ⟨F2, HR2, o2⟩ := SF.high hN2 (⟨#[49]⟩ ++ strOfNums xs ++ ⟨#[48]⟩) (((allD_nums (xs := [49]) (fun y hy => by simp at hy; omega)).app (allD_nums hxd)).app (allD_nums (xs := [48]) (fun y hy => by simp at hy; omega))) (by rw [ByteArray.size_append, ByteArray.size_append]; show 0 < _ + 1; omega) (by rw [ByteArray.size_append, ByteArray.size_append, hsz]; show 1 + M + 1 ≤ 20; omega) (by
                rw [rdF_app, rdF_app, rdF_vX hxd _ (by rw [hsz]; omega), hsz]
                show (1 * p10 M + vX xs M) * 10 + 0 = _
                rw [Nat.sub_zero] at HV
                omega)
              generalize strOfNums xs = sx at *
              have c3 : ¬ 9223372036854775807 < 1 + M := by omega
              have c4 : ¬ 9223372036854775807 < 1 + M + 1 := by omega
              have c5 : ¬ 9223372036854775807 < 1 + M + 1 + tl.size := by omega
              clear HV BR hxd hxl SF
              go_wp2_with fail
              go_region_held3 (fun w' => (convert 47 9 (.slice (some ⟨G, 0, none⟩) M cap)).run Tryz.prog w' = .ok (.string sx) w')
                (first | exact hcv _ (Below.refl _ _) | exact hcv _ (Below.refl _ _).drew | exact hcv _ (belN (Below.refl _ _) 1) | exact hcv _ (bel_tr (belN (Below.refl _ _) 1) hx))
                ((go_at_call 14; go_fit (HR2 _ (hT.drewN _)); rintro e2 w7 ⟨rfl, hx⟩))
              replace hbl := bel_tr (bel_tr hbl (belN (Below.refl _ _) 1)) hx
              clear hx HR2 hcv
              have o2n : ¬ FloatKind.f64.format.order F2 k = some .eq := by simpa using o2
              go_wp2
              go_ret
              exact ⟨by simp [o2n], hbl⟩
            · obtain ⟨q, rfl⟩ : ∃ q, j = q + 1 := ⟨j - 1, by omega⟩
              rw [show (((q + 1 : Nat) : Int) - 1) = (q : Int) by omega]
              have hq0 : (0 : Int) ≤ (q : Int) := by omega
              have hqM : (q : Int) < (M : Int) := by omega
              have hc := BR.cell (i := q) (by omega)
              have hf := BR.frozen (i := q) (by omega)
              have hz := hxd (lm xs q) (by unfold lm; simp only [List.getD, List.getElem?_eq_getElem (show q < xs.length by omega), Option.getD_some]; exact List.getElem_mem _)
              obtain ⟨Z, hZ⟩ : ∃ Z, lm xs q = Z := ⟨_, rfl⟩
              rw [hZ] at hc hz
              have hm : M = q + 1 + (M - (q + 1)) := by omega
              by_cases h9 : Z = 57
              · subst h9
                have HB2 := BR.set (i := q) (by omega) 48
                have HL2 := hbl.setCell (p := ⟨G, q, none⟩) hG (.int .u8 48)
                have HV2 : Hid (vX (xs.set q 48) M + p10 (M - q) = (e : Int) + 1) := by
                  show _ = _
                  have := vX_set (xs := xs) (i := q) 48 (by omega) (M - (q + 1))
                  rw [← hm, hZ] at this
                  rw [this, show M - q = (M - (q + 1)) + 1 by omega]
                  show vX xs M + (48 - 57) * p10 (M - (q + 1)) + p10 (M - (q + 1)) * 10 = _
                  omega
                have HD2 : Hid (∀ y ∈ xs.set q 48, 48 ≤ y ∧ y ≤ 57) := fun y hy => by
                  rcases List.mem_or_eq_of_mem_set hy with h | h
                  · exact hxd y h
                  · omega
                have HX2 : Hid ((xs.set q 48).length = M) := by show _ = _; rw [List.length_set]; exact hxl
                have wq : IntKind.i64.wrap ((q : Int) - 1) = (q : Int) - 1 := by rw [IntKind.wrap_i64]; omega
                clear HV BR hxd hxl SF hm hZ hz
                go_wp2
                go_roundw
                case rel => exact ⟨q, _, rfl, by omega, HX2.out, HD2.out, HV2.out, HB2, HL2⟩
                case measure => simp [intOf]
              · have h9b : (Z == 57) = false := beq_false_of_ne h9
                have hT9 : IntKind.u8.wrap (Z + 1) = Z + 1 := by rw [IntKind.wrap_u8]; omega
                have HB2 := BR.set (i := q) (by omega) (Z + 1)
                have HL2 := hbl.setCell (p := ⟨G, q, none⟩) hG (.int .u8 (Z + 1))
                have HD2 : ∀ y ∈ xs.set q (Z + 1), 48 ≤ y ∧ y ≤ 57 := fun y hy => by
                  rcases List.mem_or_eq_of_mem_set hy with h | h
                  · exact hxd y h
                  · omega
                have HX2 : (xs.set q (Z + 1)).length = M := by rw [List.length_set]; exact hxl
                have hsz : (strOfNums (xs.set q (Z + 1))).size = M := by rw [strOfNums_size, HX2]
                obtain ⟨F2, HR2, o2⟩ := SF.high hN2 (⟨#[]⟩ ++ strOfNums (xs.set q (Z + 1)) ++ ⟨#[48]⟩) (((allD_nums (xs := []) (fun y hy => by simp at hy)).app (allD_nums HD2)).app (allD_nums (xs := [48]) (fun y hy => by simp at hy; omega))) (by rw [ByteArray.size_append]; show 0 < _ + 1; omega) (by rw [ByteArray.size_append, ByteArray.size_append, hsz]; show 0 + M + 1 ≤ 20; omega) (by
                  rw [rdF_app, rdF_app, rdF_vX HD2 _ (by rw [hsz]; omega), hsz]
                  show (0 * p10 M + vX (xs.set q (Z + 1)) M) * 10 + 0 = _
                  have := vX_set (xs := xs) (i := q) (Z + 1) (by omega) (M - (q + 1))
                  rw [← hm, hZ] at this
                  rw [this, show Z + 1 - Z = 1 by omega, Int.one_mul]
                  omega)
                have hcv1 := fun (u : World) (hu : Below (wr.setCell ⟨G, q, none⟩ (.int .u8 (Z + 1))).heap.size (wr.setCell ⟨G, q, none⟩ (.int .u8 (Z + 1))) u) => run_convert_bytes_arg (P := Tryz.prog) u 47 5 Tryz.underlying47 Tryz.underlying5 G 0 M cap (xs.set q (Z + 1)) HX2 (fun i hi => by rw [Nat.zero_add]; exact (HB2.below hu).cell (by omega)) 9 Tryz.underlying9
                have hT := hT0.below HL2
                have c3 : ¬ 9223372036854775807 < M := by omega
                have hq1 : ¬ (q : Int) < 0 := by omega
                clear HV BR hxd hxl SF hm hZ HD2 HX2 hbl HB2
                generalize strOfNums (xs.set q (Z + 1)) = sx at *
                go_wp2_with fail
                go_region_held3 (fun w' => (convert 47 9 (.slice (some ⟨G, 0, none⟩) M cap)).run Tryz.prog w' = .ok (.string sx) w')
                  (first | exact hcv1 _ (Below.refl _ _) | exact hcv1 _ (Below.refl _ _).drew | exact hcv1 _ (belN (Below.refl _ _) 1) | exact hcv1 _ (bel_tr (belN (Below.refl _ _) 1) hx))
                  ((go_at_call 14; go_fit (HR2 _ (hT.drewN _)); rintro e2 w7 ⟨rfl, hx⟩))
                replace HL2 := bel_tr (bel_tr HL2 (belN (Below.refl _ _) 1)) hx
                clear hx HR2 hcv1
                have o2n : ¬ FloatKind.f64.format.order F2 k = some .eq := by simpa using o2
                go_wp2
                go_ret
                exact ⟨by simp [o2n], HL2⟩
end Go.Proofs.YtbkkepbmaadomaaGreatDoor

namespace Go.Proofs.YtbkkepbmaadomaaGreatDoor
open Go.RowKit Go.Shelf

theorem short_Z {b : Nat} {fi : Bool} (w : World) (hT : TB w) (HF : ∀ u, Calls Tryz.prog 10 #[.float .f64 b] u fun e w' => e = .returned (.bool fi) ∧ Below u.heap.size u w') (ho : fi = true → (FloatKind.f64.format.order b 0 == some .eq) = true) :
    Calls Tryz.prog 5 #[.int .u64 (b : Int)] w fun e w' => e = .returned (.bool true) ∧ Below w.heap.size w w' := by
  have HB := fun u => ext_from (b : Int) u
  go_enter Tryz.func5, Tryz.ntmps5
  go_wp2_with fail
  refine (awake4 _ hT).mono ?_
  rintro e0 w1 ⟨rfl, hx⟩
  have hb0 := hx
  clear hx hT
  go_wp2_with fail
  refine (HF _).mono ?_
  rintro e0 w2 ⟨rfl, hx⟩
  replace hb0 := bel_tr hb0 hx
  clear hx HF
  cases fi
  · clear ho
    go_wp2
    go_ret
    exact ⟨rfl, hb0⟩
  · replace ho := ho rfl
    go_wp2
    go_ret
    exact ⟨rfl, hb0⟩
theorem short_walk4 (x : Int) (w : World) (h0 : 0 ≤ x) (h1 : x < 18446744073709551616) (hT : TB w) (hP : TP w) :
    Calls Tryz.prog 5 #[.int .u64 x] w fun e w' => e = .returned (.bool true) ∧ Below w.heap.size w w' := by
  obtain ⟨b, rfl⟩ := Int.eq_ofNat_of_zero_le h0
  have hl : b < 18446744073709551616 := by omega
  by_cases h : b % 9223372036854775808 < 9218868437227405312
  · by_cases hz : b % 9223372036854775808 = 0
    · refine short_Z w hT (fun u => finiteT u h) fun _ => ?_
      rcases (by omega : b = 0 ∨ b = 9223372036854775808) with rfl | rfl <;> decide +kernel
    · by_cases hs : b < 9223372036854775808
      · exact short_P b w (by omega) (by omega) hT hP
      · obtain ⟨k, rfl⟩ : ∃ k, b = k + 9223372036854775808 := ⟨b - 9223372036854775808, by omega⟩
        exact short_N k w (by omega) (by omega) hT hP
  · by_cases hn : 9218868437227405312 < b % 9223372036854775808
    · exact short_Z w hT (fun u => finiteN u hn) (fun e => by cases e)
    · exact short_Z w hT (fun u => finiteF u (by omega)) (fun e => by cases e)
end Go.Proofs.YtbkkepbmaadomaaGreatDoor
