import Derived.Test.YtdfoiklcekhmpaaGreatDoorR4A
namespace Go.Proofs.YtdfoiklcekhmpaaGreatDoor
open Go.RowKit Go.Shelf

theorem ixa_at {l r cs : List UInt8} {c : UInt8} (h : ∀ b ∈ l, b ∉ cs) (hc : c ∈ cs) : Lib.indexAny (l ++ c :: r) cs = (l.length : Int) := by
  induction l with
  | nil => simp [Lib.indexAny, hc]
  | cons b l ih =>
    have h1 := h b (by simp)
    have h2 := ih (fun c hc => h c (by simp [hc]))
    have h3 : ¬ (l.length : Int) = -1 := by omega
    simp [Lib.indexAny, h1, h2, h3]
theorem catL (a b : ByteArray) (c : UInt8) : (a ++ ⟨#[c]⟩ ++ b).data.toList = a.data.toList ++ c :: b.data.toList := by
  rw [ByteArray.data_append, ByteArray.data_append, Array.toList_append, Array.toList_append, List.append_assoc]; rfl
theorem sizeL (a : ByteArray) : a.data.toList.length = a.size := by simp
def Asc (s : ByteArray) : Prop := ∀ b ∈ s.data.toList, b.toNat < 128
theorem Asc.at {s : ByteArray} (h : Asc s) : ∀ (j : Nat) (b : UInt8), s.data.toList[j]? = some b → b.toNat < 128 := fun _ b hb => h b (List.mem_of_getElem? hb)
set_option maxHeartbeats 4000000 in
theorem cutsE_none (s : ByteArray) (hs : s.size ≤ 100000000) (ha : Asc s) (h : ∀ b ∈ s.data.toList, b ∉ ([101, 69] : List UInt8)) (w : World) :
    Calls Tryz.prog 51 #[.string s] w fun e w' => e = .returned (.tuple #[.string s, .string ⟨#[48]⟩]) ∧ Below w.heap.size w w' := by
  have hn : Lib.indexAny s.data.toList (⟨#[101, 69]⟩ : ByteArray).data.toList = -1 := ixa_none h
  go_enter Tryz.func51, Tryz.ntmps51
  go_wp2_with fail
  refine (ianyS _ _ _ (by omega) (by decide) ha.at (asc_of (by decide))).mono ?_
  rw [hn]
  rintro e w1 ⟨rfl, hx⟩
  clear hn
  go_wp2
  go_ret2
  exact ⟨rfl, hx⟩
set_option maxHeartbeats 4000000 in
theorem cutsE_some (d x : ByteArray) (c : UInt8) (hc : c ∈ ([101, 69] : List UInt8)) (hs : d.size + 1 + x.size ≤ 100000000) (ha : Asc (d ++ ⟨#[c]⟩ ++ x)) (h : ∀ b ∈ d.data.toList, b ∉ ([101, 69] : List UInt8)) (w : World) :
    Calls Tryz.prog 51 #[.string (d ++ ⟨#[c]⟩ ++ x)] w fun e w' => e = .returned (.tuple #[.string d, .string x]) ∧ Below w.heap.size w w' := by
  have hn : Lib.indexAny (d ++ ⟨#[c]⟩ ++ x).data.toList (⟨#[101, 69]⟩ : ByteArray).data.toList = (d.size : Int) := by
    rw [catL, ← sizeL d]; exact ixa_at h hc
  obtain ⟨x1, x2⟩ := ext_ab d x c
  have hss : (d ++ ⟨#[c]⟩ ++ x).size = d.size + 1 + x.size := by rw [ByteArray.size_append, ByteArray.size_append]; rfl
  generalize d ++ ⟨#[c]⟩ ++ x = s at *
  have HX1 : Hid (s.extract 0 d.size = d) := x1
  have HX2 : Hid (s.extract (d.size + 1) s.size = x) := x2
  clear x1 x2
  generalize hk : d.size = k at *
  have hk1 : (0 : Int) ≤ (k : Int) := by omega
  have hk0 : ¬ (k : Int) < 0 := by omega
  have hk2 : (k : Int) ≤ (s.size : Int) := by omega
  have hk3 : (k : Int) + 1 ≤ (s.size : Int) := by omega
  have hw1 : IntKind.i64.wrap ((k : Int) + 1) = (k : Int) + 1 := by rw [IntKind.wrap_i64]; omega
  go_enter Tryz.func51, Tryz.ntmps51
  go_wp2_with fail
  refine (ianyS _ _ _ (by omega) (by decide) ha.at (asc_of (by decide))).mono ?_
  rw [hn]
  rintro e w1 ⟨rfl, hx⟩
  clear hn ha
  go_wp2
  go_region
  go_wp2
  go_ret2
  have e9 : k + 1 + (s.size - (k + 1)) = s.size := by omega
  exact ⟨by rw [← HX1.out, ← HX2.out]; simp [e9], hx.drew⟩
set_option maxHeartbeats 4000000 in
theorem cutY46 (s : ByteArray) (k : Nat) (w : World) (hne : ([46] == s.toList) = false) (hk : Lib.indexByte s.data.toList 46 = (k : Int)) (hs : s.size ≤ 100000000) (hks : k < s.size) : Calls Tryz.prog 20 #[.string s, .string ⟨#[46]⟩] w fun e w' => e = .returned (.tuple #[.string (s.extract 0 k), .string (s.extract (k + 1) s.size), .bool true]) ∧ Below w.heap.size w w' := by
  have kk : Calls Tryz.prog 48 #[.string s, .string ⟨#[46]⟩] w fun e w' => e = .returned (.tuple #[.string (s.extract 0 k), .string (s.extract (k + 1) s.size), .bool true]) ∧ Below w.heap.size w w' := by
    have hk1 : (0 : Int) ≤ (k : Int) := by omega
    have hk2 : (k : Int) ≤ (s.size : Int) := by omega
    have hk3 : (k : Int) + 1 ≤ (s.size : Int) := by omega
    have hw1 : IntKind.i64.wrap ((k : Int) + 1) = (k : Int) + 1 := by rw [IntKind.wrap_i64]; omega
    go_enter Tryz.func48, Tryz.ntmps48
    go_wp2_with fail
    refine (idx46 s k _ hne hk).mono ?_
    rintro e w' ⟨rfl, rfl⟩
    clear hk hne
    go_wp2
    go_region
    go_wp2
    go_ret3
    exact ⟨by simp, (Below.refl _ _).drew⟩
  go_enter Tryz.func20, Tryz.ntmps20
  go_wp2_with fail
  refine kk.mono ?_
  rintro e w' ⟨rfl, hx⟩
  go_wp2
  go_ret3
  exact ⟨rfl, hx⟩
/-- strings.Cut at the point. -/
theorem cutsP_some (a b : ByteArray) (h : (46 : UInt8) ∉ a.data.toList) (hs : a.size + 1 + b.size ≤ 100000000) (h0 : 0 < a.size + b.size) (w : World) :
    Calls Tryz.prog 20 #[.string (a ++ ⟨#[46]⟩ ++ b), .string ⟨#[46]⟩] w fun e w' => ∃ t, e = .returned (.tuple #[.string a, .string b, .bool t]) ∧ Below w.heap.size w w' := by
  obtain ⟨x1, x2⟩ := ext_ab a b 46
  have hss : (a ++ ⟨#[46]⟩ ++ b).size = a.size + 1 + b.size := by rw [ByteArray.size_append, ByteArray.size_append]; rfl
  have hix : Lib.indexByte (a ++ ⟨#[46]⟩ ++ b).data.toList 46 = (a.size : Int) := by rw [catL, ← sizeL a]; exact ixb_at h
  have hne : ([46] == (a ++ ⟨#[46]⟩ ++ b).toList) = false := by
    rw [beq_eq_false_iff_ne, ByteArray.toList_eq]
    intro e
    have := congrArg List.length e
    rw [sizeL, hss] at this
    simp at this
    omega
  refine (cutY46 _ a.size w hne hix (by omega) (by omega)).mono ?_
  rw [x1, x2]
  rintro e w' ⟨rfl, hx⟩
  exact ⟨true, rfl, hx⟩
theorem cutsP_none (s : ByteArray) (h : (46 : UInt8) ∉ s.data.toList) (w : World) :
    Calls Tryz.prog 20 #[.string s, .string ⟨#[46]⟩] w fun e w' => ∃ t, e = .returned (.tuple #[.string s, .string ⟨#[]⟩, .bool t]) ∧ Below w.heap.size w w' :=
  (cutN46 s w h).mono fun _ _ ⟨h1, h2⟩ => ⟨false, h1, h2⟩
theorem noSign (be : ByteArray) (hs : be.size ≤ 100000000) (ha : Asc be) (h : ∀ b ∈ be.data.toList, b ∉ ([43, 45] : List UInt8)) (w : World) :
    Calls Tryz.prog 52 #[.string be, .string ⟨#[43, 45]⟩] w fun e w' => e = .returned (.bool false) ∧ Below w.heap.size w w' := by
  have hn : Lib.containsAny be.data.toList (⟨#[43, 45]⟩ : ByteArray).data.toList = false := by
    unfold Lib.containsAny; rw [ixa_none h]; rfl
  have := canyS be ⟨#[43, 45]⟩ w (by omega) (by decide) ha.at (asc_of (by decide))
  rw [hn] at this
  exact this
theorem byt0 {s : ByteArray} (hd : Digs s s.size) (h0 : 0 < s.size) : cutS s = (false, s) := by
  have := hd 0 h0
  unfold cutS
  rw [if_neg (by omega), if_neg (by omega)]
theorem parsesI_digs (s : ByteArray) (hd : Digs s s.size) (h0 : 0 < s.size) (hs : s.size ≤ 100000000) (w : World) :
    Calls Tryz.prog 49 #[.string s] w fun e w' => ∃ v', e = .returned (.tuple #[v', .nilIface]) ∧ GI w' w.heap.size v' (rdF s 0 s.size) s.size ∧ Below w.heap.size w w' := by
  have e := byt0 hd h0
  have := parseI s w hs (by rw [e]; exact hd) (by rw [e]; exact h0)
  rw [e] at this
  exact this
theorem cutS_neg (t : ByteArray) : cutS (⟨#[45]⟩ ++ t) = (true, t) := by
  have h1 : (⟨#[45]⟩ ++ t : ByteArray).size = 1 + t.size := by rw [ByteArray.size_append]; rfl
  have h2 : byt (⟨#[45]⟩ ++ t) 0 = 45 := by
    unfold byt
    rw [ByteArray.data_append, Array.toList_append]; rfl
  unfold cutS
  rw [if_pos ⟨by omega, h2⟩]
  have := (ext_ab ⟨#[]⟩ t 45).2
  rw [show (⟨#[]⟩ ++ ⟨#[45]⟩ : ByteArray) = ⟨#[45]⟩ by rfl] at this
  rw [show (⟨#[]⟩ : ByteArray).size + 1 = 1 by rfl] at this
  rw [this]
theorem parsesI_neg (t : ByteArray) (hd : Digs t t.size) (h0 : 0 < t.size) (hs : t.size ≤ 10000000) (w : World) :
    Calls Tryz.prog 49 #[.string (⟨#[45]⟩ ++ t)] w fun e w' => ∃ v', e = .returned (.tuple #[v', .nilIface]) ∧ GI w' w.heap.size v' (-(rdF t 0 t.size)) t.size ∧ Below w.heap.size w w' := by
  have e := cutS_neg t
  have h1 : (⟨#[45]⟩ ++ t : ByteArray).size = 1 + t.size := by rw [ByteArray.size_append]; rfl
  have := parseI (⟨#[45]⟩ ++ t) w (by omega) (by rw [e]; exact hd) (by rw [e]; exact h0)
  rw [e] at this
  exact this
end Go.Proofs.YtdfoiklcekhmpaaGreatDoor
