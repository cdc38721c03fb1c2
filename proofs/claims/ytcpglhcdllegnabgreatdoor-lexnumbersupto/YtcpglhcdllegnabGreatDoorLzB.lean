import Derived.Test.YtcpglhcdllegnabGreatDoorLzA
import Derived.Test.YtcpglhcdllegnabGreatDoorQ3T
import Derived.Test.YtcpglhcdllegnabGreatDoorQAll
import Derived.Test.YtcpglhcdllegnabGreatDoorQ3Sp
import Derived.Test.YtcpglhcdllegnabGreatDoorR5HEa
import Derived.Test.YtcpglhcdllegnabGreatDoorR3XAll
namespace Go.Proofs.YtcpglhcdllegnabGreatDoor
open Go.RowKit Go.Shelf

theorem divI1 (z : Int) : Rat.divInt z 1 = (z : Rat) := Rat.num_divInt_den (z : Rat)
theorem absR_nn (r : Rat) : 0 ≤ (absR r).num := by
  unfold absR
  split
  · rw [Rat.neg_num]; omega
  · omega
theorem txtI_nn {x : Int} (h : 0 ≤ x) : txtI x = txt x.natAbs := by unfold txtI; rw [if_neg (by omega)]
theorem txt_ne (v : Nat) : (txt v).data.toList ≠ [] := fun e => by
  have h := txtI_pos (v : Int)
  rw [txtI_nn (by omega), Int.natAbs_natCast, ← len_list, e] at h
  simp at h
/-- The text of a fraction that isn't below nought, and x1 behind it. -/
theorem txq_facts {q : Rat} (h : 0 ≤ q.num) {T : ByteArray} (hT : T.data.toList = (txtQ q).data.toList ++ [120, 49]) : begL T.data.toList = true ∧ gpN T.data.toList = 0 ∧ litN T.data.toList = (txtQ q).size ∧ (txtQ q).data.toList.count 10 = 0 := by
  have hA := dg_all (allD_txt q.num.natAbs)
  have hB := dg_all (allD_txt q.den)
  have mem : ∀ v, ∀ b ∈ (txt v).data.toList, dgB.contains b = true := fun v b hb => List.all_eq_true.1 (dg_all (allD_txt v)) b hb
  unfold txtQ at hT ⊢
  by_cases hd : q.den = 1
  · rw [if_pos hd, txtI_nn h] at hT ⊢
    rw [hT]
    obtain ⟨b1, b2⟩ := beg_digs (d := [120, 49]) hA (txt_ne _)
    exact ⟨b1, b2, by rw [lit_digs hA, len_list], no10_digs fun b hb => .inr (mem _ b hb)⟩
  · rw [if_neg hd, txtI_nn h] at hT ⊢
    have e : (txt q.num.natAbs ++ (⟨#[47]⟩ : ByteArray) ++ txt q.den).data.toList = (txt q.num.natAbs).data.toList ++ 47 :: (txt q.den).data.toList := by
      rw [ByteArray.data_append, ByteArray.data_append, Array.toList_append, Array.toList_append, List.append_assoc]; rfl
    have e2 : (txt q.num.natAbs ++ (⟨#[47]⟩ : ByteArray) ++ txt q.den).size = (txt q.num.natAbs).data.toList.length + 1 + (txt q.den).data.toList.length := by
      rw [← len_list, e, List.length_append, List.length_cons]; omega
    rw [e] at hT ⊢
    have hT2 : T.data.toList = (txt q.num.natAbs).data.toList ++ 47 :: ((txt q.den).data.toList ++ [120, 49]) := by rw [hT]; simp
    rw [hT2, e2]
    obtain ⟨b1, b2⟩ := beg_digs (d := 47 :: ((txt q.den).data.toList ++ [120, 49])) hA (txt_ne _)
    refine ⟨b1, b2, lit_quot hA hB (txt_ne _), no10_digs fun b hb => ?_⟩
    rcases List.mem_append.1 hb with hb | hb
    · exact .inr (mem _ b hb)
    · rcases List.mem_cons.1 hb with rfl | hb
      · exact .inl rfl
      · exact .inr (mem _ b hb)
theorem Got.bdp {w : World} {B : Nat} {v : Value} {x : Int} {S : Nat} (h : Got w B v x S) : x < pw S := by
  obtain ⟨xs, _, h2, h3, h4⟩ := h
  rw [← h3]
  exact Int.lt_of_lt_of_le (val_lt h2.1) (pw_mono h4)
theorem GR.bdp {w : World} {B : Nat} {f : Bool} {c : Option Addr} {n k : Nat} {c' : Option Addr} {n' k' : Nat} {r : Rat} {S : Nat} (h : GR w B f c n k c' n' k' r S) : (r.num.natAbs : Int) < pw S ∧ (r.den : Int) < pw S := by
  obtain ⟨⟨_, _, _, _, h1⟩, h2⟩ := h
  exact ⟨h1.bdp, h2.bdp⟩
/-- Scan of such a text. -/
theorem scan_txq {q : Rat} (h : 0 ≤ q.num) (LX : (q.num.natAbs : Int) < pw 1048576) (LV : (q.den : Int) < pw 1048576) {T : ByteArray} (hT : T.data.toList = (txtQ q).data.toList ++ [120, 49]) : (txtQ q).size ≤ 42000000 ∧ ScanOk T [⟨2, txtQ q, 0, 1, 1, q⟩, ⟨1, ⟨#[120, 49]⟩, 0, 1, 1 + (txtQ q).size, 0⟩] := by
  have hz := txtQ_bd LX LV
  obtain ⟨b1, b2, b3, b4⟩ := txq_facts h hT
  refine ⟨by omega, scan_num (S := 1048577) (by omega) (txtQ_pos q) b1 b2 b3 b4 (fun u hu => ?_) (by omega) hT⟩
  exact parseTxt q u (by omega) LX LV (by omega) hu
/-- The document's number of digits. -/
theorem doc_digs (s : ByteArray) (hs : s.size ≤ 1048576) (hD : AllD s) (h0 : 0 < s.size) (w : World) :
    Calls Tryz.prog 11 #[.string s] w fun e w' => ∃ f c n k c' n' k', e = .returned (.tuple #[.agg #[.bool f, .slice c n k, .slice c' n' k'], .int .i64 0]) ∧ GR w' w.heap.size f c n k c' n' k' ((rdF s 0 s.size : Int) : Rat) 4194309 ∧ Below w.heap.size w w' := by
  have e0 : sgJ s 0 = 0 := by
    unfold sgJ
    rw [if_neg]
    rintro ⟨_, h⟩
    have := hD.at h0
    omega
  have e1 : sgN s 0 = false := decide_eq_false (by rintro ⟨_, h⟩; have := hD.at h0; omega)
  have e2 : runE s 0 = s.size := (run_E s (by omega)).uniq ⟨by omega, Nat.le_refl _, fun k _ hk => hD.at hk, fun h => absurd h (by omega)⟩
  have hn : ¬ (s.size < s.size ∧ (byt s s.size = 101 ∨ byt s s.size = 69)) := fun h => absurd h.1 (by omega)
  have h := dBEa0u (s := s) (p0 := 0) (i := s.size) (neg := false) (N := rdF s 0 s.size) w hs e0 e1 e2 rfl (by omega) (Nat.le_refl _) (by omega) h0 (by omega) (mm := s.size) (by omega) (e := 0) (dn := false) (ok := true) (if_neg hn) (by unfold exD; rw [decide_eq_false hn]; rfl) (decide_eq_true (.inl rfl)) (by omega) rfl (en := 0) rfl (by omega) rfl
  refine h.mono fun e w' ⟨f, c, n, k, c', n', k', h1, h2, h3⟩ => ⟨f, c, n, k, c', n', k', h1, h2.val ?_, h3⟩
  show Rat.divInt (ws false (rdF s 0 s.size * 1)) 1 = _
  rw [Int.mul_one]
  exact divI1 _
theorem rdF_zero {Z : ByteArray} {K : Nat} (h : Z.data.toList = List.replicate K 48) : Z.size = K ∧ AllD Z ∧ rdF Z 0 Z.size = 0 := by
  have hz : Z.size = K := by rw [← len_list, h, List.length_replicate]
  have hb : ∀ i, i < K → byt Z i = 48 := fun i hi => by
    obtain ⟨x, hx, e⟩ := byt_some (s := Z) (i := i) (by omega)
    rw [h, List.getElem?_replicate, if_pos hi] at hx
    rw [e, ← Option.some.inj hx]; rfl
  refine ⟨hz, fun b hm => ?_, ?_⟩
  · rw [h] at hm
    rw [List.eq_of_mem_replicate hm]; decide
  · rw [hz]
    have : ∀ k, k ≤ K → rdF Z 0 k = 0 := by
      intro k
      induction k with
      | zero => intro _; rfl
      | succ k ih => intro hk; simp only [rdF]; rw [ih (by omega), Nat.zero_add, hb k (by omega)]; rfl
    exact this K (Nat.le_refl _)
/-- With a point and an exponent, and without: the same number. -/
theorem two_vals {v K : Nat} {Z : ByteArray} (hZ : Z.data.toList = List.replicate K 48) (h9 : (txt v).size + K ≤ 9999) :
    NOk (tz2 (txt v) (txt ((txt v).size + K))) ∧ rv (tz2 (txt v) (txt ((txt v).size + K))) = ((rdF (txt v ++ txt v ++ Z) 0 (txt v ++ txt v ++ Z).size : Int) : Rat) ∧ AllD (txt v ++ txt v ++ Z) ∧ (txt v ++ txt v ++ Z).size = 2 * (txt v).size + K ∧
    begL (tz2 (txt v) (txt ((txt v).size + K))).data.toList = true ∧ litN (tz2 (txt v) (txt ((txt v).size + K))).data.toList = (tz2 (txt v) (txt ((txt v).size + K))).size := by
  obtain ⟨z1, z2, z3⟩ := rdF_zero hZ
  have w1 := allD_txt v
  have hp : 0 < (txt v).size := by rw [← len_list]; exact List.length_pos_iff.2 (txt_ne v)
  have hp2 : 0 < (txt ((txt v).size + K)).size := by rw [← len_list]; exact List.length_pos_iff.2 (txt_ne _)
  obtain ⟨k1, k2⟩ := tz2_ok w1 (allD_txt ((txt v).size + K)) hp hp2 (rd_txt v) (rd_txt _) (by omega) (by omega)
  have hl : (tz2 (txt v) (txt ((txt v).size + K))).data.toList = (txt v).data.toList ++ 46 :: ((txt v).data.toList ++ 69 :: 43 :: (txt ((txt v).size + K)).data.toList) := by
    unfold tz2
    rw [ByteArray.data_append, ByteArray.data_append, ByteArray.data_append, ByteArray.data_append, Array.toList_append, Array.toList_append, Array.toList_append, Array.toList_append]
    simp
  refine ⟨k1, ?_, (w1.app w1).app z2, by rw [ByteArray.size_append, ByteArray.size_append, z1]; omega, ?_, ?_⟩
  · rw [k2, rdF_cat, rdF_cat, rd_txt, z3, z1]
    unfold litV
    rw [show (((txt v).size + K : Nat) : Int) - ((txt v).size : Int) = (K : Int) by omega, Int.toNat_natCast, show (((txt v).size : Nat) : Int) - (((txt v).size + K : Nat) : Int) = -(K : Int) by omega, Int.toNat_neg_natCast, Int.add_zero]
    exact divI1 _
  · rw [hl]; exact (beg_digs (dg_all w1) (txt_ne v)).1
  · rw [← len_list (tz2 _ _), hl]; exact lit_full (dg_all w1) (txt_ne v) (dg_all (allD_txt _)) (txt_ne _)
/-- Scan of the literal. -/
theorem scan_tz2 {v K : Nat} {Z : ByteArray} (hZ : Z.data.toList = List.replicate K 48) (h9 : (txt v).size + K ≤ 9999) : ∃ l c, ScanOk (tz2 (txt v) (txt ((txt v).size + K))) [⟨2, tz2 (txt v) (txt ((txt v).size + K)), 0, l, c, ((rdF (txt v ++ txt v ++ Z) 0 (txt v ++ txt v ++ Z).size : Int) : Rat)⟩] := by
  obtain ⟨k1, k2, _, _, k5, k6⟩ := two_vals hZ h9
  have hm : (txt ((txt v).size + K)).size ≤ 22 := by
    have := size_txtI (k := (((txt v).size + K : Nat) : Int)) (by rw [Int.natAbs_natCast]; omega)
    rwa [txtI_nn (by omega), Int.natAbs_natCast] at this
  have hp : 0 < (txt v).size := by rw [← len_list]; exact List.length_pos_iff.2 (txt_ne v)
  have hz := tz2_size (txt v) (txt ((txt v).size + K))
  obtain ⟨T, hT⟩ : ∃ T, tz2 (txt v) (txt ((txt v).size + K)) = T := ⟨_, rfl⟩
  rw [hT] at k1 k2 k5 k6 hz ⊢
  obtain ⟨r0, ts, R', L', C', q1, q2, q3, q4⟩ := scan_all half T (by omega)
  have hg : gp false T.data.toList = T.data.toList := by
    obtain ⟨b, l, e⟩ : ∃ b l, T.data.toList = b :: l := by
      cases e : T.data.toList with
      | nil => have := len_list T; rw [e] at this; simp at this; omega
      | cons b l => exact ⟨b, l, rfl⟩
    unfold begL at k5
    rw [e] at k5 ⊢
    simp only [List.head?_cons, List.headD_cons, Bool.or_eq_true, beq_iff_eq, Option.some.injEq] at k5
    have hb : ¬ blB.contains b = true ∧ ¬ b = 92 := by
      rcases k5 with rfl | k5
      · decide
      · exact byte_all (p := fun b => dgB.contains b = true → ¬ blB.contains b = true ∧ ¬ b = 92) (by decide +kernel) b k5
    exact gp_stay hb.1 hb.2
  obtain rfl : r0 = T := ba_eq (q1.trans hg)
  obtain ⟨e0, t, rfl, e1, e2, e3⟩ := pch_num q2 (q4.imp (·.1) (fun ⟨_, g, code, h, _⟩ => ⟨g, code, h⟩)) k5 k6 (by omega) k1
  have HS : ScanOk r0 [t] := q4.elim (·.2) (fun h => by omega)
  have hw : t.wd = 0 := by
    obtain ⟨_, _, _, _, ⟨n, _, _, hR⟩, _⟩ := q2
    rcases hR with ⟨_, _, _, h4, _⟩ | ⟨h1, _⟩ | ⟨h1, _⟩
    · exact h4
    · rw [k5] at h1; cases h1
    · rw [k5] at h1; cases h1
  refine ⟨t.l, t.c, ?_⟩
  obtain ⟨k, x, wd, l, c, q⟩ := t
  simp only at e1 e2 e3 hw
  subst e1 e2 hw
  rw [e3, k2] at HS
  exact HS
end Go.Proofs.YtcpglhcdllegnabGreatDoor
