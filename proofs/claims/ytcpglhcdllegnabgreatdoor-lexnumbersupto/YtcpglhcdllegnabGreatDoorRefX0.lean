import Derived.Test.YtcpglhcdllegnabGreatDoorRefNAll
import Derived.Test.YtcpglhcdllegnabGreatDoorDigAll
namespace Go.Proofs.YtcpglhcdllegnabGreatDoor
open Go.RowKit

/-- A value that owns a list of integers of one kind, in memory from block B on. -/
def OwnK (t : TypeId) (k : IntKind) (w : World) (B : Nat) (v : Value) (xs : List Int) : Prop := w.ownsRow B t 1 v xs.length (xs.map (Value.int k))
theorem OwnK.nil (t : TypeId) (k : IntKind) (w : World) (B : Nat) : OwnK t k w B (.slice none 0 0) [] := World.ownsRow_nil _ _ _ _
theorem OwnK.alloc {t : TypeId} {k : IntKind} {w : World} {B : Nat} {v : Value} {xs : List Int} (h : OwnK t k w B v xs) (o : Obj) : OwnK t k (w.alloc o) B v xs := World.ownsRow.alloc h o
theorem OwnK.lt {t : TypeId} {k : IntKind} {w : World} {B : Nat} {v : Value} {xs : List Int} (h : OwnK t k w B v xs) : ∀ j, v.ownBlock = some j → B ≤ j ∧ j < w.heap.size := World.ownsRow.lt h
theorem OwnK.row {t : TypeId} {k : IntKind} {w : World} {B : Nat} {v : Value} {xs : List Int} (h : OwnK t k w B v xs) : (v = .slice none 0 0 ∧ xs = []) ∨ ∃ g cap, v = .slice (some ⟨g, 0, none⟩) xs.length cap ∧ xs.length ≤ cap ∧ B ≤ g ∧ g < w.heap.size ∧ ∀ i, i < xs.length → w.cell? ⟨g, i, none⟩ = some (.int k (xs.getD i 0)) := by
  rcases h.2 with ⟨h1, h2⟩ | ⟨g, cap, cur, h1, h2, h3, h4, h5, h6, h7⟩
  · exact .inl ⟨h1, List.eq_nil_of_length_eq_zero h2⟩
  · refine .inr ⟨g, cap, h1, h4, h2, (Array.getElem?_eq_some_iff.1 h3).1, fun i hi => ?_⟩
    have e1 : (cur.toList.take (xs.length * 1))[i]? = cur.toList[i]? := List.getElem?_take_of_lt (by omega)
    rw [h7, List.getElem?_map, List.getElem?_eq_getElem hi] at e1
    have e2 : cur[i]? = some (.int k xs[i]) := by rw [← Array.getElem?_toList, ← e1]; rfl
    simp only [List.getD, List.getElem?_eq_getElem hi, Option.getD_some]
    simp [World.cell?, h3, e2]
theorem OwnK.of_block {t : TypeId} {k : IntKind} {w w' : World} {B : Nat} {v : Value} {xs : List Int} (h : OwnK t k w B v xs) (hb : ∀ g, g < w.heap.size → w'.heap[g]? = w.heap[g]?) : OwnK t k w' B v xs := by
  refine ⟨h.1, ?_⟩
  rcases h.2 with hn | ⟨g, cap, cur, e1, e2, hgb, rest⟩
  · exact .inl hn
  · exact .inr ⟨g, cap, cur, e1, e2, (hb g (Array.getElem?_eq_some_iff.1 hgb).1).trans hgb, rest⟩
theorem OwnK.below {t : TypeId} {k : IntKind} {w w' : World} {B : Nat} {v : Value} {xs : List Int} (h : OwnK t k w B v xs) (hb : Below w.heap.size w w') : OwnK t k w' B v xs := h.of_block fun g hg => hb.block g hg
theorem OwnK.form {t : TypeId} {k : IntKind} {w : World} {B : Nat} {v : Value} {xs : List Int} (h : OwnK t k w B v xs) : ∃ a cap, v = .slice a xs.length cap := by
  rcases h.row with ⟨rfl, rfl⟩ | ⟨g, cap, e, _⟩
  · exact ⟨_, _, rfl⟩
  · exact ⟨_, _, e⟩
/-- 'append(v, z)' at a plain region: z lies in a block of its own already. -/
theorem wpList_appendK (t e : TypeId) (k : IntKind) (bytes : Nat) (i0 : TypeInfo) (ht : Tryz.prog.underlying t = some (.slice e)) (hi : Tryz.prog.info? e = some i0) (hz0 : i0.zero = some (.int k 0)) (hz1 : i0.size = 1) (hz2 : i0.bytes = bytes) (hb8 : bytes ≤ 8) (w : World) {ops : Array Oper} {rest : List Oper} {o : Oper} {a : Act} {Q : Exit → Act → World → Prop} (hgd : o.guard = none) (s x : Operand)
    (ho : o.op = .call { callee := .builtin .append, args := #[s, x], argTypes := #[t, t] }) (B : Nat) (v : Value) (xs : List Int) (n : Nat) (hn : Hid (xs.length = n)) (hs : a.eval s = v) (hown : OwnK e k w B v xs) (h : Nat) (c : Nat) (z : Int) (hx : a.eval x = .slice (some ⟨h, 0, none⟩) 1 c)
    (hc : w.cell? ⟨h, 0, none⟩ = some (.int k z)) (hlen : n ≤ 1000000000000) (hB : B ≤ w.heap.size) (H : Nat) (hH : w.heap.size = H)
    (hK : ∀ g cap w', OwnK e k w' B (.slice (some ⟨g, 0, none⟩) (n + 1) cap) (xs ++ [z]) → w.grownBy w' v.ownBlock → (v.ownBlock = some g ∨ g = H) → g < w'.heap.size → wpList Tryz.prog ops Q rest (a.put o.dst (.slice (some ⟨g, 0, none⟩) (n + 1) cap)) w') :
    wpList Tryz.prog ops Q (o :: rest) a w := by
  obtain rfl := hn.out
  refine wpList_append_lies w hgd s x t ho B e i0 (.int k 0) 1 bytes ht hi hz0 hz1 hz2 rfl (by decide) v xs.length (xs.map (Value.int k)) hs hown ⟨h, 0, none⟩ 1 c [.int k z] hx rfl ?_ (fun u hu => by simp at hu; subst hu; rfl) (by decide) (by unfold maxLen; omega) (by have := Nat.mul_le_mul (show xs.length + 1 ≤ 1000000000001 by omega) hb8; omega) hB H hH ?_
  · intro j u hj
    match j, hj with
    | 0, hj => simp at hj; subst hj; simpa [Addr.add] using hc
  · intro g cap w' h1 h2 h3 h4
    refine hK g cap w' ?_ h2 h3 h4
    unfold OwnK
    simpa using h1
theorem HNum.zero {w : World} {a : Option Addr} {n cap : Nat} {x : Int} {S : Nat} (h : HNum w a n cap x S) : 0 ≤ x ∧ (n = 0 ↔ x = 0) ∧ n ≤ S := by
  obtain ⟨hs, h1, h2, h3, h4, h5, h6, h7⟩ := h
  have h8 := (vH_nn h4 hs.length).1
  have e : vH hs hs.length = x := h5
  refine ⟨by omega, ⟨fun h => ?_, fun h => ?_⟩, h6⟩
  · have : hs = [] := List.eq_nil_of_length_eq_zero (by omega)
    subst this; rw [← e]; rfl
  · rcases Nat.eq_zero_or_pos hs.length with q | q
    · omega
    · exfalso
      have h9 := valH_ge h4 (by omega : 0 < tlen hs)
      have h10 := pwH_pos (tlen hs - 1)
      rw [h5] at h9
      omega
/-- How many elements a list has. -/
def lenOf : Value → Nat
  | .slice _ n _ => n
  | _ => 0
theorem HNum.grown {w w' : World} {G n cap : Nat} {x : Int} {S : Nat} (h : HNum w (some ⟨G, 0, none⟩) n cap x S) {row : Option Nat} {blk : Obj} (hg : (w.alloc blk).grownBy w' row) (hne : row ≠ some G) : HNum w' (some ⟨G, 0, none⟩) n cap x S := by
  obtain ⟨hs, h1, h2, h3, h4⟩ := h
  refine ⟨hs, h1, h2, ?_, h4⟩
  rcases h3 with h3 | ⟨b, o, e, hc⟩
  · exact .inl h3
  · refine .inr ⟨b, o, e, fun i hi => ?_⟩
    have hl := World.block_lt_of_cell? _ _ (hc i hi)
    simp only [Option.some.injEq, Addr.mk.injEq] at e
    obtain ⟨rfl, rfl, _⟩ := e
    have e1 : w'.heap[G]? = (w.alloc blk).heap[G]? := hg.block G (by simp at hl ⊢; omega) (fun e => hne e.symm)
    have e2 : (w.alloc blk).heap[G]? = w.heap[G]? := ((Below.refl w.heap.size w).alloc (Nat.le_refl _) blk).block G hl
    exact (World.cell?_of_block (a := ⟨G, 0 + i, none⟩) (e1.trans e2)).trans (hc i hi)
set_option maxRecDepth 100000 in
set_option maxHeartbeats 1000000 in
/-- rpartV, with where the quotient lies. -/
theorem rpartW {a : Option Addr} {na ca : Nat} {x d : Int} {S : Nat} (w : World) (ha : HNum w a na ca x S) (hd0 : 0 < d) (hd1 : d < 4294967296) (hS : S ≤ 100000000) :
    Calls Tryz.prog 65 #[.slice a na ca, .int .u64 d] w fun e w' => ∃ n cc, e = .returned (.tuple #[.slice (some ⟨w.heap.size, 0, none⟩) n cc, .int .u64 (x % d)]) ∧ HNum w' (some ⟨w.heap.size, 0, none⟩) n cc (x / d) S ∧ Below w.heap.size w w' := by
  obtain ⟨xs, a1, a2, hra, hx, a5, a6, _⟩ := ha
  have Hna : Hid (na = xs.length) := a1
  have HX5 : Hid (valH xs = x) := a5
  clear a1 a5
  go_enter Tryz.func65, Tryz.ntmps65
  go_wp2_with (at_make; refine wpList_makeH _ rfl _ _ rfl _ _ na rfl rfl (by omega) (by omega) (by omega) ?_)
  intro wm hbm hbelm
  obtain ⟨G, hG⟩ : ∃ G, G = w.heap.size := ⟨_, rfl⟩
  have HG : Hid (G = w.heap.size) := hG
  rw [← hG] at hbm hbelm
  rw [← hG]
  clear hG
  go_wp2
  go_loopw [7, 8] (fun s t wr => ∃ (k : Nat) (U : List Int) (r : Int), k ≤ na ∧ t = .int .i64 ((k : Int) - 1) ∧ s = .int .u64 r ∧ Blk wr G U ∧ U.length = na ∧ AllH U ∧ (∀ j, j < k → lm U j = 0) ∧ 0 ≤ r ∧ r < d ∧ valH xs - vH xs k = vH U na * d + r * pwH k ∧ Below G w wr) (fun _ t _ => ((intOf t) + 1).toNat)
  case atStart => exact ⟨na, _, 0, Nat.le_refl _, rfl, rfl, hbm, by simp, AllH.replicate _, fun j _ => lm_replicate _ _, by omega, by omega, by rw [vH_long (us := xs) (by have := Hna.out; omega), vH_congr (us := List.replicate na 0) (vs := []) (fun j _ => by rw [lm_replicate, lm_ge (by simp)]), vH_long (us := []) (by simp)]; simp [vH, valH], hbelm⟩
  case round =>
    clear hbm hbelm
    obtain ⟨k, U, r, hk, rfl, rfl, hbr, hU, hUh, hz, hr0, hr1, hV, hbel⟩ := hrel
    have HU : Hid (U.length = na) := hU
    have HUh : Hid (AllH U) := hUh
    have HV : Hid (valH xs - vH xs k = vH U na * d + r * pwH k) := hV
    have HZ : Hid (∀ j, j < k → lm U j = 0) := hz
    clear hU hUh hV hz
    by_cases hk0 : k = 0
    · subst hk0
      have hle : tlen U ≤ U.length := tl_le _ _
      have HE : Hid (x = valH U * d + r) := by
        show _ = _
        have e := HV.out
        have e2 : vH U na = valH U := by unfold valH; rw [HU.out]
        rw [e2, HX5.out] at e
        simp [vH, pwH] at e
        omega
      have hUn := valH_nn HUh.out
      have E1 : Hid (x / d = valH U) := by
        show _ = _
        rw [HE.out, Int.add_comm, Int.add_mul_ediv_right _ _ (by omega), Int.ediv_eq_zero_of_lt hr0 hr1]; omega
      have E2 : Hid (r = x % d) := by
        show _ = _
        rw [HE.out, Int.add_comm, Int.add_mul_emod_self_right, Int.emod_eq_of_lt hr0 hr1]
      have hre : Reads wr (some ⟨G, 0, none⟩) U := by have := hbr.reads U.length; rwa [List.take_length] at this
      have HN := HNum.of_trim (S := S) (cap := na) hre (by rw [HU.out] at hle; exact hle) HUh.out (by rw [HU.out] at hle; omega)
      have e3 := E2.out
      clear hbr hra HV HE E2
      subst e3
      go_wp2_with fail
      refine (rcut_any (some ⟨G, 0, none⟩) na na U wr HU.out.symm (Nat.le_refl _) (by omega) hre).mono ?_
      rintro e w2 ⟨rfl, rfl⟩
      rw [← E1.out] at HN
      rw [HG.out] at hbel
      clear hre
      go_wp2
      go_ret2
      rw [HG.out] at HN ⊢
      exact ⟨_, _, rfl, HN, hbel⟩
    · obtain ⟨j, rfl⟩ : ∃ j, k = j + 1 := ⟨k - 1, by omega⟩
      have hj : j < na := by omega
      obtain ⟨x0, x1⟩ := hx.at j
      obtain ⟨b1, o1, rfl, hc1⟩ := hra.at (by have := Hna.out; omega)
      have h1 := hc1 j (by have := Hna.out; omega)
      have hb1' : b1 < G := by rw [HG.out]; simpa using World.block_lt_of_cell? _ _ h1
      have hcx : wr.cell? ⟨b1, o1 + j, none⟩ = some (.int .u64 (lm xs j)) := by rw [hbel.cell (p := ⟨b1, o1 + j, none⟩) (by exact hb1')]; exact h1
      have hcu := hbr.cell (i := j) (by rw [HU.out]; exact hj)
      have hfu := hbr.frozen j
      have hjn : (j : Int) < (na : Int) := by omega
      clear hra hc1 h1
      obtain ⟨t, ht⟩ : ∃ t, t = r * 4294967296 + lm xs j := ⟨_, rfl⟩
      have HT : Hid (t = r * 4294967296 + lm xs j) := ht
      have ht0 : 0 ≤ t := by omega
      have ht1 : t < d * 4294967296 := by omega
      have q0 := Int.ediv_nonneg ht0 (by omega : 0 ≤ d)
      have q1 : t / d < 4294967296 := Int.ediv_lt_of_lt_mul hd0 (by rw [Int.mul_comm]; exact ht1)
      have m0 := Int.emod_nonneg t (by omega : d ≠ 0)
      have m1 := Int.emod_lt_of_pos t hd0
      have HQ : Hid (t = t / d * d + t % d) := by show _ = _; rw [Int.mul_comm]; exact (Int.mul_ediv_add_emod t d).symm
      have T0 : IntKind.u64.wrap (r * 4294967296 + lm xs j) = t := by rw [← ht, IntKind.wrap_u64]; omega
      have T1 : IntKind.u64.wrap (t.tdiv d) = t / d := by rw [Int.tdiv_eq_ediv_of_nonneg ht0, IntKind.wrap_u64]; omega
      have T2 : t.tmod d = t % d := Int.tmod_eq_emod_of_nonneg ht0
      have hdz : (d == 0) = false := beq_eq_false_iff_ne.2 (by omega)
      clear ht
      have hB2 := hbr.set j (t / d)
      have HL2 := hbel.setCell (p := ⟨G, j, none⟩) (Nat.le_refl _) (.int .u64 (t / d))
      have HU2 : Hid ((U.set j (t / d)).length = na) := by show _ = _; rw [List.length_set, HU.out]
      have HA2 : Hid (AllH (U.set j (t / d))) := HUh.out.set _ _ ⟨q0, q1⟩
      have HZ2 : Hid (∀ i, i < j → lm (U.set j (t / d)) i = 0) := fun i hi => by rw [lm_set, if_neg (by omega)]; exact HZ.out i (by omega)
      have HV2 : Hid (valH xs - vH xs j = vH (U.set j (t / d)) na * d + t % d * pwH j) := by
        show _ = _
        rw [vH_set _ hj (by rw [HU.out]; exact hj), HZ.out j (by omega), Int.sub_zero]
        have e := HV.out
        rw [pwH_succ] at e
        have e2 := part_step e HT.out HQ.out
        rw [← e2, vH_top]
        omega
      clear hbr hbel
      generalize t / d = q at *
      generalize t % d = m at *
      go_wp2
      go_roundw
      case rel => exact ⟨j, _, m, by omega, by go_num, rfl, hB2, HU2.out, HA2.out, HZ2.out, m0, m1, HV2.out, HL2⟩
      case measure => simp [intOf]
theorem Tryz.infoI64 : (Tryz.prog.info? 3).map (fun i => (i.zero, i.size, i.bytes)) = some (some (.int .i64 0), 1, 8) := by kernel_rfl
end Go.Proofs.YtcpglhcdllegnabGreatDoor
