import Derived.Test.YtfelogbfijomiabGreatDoorDigC
import Derived.Test.YtfelogbfijomiabGreatDoorRev
import Derived.Laws.BytesArg
namespace Go.Proofs.YtfelogbfijomiabGreatDoor
open Go.RowKit Go.Shelf
attribute [local go_sem] Oper.semAt_some

theorem digits_in (a : Option Addr) (n c k : Nat) (w : World) :
    CallsIn Fence.wide k Tryz.prog 86 #[.slice a n c] w fun e w' => e = .returned (.func (.func 113) #[] #[.pointer (some ⟨w.heap.size, 0, none⟩)]) ∧ w' = w.alloc (.cells #[.slice a n c] 26) := by
  refine callsIn_of_wp Tryz.func86 rfl trivial ?_ rfl
  simp only [Tryz.ntmps86, List.size_toArray, List.length_cons, List.length_nil, Nat.reduceAdd, Nat.reduceSub, Array.replicate_succ, Array.replicate_zero, List.push_toArray, List.append_toArray, List.nil_append, List.cons_append]
  gi_wp2
  go_ret
  exact ⟨rfl, rfl⟩

/-- nat.Digits answers an iterator of the digits. -/
theorem digits_seq {a : Option Addr} {n c : Nat} {x : Int} {S : Nat} {w : World} (Bx : Nat) (hB : Bx < w.heap.size) (hc : w.cell? ⟨Bx, 0, none⟩ = some (.slice a n c)) (hx : Num w a n c x S) (hS : S ≤ 1000000000000) :
    SeqW Fence.wide Tryz.prog 113 #[.pointer (some ⟨Bx, 0, none⟩)] (fun xs => xs = decs x.toNat) (fun pre => pre <+: decs x.toNat) (decs x.toNat).length w := by
  intro k l J Jx W hW hJ _ hY h0
  obtain ⟨xs, h1, h2, h3, h4, rfl, h6⟩ := hx.below hW
  exact digits1_in l J Jx Bx a n c xs W hJ hY ((hW.cell (p := ⟨Bx, 0, none⟩) hB).trans hc) h1 h2 (by omega) h3 h4 h0 k

theorem KeptW.grown {W W' : World} {row : Option Nat} (hg : W.grownBy W' row) (hr : ∀ (j : Nat) (o : Obj), row = some j → W.heap[j]? = some o → isWd o = false) : KeptW W W' :=
  ⟨hg.size, fun k o hk ho => (hg.block k (Array.getElem?_eq_some_iff.1 hk).1 (fun e => by rw [hr k o e.symm hk] at ho; cases ho)).trans hk⟩
/-- Words lie as they lay behind an append to a list of others in a variable's box. -/
theorem keptW_appended {W w1 : World} {n₀ B : Nat} {t e : TypeId} {v v' : Value} {k : Nat} {xs : List Value} {tmp : Obj} (hv : Boxed w1 B t v) (ht : t ≠ 49) (he : e ≠ 49)
    (hrow : W.ownsRow n₀ e 1 v k xs) (hgrow : (W.alloc tmp).grownBy w1 v.ownBlock) : KeptW W (w1.setCell ⟨B, 0, none⟩ v') := by
  refine ((KeptW.of_below ((Below.refl _ _).alloc (Nat.le_refl _) tmp)).trans (KeptW.grown hgrow fun j o ej hj => ?_)).trans (KeptW.grown (grownBy_setCell' w1 B v') fun j o ej hj => ?_)
  · rcases (hrow.alloc tmp).2 with ⟨rfl, _⟩ | ⟨g, cap, cur, rfl, _, hgb, _⟩
    · simp [Value.ownBlock] at ej
    · obtain rfl : g = j := by simpa [Value.ownBlock] using ej
      rw [hgb] at hj; cases hj; simpa [isWd] using he
  · cases ej
    rw [show w1.heap[B]? = _ from hv] at hj; cases hj; simpa [isWd] using ht
/-- A list of others than words, in a box that lay already, is not turned by an iterator of words. -/
theorem ownW_row {β : Type} {n₀ B D : Nat} {t e : TypeId} (he : e ≠ 49) (hB : B < D) (k : β → Nat) (f : β → List Value) (G : β → Value → Prop) : OwnW D (fun s W => ∃ v, Boxed W B t v ∧ W.ownsRow n₀ e 1 v (k s) (f s) ∧ G s v) := by
  rintro s X Y ⟨v, hv, hr, hG⟩ ht
  refine ⟨v, ht.block B _ hv (.inl hB), ⟨hr.1, ?_⟩, hG⟩
  rcases hr.2 with hn | ⟨g, cap, cur, e1, e2, hgb, rest⟩
  · exact .inl hn
  · exact .inr ⟨g, cap, cur, e1, e2, ht.block g _ hgb (.inr (by simpa [isMine, isWd, Obj.isCells] using he)), rest⟩

/-- Its text. -/
def txt (v : Nat) : ByteArray := if v = 0 then strOfNums [48] else strOfNums ((decs v).map (48 + ·)).reverse
theorem Tryz.infoU8 : (Tryz.prog.info? 5).map (fun i => (i.zero, i.size, i.bytes)) = some (some (.int .u8 0), 1, 1) := by kernel_rfl

set_option maxRecDepth 100000 in
set_option maxHeartbeats 1000000 in
theorem text_any {a : Option Addr} {n c : Nat} {x : Int} {S : Nat} (w : World) (hx : Num w a n c x S) (hS : S ≤ 1000000000000) :
    Calls Tryz.prog 59 #[.slice a n c] w fun e w' => e = .returned (.string (txt x.toNat)) ∧ Below w.heap.size w w' := by
  refine (callsIn_wide (n := 3)).1 ?_
  obtain ⟨i0, hi, hz0, hz1, hz2⟩ := info_parts Tryz.infoU8
  refine callsIn_of_wp_marks Tryz.func59 rfl trivial ?_ rfl
  simp only [Tryz.ntmps59, List.size_toArray, List.length_cons, List.length_nil, Nat.reduceAdd, Nat.reduceSub, Array.replicate_succ, Array.replicate_zero, List.push_toArray, List.append_toArray, List.nil_append, List.cons_append]
  gi_wp2
  refine ⟨trivial, ?_⟩
  refine (digits_in a n c 2 _).mono ?_
  rintro e w' ⟨rfl, rfl⟩
  gi_wp2
  have bO := Boxed.new w 87 (.slice none 0 0)
  have bN := Boxed.new (w.alloc (.cells #[.slice none 0 0] 87)) 26 (.slice a n c)
  rw [World.size_alloc] at bN
  have hB0 : Below w.heap.size w ((w.alloc (.cells #[.slice none 0 0] 87)).alloc (.cells #[.slice a n c] 26)) := ((Below.refl _ w).alloc (Nat.le_refl _) _).alloc (by simp) _
  have hseq := digits_seq (w.heap.size + 1) bN.lt bN.cell (hx.below hB0) hS
  have hlen : (decs x.toNat).length ≤ 30000000000000 := by
    obtain ⟨xs, h1, _, _, h4, h5, h6⟩ := hx
    have := decs_val h4
    rw [h5] at this; omega
  have bO' := bO.alloc (.cells #[.slice a n c] 26)
  have hsz : ((w.alloc (.cells #[.slice none 0 0] 87)).alloc (.cells #[.slice a n c] 26)).heap.size = w.heap.size + 2 := by simp
  generalize ((w.alloc (.cells #[.slice none 0 0] 87)).alloc (.cells #[.slice a n c] 26)) = W0 at *
  clear bN bO
  refine range_out (gf := 113) (lb := #[.pointer (some ⟨w.heap.size + 1, 0, none⟩)]) rfl rfl rfl trivial (enters_of Tryz.func113 (by kernel_rfl) rfl) hseq (Below.refl _ _) rfl
    (fun pre W => (∃ v, Boxed W w.heap.size 87 v ∧ W.ownsRow w.heap.size 5 1 v pre.length (pre.map fun d => .int .u8 (48 + d)) ∧ (v = .slice none 0 0 ↔ pre = [])) ∧ Below w.heap.size w W)
    (fun _ _ _ => False) ?own (fun _ _ _ _ h _ => h) ?start
    (fun x => { tmps := #[.slice a n c, undef, .string ⟨#[]⟩, .pointer (some ⟨w.heap.size, 0, none⟩), .int .i64 x, .slice a n c, .func (.func 113) #[] #[.pointer (some ⟨w.heap.size + 1, 0, none⟩)], .int .i64 x, undef, undef, undef, undef, undef, undef, undef, undef, undef, undef, undef, undef, undef], defers := [] }) ?assign ?body ?done ?stop
  case own => exact OwnW.and (ownW_row (by decide) (by omega) (fun pre : List Int => pre.length) (fun pre => pre.map fun d => .int .u8 (48 + d)) (fun pre v => v = .slice none 0 0 ↔ pre = [])) (ownW_below (by omega) (Nat.le_refl _))
  case start => exact ⟨⟨_, bO', World.ownsRow_nil _ _ _ _, by simp⟩, hB0⟩
  case assign =>
    intro l m x W K hK
    gi_wp2
    exact hK
  case stop =>
    rintro D c pre W _ _ h _
    exact h.elim
  case body =>
    rintro l m pre x W _ _ ⟨⟨v, hv, hrow, hnil⟩, hB⟩ x0 x9 hlt
    have hc := hv.cell
    have hpl : pre.length + 1 ≤ 30000000000000 := by omega
    have hm : (30000000000000 : Nat) ≤ maxLen := by decide
    gi_wp2_with (gi_at_builtin; refine wpListIn_append_own _ rfl _ _ 87 rfl w.heap.size 5 i0 (.int .u8 0) 1 1 Tryz.underlying87 hi hz0 hz1 hz2 rfl (by decide) _ _ _ rfl (hrow.alloc _) ⟨W.heap.size, 0, none⟩ 1 1 [.int .u8 (48 + x)] rfl rfl (cell_one_new _ _ _) (by simp [Value.oneCell']) (by omega) (by omega) (by have := hB.size; simp; omega) ?_; intro v' w1 hown' hgrow _; obtain ⟨g', cap', rfl⟩ := ownsRow_succ hown'; obtain ⟨hv1, hv2, hr2, hk2, hb2⟩ := hv.appended (by decide) hrow hB.size (Nat.le_refl _) hown' hgrow; have hkw := keptW_appended (v' := .slice (some ⟨g', 0, none⟩) (pre.length + 1) cap') hv1 (by decide) (by decide) hrow hgrow; have hc1 := hv1.cell; have hf1 := hv1.frozen)
    exact ⟨hk2.from _, hkw, ⟨_, hv2, by simpa using hr2, by simp⟩, hB.trans hb2⟩
  case done =>
    rintro D ys W hD rfl ⟨⟨v, hv, hrow, hnil⟩, hB⟩ hK
    have hc := hv.cell
    rcases hrow.2 with ⟨rfl, hn0⟩ | ⟨g, cap, cur, rfl, hg, hgb, hcap, hmx, hcs, htk⟩
    · have hx0 : x.toNat = 0 := decs_nil (hnil.1 rfl)
      gi_wp2
      refine ⟨by simp, .inl ⟨_, _, rfl, run_takeDeferred hK, ?_⟩⟩
      refine ⟨_, results_tmp rfl _ _ _, ?_, hB.trans (belowK_b (w := w) (Nat.le_refl _) W D _ _ (by omega) hK rfl rfl)⟩
      rfl
    · have hne : decs x.toNat ≠ [] := fun h => (by have := hnil.2 h; cases this)
      have hpos : 0 < (decs x.toNat).length := List.length_pos_iff.2 hne
      have hx0 : x.toNat ≠ 0 := fun h => hne (by rw [h, decs_zero])
      have hcl : ∀ i, i < (decs x.toNat).length → W.cell? ⟨g, i, none⟩ = some (.int .u8 (48 + (decs x.toNat).getD i 0)) := by
        intro i hi
        have h1 : (cur.toList.take ((decs x.toNat).length * 1))[i]? = cur.toList[i]? := List.getElem?_take_of_lt (by omega)
        rw [htk, List.getElem?_map, List.getElem?_eq_getElem hi] at h1
        have h2 : cur[i]? = some (.int .u8 (48 + (decs x.toNat)[i])) := by rw [← Array.getElem?_toList, ← h1]; rfl
        simp only [List.getD, List.getElem?_eq_getElem hi, Option.getD_some]
        simp [World.cell?, hgb, h2]
      have hfr : ∀ i, i < (decs x.toNat).length → W.frozen? ⟨g, i, none⟩ = false := fun i _ => by simp [World.frozen?, hgb]
      gi_wp2
      refine ⟨trivial, ?_⟩
      refine (callsIn_wide.2 (reverse_bytes g _ cap (fun i => 48 + (decs x.toNat).getD i 0) W (by omega) hcl hfr)).mono ?_
      rintro e W3 ⟨⟨v, rfl⟩, hcl3, hoff⟩
      have hv3 : Boxed W3 w.heap.size 87 (.slice (some ⟨g, 0, none⟩) (decs x.toNat).length cap) := (hoff.block _ (fun e => by rw [e] at hv; have := (show W.heap[g]? = _ from hv).symm.trans hgb; simp at this)).trans hv
      have hc3 := hv3.cell
      have hK3 : W3.heap[D]? = some (.deferred (some [])) := (hoff.block _ (fun e => by rw [e, hgb] at hK; cases hK)).trans hK
      have hB3 : Below w.heap.size w W3 := hB.trans (hoff.below hg)
      have hrl : (((decs x.toNat).map (48 + ·)).reverse).length = (decs x.toNat).length := by simp
      have hcv := run_convert_bytes_arg (P := Tryz.prog) W3 87 5 Tryz.underlying87 Tryz.underlying5 g 0 (decs x.toNat).length cap (((decs x.toNat).map (48 + ·)).reverse) hrl (fun i hi => by
        rw [Nat.zero_add, hcl3 i hi]
        rw [← List.map_reverse]
        simp only [List.getD, List.getElem?_map, List.getElem?_reverse hi]
        rw [List.getElem?_eq_getElem (by omega)]; rfl) 9 Tryz.underlying9
      have htx : txt x.toNat = strOfNums ((decs x.toNat).map (48 + ·)).reverse := by unfold txt; rw [if_neg hx0]
      have HT : Hid (txt x.toNat = strOfNums ((decs x.toNat).map (48 + ·)).reverse) := htx
      clear hc hcl hfr hrow htk hgb hK hB htx
      gi_wp2
      refine ⟨by simp, .inl ⟨_, _, rfl, run_takeDeferred hK3, ?_⟩⟩
      exact ⟨_, results_tmp rfl _ _ _, by rw [HT.out]; rfl, hB3.trans (belowK_b (w := w) (Nat.le_refl _) W3 D _ _ (by omega) hK3 rfl rfl)⟩
end Go.Proofs.YtfelogbfijomiabGreatDoor
