import Derived.Test.YtmegocjmfcmhlaaDoorLentAll
import Derived.Test.YtmegocjmfcmhlaaDoorGotL
import Derived.Test.YtmegocjmfcmhlaaDoorForms
import Derived.Deep.RegionHeld3
import Derived.Deep.DrawnRows
import Derived.Deep.DeepFit
import Derived.Laws.Closers25b
namespace Go.Proofs.YtmegocjmfcmhlaaDoor
open Go.RowKit
attribute [local go_sem ↓] Go.wp_at_zero Go.wp_at_succ

/-- What was lent: the struct at r, its lists at gf and gw; it tells fs. -/
structure LB where
  r : Nat
  gf : Nat
  cf : Nat
  gw : Nat
  cw : Nat
  n : Nat
def LB.is (b : LB) (w : World) (xs : List Int) : Prop := Lnt w b.r b.gf b.cf b.gw b.cw b.n (lendL xs) (lendL xs)
set_option maxHeartbeats 400000 in
theorem lnat_c (r gf cf n L : Nat) (w : World) (c0 : w.cell? ⟨r, 0, none⟩ = some (.slice (some ⟨gf, 0, none⟩) L cf)) (c2 : w.cell? ⟨r, 2, none⟩ = some (.int .i64 n)) (hn : n ≤ cf) :
    Calls Tryd.prog 6 #[.pointer (some ⟨r, 0, none⟩)] w fun e w' => e = .returned (.slice (some ⟨gf, 0, none⟩) n cf) ∧ ∃ m, w' = w.drewN m := by
  have h1 : (0 : Int) ≤ (n : Int) := by omega
  have h2 : (n : Int) ≤ (cf : Int) := by omega
  go_enter Tryd.func6, Tryd.ntmps6
  go_wp2
  go_quiet (fail)
  go_wp2
  go_ret
  exact ⟨rfl, nq, rfl⟩
theorem keptG (w : World) (b : LB) (xs : List Int) (h : b.is w xs) (hm : xs.length ≤ 2000000) :
    Calls Tryd.prog 11 #[.pointer (some ⟨b.r, 0, none⟩)] w fun e w' => e = .returned (.bool true) ∧ Below w.heap.size w w' := by
  refine (kept_any w b.r b.gf b.cf b.gw b.cw b.n _ _ h (by rw [length_lendL]; omega) rfl).mono ?_
  rintro e w' ⟨rfl, m, rfl⟩
  exact ⟨rfl, belN (Below.refl _ _) m⟩
theorem LB.own {w : World} {b : LB} {xs : List Int} (h : b.is w xs) (hn : b.n = xs.length) {B : Nat} (hB : B ≤ b.gf) : OwnV w B (.slice (some ⟨b.gf, 0, none⟩) b.n b.cf) xs := by
  have := h.rf.take xs.length
  have e : (lendL xs).take xs.length = xs := by unfold lendL; rw [List.take_append_of_le_length (Nat.le_refl _), List.take_length]
  rw [e] at this
  have := this.own hB
  rwa [← hn] at this

/-- All but the blocks g and h is as it was. -/
structure Off2 (g h : Nat) (w w' : World) : Prop where
  os : w'.os = w.os
  tape : w'.tape = w.tape
  output : w'.output = w.output
  size : w'.heap.size = w.heap.size
  block : ∀ k, k ≠ g → k ≠ h → w'.heap[k]? = w.heap[k]?
theorem Off2.refl (g h : Nat) (w : World) : Off2 g h w w := ⟨rfl, rfl, rfl, rfl, fun _ _ _ => rfl⟩
theorem Off2.off {g h k : Nat} {a b c : World} (x : Off2 g h a b) (y : Off k b c) (hk : k = g ∨ k = h) : Off2 g h a c :=
  ⟨y.os.trans x.os, y.tape.trans x.tape, y.output.trans x.output, y.size.trans x.size, fun j h1 h2 => (y.block j (by omega)).trans (x.block j h1 h2)⟩
theorem Off2.cell {g h : Nat} {w w' : World} (x : Off2 g h w w') {p : Addr} (h1 : p.block ≠ g) (h2 : p.block ≠ h) : w'.cell? p = w.cell? p := World.cell?_of_block (w := w) (x.block p.block h1 h2)

set_option maxHeartbeats 1000000 in
theorem turn_any (w : World) (b : LB) (xs : List Int) (h : b.is w xs) (hn : b.n = xs.length) (hx : AllW xs) (hm : xs.length ≤ 2000000) :
    Calls Tryd.prog 12 #[.pointer (some ⟨b.r, 0, none⟩)] w fun e w' => e = .returned (.tuple #[]) ∧ ∃ xs', b.is w' xs' ∧ xs'.length = xs.length ∧ AllW xs' ∧ Off2 b.gf b.gw w w' := by
  obtain ⟨r, gf, cf, gw, cw, n⟩ := b
  have HH : Hid (Lnt w r gf cf gw cw n (lendL xs) (lendL xs)) := h
  have HN : Hid (n = xs.length) := hn
  have d0 : Hid (w.cell? ⟨r, 0, none⟩ = some (.slice (some ⟨gf, 0, none⟩) (n + 24) cf)) := by have := h.c0; rw [length_lendL] at this; rw [show n = xs.length from hn]; exact this
  have d1 : Hid (w.cell? ⟨r, 1, none⟩ = some (.slice (some ⟨gw, 0, none⟩) (n + 24) cw)) := by have := h.c1; rw [length_lendL] at this; rw [show n = xs.length from hn]; exact this
  have d2 : Hid (w.cell? ⟨r, 2, none⟩ = some (.int .i64 n)) := h.c2
  have hne := h.ne
  have hlf := h.lf
  have hlw := h.lw
  have hnm : n ≤ 2000000 := by rw [show n = xs.length from hn]; exact hm
  have HX : Hid (AllW xs) := hx
  clear h hn hx hm
  go_enter Tryd.func12, Tryd.ntmps12
  go_wp2
  go_loopw [2] (fun s wr => ∃ (k : Nat) (F : List Int), k ≤ n ∧ s = .int .i64 k ∧ Row wr gf cf F ∧ Row wr gw cw F ∧ F.length = n + 24 ∧ AllW (F.take n) ∧ F.drop n = List.replicate 24 3789677025 ∧ Off2 gf gw w wr) (fun s _ => n - (intOf s).toNat)
  case atStart =>
    have e1 : (lendL xs).take n = xs := by unfold lendL; rw [HN.out, List.take_append_of_le_length (Nat.le_refl _), List.take_length]
    have e2 : (lendL xs).drop n = List.replicate 24 3789677025 := by unfold lendL; rw [HN.out]; simp
    exact ⟨0, lendL xs, Nat.zero_le _, rfl, HH.out.rf, HH.out.rw, by rw [length_lendL, HN.out], by rw [e1]; exact HX.out, e2, Off2.refl _ _ _⟩
  case round =>
    obtain ⟨k, F, hk, rfl, rF, rG, hF, hFa, hFd, hoff⟩ := hrel
    have c0 : wr.cell? ⟨r, 0, none⟩ = some (.slice (some ⟨gf, 0, none⟩) (n + 24) cf) := by rw [hoff.cell (p := ⟨r, 0, none⟩) (by exact Nat.ne_of_lt hlf) (by exact Nat.ne_of_lt hlw)]; exact d0.out
    have c1 : wr.cell? ⟨r, 1, none⟩ = some (.slice (some ⟨gw, 0, none⟩) (n + 24) cw) := by rw [hoff.cell (p := ⟨r, 1, none⟩) (by exact Nat.ne_of_lt hlf) (by exact Nat.ne_of_lt hlw)]; exact d1.out
    have c2 : wr.cell? ⟨r, 2, none⟩ = some (.int .i64 n) := by rw [hoff.cell (p := ⟨r, 2, none⟩) (by exact Nat.ne_of_lt hlf) (by exact Nat.ne_of_lt hlw)]; exact d2.out
    by_cases hlt : k < n
    · have hkl : (k : Int) < (n : Int) := by omega
      have hkl2 : (k : Int) < (n : Int) + 24 := by omega
      have f1 := rF.cell (i := k) (by omega)
      have f2 := rF.frozen k
      have g1 := rG.cell (i := k) (by omega)
      have g2 := rG.frozen k
      have HrF : Hid (Row wr gf cf F) := rF
      have HrG : Hid (Row wr gw cw F) := rG
      have HF : Hid (F.length = n + 24) := hF
      have HFa : Hid (AllW (F.take n)) := hFa
      have HFd : Hid (F.drop n = List.replicate 24 3789677025) := hFd
      have HOff : Hid (Off2 gf gw w wr) := hoff
      clear rF rG hF hFa hFd hoff
      go_wp2
      go_region
      have z0 := bits_lo_u64 .xor (lm F k) 1
      have z1 := bits_hi_u64 .xor (lm F k) 1
      generalize bits BinOp.xor IntKind.u64 (lm F k) 1 = Z at *
      have rF2 : Row ((wr.setCell ⟨gf, k, none⟩ (.int .u64 Z)).drew) gf cf (F.set k Z) := HrF.out.set k Z
      have ho1 : Off gf wr ((wr.setCell ⟨gf, k, none⟩ (.int .u64 Z)).drew) := ((Off.refl gf wr).set k _).drew
      have rG2 : Row ((wr.setCell ⟨gf, k, none⟩ (.int .u64 Z)).drew) gw cw F := HrG.out.off ho1 (Ne.symm hne)
      have c0' := ho1.cell (p := ⟨r, 0, none⟩) (by exact Nat.ne_of_lt hlf)
      have c1' := ho1.cell (p := ⟨r, 1, none⟩) (by exact Nat.ne_of_lt hlf)
      have c2' := ho1.cell (p := ⟨r, 2, none⟩) (by exact Nat.ne_of_lt hlf)
      rw [c0] at c0'
      rw [c1] at c1'
      rw [c2] at c2'
      have hoff2 := HOff.out.off ho1 (.inl rfl)
      clear f1 f2 g1 g2 c0 c1 c2 ho1 HrF HrG HOff
      generalize (wr.setCell ⟨gf, k, none⟩ (.int .u64 Z)).drew = W1 at *
      have hlk : k < F.length := by have := HF.out; omega
      have f1 := rF2.cell (i := k) (by simpa using hlk)
      have e1 : lm (F.set k Z) k = Z := by rw [lm_set, if_pos ⟨rfl, hlk⟩]
      rw [e1] at f1
      have g1 := rG2.cell (i := k) hlk
      have g2 := rG2.frozen k
      have HrF : Hid (Row W1 gf cf (F.set k Z)) := rF2
      have HrG : Hid (Row W1 gw cw F) := rG2
      have HOff : Hid (Off2 gf gw w W1) := hoff2
      clear rF2 rG2 hoff2 e1
      go_wp2
      go_region
      have rG3 : Row ((W1.setCell ⟨gw, k, none⟩ (.int .u64 Z)).drew) gw cw (F.set k Z) := HrG.out.set k Z
      have ho2 : Off gw W1 ((W1.setCell ⟨gw, k, none⟩ (.int .u64 Z)).drew) := ((Off.refl gw W1).set k _).drew
      have rF3 : Row ((W1.setCell ⟨gw, k, none⟩ (.int .u64 Z)).drew) gf cf (F.set k Z) := HrF.out.off ho2 hne
      have hoff3 := HOff.out.off ho2 (.inr rfl)
      clear f1 g1 g2 c0' c1' c2' ho2 HrF HrG HOff
      generalize (W1.setCell ⟨gw, k, none⟩ (.int .u64 Z)).drew = W2 at *
      go_wp2
      go_roundw
      case rel => exact ⟨k + 1, F.set k Z, by omega, by go_num, rF3, rG3, by simp [HF.out], by rw [List.take_set]; exact HFa.out.set _ _ ⟨z0, by omega⟩, by rw [List.drop_set_of_lt (by omega)]; exact HFd.out, hoff3⟩
      case measure => simp [intOf]; omega
    · obtain rfl : k = n := by omega
      have hkl : ¬ (k : Int) < (k : Int) := by omega
      have HE : Hid (lendL (F.take k) = F) := by show _ ++ _ = F; rw [← hFd, List.take_append_drop]
      have HL : Hid ((F.take k).length = xs.length) := by show _ = _; rw [List.length_take, ← HN.out]; omega
      have hlr : r < wr.heap.size := by have := HH.out.lr; have := hoff.size; omega
      have HZ : Hid (Lnt wr r gf cf gw cw k (lendL (F.take k)) (lendL (F.take k))) := by
        show Lnt _ _ _ _ _ _ _ _ _
        rw [HE.out]
        exact ⟨by rw [hF]; exact c0, by rw [hF]; exact c1, c2, rF, rG, hne, hlf, hlw, by omega, hlr, rfl⟩
      have HOff : Hid (Off2 gf gw w wr) := hoff
      have HFa : Hid (AllW (F.take k)) := hFa
      clear rF rG hF hFa hFd hoff
      go_wp2
      go_end0
      exact ⟨rfl, F.take k, HZ.out, HL.out, HFa.out, HOff.out⟩
theorem OwnV.off2 {w w' : World} {B g h : Nat} {v : Value} {xs : List Int} (o : OwnV w B v xs) (ho : Off2 g h w w') (hg : g < B) (hh : h < B) : OwnV w' B v xs := by
  rcases o.row with ⟨h1, h2⟩ | ⟨k, c, h1, h2, h3⟩
  · subst h1 h2; exact OwnV.nil _ _
  · subst h1; exact (h3.of_block (ho.block k (by omega) (by omega))).own h2
theorem Off2.below {g h B : Nat} {w w' : World} (o : Off2 g h w w') (hg : B ≤ g) (hh : B ≤ h) : Below B w w' := ⟨o.os, o.tape, o.output, by have := o.size; omega, fun k hk => o.block k (by omega) (by omega)⟩

theorem LB.num {w : World} {b : LB} {xs : List Int} (h : b.is w xs) (hn : b.n = xs.length) (hx : AllW xs) {S : Nat} (hS : xs.length ≤ S) : Num w (some ⟨b.gf, 0, none⟩) b.n b.cf (val xs) S := by
  have o := LB.own h hn (Nat.le_refl _)
  obtain ⟨r1, r2, r3⟩ := o.reads
  exact ⟨xs, r1, r2, r3, hx, rfl, by omega⟩
end Go.Proofs.YtmegocjmfcmhlaaDoor
