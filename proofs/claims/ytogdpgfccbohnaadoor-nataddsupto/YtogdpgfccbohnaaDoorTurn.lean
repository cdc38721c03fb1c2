import Derived.Test.YtogdpgfccbohnaaDoorTwoAdd
import Derived.Laws.Closers25b
namespace Go.Proofs.YtogdpgfccbohnaaDoor
open Go.RowKit

/-- All but the blocks g and h is as it was. -/
structure Off2 (g h : Nat) (w w' : World) : Prop where
  os : w'.os = w.os
  tape : w'.tape = w.tape
  output : w'.output = w.output
  size : w'.heap.size = w.heap.size
  block : ∀ k, k ≠ g → k ≠ h → w'.heap[k]? = w.heap[k]?
theorem Off2.refl (g h : Nat) (w : World) : Off2 g h w w := ⟨rfl, rfl, rfl, rfl, fun _ _ _ => rfl⟩
theorem Off2.off {g h k : Nat} {a b c : World} (x : Off2 g h a b) (y : Off k b c) (hk : k = g ∨ k = h) : Off2 g h a c :=
  ⟨y.os.trans x.os, y.tape.trans x.tape, y.output.trans x.output, y.size.trans x.size, fun j h1 h2 => (y.block j (by omega)).trans (x.block j h1 h2)⟩
theorem Off2.cell {g h : Nat} {w w' : World} (x : Off2 g h w w') {p : Addr} (h1 : p.block ≠ g) (h2 : p.block ≠ h) : w'.cell? p = w.cell? p := World.cell?_of_block (w := w) (x.block p.block h1 h2)

set_option maxHeartbeats 1000000 in
theorem turn_any (w : World) (b : LB) (xs : List Int) (h : b.is w xs) (hn : b.n = xs.length) (hx : AllW xs) (hm : xs.length ≤ 2000000) :
    Calls Tryd.prog 30 #[.pointer (some ⟨b.r, 0, none⟩)] w fun e w' => e = .returned (.tuple #[]) ∧ ∃ xs', b.is w' xs' ∧ xs'.length = xs.length ∧ AllW xs' ∧ Off2 b.gf b.gw w w' := by
  obtain ⟨r, gf, cf, gw, cw, n⟩ := b
  have HH : Hid (Lnt w r gf cf gw cw n (lendL xs) (lendL xs)) := h
  have HN : Hid (n = xs.length) := hn
  have d0 : Hid (w.cell? ⟨r, 0, none⟩ = some (.slice (some ⟨gf, 0, none⟩) (n + 24) cf)) := by have := h.c0; rw [length_lendL] at this; rw [show n = xs.length from hn]; exact this
  have d1 : Hid (w.cell? ⟨r, 1, none⟩ = some (.slice (some ⟨gw, 0, none⟩) (n + 24) cw)) := by have := h.c1; rw [length_lendL] at this; rw [show n = xs.length from hn]; exact this
  have d2 : Hid (w.cell? ⟨r, 2, none⟩ = some (.int .i64 n)) := h.c2
  have hne := h.ne
  have hlf := h.lf
  have hlw := h.lw
  have hnm : n ≤ 2000000 := by rw [show n = xs.length from hn]; exact hm
  have HX : Hid (AllW xs) := hx
  clear h hn hx hm
  go_enter Tryd.func30, Tryd.ntmps30
  go_wp2
  go_loopw [2] (fun s wr => ∃ (k : Nat) (F : List Int), k ≤ n ∧ s = .int .i64 k ∧ Row wr gf cf F ∧ Row wr gw cw F ∧ F.length = n + 24 ∧ AllW (F.take n) ∧ F.drop n = List.replicate 24 3789677025 ∧ Off2 gf gw w wr) (fun s _ => n - (intOf s).toNat)
  case atStart =>
    have e1 : (lendL xs).take n = xs := by unfold lendL; rw [HN.out, List.take_append_of_le_length (Nat.le_refl _), List.take_length]
    have e2 : (lendL xs).drop n = List.replicate 24 3789677025 := by unfold lendL; rw [HN.out]; simp
    exact ⟨0, lendL xs, Nat.zero_le _, rfl, HH.out.rf, HH.out.rw, by rw [length_lendL, HN.out], by rw [e1]; exact HX.out, e2, Off2.refl _ _ _⟩
  case round =>
    obtain ⟨k, F, hk, rfl, rF, rG, hF, hFa, hFd, hoff⟩ := hrel
    have c0 : wr.cell? ⟨r, 0, none⟩ = some (.slice (some ⟨gf, 0, none⟩) (n + 24) cf) := by rw [hoff.cell (p := ⟨r, 0, none⟩) (by exact Nat.ne_of_lt hlf) (by exact Nat.ne_of_lt hlw)]; exact d0.out
    have c1 : wr.cell? ⟨r, 1, none⟩ = some (.slice (some ⟨gw, 0, none⟩) (n + 24) cw) := by rw [hoff.cell (p := ⟨r, 1, none⟩) (by exact Nat.ne_of_lt hlf) (by exact Nat.ne_of_lt hlw)]; exact d1.out
    have c2 : wr.cell? ⟨r, 2, none⟩ = some (.int .i64 n) := by rw [hoff.cell (p := ⟨r, 2, none⟩) (by exact Nat.ne_of_lt hlf) (by exact Nat.ne_of_lt hlw)]; exact d2.out
    by_cases hlt : k < n
    · have hkl : (k : Int) < (n : Int) := by omega
      have hkl2 : (k : Int) < (n : Int) + 24 := by omega
      have f1 := rF.cell (i := k) (by omega)
      have f2 := rF.frozen k
      have g1 := rG.cell (i := k) (by omega)
      have g2 := rG.frozen k
      have HrF : Hid (Row wr gf cf F) := rF
      have HrG : Hid (Row wr gw cw F) := rG
      have HF : Hid (F.length = n + 24) := hF
      have HFa : Hid (AllW (F.take n)) := hFa
      have HFd : Hid (F.drop n = List.replicate 24 3789677025) := hFd
      have HOff : Hid (Off2 gf gw w wr) := hoff
      clear rF rG hF hFa hFd hoff
      go_wp2
      go_region
      have z0 := bits_lo_u64 .xor (lm F k) 1
      have z1 := bits_hi_u64 .xor (lm F k) 1
      generalize bits BinOp.xor IntKind.u64 (lm F k) 1 = Z at *
      have rF2 : Row ((wr.setCell ⟨gf, k, none⟩ (.int .u64 Z)).drew) gf cf (F.set k Z) := HrF.out.set k Z
      have ho1 : Off gf wr ((wr.setCell ⟨gf, k, none⟩ (.int .u64 Z)).drew) := ((Off.refl gf wr).set k _).drew
      have rG2 : Row ((wr.setCell ⟨gf, k, none⟩ (.int .u64 Z)).drew) gw cw F := HrG.out.off ho1 (Ne.symm hne)
      have c0' := ho1.cell (p := ⟨r, 0, none⟩) (by exact Nat.ne_of_lt hlf)
      have c1' := ho1.cell (p := ⟨r, 1, none⟩) (by exact Nat.ne_of_lt hlf)
      have c2' := ho1.cell (p := ⟨r, 2, none⟩) (by exact Nat.ne_of_lt hlf)
      rw [c0] at c0'
      rw [c1] at c1'
      rw [c2] at c2'
      have hoff2 := HOff.out.off ho1 (.inl rfl)
      clear f1 f2 g1 g2 c0 c1 c2 ho1 HrF HrG HOff
      generalize (wr.setCell ⟨gf, k, none⟩ (.int .u64 Z)).drew = W1 at *
      have hlk : k < F.length := by have := HF.out; omega
      have f1 := rF2.cell (i := k) (by simpa using hlk)
      have e1 : lm (F.set k Z) k = Z := by rw [lm_set, if_pos ⟨rfl, hlk⟩]
      rw [e1] at f1
      have g1 := rG2.cell (i := k) hlk
      have g2 := rG2.frozen k
      have HrF : Hid (Row W1 gf cf (F.set k Z)) := rF2
      have HrG : Hid (Row W1 gw cw F) := rG2
      have HOff : Hid (Off2 gf gw w W1) := hoff2
      clear rF2 rG2 hoff2 e1
      go_wp2
      go_region
      have rG3 : Row ((W1.setCell ⟨gw, k, none⟩ (.int .u64 Z)).drew) gw cw (F.set k Z) := HrG.out.set k Z
      have ho2 : Off gw W1 ((W1.setCell ⟨gw, k, none⟩ (.int .u64 Z)).drew) := ((Off.refl gw W1).set k _).drew
      have rF3 : Row ((W1.setCell ⟨gw, k, none⟩ (.int .u64 Z)).drew) gf cf (F.set k Z) := HrF.out.off ho2 hne
      have hoff3 := HOff.out.off ho2 (.inr rfl)
      clear f1 g1 g2 c0' c1' c2' ho2 HrF HrG HOff
      generalize (W1.setCell ⟨gw, k, none⟩ (.int .u64 Z)).drew = W2 at *
      go_wp2
      go_roundw
      case rel => exact ⟨k + 1, F.set k Z, by omega, by go_num, rF3, rG3, by simp [HF.out], by rw [List.take_set]; exact HFa.out.set _ _ ⟨z0, by omega⟩, by rw [List.drop_set_of_lt (by omega)]; exact HFd.out, hoff3⟩
      case measure => simp [intOf]; omega
    · obtain rfl : k = n := by omega
      have hkl : ¬ (k : Int) < (k : Int) := by omega
      have HE : Hid (lendL (F.take k) = F) := by show _ ++ _ = F; rw [← hFd, List.take_append_drop]
      have HL : Hid ((F.take k).length = xs.length) := by show _ = _; rw [List.length_take, ← HN.out]; omega
      have hlr : r < wr.heap.size := by have := HH.out.lr; have := hoff.size; omega
      have HZ : Hid (Lnt wr r gf cf gw cw k (lendL (F.take k)) (lendL (F.take k))) := by
        show Lnt _ _ _ _ _ _ _ _ _
        rw [HE.out]
        exact ⟨by rw [hF]; exact c0, by rw [hF]; exact c1, c2, rF, rG, hne, hlf, hlw, by omega, hlr, rfl⟩
      have HOff : Hid (Off2 gf gw w wr) := hoff
      have HFa : Hid (AllW (F.take k)) := hFa
      clear rF rG hF hFa hFd hoff
      go_wp2
      go_end0
      exact ⟨rfl, F.take k, HZ.out, HL.out, HFa.out, HOff.out⟩
/-- 't.x.Turn()': the struct, and what came out, stand. -/
theorem Two.turned {w w' : World} {B T : Nat} {x y : LB} {xs xs' ys : List Int} {lv : Value} (H : Two w B T x y xs ys lv) (hx : x.is w' xs') (ho : Off2 x.gf x.gw w w') : Two w' B T x y xs' ys lv := by
  have h1 := H.lx.lf
  have h2 := H.lx.lw
  have h3 := H.xy
  have h4 := H.xy'
  have h5 := H.ly.lf
  have h6 := H.ly.lw
  have h7 := H.yT
  have h8 := H.yT'
  have hT : ∀ i, w'.cell? ⟨T, i, none⟩ = w.cell? ⟨T, i, none⟩ := fun i => ho.cell (by show T ≠ _; omega) (by show T ≠ _; omega)
  have hY : ∀ i, w'.cell? ⟨y.r, i, none⟩ = w.cell? ⟨y.r, i, none⟩ := fun i => ho.cell (by show y.r ≠ _; omega) (by show y.r ≠ _; omega)
  refine ⟨by rw [hT]; exact H.c0, by rw [hT]; exact H.c1, by rw [hT]; exact H.c2, ?_, hx, ?_, H.bx, h3, h4, h7, h8, by have := ho.size; have := H.lt; omega⟩
  · rw [World.frozen?_of_block (w := w) (ho.block T (by omega) (by omega))]; exact H.fz
  · exact ⟨by rw [hY]; exact H.ly.c0, by rw [hY]; exact H.ly.c1, by rw [hY]; exact H.ly.c2, H.ly.rf.of_block (ho.block _ (by omega) (by omega)), H.ly.rw.of_block (ho.block _ (by omega) (by omega)), H.ly.ne, h5, h6, H.ly.le, by have := ho.size; have := H.ly.lr; omega, H.ly.eq⟩
theorem OwnV.off2 {w w' : World} {B g h : Nat} {v : Value} {xs : List Int} (o : OwnV w B v xs) (ho : Off2 g h w w') (hg : g < B) (hh : h < B) : OwnV w' B v xs := by
  rcases o.row with ⟨h1, h2⟩ | ⟨k, c, h1, h2, h3⟩
  · subst h1 h2; exact OwnV.nil _ _
  · subst h1; exact (h3.of_block (ho.block k (by omega) (by omega))).own h2
theorem Outs.turned {w w' : World} {T g h : Nat} {lv : Value} {l : List (Value × List Int)} (O : Outs w T lv l) (ho : Off2 g h w w') (hg : g < T) (hh : h < T) : Outs w' T lv l := by
  refine ⟨⟨O.tl.1, ?_⟩, fun p hp => (O.ov p hp).off2 ho (by omega) (by omega), O.dj, O.sz⟩
  rcases O.tl.2 with ⟨h1, h2⟩ | ⟨k, cap, cur, h1, h2, h3, h4⟩
  · exact .inl ⟨h1, h2⟩
  · exact .inr ⟨k, cap, cur, h1, h2, by rw [ho.block k (by omega) (by omega)]; exact h3, h4⟩
theorem Off2.below {g h B : Nat} {w w' : World} (o : Off2 g h w w') (hg : B ≤ g) (hh : B ≤ h) : Below B w w' := ⟨o.os, o.tape, o.output, by have := o.size; omega, fun k hk => o.block k (by omega) (by omega)⟩

theorem addG {a b : Option Addr} {na nb ca cb : Nat} {x y : Int} {S R : Nat} (w : World) (ha : Num w a na ca x S) (hb : Num w b nb cb y R) (hS : S ≤ 100000000000) (hR : R ≤ 100000000000) :
    Calls Tryd.prog 26 #[.slice a na ca, .slice b nb cb] w fun e w' => ∃ c nc cc, e = .returned (.slice c nc cc) ∧ Got w' w.heap.size (.slice c nc cc) (x + y) (S + R + 1) ∧ Below w.heap.size w w' := by
  obtain ⟨xs, a1, a2, a3, a4, a5, a6⟩ := ha
  obtain ⟨ys, b1, b2, b3, b4, b5, b6⟩ := hb
  refine (add_any a b na nb ca cb xs ys w a1 b1 a2 b2 (by omega) (by omega) a3 b3 a4 b4).mono ?_
  rintro e w' ⟨g, rfl, hg, hbk, hbel⟩
  obtain ⟨v1, v2⟩ := addL_val a4 b4
  have hl := length_addL xs ys
  refine ⟨_, _, _, rfl, ?_, hbel⟩
  rw [← a5, ← b5, ← v2]
  exact got_of_blk hbk v1 hg _ rfl (by omega) (by omega)
theorem mulG {a b : Option Addr} {na nb ca cb : Nat} {x y : Int} {S R : Nat} (w : World) (ha : Num w a na ca x S) (hb : Num w b nb cb y R) (hS : S ≤ 100000000000) (hR : R ≤ 100000000000) :
    Calls Tryd.prog 27 #[.slice a na ca, .slice b nb cb] w fun e w' => ∃ c nc cc, e = .returned (.slice c nc cc) ∧ Got w' w.heap.size (.slice c nc cc) (x * y) (S + R) ∧ Below w.heap.size w w' := by
  obtain ⟨xs, a1, a2, a3, a4, a5, a6⟩ := ha
  obtain ⟨ys, b1, b2, b3, b4, b5, b6⟩ := hb
  refine (mul_any a b na nb ca cb xs ys w a1 b1 a2 b2 (by omega) (by omega) a3 b3 a4 b4).mono ?_
  rintro e w' ⟨g, rfl, hg, hbk, hbel⟩
  obtain ⟨v1, v2⟩ := mulL_val a4 b4
  have hl := length_mulL xs ys a4 b4
  have t1 : tlen xs ≤ xs.length := tl_le _ _
  have t2 : tlen ys ≤ ys.length := tl_le _ _
  refine ⟨_, _, _, rfl, ?_, hbel⟩
  rw [← a5, ← b5, ← v2]
  exact got_of_blk hbk v1 hg _ rfl (by omega) (by omega)
end Go.Proofs.YtogdpgfccbohnaaDoor
