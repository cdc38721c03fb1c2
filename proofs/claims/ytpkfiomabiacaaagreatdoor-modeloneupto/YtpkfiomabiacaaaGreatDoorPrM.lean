import Derived.Test.YtpkfiomabiacaaaGreatDoorPrL
namespace Go.Proofs.YtpkfiomabiacaaaGreatDoor
open Go.RowKit Go.Maps

set_option maxRecDepth 100000 in
set_option maxHeartbeats 4000000 in
theorem boundOfQ (v : Int) (w : World) (h0 : -9223372036854775808 ≤ v) (h1 : v < 9223372036854775808) :
    Calls Tryz.prog 95 #[.int .i64 v] w fun e w' => ∃ f c n k c' n' k', e = .returned (.agg #[.bool true, .bool f, .slice c n k, .slice c' n' k']) ∧ GR w' w.heap.size f c n k c' n' k' (v : Rat) 1 ∧ Below w.heap.size w w' := by
  have R0 := Rw.new 53 w #[.bool false, .bool false, .slice none 0 0, .slice none 0 0]
  have hz := bel_d0 w (.cells #[.bool false, .bool false, .slice none 0 0, .slice none 0 0] 53)
  go_enter Tryz.func95, Tryz.ntmps95
  go_wp2_with fail
  refine (ofQ v _ h0 h1).mono ?_
  rintro e w2 ⟨f, c, n, k, c', n', k', rfl, G, hb⟩
  have R1 := R0.below hb
  go_wp2_with (refine R1.put #[.bool true, .bool f, .slice c n k, .slice c' n' k'] rfl _ _ rfl rfl rfl bndI rfl (by simp [Value.oneCell']) ?_)
  intro w3 R2 O2
  go_wp2
  have hs2 := hb.size
  have hs3 : (w.alloc (.cells #[.bool false, .bool false, .slice none 0 0, .slice none 0 0] 53)).heap.size = w.heap.size + 1 := by simp
  have G2 := G.keep (R1.noW (by decide)) O2.grown
  exact bodyPost_ret (R2.ret1 Tryz.results95 _ rfl Tryz.underlying53 bndI) rfl ⟨f, c, n, k, c', n', k', rfl, G2.mono (by omega), (bel_tr hz hb).trans (O2.below (Nat.le_refl _))⟩
/-- A term's cells, its coefficient told. -/
def TQ (w : World) (cs : List Value) (t : PT) (Y : Nat) : Prop := ∃ p a na ca d nd cd, cs = [.int .i64 t.var, .bool p, .slice a na ca, .slice d nd cd] ∧ TR w p a na ca d nd cd t.coef Y
set_option maxRecDepth 100000 in
set_option maxHeartbeats 8000000 in
/-- terms(items, place): all of them have names that stand. -/
theorem termsS {w : World} {B p q b : Nat} {D : DataW Value} {ns : List ByteArray} {ia : Option Addr} {n ic : Nat} {I : Nat → PI} {Z : Nat → Nat} (h : Pl w B p q b D ns) {wt : World} (hbt : Below wt.heap.size wt w) (hI : LI wt ia n I Z) (hz : ∀ i, i < n → (I i).nm.size ≤ 1000000000) (hn : n ≤ 1048576) (J : Nat → Nat) (hJ : ∀ i, i < n → ns[J i]? = some (I i).nm) (_hl : ns.length ≤ 1048576) :
    Calls Tryz.prog 96 #[.slice ia n ic, .map (some b)] w fun e w' => ∃ a cap E, e = .returned (.slice a n cap) ∧ SL w' w.heap.size 57 4 (.slice a n cap) n E ∧ (∀ i, i < n → TQ wt (E i) ⟨(J i : Int), (I i).coef⟩ (Z i)) ∧ n ≤ cap ∧ Below w.heap.size w w' := by
  have HJ : Hid (∀ i, i < n → ns[J i]? = some (I i).nm) := hJ
  have HZ : Hid (∀ i, i < n → (I i).nm.size ≤ 1000000000) := hz
  clear hJ hz
  go_enter Tryz.func96, Tryz.ntmps96
  go_wp2
  go_loopw [5, 12] (fun s5 s12 wr => ∃ (j : Nat) (E : Nat → List Value), j ≤ n ∧ s12 = .int .i64 j ∧ SL wr w.heap.size 57 4 s5 j E ∧ (∀ i, i < j → ∃ pc ac nc cc dc mc lc, E i = [.int .i64 (J i : Int), .bool pc, .slice ac nc cc, .slice dc mc lc] ∧ TR wt pc ac nc cc dc mc lc (I i).coef (Z i)) ∧ Below w.heap.size w wr) (fun _ s12 _ => n - (intOf s12).toNat)
  case atStart => exact ⟨0, fun _ => [], Nat.zero_le _, rfl, SL.nil _ _ _ _ _, fun i hi => by omega, Below.refl _ _⟩
  case round =>
    obtain ⟨j, E, hj, rfl, hS, hE, hB⟩ := hrel
    obtain ⟨ga, gc, rfl, hgc⟩ := hS.form
    by_cases hlt : j < n
    · have hkI : (j : Int) < (n : Int) := by omega
      have hkI2 : (j : Int) * 6 = ((j * 6 : Nat) : Int) := by omega
      have hzj := HZ.out j hlt
      have hJj := HJ.out j hlt
      rcases hI with h0 | ⟨tb, to, eia, hel⟩
      · omega
      have hT := hel j hlt
      have hBt : Below wt.heap.size wt wr := hbt.trans (hB.mono hbt.size)
      obtain ⟨pC, aC, nC, cC, dC, mC, lC, x0, x1, x2, hC⟩ := hT.coef
      obtain ⟨nm, enm⟩ : ∃ x, x = (I j).nm := ⟨_, rfl⟩
      obtain ⟨ln, eln⟩ : ∃ x, x = (I j).ln := ⟨_, rfl⟩
      obtain ⟨cl, ecl⟩ : ∃ x, x = (I j).cl := ⟨_, rfl⟩
      have x3 := kept_c hBt hT.nm
      have x4 := kept_c hBt hT.ln
      have x5 := kept_c hBt hT.cl
      replace x0 := kept_c hBt x0
      replace x1 := kept_c hBt x1
      replace x2 := kept_c hBt x2
      rw [← enm] at x3 hzj hJj
      rw [← eln] at x4
      rw [← ecl] at x5
      clear hel hT enm eln ecl
      rw [eia]
      obtain ⟨v, ev⟩ : ∃ v, v = J j := ⟨_, rfl⟩
      have EV : Hid (v = J j) := ev
      rw [← ev] at hJj
      clear ev
      have hvl : v < ns.length := (List.getElem?_eq_some_iff.1 hJj).1
      have hz0 := bel_d0 wr (.cells #[.bool pC, .slice aC nC cC, .slice dC mC lC, .string nm, .int .i64 ln, .int .i64 cl] 64)
      have O4 := own_below h.own (bel_tr hB hz0)
      obtain ⟨x, y, hrun, hx⟩ := O4.look_ok (string_keyed Tryz.underlying9) (t := 109) (e := 3) Tryz.underlying109 (z := .int .i64 0) (Tryz.zeroValue3 _) (zd := .held (.int .i64 0)) (zp := []) rfl (keyS hzj)
      rw [(h.has nm).2 (List.mem_of_getElem? hJj)] at hrun
      rw [h.idx v nm hJj] at hx
      simp only [rawR, Option.some.injEq, Prod.mk.injEq, DataW.held.injEq] at hx
      obtain ⟨rfl, _⟩ := hx
      have hSA := hS.below (bel_tr hz0 (bel_d0 (wr.alloc (.cells #[.bool pC, .slice aC nC cC, .slice dC mC lC, .string nm, .int .i64 ln, .int .i64 cl] 64)) (.cells #[.int .i64 (v : Int), .bool pC, .slice aC nC cC, .slice dC mC lC] 57)))
      have N4 := box_new wr #[.bool pC, .slice aC nC cC, .slice dC mC lC, .string nm, .int .i64 ln, .int .i64 cl] 64
      have n0 := N4 0 _ rfl
      have n1 := N4 1 _ rfl
      have n2 := N4 2 _ rfl
      have n3 := N4 3 _ rfl
      have hsb := hB.size
      have N5 := box_new (wr.alloc (.cells #[.bool pC, .slice aC nC cC, .slice dC mC lC, .string nm, .int .i64 ln, .int .i64 cl] 64)) #[.int .i64 (v : Int), .bool pC, .slice aC nC cC, .slice dC mC lC] 57
      rw [show (wr.alloc (.cells #[.bool pC, .slice aC nC cC, .slice dC mC lC, .string nm, .int .i64 ln, .int .i64 cl] 64)).heap.size = wr.heap.size + 1 by simp] at N5
      go_wp2_with (at_builtin; refine wpList_appendS _ rfl _ _ 51 57 4 64 rfl Tryz.underlying51 infTerm (by decide) (by decide) w.heap.size (.slice ga j gc) j E rfl hSA (wr.heap.size + 1) _ rfl [.int .i64 (v : Int), .bool pC, .slice aC nC cC, .slice dC mC lC] rfl (fun u hu => by simp at hu; rcases hu with rfl | rfl | rfl | rfl <;> rfl) N5 (by omega) (by simp; omega) (wr.heap.size + 1 + 1) (by simp) ?_)
      intro gN capN w6 SN hgrow hat _
      have EN : ∀ i, i < j + 1 → ∃ pc ac nc cc dc mc lc, (fun i => if i < j then E i else [.int .i64 (v : Int), .bool pC, .slice aC nC cC, .slice dC mC lC]) i = [.int .i64 (J i : Int), .bool pc, .slice ac nc cc, .slice dc mc lc] ∧ TR wt pc ac nc cc dc mc lc (I i).coef (Z i) := by
        intro i hi
        by_cases hij : i < j
        · simp only [hij, if_true]; exact hE i hij
        · obtain rfl : i = j := by omega
          simp only [Nat.lt_irrefl, if_false]
          exact ⟨pC, aC, nC, cC, dC, mC, lC, by rw [EV.out], hC⟩
      have BN : Below w.heap.size w w6 := (bel_tr (bel_tr hB hz0) (bel_d0 _ _)).trans (grown_below hgrow (by simp; omega) (fun g hg => (hS.lt g hg).1))
      clear hS hSA hE hB hz0 O4 hgrow hat N4 N5 n0 n1 n2 n3 x0 x1 x2 x3 x4 x5 hrun hC
      go_wp2
      go_roundw
      case rel => first | exact ⟨j + 1, by omega, by go_num, ⟨_, SN, EN⟩, BN⟩ | exact ⟨j + 1, _, by omega, by go_num, SN, EN, BN⟩ | ((repeat apply Exists.intro); refine ⟨?_, rfl⟩; exact ⟨j + 1, _, by omega, by go_num, SN, EN, BN⟩)
      case measure => simp [intOf]; omega
    · have hkI : ¬ (j : Int) < (n : Int) := by omega
      obtain rfl : j = n := by omega
      go_wp2
      go_ret
      exact ⟨ga, gc, rfl, E, hS, hE, hgc, hB⟩
theorem lt_of_sl {w0 w : World} {B : Nat} {a : Option Addr} {m n cap : Nat} {E : Nat → List Value} {u : Nat → PT} {Z : Nat → Nat} (hS : SL w B 57 4 (.slice a m cap) n E) (hE : ∀ i, i < n → TQ w0 (E i) (u i) (Z i)) (hb : Below w0.heap.size w0 w)
    (hz : ∀ i, i < n → 1 ≤ Z i ∧ SzR (u i).coef (Z i) ∧ -9223372036854775808 ≤ (u i).var ∧ (u i).var ≤ 9223372036854775807) : LT w a n u Z := by
  rcases hS.cell with h0 | ⟨g, rfl, hc⟩
  · exact .inl h0
  · refine .inr ⟨g, 0, rfl, fun i hi => ?_⟩
    obtain ⟨pc, ac, nc, cc, dc, mc, lc, e1, hR⟩ := hE i hi
    have hc' := hc i hi
    rw [e1] at hc'
    rw [Nat.zero_add]
    exact ⟨hc' 0 _ rfl, ⟨pc, ac, nc, cc, dc, mc, lc, hc' 1 _ rfl, hc' 2 _ rfl, hc' 3 _ rfl, hR.below hb⟩, (hz i hi).1, (hz i hi).2.1, (hz i hi).2.2.1, (hz i hi).2.2.2⟩
theorem termsA {w : World} {B p q b : Nat} {D : DataW Value} {ns : List ByteArray} {ia : Option Addr} {n ic : Nat} {I : Nat → PI} {Z : Nat → Nat} (h : Pl w B p q b D ns) (hI : LI w ia n I Z) (hz : ∀ i, i < n → (I i).nm.size ≤ 1000000000) (hn : n ≤ 1048576) (J : Nat → Nat) (hJ : ∀ i, i < n → ns[J i]? = some (I i).nm) (hl : ns.length ≤ 1048576) :
    Calls Tryz.prog 96 #[.slice ia n ic, .map (some b)] w fun e w' => ∃ a cap, e = .returned (.slice a n cap) ∧ LT w' a n (fun i => ⟨(J i : Int), (I i).coef⟩) Z ∧ n ≤ cap ∧ Below w.heap.size w w' := by
  refine (termsS h (Below.refl _ _) hI hz hn J hJ hl).mono ?_
  rintro e w' ⟨a, cap, E, rfl, hS, hE, hc, hb⟩
  refine ⟨a, cap, rfl, lt_of_sl hS hE hb (fun i hi => ?_), hc, hb⟩
  have hvl : J i < ns.length := (List.getElem?_eq_some_iff.1 (hJ i hi)).1
  rcases hI with h0 | ⟨tb, to, eia, hel⟩
  · omega
  · exact ⟨(hel i hi).s1, (hel i hi).sz, by show -9223372036854775808 ≤ (J i : Int); omega, by show (J i : Int) ≤ 9223372036854775807; omega⟩
end Go.Proofs.YtpkfiomabiacaaaGreatDoor
