import Derived.Test.YtkbbdfflodiddabDoorDvsD
import Derived.Test.YtkbbdfflodiddabDoorAwake
import Derived.Test.YtkbbdfflodiddabDoorApart
namespace Go.Proofs.YtkbbdfflodiddabDoor
open Go.RowKit

theorem get_tail {q i : Nat} (a b : Value) (f : Nat → Value) (hi : i < q) : ([a, b] ++ (List.range q).map f).getD (i + 2) (.slice none 0 0) = f i := by
  simp only [List.cons_append, List.nil_append, List.getD_cons_succ]
  rw [List.getD_eq_getElem?_getD, List.getElem?_map, List.getElem?_range hi]
  rfl
theorem nf77 : NF [77] := ⟨by intro x hx; simp at hx; subst hx; exact ⟨by decide, by decide⟩, by decide⟩
theorem Lnt.rowX {w : World} {r gf cf gw cw n : Nat} {xs : List Int} (h : Lnt w r gf cf gw cw n (lendL xs) (lendL xs)) : Row w gf cf xs := by
  have h1 := h.rf.take xs.length
  have e : (lendL xs).take xs.length = xs := by unfold lendL; simp
  rw [e] at h1
  exact h1
theorem Held.num {w : World} {B m : Nat} {X : Nat → List Int} {R GF CF GW CW : Nat → Nat} {lvL : Value} {gO cO gM : Nat} (h : Held w B m X R GF CF GW CW lvL gO cO gM) {j : Nat} (hj : j < m) (ha : AllW (X j)) (hl : (X j).length ≤ 1048576) : Num w (some ⟨GF j, 0, none⟩) (X j).length (CF j) (val (X j)) 1048576 :=
  ⟨X j, rfl, (h.ln j hj).rowX.le, (h.ln j hj).rowX.reads, ha, rfl, hl⟩
theorem Held.gcd {w : World} {B m : Nat} {X : Nat → List Int} {R GF CF GW CW : Nat → Nat} {lvL : Value} {gO cO gM : Nat} (h : Held w B m X R GF CF GW CW lvL gO cO gM) {Y : Nat → Nat} (hn : ∀ j, j < m → AllW (X j) ∧ (X j).length ≤ 1048576 ∧ val (X j) = (Y j : Int)) (hm : m ≤ 1048576) (hT : TabAt 5 Lib.deBruijn64tab w) (hgt : 5 < w.heap.size) :
    Calls Tryd.prog 20 #[.slice (some ⟨gO, 0, none⟩) m cO] w fun e w' => ∃ c n cc, e = .returned (.slice c n cc) ∧ Got w' w.heap.size (.slice c n cc) (gcdN Y m : Nat) 1048578 ∧ Below w.heap.size w w' := by
  refine (gcdL_any gO m cO (fun i => some ⟨GF i, 0, none⟩) (fun i => (X i).length) CF Y 1048576 w h.cells.2.2.2.1 (fun j hj => ?_) (by omega) (by omega) hT hgt).mono ?_
  · obtain ⟨h1, h2, h3⟩ := hn j hj
    rw [← h3]
    exact h.num hj h1 h2
  · rintro e w' ⟨c, n, cc, rfl, hM, hb⟩
    exact ⟨c, n, cc, rfl, hM.1, hb⟩
theorem Held.ptr {w : World} {B m : Nat} {X : Nat → List Int} {R GF CF GW CW : Nat → Nat} {lvL : Value} {gO cO gM : Nat} (h : Held w B m X R GF CF GW CW lvL gO cO gM) (hm : 0 < m) : ∃ gL cL, lvL = .slice (some ⟨gL, 0, none⟩) m cL ∧ gL < w.heap.size ∧ ∀ i, i < m → w.cell? ⟨gL, i, none⟩ = some (.pointer (some ⟨R i, 0, none⟩)) := by
  have hlen : ((List.range m).map (ptrV R)).length = m := by simp
  rcases h.pl.2 with ⟨_, h1⟩ | ⟨g, cap, cur, h1, h2, h3, h4, h5, h6, h7⟩
  · rw [hlen] at h1; omega
  · rw [hlen] at h1 h4 h7
    have hcell : ∀ i, w.cell? ⟨g, i, none⟩ = cur[i]? := fun i => by simp [World.cell?, h3]
    refine ⟨g, cap, h1, (Array.getElem?_eq_some_iff.1 h3).1, fun i hi => ?_⟩
    have := congrArg (fun l => l[i]?) h7
    simp only [List.getElem?_take] at this
    rw [if_pos (by omega)] at this
    rw [hcell]
    have e : cur[i]? = ((List.range m).map (ptrV R))[i]? := by simpa using this
    rw [e]
    simp [hi, ptrV]
/-- .. at a step of a region that draws its order. -/
theorem step_appendT1 (w : World) {ops : Array Oper} {o : Oper} {a : Act} {K : Act → World → Prop} {Q : Exit → Act → World → Prop} {E : Prop} (hgd : o.guard = none) (s x : Operand)
    (ho : o.op = .call { callee := .builtin .append, args := #[s, x], argTypes := #[37, 37] }) (B : Nat) (v : Value) (vs : List Value) (n : Nat) (hn : Hid (vs.length = n)) (hs : a.eval s = v) (hown : TL w B v vs) (h : Nat) (c : Nat) (y : Value) (hx : a.eval x = .slice (some ⟨h, 0, none⟩) 1 c)
    (hc : w.cell? ⟨h, 0, none⟩ = some y) (hy : y.oneCell' = true) (hlen : n ≤ 1000000000) (hB : B ≤ w.heap.size) (H : Nat) (hH : w.heap.size = H)
    (hK : ∀ g cap w', TL w' B (.slice (some ⟨g, 0, none⟩) (n + 1) cap) (vs ++ [y]) → w.grownBy w' v.ownBlock → (v.ownBlock = some g ∨ g = H) → g < w'.heap.size → K (a.put o.dst (.slice (some ⟨g, 0, none⟩) (n + 1) cap)) w') :
    if Region.wanted o (yielded ops a.tmps) = true then Oper.wp Tryd.prog o a w K Q else E := by
  obtain rfl := hn.out
  obtain ⟨i0, hi, hz0, hz1, hz2⟩ := info_parts Tryd.infoNat
  refine step_append_lies w hgd s x 37 ho B 28 i0 (.slice none 0 0) 1 24 Tryd.underlying37 hi hz0 hz1 hz2 rfl (by decide) v vs.length vs hs hown ⟨h, 0, none⟩ 1 c [y] hx rfl ?_ (fun u hu => by simp at hu; subst hu; assumption) (by decide) (by unfold maxLen; omega) (by omega) hB H hH ?_
  · intro j u hj
    match j, hj with
    | 0, hj => simp at hj; subst hj; simpa [Addr.add] using hc
  · intro g cap w' h1 h2 h3 h4
    refine hK g cap w' ?_ h2 h3 h4
    unfold TL
    simpa using h1

set_option maxRecDepth 100000 in
set_option maxHeartbeats 4000000 in
theorem divisors_walk (al : Option Addr) (m cl : Nat) (A : Nat → Option Addr) (N C : Nat → Nat) (X : Nat → List Int) (Y : Nat → Nat) (w : World) (hal : m = 0 ∨ ∃ bl ol, al = some ⟨bl, ol, none⟩ ∧ ∀ j, j < m → w.cell? ⟨bl, ol + j, none⟩ = some (.slice (A j) (N j) (C j))) (hn : ∀ j, j < m → N j = (X j).length ∧ N j ≤ C j ∧ Reads w (A j) (X j) ∧ AllW (X j) ∧ N j ≤ 1048576) (hy : ∀ j, j < m → val (X j) = (Y j : Int)) (hm : m ≤ 1048576) (hT : TabAt 5 Lib.deBruijn64tab w) (hgt : 5 < w.heap.size) :
    Calls Tryd.prog 4 #[.slice al m cl] w fun e w' => e = .returned (.bool true) ∧ Below w.heap.size w w' := by
  have HT : Below w.heap.size w w := Below.refl _ _
  go_enter Tryd.func4, Tryd.ntmps4
  go_wp2_with fail
  refine (awake_any _).mono ?_
  rintro e w1 ⟨rfl, hb1⟩
  replace HT := bel_tr HT hb1
  clear hb1
  go_wp2
  go_loopw [4, 5, 6, 7] (fun a b v t wr => ∃ (k : Nat) (R GF CF GW CW : Nat → Nat) (c : Option Addr) (n cc : Nat), k ≤ m ∧ t = .int .i64 k ∧ v = .slice c n cc ∧ Loans wr w.heap.size k k k X R GF CF GW CW a b ∧ Got wr w.heap.size (.slice c n cc) (gcdN Y k : Nat) (1048576 + k) ∧ Below w.heap.size w wr) (fun _ _ _ t _ => m - (intOf t).toNat)
  case atStart => exact ⟨0, fun _ => 0, fun _ => 0, fun _ => 0, fun _ => 0, fun _ => 0, some ⟨w1.heap.size, 0, none⟩, 0, 0, Nat.zero_le _, rfl, rfl, Loans.nil _ _ _ _ _ _ _ _, (got_new w1 HT.size [] NF.nil (Nat.zero_le _)).le (Nat.zero_le _), HT.alloc HT.size _⟩
  case round =>
    obtain ⟨k, R, GF, CF, GW, CW, c, n, cc, hk, rfl, rfl, hL, hG, hbel⟩ := hrel
    by_cases hlt : k < m
    · have hkI : (k : Int) < (m : Int) := by omega
      rcases id hal with h0 | ⟨bl, ol, rfl, hc⟩
      · omega
      have hck := hc k hlt
      have hbl : bl < w.heap.size := World.block_lt_of_cell? _ _ hck
      have hck1 : wr.cell? ⟨bl, ol + k, none⟩ = some (.slice (A k) (N k) (C k)) := by rw [hbel.cell hbl]; exact hck
      obtain ⟨n1, n2, n3, n4, n5⟩ := hn k hlt
      rw [n1] at hck1 n2 n5
      clear n1
      have hlend := lend_any (A k) (X k).length (C k) (X k) wr rfl n2 (by omega) (n3.below hbel)
      have hYk : Num wr (A k) (X k).length (C k) (Y k : Int) 1048576 := ⟨X k, rfl, n2, n3.below hbel, n4, hy k hlt, n5⟩
      have hHw : w.heap.size ≤ wr.heap.size := hbel.size
      clear hck n3 n4
      go_wp2_with fail
      refine hlend.mono ?_
      rintro e w2 ⟨gf, cf, gw, cw, rfl, hl, hb⟩
      clear hlend
      have hL1 := hL.lend hHw hb hl
      have hck2 : w2.cell? ⟨bl, ol + k, none⟩ = some (.slice (A k) (X k).length (C k)) := by rw [hb.cell (Nat.lt_of_lt_of_le hbl hHw)]; exact hck1
      have hY2 := hYk.below hb
      have hG2 := hG.below hb
      have hbel2 := hbel.trans (hb.mono hHw)
      have hs2 : w.heap.size ≤ w2.heap.size := hbel2.size
      have hPL := hL1.pl
      have HLV : Hid (((List.range k).map (ptrV (upd R k wr.heap.size))).length = k) := by simp [Hid]
      clear hL hl hb hck1 hYk hG hbel
      go_wp2_with (at_builtin; refine wpList_appendP1 _ rfl _ _ rfl w.heap.size _ _ k HLV rfl (hPL.alloc _) w2.heap.size _ (.pointer (some ⟨wr.heap.size, 0, none⟩)) rfl (cell_new1 rfl) rfl (by omega) (by simp; omega) (w2.heap.size + 1) (by simp) ?_)
      intro g1 cap1 w3 hp3 hg3 hn3 _
      have hp3' : PL w3 w.heap.size (.slice (some ⟨g1, 0, none⟩) (k + 1) cap1) ((List.range k).map (ptrV (upd R k wr.heap.size)) ++ [ptrV (upd R k wr.heap.size) k]) := by
        have e : ptrV (upd R k wr.heap.size) k = .pointer (some ⟨wr.heap.size, 0, none⟩) := by unfold ptrV; rw [upd_same]
        rw [e]; exact hp3
      have hL3 := hL1.growP hp3' hg3 hn3
      have hG3 := hG2.grownRow hPL (by decide) hg3
      have hb3 := grown_bel hPL hs2 hg3
      have hbel3 := hbel2.trans hb3
      have hs3 : w.heap.size ≤ w3.heap.size := hbel3.size
      have hck3 : w3.cell? ⟨bl, ol + k, none⟩ = some (.slice (A k) (X k).length (C k)) := by rw [hb3.cell hbl]; exact hck2
      have hnat := lnatG _ _ _ _ _ _ _ _ _ (hL3.ln k (Nat.lt_succ_self k))
      rw [upd_same, upd_same, upd_same] at hnat
      clear hp3 hg3 hn3 hp3' hL1 hG2 hck2 hY2 hbel2 hs2 hPL HLV hb3
      go_wp2_with fail
      refine hnat.mono ?_
      rintro e w4 ⟨rfl, hb⟩
      clear hnat
      have hL4 := hL3.below hb
      have hG4 := hG3.below hb
      have hbel4 := hbel3.trans (hb.mono hs3)
      have hs4 : w.heap.size ≤ w4.heap.size := hbel4.size
      have hck4 : w4.cell? ⟨bl, ol + k, none⟩ = some (.slice (A k) (X k).length (C k)) := by rw [hb.cell (Nat.lt_of_lt_of_le hbl hs3)]; exact hck3
      have hTL := hL4.tl
      have HLV : Hid (((List.range k).map (ownVal X (upd GF k gf) (upd CF k cf))).length = k) := by simp [Hid]
      clear hL3 hG3 hbel3 hs3 hck3 hb
      go_wp2_with (at_builtin; refine wpList_appendT1 _ rfl _ _ rfl w.heap.size _ _ k HLV rfl (hTL.alloc _) w4.heap.size _ (.slice (some ⟨gf, 0, none⟩) (X k).length cf) rfl (cell_new1 rfl) rfl (by omega) (by simp; omega) (w4.heap.size + 1) (by simp) ?_)
      intro g2 cap2 w5 hp5 hg5 hn5 _
      have hp5' : TL w5 w.heap.size (.slice (some ⟨g2, 0, none⟩) (k + 1) cap2) ((List.range k).map (ownVal X (upd GF k gf) (upd CF k cf)) ++ [ownVal X (upd GF k gf) (upd CF k cf) k]) := by
        have e : ownVal X (upd GF k gf) (upd CF k cf) k = .slice (some ⟨gf, 0, none⟩) (X k).length cf := by unfold ownVal; rw [upd_same, upd_same]
        rw [e]; exact hp5
      have hL5 := hL4.growO hp5' hg5 hn5
      have hG5 := hG4.grownRow hTL (by decide) hg5
      have hb5 := grown_bel hTL hs4 hg5
      have hbel5 := hbel4.trans hb5
      have hs5 : w.heap.size ≤ w5.heap.size := hbel5.size
      have hck5 : w5.cell? ⟨bl, ol + k, none⟩ = some (.slice (A k) (X k).length (C k)) := by rw [hb5.cell hbl]; exact hck4
      have hY5 : Num w5 (A k) (X k).length (C k) (Y k : Int) 1048576 := by
        obtain ⟨n1, m2, n3, n4, _⟩ := hn k hlt
        exact ⟨X k, rfl, n2, n3.below hbel5, n4, hy k hlt, n5⟩
      have hgcd := rgcdV _ hG5.num (hY5.upto (by omega : 1048576 ≤ 1048576 + k)) (by omega)
      clear hp5 hg5 hn5 hp5' hL4 hG4 hck4 hbel4 hs4 hTL HLV hb5 hY5
      go_wp2_with fail
      refine hgcd.mono ?_
      rintro e w6 ⟨c6, n6, d6, rfl, hG6, hb⟩
      have hL6 := hL5.below hb
      have hbel6 := hbel5.trans (hb.mono hs5)
      have hG6' := hG6.mono hs5
      clear hgcd hL5 hG5 hbel5 hck5 hb hG6
      go_wp2
      go_roundw
      case rel => exact ⟨k + 1, _, _, _, _, _, c6, n6, d6, by omega, by go_num, rfl, hL6, hG6', hbel6⟩
      case measure => simp [intOf]; omega
    · have hkI : ¬ (k : Int) < (m : Int) := by omega
      obtain rfl : k = m := by omega
      have HLV : Hid (((List.range k).map (ownVal X GF CF)).length = k) := by simp [Hid]
      have hTL := hL.tl
      have hs : w.heap.size ≤ wr.heap.size := hbel.size
      go_wp2_with (at_builtin; refine wpList_appendT1 _ rfl _ _ rfl w.heap.size _ _ k HLV rfl ((hTL.alloc _).alloc _) (wr.heap.size + 1) _ (.slice (some ⟨wr.heap.size, 0, none⟩) 1 1) rfl (cell_new1 (by simp)) rfl (by omega) (by simp; omega) (wr.heap.size + 2) (by simp) ?_)
      intro g1 cap1 w3 hp3 hg3 hn3 _
      have hbA : Below wr.heap.size wr (wr.alloc (.cells #[Value.int .u64 77] 43)) := (Below.refl _ _).alloc (Nat.le_refl _) _
      have hH := (hL.below hbA).held (got_new wr hs [77] nf77 (Nat.le_refl _)) hp3 hg3
      have hG3 := (hG.below hbA).grownRow (hTL.below hbA) (by decide) hg3
      have hbel3 := (hbel.trans (hbA.mono hs)).trans (grown_bel (hTL.below hbA) (by simp; omega) hg3)
      have hs3 : w.heap.size ≤ w3.heap.size := hbel3.size
      obtain ⟨hO1, hO2, hO3, hO4, hO5⟩ := hH.cells
      have hT3 := tab_below hT hbel3 hgt
      have hn' : ∀ j, j < k → AllW (X j) ∧ (X j).length ≤ 1048576 ∧ val (X j) = (Y j : Int) := fun j hj => by
        obtain ⟨n1, n2, n3, n4, n5⟩ := hn j hj
        exact ⟨n4, n1 ▸ n5, hy j hj⟩
      have hg1 := hH.gcd hn' hm hT3 (Nat.lt_of_lt_of_le hgt hs3)
      have hI1 : (0 : Int) ≤ (k : Int) := by omega
      have hI2 : (k : Int) ≤ (cap1 : Int) := by omega
      clear hL hG hbel hTL HLV hbA hp3 hg3 hn3 hs
      go_wp2_with fail
      refine hg1.mono ?_
      rintro e w4 ⟨c4, n4, d4, rfl, hM4, hb4⟩
      have HL4 : Hid (∀ b, (Value.slice c4 n4 d4).ownBlock = some b → w3.heap.size ≤ b ∧ b < w4.heap.size) := hM4.lt
      have HGF : Hid (∀ i, i < k → GF i < w3.heap.size) := fun i hi => (hH.ln i hi).rf.lt
      have hH4 := hH.below hb4
      have hG4 := hG3.below hb4
      have hbel4 := hbel3.trans (hb4.mono hs3)
      have hs4 : w.heap.size ≤ w4.heap.size := hbel4.size
      have hT4 := tab_below hT hbel4 hgt
      have hg2 := hH4.gcd hn' hm hT4 (Nat.lt_of_lt_of_le hgt hs4)
      have hs34 : w3.heap.size ≤ w4.heap.size := hb4.size
      clear hg1 hH hG3 hbel3 hb4 hT3 hO4 hO5
      go_wp2_with fail
      refine hg2.mono ?_
      rintro e w5 ⟨c5, n5, d5, rfl, hM5, hb5⟩
      have HL5 : Hid (∀ b, (Value.slice c5 n5 d5).ownBlock = some b → w4.heap.size ≤ b ∧ b < w5.heap.size) := hM5.lt
      have hH5 := hH4.below hb5
      have hG5 := hG4.below hb5
      have hM45 := hM4.below hb5
      have hbel5 := hbel4.trans (hb5.mono hs4)
      have hs5 : w.heap.size ≤ w5.heap.size := hbel5.size
      have hs45 : w4.heap.size ≤ w5.heap.size := hb5.size
      have hsm1 := sameG w5 hM45 hG5 rfl (by omega)
      clear hg2 hH4 hG4 hbel4 hb5 hT4 hM4
      go_wp2_with fail
      refine hsm1.mono ?_
      rintro e w6 ⟨rfl, hb6⟩
      have hH6 := hH5.below hb6
      have hG6 := hG5.below hb6
      have hM46 := hM45.below hb6
      have hM56 := hM5.below hb6
      have hbel6 := hbel5.trans (hb6.mono hs5)
      have hs56 : w5.heap.size ≤ w6.heap.size := hb6.size
      have hsm2 := sameG w6 hM56 hG6 rfl (by omega)
      clear hsm1 hH5 hG5 hM45 hM5 hbel5 hb6
      go_wp2_with fail
      refine hsm2.mono ?_
      rintro e w7 ⟨rfl, hb7⟩
      have hs6 : w.heap.size ≤ w6.heap.size := hbel6.size
      have hH7 := hH6.below hb7
      have hM47 := hM46.below hb7
      have hM57 := hM56.below hb7
      have hbel7 := hbel6.trans (hb7.mono hs6)
      have hs67 : w6.heap.size ≤ w7.heap.size := hb7.size
      have hs7 : w.heap.size ≤ w7.heap.size := hbel7.size
      obtain ⟨hO1, hO2, hO3, hO4, hO5⟩ := hH7.cells
      have hbB : Below w7.heap.size w7 (w7.alloc (.cells #[Value.int .u64 77] 43)) := (Below.refl _ _).alloc (Nat.le_refl _) _
      have hsm3 := sameG _ (hH7.mark.below hbB) (got_new w7 (Nat.le_refl _) [77] nf77 (Nat.le_refl _)) rfl (by omega)
      have hI3 : (k : Int) < ((k + 1 : Nat) : Int) := by omega
      clear hsm2 hH6 hG6 hM46 hM56 hbel6 hb7 hO4
      go_wp2_with fail
      refine hsm3.mono ?_
      rintro e w8 ⟨rfl, hb8⟩
      have hb78 : Below w7.heap.size w7 w8 := hbB.trans (hb8.mono hbB.size)
      have hH8 := hH7.below hb78
      have hM48 := hM47.below hb78
      have hM58 := hM57.below hb78
      have hbel8 := hbel7.trans (hb78.mono hs7)
      have hs78 : w7.heap.size ≤ w8.heap.size := hb78.size
      have hs8 : w.heap.size ≤ w8.heap.size := hbel8.size
      clear hsm3 hH7 hM47 hM57 hbel7 hb8 hbB hb78 hO5
      go_wp2
      go_loopw [15, 16] (fun a t wr => ∃ (q : Nat), q ≤ k ∧ t = .int .i64 q ∧ TL wr w8.heap.size a ([.slice c4 n4 d4, .slice c5 n5 d5] ++ (List.range q).map (ownVal X GF CF)) ∧ Below w8.heap.size w8 wr) (fun _ t _ => k - (intOf t).toNat)
      case atStart =>
        refine ⟨0, Nat.zero_le _, rfl, ⟨by simp, .inr ⟨w8.heap.size, 2, #[.slice c4 n4 d4, .slice c5 n5 d5], rfl, Nat.le_refl _, heap_alloc_new _ _, ?_, ?_, ?_, ?_⟩⟩, (Below.refl _ _).alloc (Nat.le_refl _) _⟩
        · simp
        · unfold maxLen; decide
        · rfl
        · simp
      case round =>
        obtain ⟨q, hq, rfl, hA, hbq⟩ := hrel
        have hHq := hH8.below hbq
        have hbelq := hbel8.trans (hbq.mono hs8)
        have hsq : w.heap.size ≤ wr.heap.size := hbelq.size
        have hs8q : w8.heap.size ≤ wr.heap.size := hbq.size
        by_cases hlt : q < k
        · have hqI : (q : Int) < (k : Int) := by omega
          have hqI1 : (q : Int) < ((k + 1 : Nat) : Int) := by omega
          obtain ⟨gL, cL, rfl, hgL, hPc⟩ := hHq.ptr (by omega)
          have hPq := hPc q hlt
          rcases id hal with h0 | ⟨bl, ol, rfl, hc⟩
          · omega
          have hck := hc q hlt
          have hbl : bl < w.heap.size := World.block_lt_of_cell? _ _ hck
          obtain ⟨n1, n2, n3, n4', n5'⟩ := hn q hlt
          rw [n1] at hck n2 n5'
          clear n1
          have hkept := keptG wr ⟨R q, GF q, CF q, GW q, CW q, (X q).length⟩ (X q) (hHq.ln q hlt) (by omega)
          clear hPc
          go_wp2_with fail
          refine hkept.mono ?_
          rintro e w9 ⟨rfl, hb9⟩
          have hH9 := hHq.below hb9
          have hA9 := hA.below hb9
          have hb89 := hbq.trans (hb9.mono hs8q)
          have hbel9 := hbelq.trans (hb9.mono hsq)
          have hck9 : w9.cell? ⟨bl, ol + q, none⟩ = some (.slice (A q) (X q).length (C q)) := by rw [hbel9.cell hbl]; exact hck
          have hO9 := hH9.cells.2.2.2.1 q hlt
          have hr1 : Reads w9.drew (some ⟨GF q, 0, none⟩) (X q) := (hH9.ln q hlt).rowX.reads
          have hr2 : Reads w9.drew (A q) (X q) := n3.below (belN hbel9 1)
          have hsame : Calls Tryd.prog 21 #[.slice (some ⟨GF q, 0, none⟩) (X q).length (CF q), .slice (A q) (X q).length (C q)] w9.drew fun e w' => e = .returned (.bool true) ∧ Below w9.heap.size w9 w' := by
            refine (same_any (some ⟨GF q, 0, none⟩) (A q) (X q).length (X q).length (CF q) (C q) (X q) (X q) w9.drew rfl rfl (by omega) hr1 hr2 rfl).mono ?_
            rintro e w' ⟨h1, mm, rfl⟩
            exact ⟨h1, belN (belN (Below.refl _ _) 1) mm⟩
          have hqI2 : (q : Int) < (k : Int) + 1 := by omega
          have hqI0 : (0 : Int) ≤ (q : Int) := by omega
          have hs89 : w8.heap.size ≤ w9.heap.size := hb89.size
          clear hkept hHq hA hbq hb9 hbelq hPq hck
          go_wp2_with fail
          go_region_held3 (fun w' => w'.cell? ⟨g1, q, none⟩ = some (.slice (some ⟨GF q, 0, none⟩) (X q).length (CF q)) ∧ w'.cell? ⟨bl, ol + q, none⟩ = some (.slice (A q) (X q).length (C q)))
            (first | (go_keep; done) | exact ⟨hO9, hck9⟩ | exact ⟨(hb10.cell (World.block_lt_of_cell? _ _ hO9)).trans hO9, (hb10.cell (World.block_lt_of_cell? _ _ hck9)).trans hck9⟩)
            ((go_at_call 21; go_fit hsame; rintro e w11 ⟨rfl, hb10⟩))
          clear hsame
          have hH10 := hH9.below hb10
          have hA10 := hA9.below hb10
          have hb810 := hb89.trans (hb10.mono hs89)
          have hO10 : w11.cell? ⟨g1, q, none⟩ = some (.slice (some ⟨GF q, 0, none⟩) (X q).length (CF q)) := (hb10.cell (World.block_lt_of_cell? _ _ hO9)).trans hO9
          have hs810 : w8.heap.size ≤ w11.heap.size := hb810.size
          obtain ⟨oa, oc, hoa⟩ := hA10.slice
          rw [show ([Value.slice c4 n4 d4, Value.slice c5 n5 d5] ++ (List.range q).map (ownVal X GF CF)).length = q + 1 + 1 by simp] at hoa
          subst hoa
          have HLV : Hid (([Value.slice c4 n4 d4, Value.slice c5 n5 d5] ++ (List.range q).map (ownVal X GF CF)).length = 2 + q) := by simp [Hid]; omega
          clear hH9 hA9 hb89 hO9 hb10
          go_wp2_with (at_builtin; refine wpList_appendT1 _ rfl _ _ rfl w8.heap.size _ _ (2 + q) HLV rfl (hA10.alloc _) w11.heap.size _ (.slice (some ⟨GF q, 0, none⟩) (X q).length (CF q)) rfl (cell_new1 rfl) rfl (by omega) (by simp; omega) (w11.heap.size + 1) (by simp) ?_)
          intro g2 cap2 w12 hp12 hg12 _ _
          have hb12 := grown_bel hA10 hs810 hg12
          have hb812 := hb810.trans hb12
          have hp12' : TL w12 w8.heap.size (.slice (some ⟨g2, 0, none⟩) (2 + q + 1) cap2) ([.slice c4 n4 d4, .slice c5 n5 d5] ++ (List.range (q + 1)).map (ownVal X GF CF)) := by
            rw [List.range_succ, List.map_append, ← List.append_assoc]; exact hp12
          clear hp12 hg12 hA10 hb810 hb12 hO10
          go_wp2
          go_roundw
          case rel => exact ⟨q + 1, by omega, by go_num, hp12', hb812⟩
          case measure => simp [intOf]; omega
        · have hqI : ¬ (q : Int) < (k : Int) := by omega
          obtain rfl : q = k := by omega
          have hlen : ([Value.slice c4 n4 d4, Value.slice c5 n5 d5] ++ (List.range q).map (ownVal X GF CF)).length = q + 2 := by simp
          obtain ⟨xg, og1, og2, og3, og4⟩ := (hM48.below hbq).mono (B' := w.heap.size) (by omega)
          obtain ⟨xh, oh1, oh2, oh3, oh4⟩ := (hM58.below hbq).mono (B' := w.heap.size) (by omega)
          rcases hA.row with ⟨_, h0⟩ | ⟨ga, capa, rfl, _, hga, hTR⟩
          · simp at h0
          rw [hlen] at hTR
          have hap := apart_any ga capa (q + 2) w.heap.size (fun i => ([Value.slice c4 n4 d4, Value.slice c5 n5 d5] ++ (List.range q).map (ownVal X GF CF)).getD i (.slice none 0 0)) (fun i => match i with | 0 => xg | 1 => xh | i + 2 => X i) wr hTR ?_ ?_ (by omega) ?_ hsq
          · rw [hlen]
            go_wp2_with fail
            refine hap.mono ?_
            rintro e w13 ⟨rfl, hb13⟩
            have hbE := hbelq.trans hb13
            go_wp2
            go_ret
            exact ⟨rfl, hbE⟩
          · intro j hj
            match j, hj with
            | 0, _ => exact og1
            | 1, _ => exact oh1
            | i + 2, hj =>
              have hi : i < q := by omega
              show OwnV wr w.heap.size (_ : Value) (X i)
              rw [get_tail _ _ _ hi]
              exact (hHq.ln i hi).rowX.own (by have h1 := hHq.lo i hi; have h2 := (hHq.ln i hi).lf; omega)
          · intro i j hi hj hij b h1 h2
            have key : ∀ t, t < q + 2 → (([Value.slice c4 n4 d4, Value.slice c5 n5 d5] ++ (List.range q).map (ownVal X GF CF)).getD t (.slice none 0 0)).ownBlock = some b → (t = 0 ∧ w3.heap.size ≤ b ∧ b < w4.heap.size) ∨ (t = 1 ∧ w4.heap.size ≤ b) ∨ (2 ≤ t ∧ b = GF (t - 2) ∧ b < w3.heap.size) := fun t ht hb => by
              match t, ht, hb with
              | 0, _, hb => exact .inl ⟨rfl, HL4.out b hb⟩
              | 1, _, hb => exact .inr (.inl ⟨rfl, (HL5.out b hb).1⟩)
              | t + 2, ht, hb =>
                have hi : t < q := by omega
                rw [get_tail _ _ _ hi] at hb
                have e : GF t = b := by simpa [ownVal, Value.ownBlock] using hb
                have := HGF.out t hi
                exact .inr (.inr ⟨by omega, by rw [Nat.add_sub_cancel]; exact e.symm, by omega⟩)
            rcases key i hi h1 with ⟨a1, a2, a3⟩ | ⟨a1, a2⟩ | ⟨a1, a2, a3⟩ <;> rcases key j hj h2 with ⟨b1, b2, b3⟩ | ⟨b1, b2⟩ | ⟨b1, b2, b3⟩ <;> try omega
            rcases (by omega : i - 2 < j - 2 ∨ j - 2 < i - 2) with h | h
            · have h3 := hHq.inc (i - 2) (j - 2) h (by omega)
              have h4 := (hHq.ln (j - 2) (by omega)).lf
              omega
            · have h3 := hHq.inc (j - 2) (i - 2) h (by omega)
              have h4 := (hHq.ln (i - 2) (by omega)).lf
              omega
          · intro j hj
            match j, hj with
            | 0, _ => show xg.length ≤ _; omega
            | 1, _ => show xh.length ≤ _; omega
            | i + 2, hj =>
              show (X i).length ≤ _
              have := (hn' i (by omega)).2.1
              omega
end Go.Proofs.YtkbbdfflodiddabDoor
