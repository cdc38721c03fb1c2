import Derived.Test.YtpkfiomabiacaaaGreatDoorPrHAll
namespace Go.Proofs.YtpkfiomabiacaaaGreatDoor
open Go.RowKit Go.Maps

/-- A claim of a text. -/
structure PC where
  nm : ByteArray
  ln : Int
  cl : Int
  n : Nat
  I : Nat → PI
  hlo : Bool
  lo : Rat
  hhi : Bool
  hi : Rat
structure ClaimAt (w : World) (b o : Nat) (t : PC) (S : Nat) : Prop where
  nm : w.cell? ⟨b, o, none⟩ = some (.string t.nm)
  ln : w.cell? ⟨b, o + 1, none⟩ = some (.int .i64 t.ln)
  cl : w.cell? ⟨b, o + 2, none⟩ = some (.int .i64 t.cl)
  items : ∃ a cap Z, w.cell? ⟨b, o + 3, none⟩ = some (.slice a t.n cap) ∧ LI w a t.n t.I Z ∧ tot Z t.n ≤ S ∧ t.n ≤ cap
  hlo : w.cell? ⟨b, o + 4, none⟩ = some (.bool t.hlo)
  lo : C3 w b (o + 5) t.lo S
  hhi : w.cell? ⟨b, o + 8, none⟩ = some (.bool t.hhi)
  hi : C3 w b (o + 9) t.hi S
  s1 : 1 ≤ S
  slo : SzR t.lo S
  shi : SzR t.hi S
  snm : t.nm.size ≤ S
theorem ClaimAt.below {w w' : World} {b o : Nat} {t : PC} {S : Nat} (h : ClaimAt w b o t S) (hb : Below w.heap.size w w') : ClaimAt w' b o t S := by
  obtain ⟨a, cap, Z, h1, h2, h3⟩ := h.items
  exact ⟨kept_c hb h.nm, kept_c hb h.ln, kept_c hb h.cl, ⟨a, cap, Z, kept_c hb h1, h2.below hb, h3⟩, kept_c hb h.hlo, h.lo.below hb, kept_c hb h.hhi, h.hi.below hb, h.s1, h.slo, h.shi, h.snm⟩
def LC (w : World) (a : Option Addr) (n : Nat) (C : Nat → PC) (Z : Nat → Nat) : Prop := n = 0 ∨ ∃ b o, a = some ⟨b, o, none⟩ ∧ ∀ i, i < n → ClaimAt w b (o + i * 12) (C i) (Z i)
theorem LC.below {w w' : World} {a : Option Addr} {n : Nat} {C : Nat → PC} {Z : Nat → Nat} (h : LC w a n C Z) (hb : Below w.heap.size w w') : LC w' a n C Z := by
  rcases h with h | ⟨b, o, rfl, h⟩
  · exact .inl h
  · exact .inr ⟨b, o, rfl, fun i hi => (h i hi).below hb⟩
/-- A text without limits and mentions. -/
structure Txt where
  mx : Bool
  nm : ByteArray
  ia : Option Addr
  n : Nat
  ic : Nat
  ca : Option Addr
  cn : Nat
  cc : Nat
  I : Nat → PI
  ZI : Nat → Nat
  C : Nat → PC
  ZC : Nat → Nat
  K : Nat
abbrev Txt.val (T : Txt) : Value := .agg #[.bool T.mx, .string T.nm, .slice T.ia T.n T.ic, .slice T.ca T.cn T.cc, .slice none 0 0, .slice none 0 0, .slice none 0 0]
structure TX (w : World) (T : Txt) : Prop where
  i : LI w T.ia T.n T.I T.ZI
  c : LC w T.ca T.cn T.C T.ZC
  all : tot T.ZI T.n + tot T.ZC T.cn + T.nm.size ≤ T.K
  ic : T.n ≤ T.ic
  cc : T.cn ≤ T.cc
theorem TX.below {w w' : World} {T : Txt} (h : TX w T) (hb : Below w.heap.size w w') : TX w' T := ⟨h.i.below hb, h.c.below hb, h.all, h.ic, h.cc⟩
/-- The names behind j claims. -/
def folC (ns : List ByteArray) (C : Nat → PC) : Nat → List ByteArray
  | 0 => ns
  | j + 1 => fol (folC ns C j) (C j).I (C j).n
theorem LI.len {w : World} {a : Option Addr} {n : Nat} {I : Nat → PI} {Z : Nat → Nat} (_ : LI w a n I Z) : n + 1 ≤ tot Z n := tot_len Z n
theorem folC_len {w : World} {a : Option Addr} {n : Nat} {C : Nat → PC} {Z : Nat → Nat} (h : LC w a n C Z) (ns : List ByteArray) : ∀ j, j ≤ n → (folC ns C j).length ≤ ns.length + tot Z j
  | 0, _ => Nat.le_add_right _ _
  | j + 1, hj => by
    have ih := folC_len h ns j (by omega)
    have h1 := fol_len (folC ns C j) (C j).I (C j).n
    rcases h with h0 | ⟨b, o, _, hc⟩
    · omega
    · obtain ⟨a', cap, Z', _, _, h3, _⟩ := (hc j (by omega)).items
      have h4 := tot_len Z' (C j).n
      show (fol _ _ _).length ≤ ns.length + (tot Z j + Z j + 1)
      omega
def allNames (T : Txt) : List ByteArray := folC (fol [] T.I T.n) T.C T.cn
theorem run_store_fun (P : Program) (w : World) (a : Addr) (m : Mode) (f : Fn) (b c : Array Value) : (store a (.func f b c) m).run P w = stored P w a (.func f b c) m := run_store P w a _ m rfl
theorem Rw.same {t : TypeId} {w : World} {R : Nat} {v : Value} (h : Rw t w R #[v]) : w.setCell ⟨R, 0, none⟩ v = w := by
  have hh : (w.setCell ⟨R, 0, none⟩ v).heap = w.heap := by
    apply Array.ext_getElem?
    intro i
    by_cases e : i = R
    · subst e
      have h2 := (h.set 0 v).1
      unfold Rw at h h2
      rw [h2, h]
      simp
    · exact ((h.set 0 v).2.block i e)
  cases w
  simp only [World.setCell] at hh ⊢
  rw [hh]
theorem places_start (w : World) (c0 c4 : Array Value) (W : World) (hW : W = ((((w.alloc (.cells c0 72)).alloc (.cells #[.map (some (w.heap.size + 1 + 1 + 1))] 109)).alloc (.cells #[.slice none 0 0] 110)).alloc (.map #[] 0)).alloc (.cells c4 146)) :
    Rw 72 W w.heap.size c0 ∧ Pl W w.heap.size (w.heap.size + 1) (w.heap.size + 1 + 1) (w.heap.size + 1 + 1 + 1) (.map []) [] ∧ Rw 146 W (w.heap.size + 1 + 1 + 1 + 1) c4 ∧ Below w.heap.size w W := by
  have R0 := Rw.new 72 w c0
  have e1 : (w.alloc (.cells c0 72)).heap.size = w.heap.size + 1 := by simp
  generalize hw1 : w.alloc (.cells c0 72) = w1 at *
  have R1 := Rw.new 109 w1 #[.map (some (w.heap.size + 1 + 1 + 1))]
  have e2 : (w1.alloc (.cells #[.map (some (w.heap.size + 1 + 1 + 1))] 109)).heap.size = w.heap.size + 1 + 1 := by simp [e1]
  have b1 := bel_d0 w1 (.cells #[.map (some (w.heap.size + 1 + 1 + 1))] 109)
  generalize hw2 : w1.alloc (.cells #[.map (some (w.heap.size + 1 + 1 + 1))] 109) = w2 at *
  have R2 := Rw.new 110 w2 #[.slice none 0 0]
  have e3 : (w2.alloc (.cells #[.slice none 0 0] 110)).heap.size = w.heap.size + 1 + 1 + 1 := by simp [e2]
  have b2 := bel_d0 w2 (.cells #[.slice none 0 0] 110)
  generalize hw3 : w2.alloc (.cells #[.slice none 0 0] 110) = w3 at *
  have M := World.ownsMap_made w3 Tryz.prog 9 rawR
  have e4 : (w3.alloc (.map #[] 0)).heap.size = w.heap.size + 1 + 1 + 1 + 1 := by simp [e3]
  have b3 := bel_d0 w3 (.map #[] 0)
  generalize hw4 : w3.alloc (.map #[] 0) = w4 at *
  have R4 := Rw.new 146 w4 c4
  have b4 := bel_d0 w4 (.cells c4 146)
  have M2 := M.alloc (.cells c4 146)
  have b0 : Below w.heap.size w w1 := by rw [← hw1]; exact bel_d0 _ _
  have e5 : (w4.alloc (.cells c4 146)).heap.size = w.heap.size + 1 + 1 + 1 + 1 + 1 := by simp [e4]
  rw [← hW] at R4 b4 M2 e5
  rw [e4] at R4
  rw [e3] at M2
  rw [e2] at R2
  rw [e1] at R1
  refine ⟨(((R0.below b1).below b2).below b3).below b4, ⟨((R1.below b2).below b3).below b4, ⟨_, fun _ => [], (R2.below b3).below b4, SL.nil _ _ _ _ _, fun i s h => by simp at h⟩, M2, fun j s h => by simp at h, fun s => ?_, by omega, by omega, by omega, by omega⟩, R4, bel_tr (bel_tr (bel_tr (bel_tr b0 b1) b2) b3) b4⟩
  constructor
  · intro h; cases h
  · intro h; cases h
set_option maxHeartbeats 1000000 in
theorem mentionsE (r : Nat) (w : World) : Calls Tryz.prog 94 #[.slice none 0 0, .pointer (some ⟨r, 0, none⟩)] w fun e w' => e = .returned (.tuple #[]) ∧ w' = w := by
  go_enter Tryz.func94, Tryz.ntmps94
  go_wp2
  go_loopw [7] (fun s7 wr => s7 = .int .i64 0 ∧ wr = w) (fun _ _ => 0)
  case atStart => exact ⟨rfl, rfl⟩
  case round =>
    obtain ⟨rfl, rfl⟩ := hrel
    go_wp2
    go_end0
    exact ⟨rfl, rfl⟩
set_option maxRecDepth 100000 in
set_option maxHeartbeats 8000000 in
/-- places(t): p, q: where the answer's map and list lie. -/
theorem placesQ (T : Txt) (w : World) (hT : TX w T) (hK : T.K ≤ 1048576) :
    Calls Tryz.prog 62 #[T.val] w fun e w' => ∃ p q b D v, e = .returned (.tuple #[.map (some b), v]) ∧ Pl w' w.heap.size p q b D (allNames T) ∧ Rw 110 w' q #[v] ∧ Below w.heap.size w w' := by
  have hmm := @run_makeMap Tryz.prog
  have hsf := @run_store_fun Tryz.prog
  unfold Txt.val
  go_enter Tryz.func62, Tryz.ntmps62
  go_wp2_with fail
  obtain ⟨W, hW⟩ : ∃ W, W = ((((w.alloc (.cells #[.bool T.mx, .string T.nm, .slice T.ia T.n T.ic, .slice T.ca T.cn T.cc, .slice none 0 0, .slice none 0 0, .slice none 0 0] 72)).alloc (.cells #[.map (some (w.heap.size + 1 + 1 + 1))] 109)).alloc (.cells #[.slice none 0 0] 110)).alloc (.map #[] 0)).alloc (.cells #[.func (.func 92) #[] #[.pointer (some ⟨w.heap.size + 1, 0, none⟩), .pointer (some ⟨w.heap.size + 1 + 1, 0, none⟩)]] 146) := ⟨_, rfl⟩
  rw [← hW]
  obtain ⟨X0, P0, RR, hb0⟩ := places_start w _ _ W hW
  clear hW
  obtain ⟨p, hp⟩ : ∃ p, p = w.heap.size + 1 := ⟨_, rfl⟩
  obtain ⟨q, hq⟩ : ∃ q, q = w.heap.size + 1 + 1 := ⟨_, rfl⟩
  obtain ⟨b, hb⟩ : ∃ b, b = w.heap.size + 1 + 1 + 1 := ⟨_, rfl⟩
  obtain ⟨r, hr⟩ : ∃ r, r = w.heap.size + 1 + 1 + 1 + 1 := ⟨_, rfl⟩
  rw [← hr, ← hb, ← hq, ← hp]
  rw [← hb, ← hq, ← hp] at P0
  rw [← hr, ← hq, ← hp] at RR
  have hpq : p ≠ q ∧ p ≠ b ∧ q ≠ b := by omega
  have hrq : r ≠ q ∧ r ≠ b := by omega
  have h0q : w.heap.size ≠ q ∧ w.heap.size ≠ b := by omega
  have HPQ : Hid (p ≠ q ∧ p ≠ b ∧ q ≠ b) := hpq
  have HRQ : Hid (r ≠ q ∧ r ≠ b) := hrq
  have H0Q : Hid (w.heap.size ≠ q ∧ w.heap.size ≠ b) := h0q
  clear hpq hrq h0q hp hq hb hr
  have hnn : T.n ≤ 1048576 := by have := hT.all; have := tot_len T.ZI T.n; omega
  have hcn : T.cn ≤ 1048576 := by have := hT.all; have := tot_len T.ZC T.cn; omega
  refine (itemsQ P0 (fun w' h => hT.i.below (hb0.trans h)) (fun i hi => by
    rcases hT.i with h0 | ⟨b', o', _, hel⟩
    · omega
    · have := (hel i hi).snm; have := tot_le (Z := T.ZI) hi; have := hT.all; omega) (by show 0 + T.n ≤ _; omega) HPQ.out RR HRQ.out).mono ?_
  rintro e w6 ⟨rfl, D6, P6, F6, B6⟩
  have X6 := F6.rw X0 H0Q.out.1 H0Q.out.2 (by decide)
  have hb6 := hb0.trans B6
  have x3 := (X6.cell 3).trans (show _ = some (.slice T.ca T.cn T.cc) from rfl)
  clear P0 hmm
  go_wp2
  go_loopw [22] (fun s22 wr => ∃ (j : Nat) (D : DataW Value), j ≤ T.cn ∧ s22 = .int .i64 j ∧ Pl wr w.heap.size p q b D (folC (fol [] T.I T.n) T.C j) ∧ FK q b W wr ∧ Below w.heap.size w wr) (fun s22 _ => T.cn - (intOf s22).toNat)
  case atStart => exact ⟨0, D6, Nat.zero_le _, rfl, P6, F6, hb6⟩
  case round =>
    clear P6 F6 hb6 x3 X6 B6
    obtain ⟨j, D, hj, rfl, h, hF, hB⟩ := hrel
    by_cases hlt : j < T.cn
    · have hkI : (j : Int) < (T.cn : Int) := by omega
      have hkI2 : (j : Int) * 12 = ((j * 12 : Nat) : Int) := by omega
      have hfl := folC_len hT.c (fol [] T.I T.n) j (by omega)
      have hfl2 : (fol [] T.I T.n).length ≤ T.n := by have := fol_len [] T.I T.n; simpa using this
      have hto := tot_mono T.ZC hj
      have hal := hT.all
      rcases hT.c with h0 | ⟨cb, co, eca, hel⟩
      · omega
      have hC := hel j hlt
      have hZj := tot_le (Z := T.ZC) hlt
      obtain ⟨nm, enm⟩ : ∃ x, x = (T.C j).nm := ⟨_, rfl⟩
      obtain ⟨ln, eln⟩ : ∃ x, x = (T.C j).ln := ⟨_, rfl⟩
      obtain ⟨cl, ecl⟩ : ∃ x, x = (T.C j).cl := ⟨_, rfl⟩
      obtain ⟨n, en⟩ : ∃ x, x = (T.C j).n := ⟨_, rfl⟩
      obtain ⟨hl, ehl⟩ : ∃ x, x = (T.C j).hlo := ⟨_, rfl⟩
      obtain ⟨hh, ehh⟩ : ∃ x, x = (T.C j).hhi := ⟨_, rfl⟩
      have x0 := kept_c hB hC.nm
      have x1 := kept_c hB hC.ln
      have x2 := kept_c hB hC.cl
      obtain ⟨ia, ic, Zi, x3, hLI, htot, hic⟩ := hC.items
      have x4 := kept_c hB hC.hlo
      obtain ⟨p2, a2, n2, k2, d2, m2, l2, x5, x6, x7, _⟩ := hC.lo
      have x8 := kept_c hB hC.hhi
      obtain ⟨p3, a3, n3, k3, d3, m3, l3, x9, x10, x11, _⟩ := hC.hi
      replace x3 := kept_c hB x3
      replace x5 := kept_c hB x5
      replace x6 := kept_c hB x6
      replace x7 := kept_c hB x7
      replace x9 := kept_c hB x9
      replace x10 := kept_c hB x10
      replace x11 := kept_c hB x11
      rw [← enm] at x0
      rw [← eln] at x1
      rw [← ecl] at x2
      rw [← en] at x3 hLI htot hic
      rw [← ehl] at x4
      rw [← ehh] at x8
      have EN : Hid (n = (T.C j).n) := en
      clear hel hC enm eln ecl en ehl ehh
      have hz0 := bel_d0 wr (.cells #[.string nm, .int .i64 ln, .int .i64 cl, .slice ia n ic, .bool hl, .bool p2, .slice a2 n2 k2, .slice d2 m2 l2, .bool hh, .bool p3, .slice a3 n3 k3, .slice d3 m3 l3] 67)
      have h4 := h.below hz0
      have hB4 := bel_tr hB hz0
      have RR4 := (hF.rw RR HRQ.out.1 HRQ.out.2 (by decide)).below hz0
      have hnl := tot_len Zi n
      rw [eca]
      go_wp2_with fail
      refine (itemsQ h4 (fun w' hh => hLI.below (hB4.trans hh)) (fun i hi => by
        rcases hLI with h0 | ⟨b', o', _, hel⟩
        · omega
        · have := (hel i hi).snm; have := tot_le (Z := Zi) hi; omega) (by omega) HPQ.out RR4 HRQ.out).mono ?_
      rintro e w7 ⟨rfl, D7, P7, F7, B7⟩
      have PN : Pl w7 w.heap.size p q b D7 (folC (fol [] T.I T.n) T.C (j + 1)) := by show Pl w7 w.heap.size p q b D7 (fol _ _ _); rw [← EN.out]; exact P7
      have FN : FK q b W w7 := (hF.trans (FK.of_below hz0)).trans F7
      have BN : Below w.heap.size w w7 := hB4.trans B7
      clear h h4 hF hB hB4 F7 B7 P7 hz0 x0 x1 x2 x3 x4 x5 x6 x7 x8 x9 x10 x11 hLI RR4
      rw [← eca]
      go_wp2
      go_roundw
      case rel => exact ⟨j + 1, D7, by omega, by go_num, PN, FN, BN⟩
      case measure => simp [intOf]; omega
    · have hkI : ¬ (j : Int) < (T.cn : Int) := by omega
      obtain rfl : j = T.cn := by omega
      have X7 := hF.rw X0 H0Q.out.1 H0Q.out.2 (by decide)
      have x4 := (X7.cell 4).trans (show _ = some (.slice none 0 0) from rfl)
      have x5 := (X7.cell 5).trans (show _ = some (.slice none 0 0) from rfl)
      have x6 := (X7.cell 6).trans (show _ = some (.slice none 0 0) from rfl)
      go_wp2
      go_loopw [34] (fun s34 wq => s34 = .int .i64 0 ∧ wq = wr) (fun _ _ => 0)
      case atStart => exact ⟨rfl, rfl⟩
      case round =>
        obtain ⟨rfl, rfl⟩ := hrel
        obtain ⟨v, E, hq, hS, hE⟩ := h.nm
        have c0 := (h.cp.cell 0).trans (show _ = some (.map (some b)) from rfl)
        have c1 := h.cp.frozen 0
        have d0 := (hq.cell 0).trans (show _ = some v from rfl)
        have d1 := hq.frozen 0
        obtain ⟨na, nc, rfl, hnc⟩ := hS.form
        have ME := mentionsE r wr
        go_wp2_with fail
        refine ME.mono ?_
        rintro e w8 ⟨rfl, rfl⟩
        go_wp2_with fail
        refine ME.mono ?_
        rintro e w9 ⟨rfl, rfl⟩
        have es1 : w9.drew.setCell ⟨p, 0, none⟩ (.map (some b)) = w9.drew := Rw.same (w := w9.drew) h.cp
        have es2 : w9.drew.setCell ⟨q, 0, none⟩ (.slice na (folC (fol [] T.I T.n) T.C T.cn).length nc) = w9.drew := Rw.same (w := w9.drew) hq
        have PN : Pl w9.drew w.heap.size p q b D (folC (fol [] T.I T.n) T.C T.cn) := h.below (bel_d1 _)
        have hqd : Rw 110 w9.drew q #[.slice na (folC (fol [] T.I T.n) T.C T.cn).length nc] := hq
        have hBd := bel_tr hB (bel_d1 w9)
        have g0 : w9.drew.frozen? ⟨p, 0, none⟩ = false := c1
        have g1 : w9.drew.frozen? ⟨q, 0, none⟩ = false := d1
        go_wp2_with fail
        go_region_held3 (fun w' => w'.cell? ⟨p, 0, none⟩ = some (.map (some b)) ∧ w'.cell? ⟨q, 0, none⟩ = some (.slice na (folC (fol [] T.I T.n) T.C T.cn).length nc))
          (exact ⟨c0, d0⟩)
          (fail)
        have k0 : w9.drew.cell? ⟨p, 0, none⟩ = some (.map (some b)) := c0
        have k1 : w9.drew.cell? ⟨q, 0, none⟩ = some (.slice na (folC (fol [] T.I T.n) T.C T.cn).length nc) := d0
        go_wp2
        exact bodyPost_ret (v := .tuple #[.map (some b), .slice na (folC (fol [] T.I T.n) T.C T.cn).length nc]) (by simp [results, Tryz.results62, go_sem, k0, k1]) rfl ⟨p, q, b, D, _, rfl, PN, hqd, hBd⟩
end Go.Proofs.YtpkfiomabiacaaaGreatDoor
