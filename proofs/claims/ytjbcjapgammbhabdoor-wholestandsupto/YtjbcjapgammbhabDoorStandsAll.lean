import Derived.Test.YtjbcjapgammbhabDoorWhG
import Derived.Test.YtjbcjapgammbhabDoorWhN
import Derived.Test.YtjbcjapgammbhabDoorWhAbs
import Derived.Test.YtjbcjapgammbhabDoorWhNeg
import Derived.Test.YtjbcjapgammbhabDoorOpen
namespace Go.Proofs.YtjbcjapgammbhabDoor
open Go.RowKit

/-- The flag and the slice tell the whole number x, in whatever way, S limbs at the most. -/
def TI (w : World) (b : Bool) (a : Option Addr) (n c : Nat) (x : Int) (S : Nat) : Prop := ∃ m, Num w a n c m S ∧ ws b m = x
theorem TI.below {w w' : World} {b : Bool} {a : Option Addr} {n c : Nat} {x : Int} {S : Nat} (h : TI w b a n c x S) (hb : Below w.heap.size w w') : TI w' b a n c x S := by
  obtain ⟨m, h1, h2⟩ := h; exact ⟨m, h1.below hb, h2⟩
theorem TI.drewN {w : World} {b : Bool} {a : Option Addr} {n c : Nat} {x : Int} {S : Nat} (h : TI w b a n c x S) (j : Nat) : TI (w.drewN j) b a n c x S := h.below (belN (Below.refl _ _) j)
theorem GI.form {w : World} {B : Nat} {v : Value} {x : Int} {S : Nat} (h : GI w B v x S) : ∃ b a n c, v = .agg #[.bool b, .slice a n c] := by
  obtain ⟨a, n, c, h1, _⟩ := h; exact ⟨_, a, n, c, h1⟩
theorem GI.ti {w : World} {B : Nat} {b : Bool} {a : Option Addr} {n c : Nat} {x : Int} {S : Nat} (h : GI w B (.agg #[.bool b, .slice a n c]) x S) : TI w b a n c x S := by
  obtain ⟨h1, h2⟩ := h.parts
  exact ⟨_, h2.num, by rw [h1]; exact ws_sign x⟩
theorem addT {a b : Option Addr} {p q : Bool} {na nb ca cb : Nat} {x y : Int} {S R : Nat} (w : World) (ha : TI w p a na ca x S) (hb : TI w q b nb cb y R) (hS : S ≤ 10000000) (hR : R ≤ 10000000) :
    Calls Tryd.prog 26 #[.agg #[.bool p, .slice a na ca], .agg #[.bool q, .slice b nb cb]] w fun e w' => ∃ f c n d, e = .returned (.agg #[.bool f, .slice c n d]) ∧ GI w' w.heap.size (.agg #[.bool f, .slice c n d]) (x + y) (S + R + 1) ∧ Below w.heap.size w w' := by
  obtain ⟨m, h1, rfl⟩ := ha
  obtain ⟨k, h2, rfl⟩ := hb
  refine (addI p q w h1 h2 (by omega) (by omega)).mono ?_
  rintro e w' ⟨v, rfl, G, hb⟩
  obtain ⟨f, c, n, d, rfl⟩ := G.form
  exact ⟨f, c, n, d, rfl, G, hb⟩
theorem subT {a b : Option Addr} {p q : Bool} {na nb ca cb : Nat} {x y : Int} {S R : Nat} (w : World) (ha : TI w p a na ca x S) (hb : TI w q b nb cb y R) (hS : S ≤ 10000000) (hR : R ≤ 10000000) :
    Calls Tryd.prog 31 #[.agg #[.bool p, .slice a na ca], .agg #[.bool q, .slice b nb cb]] w fun e w' => ∃ f c n d, e = .returned (.agg #[.bool f, .slice c n d]) ∧ GI w' w.heap.size (.agg #[.bool f, .slice c n d]) (x - y) (S + R + 1) ∧ Below w.heap.size w w' := by
  obtain ⟨m, h1, rfl⟩ := ha
  obtain ⟨k, h2, rfl⟩ := hb
  refine (subI p q w h1 h2 (by omega) (by omega)).mono ?_
  rintro e w' ⟨v, rfl, G, hb⟩
  obtain ⟨f, c, n, d, rfl⟩ := G.form
  exact ⟨f, c, n, d, rfl, G, hb⟩
theorem mulT {a b : Option Addr} {p q : Bool} {na nb ca cb : Nat} {x y : Int} {S R : Nat} (w : World) (ha : TI w p a na ca x S) (hb : TI w q b nb cb y R) (hS : S ≤ 10000000) (hR : R ≤ 10000000) :
    Calls Tryd.prog 28 #[.agg #[.bool p, .slice a na ca], .agg #[.bool q, .slice b nb cb]] w fun e w' => ∃ f c n d, e = .returned (.agg #[.bool f, .slice c n d]) ∧ GI w' w.heap.size (.agg #[.bool f, .slice c n d]) (x * y) (S + R) ∧ Below w.heap.size w w' := by
  obtain ⟨m, h1, rfl⟩ := ha
  obtain ⟨k, h2, rfl⟩ := hb
  refine (mulI p q w h1 h2 (by omega) (by omega)).mono ?_
  rintro e w' ⟨v, rfl, G, hb⟩
  obtain ⟨f, c, n, d, rfl⟩ := G.form
  exact ⟨f, c, n, d, rfl, G, hb⟩
theorem signT {a : Option Addr} {p : Bool} {na ca : Nat} {x : Int} {S : Nat} (w : World) (ha : TI w p a na ca x S) (hS : S ≤ 10000000) :
    Calls Tryd.prog 35 #[.agg #[.bool p, .slice a na ca]] w fun e w' => e = .returned (.int .i64 x.sign) ∧ Below w.heap.size w w' := by
  obtain ⟨m, h1, rfl⟩ := ha
  exact signI p w h1 (by omega)
theorem cmpT {a b : Option Addr} {p q : Bool} {na nb ca cb : Nat} {x y : Int} {S R : Nat} (w : World) (ha : TI w p a na ca x S) (hb : TI w q b nb cb y R) (hS : S ≤ 10000000) (hR : R ≤ 10000000) :
    Calls Tryd.prog 34 #[.agg #[.bool p, .slice a na ca], .agg #[.bool q, .slice b nb cb]] w fun e w' => e = .returned (.int .i64 (x - y).sign) ∧ Below w.heap.size w w' := by
  obtain ⟨m, h1, rfl⟩ := ha
  obtain ⟨k, h2, rfl⟩ := hb
  exact wcmpI p q w h1 h2 (by omega) (by omega)
theorem ofT (v : Int) (w : World) (h0 : -9223372036854775808 ≤ v) (h1 : v < 9223372036854775808) :
    Calls Tryd.prog 29 #[.int .i64 v] w fun e w' => ∃ f c n d, e = .returned (.agg #[.bool f, .slice c n d]) ∧ GI w' w.heap.size (.agg #[.bool f, .slice c n d]) (v) (1) ∧ Below w.heap.size w w' := by
  refine (ofI v w h0 h1).mono ?_
  rintro e w' ⟨u, rfl, G, hb⟩
  obtain ⟨f, c, n, d, rfl⟩ := G.form
  exact ⟨f, c, n, d, rfl, G, hb⟩
end Go.Proofs.YtjbcjapgammbhabDoor

namespace Go.Proofs.YtjbcjapgammbhabDoor
open Go.RowKit

theorem normT {a : Option Addr} {p : Bool} {na ca : Nat} {x : Int} {S : Nat} (w : World) (ha : TI w p a na ca x S) (hS : S ≤ 10000000) :
    Calls Tryd.prog 32 #[.agg #[.bool p, .slice a na ca]] w fun e w' => ∃ f c n d, e = .returned (.agg #[.bool f, .slice c n d]) ∧ GI w' w.heap.size (.agg #[.bool f, .slice c n d]) (x) (S) ∧ Below w.heap.size w w' := by
  obtain ⟨m, h1, rfl⟩ := ha
  refine (normI p w h1 (by omega)).mono ?_
  rintro e w' ⟨v, rfl, G, hb⟩
  obtain ⟨f, c, n, d, rfl⟩ := G.form
  exact ⟨f, c, n, d, rfl, G, hb⟩
end Go.Proofs.YtjbcjapgammbhabDoor

namespace Go.Proofs.YtjbcjapgammbhabDoor
open Go.RowKit

theorem absT {a : Option Addr} {p : Bool} {na ca : Nat} {x : Int} {S : Nat} (w : World) (ha : TI w p a na ca x S) (hS : S ≤ 10000000) :
    Calls Tryd.prog 37 #[.agg #[.bool p, .slice a na ca]] w fun e w' => ∃ c n d, e = .returned (.slice c n d) ∧ Got w' w.heap.size (.slice c n d) (x.natAbs : Int) S ∧ Below w.heap.size w w' := by
  obtain ⟨m, h1, rfl⟩ := ha
  have h0 := h1.nn
  rw [ws_abs h0]
  exact absI p w h1 (by omega)
end Go.Proofs.YtjbcjapgammbhabDoor

namespace Go.Proofs.YtjbcjapgammbhabDoor
open Go.RowKit

theorem negT {a : Option Addr} {p : Bool} {na ca : Nat} {x : Int} {S : Nat} (w : World) (ha : TI w p a na ca x S) (hS : S ≤ 10000000) :
    Calls Tryd.prog 30 #[.agg #[.bool p, .slice a na ca]] w fun e w' => ∃ f c n d, e = .returned (.agg #[.bool f, .slice c n d]) ∧ GI w' w.heap.size (.agg #[.bool f, .slice c n d]) (-x) (S) ∧ Below w.heap.size w w' := by
  obtain ⟨m, h1, rfl⟩ := ha
  refine (negI p w h1 (by omega)).mono ?_
  rintro e w' ⟨v, rfl, G, hb⟩
  obtain ⟨f, c, n, d, rfl⟩ := G.form
  exact ⟨f, c, n, d, rfl, G, hb⟩
end Go.Proofs.YtjbcjapgammbhabDoor

namespace Go.Proofs.YtjbcjapgammbhabDoor
open Go.RowKit

theorem top_ne {xs : List Int} {k : Nat} (h : NF xs) (hk : k + 1 = xs.length) : lm xs k ≠ 0 := by
  have := tlen_top h.1 (m := k) (by rw [h.2]; omega)
  omega
set_option maxRecDepth 100000 in
set_option maxHeartbeats 1000000 in
/-- same: two answers of one number. -/
theorem sameI {a b : Option Addr} {na nb ca cb B B' : Nat} {x : Int} {S R : Nat} (p q : Bool) (w : World) (ha : GI w B (.agg #[.bool p, .slice a na ca]) x S) (hb : GI w B' (.agg #[.bool q, .slice b nb cb]) x R) (hS : S ≤ 10000000000) :
    Calls Tryd.prog 27 #[.agg #[.bool p, .slice a na ca], .agg #[.bool q, .slice b nb cb]] w fun e w' => e = .returned (.bool true) ∧ Below w.heap.size w w' := by
  obtain ⟨hp, xs, o1, nf1, v1, l1⟩ := ha.parts
  obtain ⟨hq, ys, o2, nf2, v2, l2⟩ := hb.parts
  obtain rfl : xs = ys := nf_unique nf1 nf2 (by omega)
  obtain rfl : p = q := by rw [hp, hq]
  obtain ⟨r1, r2, r3⟩ := o1.reads
  obtain ⟨s1, s2, s3⟩ := o2.reads
  obtain rfl : na = nb := by omega
  obtain ⟨P0, P1, hb0, hsz⟩ := box2 w (.bool p) (.slice a na ca) (.bool p) (.slice b na cb) 30
  replace r3 := r3.below hb0
  replace s3 := s3.below hb0
  have hna : na ≤ 10000000000 := by omega
  have Hn : Hid (na = xs.length) := r1
  clear r1 s1 o1 o2 nf1 nf2 v1 v2 l1 l2 hp hq ha hb
  go_enter Tryd.func27, Tryd.ntmps27
  go_wp2_with fail
  generalize (w.alloc (.cells #[.bool p, .slice a na ca] 30)).alloc (.cells #[.bool p, .slice b na cb] 30) = W0 at *
  obtain ⟨p00, p01, p02, p03⟩ := id P0
  obtain ⟨p10, p11, p12, p13⟩ := id P1
  go_loopw [5, 6] (fun ok i wr => ∃ k : Nat, ok = .bool true ∧ i = .int .i64 k ∧ k ≤ na ∧ Var2 wr w.heap.size (.bool p) (.slice a na ca) ∧ Var2 wr (w.heap.size + 1) (.bool p) (.slice b na cb) ∧ Reads wr a xs ∧ Reads wr b xs ∧ Below w.heap.size w wr) (fun _ i _ => na - (intOf i).toNat)
  case atStart => exact ⟨0, rfl, by go_num, Nat.zero_le _, P0, P1, r3, s3, hb0⟩
  case round =>
    clear p00 p01 p02 p03 p10 p11 p12 p13 P0 P1 r3 s3 hb0
    obtain ⟨k, rfl, rfl, hk, P0, P1, r3, s3, hb0⟩ := hrel
    obtain ⟨p00, p01, p02, p03⟩ := id P0
    obtain ⟨p10, p11, p12, p13⟩ := id P1
    by_cases hlt : k < na
    · obtain ⟨bb, oo, rfl, hc⟩ := r3.at (by have := Hn.out; omega)
      obtain ⟨bb', oo', rfl, hc'⟩ := s3.at (by have := Hn.out; omega)
      have c1 := hc k (by have := Hn.out; omega)
      have c2 := hc' k (by have := Hn.out; omega)
      have hki : (k : Int) < na := by omega
      generalize lm xs k = X at *
      clear hc hc'
      go_wp2
      go_quiet (fail)
      go_wp2
      have hq : Below wr.heap.size wr (wr.drewN nq) := belN (Below.refl _ _) nq
      exact ⟨⟨k + 1, rfl, by go_num, by omega, P0.below hq, P1.below hq, r3.below hq, s3.below hq, bel_tr hb0 hq⟩, by simp [intOf]; omega⟩
    · obtain rfl : k = na := by omega
      go_wp2
      go_ret
      exact ⟨rfl, hb0⟩
set_option maxRecDepth 100000 in
set_option maxHeartbeats 1000000 in
/-- good: an answer in the one form. -/
theorem goodI {a : Option Addr} {na ca B : Nat} {x : Int} {S : Nat} (p : Bool) (w : World) (ha : GI w B (.agg #[.bool p, .slice a na ca]) x S) (hS : S ≤ 10000000000) :
    Calls Tryd.prog 33 #[.agg #[.bool p, .slice a na ca]] w fun e w' => e = .returned (.bool true) ∧ Below w.heap.size w w' := by
  obtain ⟨hp, xs, o1, nf1, v1, l1⟩ := ha.parts
  obtain ⟨r1, r2, r3⟩ := o1.reads
  obtain ⟨P0, hb0, hsz⟩ := box1 w (.bool p) (.slice a na ca) 30
  replace r3 := r3.below hb0
  have hna : na ≤ 10000000000 := by omega
  by_cases h0 : na = 0
  · have hx : x = 0 := by
      have h1 := (tlen_zero nf1.1).1 (by rw [nf1.2]; omega)
      omega
    obtain rfl : p = false := by rw [hp, hx]; rfl
    subst h0
    clear ha o1 nf1 v1 hp r3 r1 r2 l1 hx
    go_enter Tryd.func33, Tryd.ntmps33
    go_wp2
    go_ret
    exact ⟨rfl, hb0⟩
  · obtain ⟨bb, oo, rfl, hc⟩ := r3.at (by omega)
    obtain ⟨k, hk⟩ : ∃ k, na = k + 1 := ⟨na - 1, by omega⟩
    have htop : lm xs k ≠ 0 := top_ne nf1 (by omega)
    have hck := hc k (by omega)
    subst hk
    generalize lm xs k = X at *
    clear ha o1 nf1 v1 hp hc r1 r2
    go_enter Tryd.func33, Tryd.ntmps33
    have HX : Hid ((X != 0) = true) := by simpa [Hid] using htop
    clear htop
    go_wp2
    go_ret
    refine ⟨?_, hb0⟩
    first
      | rfl
      | (show Ending.returned (Value.bool (X != 0)) = _
         rw [HX.out])
end Go.Proofs.YtjbcjapgammbhabDoor

namespace Go.Proofs.YtjbcjapgammbhabDoor
open Go.RowKit

theorem lm_ext {xs ys : List Int} (hl : xs.length = ys.length) (h : ∀ i, i < xs.length → lm xs i = lm ys i) : xs = ys := by
  apply List.ext_getElem hl
  intro i h1 h2
  have := h i h1
  have e1 := lm_lt h1
  have e2 := lm_lt h2
  rw [List.getElem?_eq_getElem h1] at e1
  rw [List.getElem?_eq_getElem h2] at e2
  rw [Option.some.injEq] at e1 e2
  rw [e1, e2, this]
/-- The first place at which two lists part. -/
theorem first_apart {xs ys : List Int} (hl : xs.length = ys.length) (hne : xs ≠ ys) : ∃ j, j < xs.length ∧ lm xs j ≠ lm ys j ∧ ∀ i, i < j → lm xs i = lm ys i := by
  have hex : ∃ j, j < xs.length ∧ lm xs j ≠ lm ys j := Classical.byContradiction fun hn => hne (lm_ext hl fun i hi => Classical.byContradiction fun h => hn ⟨i, hi, h⟩)
  obtain ⟨j, hj⟩ := hex
  induction j using Nat.strongRecOn with
  | ind j ih =>
    by_cases h : ∃ i, i < j ∧ lm xs i ≠ lm ys i
    · obtain ⟨i, h1, h2⟩ := h
      exact ih i h1 ⟨by omega, h2⟩
    · exact ⟨j, hj.1, hj.2, fun i hi => Classical.byContradiction fun hh => h ⟨i, hi, hh⟩⟩
set_option maxRecDepth 100000 in
set_option maxHeartbeats 1000000 in
theorem sameD {a b : Option Addr} {na nb ca cb B B' : Nat} {x y : Int} {S R : Nat} (p q : Bool) (w : World) (ha : GI w B (.agg #[.bool p, .slice a na ca]) x S) (hb : GI w B' (.agg #[.bool q, .slice b nb cb]) y R) (hS : S ≤ 10000000000) (hR : R ≤ 10000000000) (hxy : x ≠ y) :
    Calls Tryd.prog 27 #[.agg #[.bool p, .slice a na ca], .agg #[.bool q, .slice b nb cb]] w fun e w' => e = .returned (.bool false) ∧ Below w.heap.size w w' := by
  obtain ⟨hp, xs, o1, nf1, v1, l1⟩ := ha.parts
  obtain ⟨hq, ys, o2, nf2, v2, l2⟩ := hb.parts
  obtain ⟨r1, r2, r3⟩ := o1.reads
  obtain ⟨s1, s2, s3⟩ := o2.reads
  obtain ⟨P0, P1, hb0, hsz⟩ := box2 w (.bool p) (.slice a na ca) (.bool q) (.slice b nb cb) 30
  have hna : na ≤ 10000000000 := by omega
  have hnb : nb ≤ 10000000000 := by omega
  by_cases hpq : p = q
  · subst hpq
    by_cases hn : na = nb
    · subst hn
      have hne : xs ≠ ys := by
        intro e
        rw [e] at v1
        have h1 : decide (x < 0) = decide (y < 0) := by rw [← hp, ← hq]
        have h2 : (x < 0) ↔ (y < 0) := by simpa using h1
        omega
      obtain ⟨j, hj, hd, hlow⟩ := first_apart (by omega) hne
      replace r3 := r3.below hb0
      replace s3 := s3.below hb0
      have Hn : Hid (na = xs.length) := r1
      have Hm : Hid (na = ys.length) := s1
      have HJ : Hid (j < na) := by show j < na; omega
      have HD : Hid (lm xs j ≠ lm ys j) := hd
      have HL : Hid (∀ i, i < j → lm xs i = lm ys i) := hlow
      clear r1 s1 o1 o2 nf1 nf2 v1 v2 l1 l2 hp hq ha hb hne hj hd hlow
      go_enter Tryd.func27, Tryd.ntmps27
      go_wp2_with fail
      generalize (w.alloc (.cells #[.bool p, .slice a na ca] 30)).alloc (.cells #[.bool p, .slice b na cb] 30) = W0 at *
      obtain ⟨p00, p01, p02, p03⟩ := id P0
      obtain ⟨p10, p11, p12, p13⟩ := id P1
      go_loopw [5, 6] (fun ok i wr => ∃ k : Nat, ((ok = .bool true ∧ k ≤ j) ∨ (ok = .bool false ∧ k ≤ j + 1)) ∧ i = .int .i64 k ∧ Var2 wr w.heap.size (.bool p) (.slice a na ca) ∧ Var2 wr (w.heap.size + 1) (.bool p) (.slice b na cb) ∧ Reads wr a xs ∧ Reads wr b ys ∧ Below w.heap.size w wr) (fun _ i _ => na - (intOf i).toNat)
      case atStart => exact ⟨0, .inl ⟨rfl, Nat.zero_le _⟩, by go_num, P0, P1, r3, s3, hb0⟩
      case round =>
        clear p00 p01 p02 p03 p10 p11 p12 p13 P0 P1 r3 s3 hb0
        obtain ⟨k, hor, rfl, P0, P1, r3, s3, hb0⟩ := hrel
        obtain ⟨p00, p01, p02, p03⟩ := id P0
        obtain ⟨p10, p11, p12, p13⟩ := id P1
        have hjn := HJ.out
        rcases hor with ⟨rfl, hk⟩ | ⟨rfl, hk⟩
        · obtain ⟨bb, oo, rfl, hc⟩ := r3.at (by have := Hn.out; omega)
          obtain ⟨bb', oo', rfl, hc'⟩ := s3.at (by have := Hm.out; omega)
          have c1 := hc k (by have := Hn.out; omega)
          have c2 := hc' k (by have := Hm.out; omega)
          have hki : (k : Int) < na := by omega
          by_cases hkj : k = j
          · subst hkj
            have HX : Hid (lm xs k ≠ lm ys k) := HD.out
            obtain ⟨X, hX⟩ : ∃ X, lm xs k = X := ⟨_, rfl⟩
            obtain ⟨Y, hY⟩ : ∃ Y, lm ys k = Y := ⟨_, rfl⟩
            have hXY : (X == Y) = false := by
              have := HX.out
              rw [hX, hY] at this
              simpa using this
            rw [hX] at c1
            rw [hY] at c2
            clear hc hc' hX hY
            go_wp2
            go_quiet (fail)
            go_wp2
            have hq : Below wr.heap.size wr (wr.drewN nq) := belN (Below.refl _ _) nq
            exact ⟨⟨k + 1, .inr ⟨by first | rfl | rw [hXY], by omega⟩, by go_num, P0.below hq, P1.below hq, r3.below hq, s3.below hq, bel_tr hb0 hq⟩, by simp [intOf]; omega⟩
          · have he := HL.out k (by omega)
            rw [← he] at c2
            generalize lm xs k = X at *
            clear hc hc' he
            go_wp2
            go_quiet (fail)
            go_wp2
            have hq : Below wr.heap.size wr (wr.drewN nq) := belN (Below.refl _ _) nq
            exact ⟨⟨k + 1, .inl ⟨rfl, by omega⟩, by go_num, P0.below hq, P1.below hq, r3.below hq, s3.below hq, bel_tr hb0 hq⟩, by simp [intOf]; omega⟩
        · go_wp2
          go_ret
          exact ⟨rfl, hb0⟩
    · have hn1 : ((na : Int) == (nb : Int)) = false := by simp; omega
      clear ha hb o1 o2 nf1 nf2 v1 v2 hp hq r1 s1 r3 s3 l1 l2
      go_enter Tryd.func27, Tryd.ntmps27
      go_wp2_with fail
      go_loopw [5, 6] (fun ok _ wr => ok = .bool false ∧ Below w.heap.size w wr) (fun _ _ _ => 0)
      case atStart => exact ⟨rfl, hb0⟩
      case round =>
        obtain ⟨rfl, hbr⟩ := hrel
        go_wp2
        go_ret
        exact ⟨rfl, hbr⟩
  · have hpq1 : (p == q) = false := by simpa using hpq
    clear ha hb o1 o2 nf1 nf2 v1 v2 hp hq r1 s1 r3 s3 l1 l2
    go_enter Tryd.func27, Tryd.ntmps27
    go_wp2_with fail
    go_loopw [5, 6] (fun ok _ wr => ok = .bool false ∧ Below w.heap.size w wr) (fun _ _ _ => 0)
    case atStart => exact ⟨rfl, hb0⟩
    case round =>
      obtain ⟨rfl, hbr⟩ := hrel
      go_wp2
      go_ret
      exact ⟨rfl, hbr⟩
end Go.Proofs.YtjbcjapgammbhabDoor

namespace Go.Proofs.YtjbcjapgammbhabDoor
open Go.RowKit

theorem cmpE {a b : Option Addr} {p q : Bool} {na nb ca cb : Nat} {x y s : Int} {S R : Nat} (w : World) (ha : TI w p a na ca x S) (hb : TI w q b nb cb y R) (hS : S ≤ 10000000) (hR : R ≤ 10000000) (h : (x - y).sign = s) :
    Calls Tryd.prog 34 #[.agg #[.bool p, .slice a na ca], .agg #[.bool q, .slice b nb cb]] w fun e w' => e = .returned (.int .i64 s) ∧ Below w.heap.size w w' := by
  rw [← h]; exact cmpT w ha hb hS hR
theorem signE {a : Option Addr} {p : Bool} {na ca : Nat} {x s : Int} {S : Nat} (w : World) (ha : TI w p a na ca x S) (hS : S ≤ 10000000) (h : x.sign = s) :
    Calls Tryd.prog 35 #[.agg #[.bool p, .slice a na ca]] w fun e w' => e = .returned (.int .i64 s) ∧ Below w.heap.size w w' := by
  rw [← h]; exact signT w ha hS
theorem sameS {a b : Option Addr} {na nb ca cb B B' : Nat} {x y : Int} {S R : Nat} {p q sb : Bool} (hsb : sb = true ↔ x = y) (w : World) (ha : GI w B (.agg #[.bool p, .slice a na ca]) x S) (hb : GI w B' (.agg #[.bool q, .slice b nb cb]) y R) (hS : S ≤ 10000000) (hR : R ≤ 10000000) :
    Calls Tryd.prog 27 #[.agg #[.bool p, .slice a na ca], .agg #[.bool q, .slice b nb cb]] w fun e w' => e = .returned (.bool sb) ∧ Below w.heap.size w w' := by
  cases sb with
  | true =>
    obtain rfl := hsb.1 rfl
    exact sameI p q w ha hb (by omega)
  | false => exact sameD p q w ha hb (by omega) (by omega) (fun h => by have := hsb.2 h; cases this)
theorem fromT {a : Option Addr} {na ca : Nat} {m x : Int} {S : Nat} {b : Bool} (w : World) (ha : Num w a na ca m S) (hS : S ≤ 10000000) (h : ws b m = x) :
    Calls Tryd.prog 36 #[.bool b, .slice a na ca] w fun e w' => ∃ f c n d, e = .returned (.agg #[.bool f, .slice c n d]) ∧ GI w' w.heap.size (.agg #[.bool f, .slice c n d]) x S ∧ Below w.heap.size w w' := by
  subst h
  refine (fromI b w ha (by omega)).mono ?_
  rintro e w' ⟨v, rfl, G, hb⟩
  obtain ⟨f, c, n, d, rfl⟩ := G.form
  exact ⟨f, c, n, d, rfl, G, hb⟩
set_option maxHeartbeats 4000000 in
theorem stands_walk {a b c : Option Addr} {p q r : Bool} {na nb nc ca cb cc : Nat} {x y z : Int} (w : World) (ha : TI w p a na ca x 1048576) (hb : TI w q b nb cb y 1048576) (hc : TI w r c nc cc z 1048576) :
    Calls Tryd.prog 7 #[.agg #[.bool p, .slice a na ca], .agg #[.bool q, .slice b nb cb], .agg #[.bool r, .slice c nc cc]] w fun e w' => e = .returned (.bool true) ∧ Below w.heap.size w w' := by
  obtain ⟨P0, P1, P2, hb0, hsz⟩ := box3 w (.bool p) (.slice a na ca) (.bool q) (.slice b nb cb) (.bool r) (.slice c nc cc) 30
  replace ha := ha.below hb0
  replace hb := hb.below hb0
  replace hc := hc.below hb0
  go_enter Tryd.func7, Tryd.ntmps7
  go_wp2_with fail
  generalize ((w.alloc (.cells #[.bool p, .slice a na ca] 30)).alloc (.cells #[.bool q, .slice b nb cb] 30)).alloc (.cells #[.bool r, .slice c nc cc] 30) = W0 at *
  obtain ⟨p00, p01, -, -⟩ := id P0
  obtain ⟨p10, p11, -, -⟩ := id P1
  obtain ⟨p20, p21, -, -⟩ := id P2
  refine (awakeI _).mono ?_
  rintro e w1 ⟨rfl, hx⟩
  replace P0 := P0.below hx
  replace P1 := P1.below hx
  replace P2 := P2.below hx
  replace ha := ha.below hx
  replace hb := hb.below hx
  replace hc := hc.below hx
  replace hb0 := bel_tr hb0 hx
  clear hx p00 p01 p10 p11 p20 p21
  obtain ⟨p00, p01, -, -⟩ := id P0
  obtain ⟨p10, p11, -, -⟩ := id P1
  obtain ⟨p20, p21, -, -⟩ := id P2
  obtain ⟨AB, hAB⟩ : ∃ s, (x - y).sign = s := ⟨_, rfl⟩
  obtain ⟨BC, hBC⟩ : ∃ s, (y - z).sign = s := ⟨_, rfl⟩
  obtain ⟨AC, hAC⟩ : ∃ s, (x - z).sign = s := ⟨_, rfl⟩
  obtain ⟨SC, hSC⟩ : ∃ s, z.sign = s := ⟨_, rfl⟩
  have HAB : Hid ((x - y).sign = AB) := hAB
  have HBC : Hid ((y - z).sign = BC) := hBC
  have HAC : Hid ((x - z).sign = AC) := hAC
  have HSC : Hid (z.sign = SC) := hSC
  have fAB := sign_is (x - y)
  have fBC := sign_is (y - z)
  have fAC := sign_is (x - z)
  have fSC := sign_is z
  rw [hAB] at fAB
  rw [hBC] at fBC
  rw [hAC] at fAC
  rw [hSC] at fSC
  have HBA : Hid ((y - x).sign = -AB) := by show _ = _; rw [← hAB, ← Int.sign_neg]; congr 1; omega
  have HPR : Hid ((x * z - y * z).sign = SC * AB) := by show _ = _; rw [← Int.sub_mul, Int.sign_mul, hAB, hSC, Int.mul_comm]
  have HWR : IntKind.i64.wrap (SC * AB) = SC * AB := by rw [← hSC, ← hAB]; exact sign_wrap z (x - y)
  have HNZ : Hid ((-z).sign = -SC) := by show _ = _; rw [Int.sign_neg, hSC]
  have HFS : Hid (ws (decide (SC < 0)) (z.natAbs : Int) = z) := by
    show _ = _
    have h1 : decide (SC < 0) = decide (z < 0) := by
      have h2 : SC < 0 ↔ z < 0 := by omega
      simp only [h2]
    rw [h1]; exact ws_sign z
  have hab0 : -1 ≤ AB := by omega
  have hab1 : AB ≤ 1 := by omega
  have hsc0 : -1 ≤ SC := by omega
  have hsc1 : SC ≤ 1 := by omega
  have FAB : Hid ((AB = 0 ∧ x - y = 0) ∨ (AB = -1 ∧ x - y < 0) ∨ (AB = 1 ∧ 0 < x - y)) := fAB
  have FBC : Hid ((BC = 0 ∧ y - z = 0) ∨ (BC = -1 ∧ y - z < 0) ∨ (BC = 1 ∧ 0 < y - z)) := fBC
  have FAC : Hid ((AC = 0 ∧ x - z = 0) ∨ (AC = -1 ∧ x - z < 0) ∨ (AC = 1 ∧ 0 < x - z)) := fAC
  clear hAB hBC hAC hSC fAB fBC fAC fSC
  go_wp2_with fail
  refine (cmpE _ ha hb (by omega) (by omega) HAB.out).mono ?_
  rintro e w2 ⟨rfl, hx⟩
  replace P0 := P0.below hx
  replace P1 := P1.below hx
  replace P2 := P2.below hx
  replace ha := ha.below hx
  replace hb := hb.below hx
  replace hc := hc.below hx
  replace hb0 := bel_tr hb0 hx
  clear hx p00 p01 p10 p11 p20 p21
  obtain ⟨p00, p01, -, -⟩ := id P0
  obtain ⟨p10, p11, -, -⟩ := id P1
  obtain ⟨p20, p21, -, -⟩ := id P2
  go_wp2_with fail
  refine (cmpE _ hb hc (by omega) (by omega) HBC.out).mono ?_
  rintro e w3 ⟨rfl, hx⟩
  replace P0 := P0.below hx
  replace P1 := P1.below hx
  replace P2 := P2.below hx
  replace ha := ha.below hx
  replace hb := hb.below hx
  replace hc := hc.below hx
  replace hb0 := bel_tr hb0 hx
  clear hx p00 p01 p10 p11 p20 p21
  obtain ⟨p00, p01, -, -⟩ := id P0
  obtain ⟨p10, p11, -, -⟩ := id P1
  obtain ⟨p20, p21, -, -⟩ := id P2
  go_wp2_with fail
  refine (cmpE _ ha hc (by omega) (by omega) HAC.out).mono ?_
  rintro e w4 ⟨rfl, hx⟩
  replace P0 := P0.below hx
  replace P1 := P1.below hx
  replace P2 := P2.below hx
  replace ha := ha.below hx
  replace hb := hb.below hx
  replace hc := hc.below hx
  replace hb0 := bel_tr hb0 hx
  clear hx p00 p01 p10 p11 p20 p21
  obtain ⟨p00, p01, -, -⟩ := id P0
  obtain ⟨p10, p11, -, -⟩ := id P1
  obtain ⟨p20, p21, -, -⟩ := id P2
  go_wp2_with fail
  refine (signE _ hc (by omega) HSC.out).mono ?_
  rintro e w5 ⟨rfl, hx⟩
  replace P0 := P0.below hx
  replace P1 := P1.below hx
  replace P2 := P2.below hx
  replace ha := ha.below hx
  replace hb := hb.below hx
  replace hc := hc.below hx
  replace hb0 := bel_tr hb0 hx
  clear hx p00 p01 p10 p11 p20 p21
  obtain ⟨p00, p01, -, -⟩ := id P0
  obtain ⟨p10, p11, -, -⟩ := id P1
  obtain ⟨p20, p21, -, -⟩ := id P2
  go_wp2_with fail
  refine (subT _ ha hb (by omega) (by omega)).mono ?_
  rintro e w6 ⟨f6, c6, n6, d6, rfl, G6, hx⟩
  replace P0 := P0.below hx
  replace P1 := P1.below hx
  replace P2 := P2.below hx
  replace ha := ha.below hx
  replace hb := hb.below hx
  replace hc := hc.below hx
  replace hb0 := bel_tr hb0 hx
  clear hx p00 p01 p10 p11 p20 p21
  obtain ⟨p00, p01, -, -⟩ := id P0
  obtain ⟨p10, p11, -, -⟩ := id P1
  obtain ⟨p20, p21, -, -⟩ := id P2
  go_wp2_with fail
  refine (signE _ G6.ti (by omega) HAB.out).mono ?_
  rintro e w7 ⟨rfl, hx⟩
  replace P0 := P0.below hx
  replace P1 := P1.below hx
  replace P2 := P2.below hx
  replace ha := ha.below hx
  replace hb := hb.below hx
  replace hc := hc.below hx
  replace hb0 := bel_tr hb0 hx
  clear hx G6 p00 p01 p10 p11 p20 p21
  obtain ⟨p00, p01, -, -⟩ := id P0
  obtain ⟨p10, p11, -, -⟩ := id P1
  obtain ⟨p20, p21, -, -⟩ := id P2
  go_wp2_with fail
  refine (cmpE _ hb ha (by omega) (by omega) HBA.out).mono ?_
  rintro e w8 ⟨rfl, hx⟩
  replace P0 := P0.below hx
  replace P1 := P1.below hx
  replace P2 := P2.below hx
  replace ha := ha.below hx
  replace hb := hb.below hx
  replace hc := hc.below hx
  replace hb0 := bel_tr hb0 hx
  clear hx p00 p01 p10 p11 p20 p21
  obtain ⟨p00, p01, -, -⟩ := id P0
  obtain ⟨p10, p11, -, -⟩ := id P1
  obtain ⟨p20, p21, -, -⟩ := id P2
  go_wp2_with fail
  go_region_held3 (fun w' => w'.cell? ⟨w.heap.size, 0, none⟩ = some (.bool p) ∧ w'.cell? ⟨w.heap.size, 1, none⟩ = some (.slice a na ca) ∧ w'.cell? ⟨w.heap.size + 1, 0, none⟩ = some (.bool q) ∧ w'.cell? ⟨w.heap.size + 1, 1, none⟩ = some (.slice b nb cb) ∧ w'.cell? ⟨w.heap.size + 2, 0, none⟩ = some (.bool r) ∧ w'.cell? ⟨w.heap.size + 2, 1, none⟩ = some (.slice c nc cc))
    (first | (go_keep; done) | (refine ⟨?_, ?_, ?_, ?_, ?_, ?_⟩ <;> first | exact kept_c hb6 (by go_keep) | exact kept_c hb5 (by go_keep) | exact kept_c hb4 (by go_keep) | exact kept_c hb3 (by go_keep) | exact kept_c hb2 (by go_keep) | exact kept_c hb1 (by go_keep)) | (refine ⟨?_, ?_, ?_, ?_, ?_, ?_⟩ <;> first | exact set2_far (by go_keep) (by simp <;> omega) | exact kept_c (by assumption) (by assumption)))
    ((first
      | (go_at_call 26; go_fit (addT _ (ha.drewN _) (hc.drewN _) (by omega) (by omega)); rintro e v1 ⟨f1, c1, n1, d1, rfl, G1, hb1⟩; have hc1 : Below w8.heap.size w8 v1 := (by first | exact hb1 | exact bel_tr (belN (Below.refl _ w8) 1) hb1))
      | (go_at_call 26; go_fit (addT _ (hb.below hc1) (hc.below hc1) (by omega) (by omega)); rintro e v2 ⟨f2, c2, n2, d2, rfl, G2, hb2⟩; have hc2 : Below v1.heap.size v1 v2 := (by first | exact hb2 | exact bel_tr (belN (Below.refl _ v1) 1) hb2))
      | (go_at_call 34; go_fit (cmpE _ (G1.below hc2).ti G2.ti (by omega) (by omega) (show (x + z - (y + z)).sign = AB by rw [← HAB.out]; congr 1; omega)); rintro e v3 ⟨rfl, hb3⟩; have hd3 : Below v2.heap.size v2 v3 := (by first | exact hb3 | exact bel_tr (belN (Below.refl _ v2) 1) hb3); have hc3 := bel_tr (bel_tr hc1 hc2) hd3)
      | (go_at_call 28; go_fit (mulT _ (ha.below hc3) (hc.below hc3) (by omega) (by omega)); rintro e v4 ⟨f4, c4, n4, d4, rfl, G4, hb4⟩; have hd4 : Below v3.heap.size v3 v4 := (by first | exact hb4 | exact bel_tr (belN (Below.refl _ v3) 1) hb4); have hc4 := bel_tr hc3 hd4)
      | (go_at_call 28; go_fit (mulT _ (hb.below hc4) (hc.below hc4) (by omega) (by omega)); rintro e v5 ⟨f5, c5, n5, d5, rfl, G5, hb5⟩; have hd5 : Below v4.heap.size v4 v5 := (by first | exact hb5 | exact bel_tr (belN (Below.refl _ v4) 1) hb5); have hc5 := bel_tr hc4 hd5)
      | (go_at_call 34; go_fit (cmpE _ (G4.below (show Below v4.heap.size v4 v5 from hd5)).ti G5.ti (by omega) (by omega) HPR.out); rintro e v6 ⟨rfl, hb6⟩; have hd6 : Below v5.heap.size v5 v6 := (by first | exact hb6 | exact bel_tr (belN (Below.refl _ v5) 1) hb6); have hc6 := bel_tr hc5 hd6)))
  have hx := hc6
  replace P0 := P0.below hx
  replace P1 := P1.below hx
  replace P2 := P2.below hx
  replace ha := ha.below hx
  replace hb := hb.below hx
  replace hc := hc.below hx
  replace hb0 := bel_tr hb0 hx
  clear hx hb1 hb2 hb3 hb4 hb5 hb6 hc1 hc2 hc3 hc4 hc5 hc6 hd3 hd4 hd5 hd6 G1 G2 G4 G5 p00 p01 p10 p11 p20 p21
  obtain ⟨p00, p01, -, -⟩ := id P0
  obtain ⟨p10, p11, -, -⟩ := id P1
  obtain ⟨p20, p21, -, -⟩ := id P2
  obtain ⟨SB, HSB, hABS⟩ : ∃ SB : Bool, Hid (SB = true ↔ x = y) ∧ (AB == 0) = SB := by
    have h := FAB.out
    refine ⟨AB == 0, ⟨fun e => ?_, fun e => ?_⟩, rfl⟩
    · have := eq_of_beq e
      omega
    · rw [show AB = 0 by omega]; rfl
  have hsm : (x * y).sign = x.sign * y.sign := Int.sign_mul x y
  have hsw : IntKind.i64.wrap (x.sign * y.sign) = x.sign * y.sign := sign_wrap x y
  have FBC' := FBC.out
  have FAC' := FAC.out
  have hways : (¬ AB ≤ 0) ∨ (AB ≤ 0 ∧ ¬ BC ≤ 0) ∨ (AB ≤ 0 ∧ BC ≤ 0 ∧ AC ≤ 0 ∧ AB < 0 ∧ AC < 0) ∨ (AB ≤ 0 ∧ BC ≤ 0 ∧ AC ≤ 0 ∧ ¬ AB < 0 ∧ BC < 0 ∧ AC < 0) ∨ (AB ≤ 0 ∧ BC ≤ 0 ∧ AC ≤ 0 ∧ ¬ AB < 0 ∧ ¬ BC < 0 ∧ ¬ AC < 0) := by
    have h := FAB.out
    omega
  clear hab0 hab1 HWR FBC' FAC'
  rcases hways with g1 | ⟨g1, g2⟩ | ⟨g1, g2, g3, g4, g5⟩ | ⟨g1, g2, g3, g4, g5, g6⟩ | ⟨g1, g2, g3, g4, g5, g6⟩
  all_goals
    go_wp2_with fail
    go_region_held3 (fun w' => w'.cell? ⟨w.heap.size, 0, none⟩ = some (.bool p) ∧ w'.cell? ⟨w.heap.size, 1, none⟩ = some (.slice a na ca) ∧ w'.cell? ⟨w.heap.size + 1, 0, none⟩ = some (.bool q) ∧ w'.cell? ⟨w.heap.size + 1, 1, none⟩ = some (.slice b nb cb) ∧ w'.cell? ⟨w.heap.size + 2, 0, none⟩ = some (.bool r) ∧ w'.cell? ⟨w.heap.size + 2, 1, none⟩ = some (.slice c nc cc))
      (first | (go_keep; done) | (refine ⟨?_, ?_, ?_, ?_, ?_, ?_⟩ <;> first | exact kept_c hb7 (by go_keep) | exact kept_c hb6 (by go_keep) | exact kept_c hb5 (by go_keep) | exact kept_c hb4 (by go_keep) | exact kept_c hb3 (by go_keep) | exact kept_c hb2 (by go_keep) | exact kept_c hb1 (by go_keep)) | (refine ⟨?_, ?_, ?_, ?_, ?_, ?_⟩ <;> first | exact set2_far (by go_keep) (by simp <;> omega) | exact kept_c (by assumption) (by assumption)))
      ((first
        | (go_at_call 32; go_fit (normT _ (ha.drewN _) (by omega)); rintro e v1 ⟨f1, c1, n1, d1, rfl, G1, hb1⟩; have hc1 : Below v6.heap.size v6 v1 := (by first | exact hb1 | exact bel_tr (belN (Below.refl _ v6) 1) hb1))
        | (go_at_call 32; go_fit (normT _ (hb.below hc1) (by omega)); rintro e v2 ⟨f2, c2, n2, d2, rfl, G2, hb2⟩; have hd2 : Below v1.heap.size v1 v2 := (by first | exact hb2 | exact bel_tr (belN (Below.refl _ v1) 1) hb2); have hc2 := bel_tr hc1 hd2)
        | (go_at_call 27; go_fit (sameS HSB.out _ (G1.below hd2) G2 (by omega) (by omega)); rintro e v3 ⟨rfl, hb3⟩; have hd3 : Below v2.heap.size v2 v3 := (by first | exact hb3 | exact bel_tr (belN (Below.refl _ v2) 1) hb3); have hc3 := bel_tr hc2 hd3)
        | (go_at_call 28; go_fit (mulT _ (ha.below hc3) (hb.below hc3) (by omega) (by omega)); rintro e v4 ⟨f4, c4, n4, d4, rfl, G4, hb4⟩; have hd4 : Below v3.heap.size v3 v4 := (by first | exact hb4 | exact bel_tr (belN (Below.refl _ v3) 1) hb4); have hc4 := bel_tr hc3 hd4)
        | (go_at_call 35; go_fit (signE _ G4.ti (by omega) hsm); rintro e v5 ⟨rfl, hb5⟩; have hd5 : Below v4.heap.size v4 v5 := (by first | exact hb5 | exact bel_tr (belN (Below.refl _ v4) 1) hb5); have hc5 := bel_tr hc4 hd5)
        | (go_at_call 35; go_fit (signT _ (ha.below hc5) (by omega)); rintro e v8 ⟨rfl, hb6⟩; have hd6 : Below v5.heap.size v5 v8 := (by first | exact hb6 | exact bel_tr (belN (Below.refl _ v5) 1) hb6); have hc6 := bel_tr hc5 hd6)
        | (go_at_call 35; go_fit (signT _ (hb.below hc6) (by omega)); rintro e v7 ⟨rfl, hb7⟩; have hd7 : Below v8.heap.size v8 v7 := (by first | exact hb7 | exact bel_tr (belN (Below.refl _ v8) 1) hb7); have hc7 := bel_tr hc6 hd7)))
    have hx := hc7
    replace P2 := P2.below hx
    replace hc := hc.below hx
    replace hb0 := bel_tr hb0 hx
    clear hx hb1 hb2 hb3 hb4 hb5 hb6 hb7 hc1 hc2 hc3 hc4 hc5 hc6 hc7 hd2 hd3 hd4 hd5 hd6 hd7 G1 G2 G4 p00 p01 p10 p11 p20 p21 P0 P1 ha hb hsm hsw hABS
    obtain ⟨p20, p21, -, -⟩ := id P2
    go_wp2_with fail
    go_region_held3 (fun w' => w'.cell? ⟨w.heap.size + 2, 0, none⟩ = some (.bool r) ∧ w'.cell? ⟨w.heap.size + 2, 1, none⟩ = some (.slice c nc cc))
      (first | (go_keep; done) | (refine ⟨?_, ?_⟩ <;> first | exact kept_c hb6 (by go_keep) | exact kept_c hb5 (by go_keep) | exact kept_c hb4 (by go_keep) | exact kept_c hb3 (by go_keep) | exact kept_c hb2 (by go_keep) | exact kept_c hb1 (by go_keep)))
      ((first
        | (go_at_call 37; go_fit (absT _ (hc.drewN _) (by omega)); rintro e u1 ⟨c1, n1, d1, rfl, K1, hb1⟩; have hc1 : Below v7.heap.size v7 u1 := (by first | exact hb1 | exact bel_tr (belN (Below.refl _ v7) 1) hb1))
        | (go_at_call 36; go_fit (fromT _ K1.num (by omega) HFS.out); rintro e u2 ⟨f2, c2, n2, d2, rfl, G2, hb2⟩; have hd2 : Below u1.heap.size u1 u2 := (by first | exact hb2 | exact bel_tr (belN (Below.refl _ u1) 1) hb2); have hc2 := bel_tr hc1 hd2)
        | (go_at_call 32; go_fit (normT _ (hc.below hc2) (by omega)); rintro e u3 ⟨f3, c3, n3, d3, rfl, G3, hb3⟩; have hd3 : Below u2.heap.size u2 u3 := (by first | exact hb3 | exact bel_tr (belN (Below.refl _ u2) 1) hb3); have hc3 := bel_tr hc2 hd3)
        | (go_at_call 27; go_fit (sameI _ _ _ (G2.below hd3) G3 (by omega)); rintro e u4 ⟨rfl, hb4⟩; have hd4 : Below u3.heap.size u3 u4 := (by first | exact hb4 | exact bel_tr (belN (Below.refl _ u3) 1) hb4); have hc4 := bel_tr hc3 hd4)
        | (go_at_call 30; go_fit (negT _ (hc.below hc4) (by omega)); rintro e u5 ⟨f5, c5, n5, d5, rfl, G5, hb5⟩; have hd5 : Below u4.heap.size u4 u5 := (by first | exact hb5 | exact bel_tr (belN (Below.refl _ u4) 1) hb5); have hc5 := bel_tr hc4 hd5)
        | (go_at_call 35; go_fit (signE _ G5.ti (by omega) HNZ.out); rintro e u6 ⟨rfl, hb6⟩; have hd6 : Below u5.heap.size u5 u6 := (by first | exact hb6 | exact bel_tr (belN (Below.refl _ u5) 1) hb6); have hc6 := bel_tr hc5 hd6)))
    replace hb0 := bel_tr hb0 hc6
    clear hb1 hb2 hb3 hb4 hb5 hb6 hc1 hc2 hc3 hc4 hc5 hc6 hd2 hd3 hd4 hd5 hd6 K1 G2 G3 G5 p20 p21 P2 hc
    go_wp2
    go_ret
    refine ⟨?_, hb0⟩
    show Ending.returned (Value.bool (-SC == -SC)) = _
    rw [beq_self_eq_true]
end Go.Proofs.YtjbcjapgammbhabDoor

namespace Go.Proofs.YtjbcjapgammbhabDoor
open Go.ChangeShapes Go.WideShapes Go.ChangeAt Go.RowKit

theorem cellsInt : Tryd.prog.cellsOf 30 = 2 := by kernel_rfl
theorem cellsBool : Tryd.prog.cellsOf 4 = 1 := by kernel_rfl
theorem cellsNatI : Tryd.prog.cellsOf 28 = 1 := by kernel_rfl
set_option maxRecDepth 100000 in
/-- A number's one cell, read as data. -/
theorem open_natc {H : Type} {enc : TypeId × Value → H} {W : World} {fuel : Nat} {u : Value} {x : DataW H × List MemPlace}
    (hf : DataW.trod enc Tryd.prog W 0 (fun _ => true) true fuel 28 [u] = some x) (hk : Rows.uptoBulk x.1 ≤ 1048576) :
    ∃ a n cap xs, u = .slice a n cap ∧ n = xs.length ∧ n ≤ cap ∧ Reads W a xs ∧ AllW xs ∧ n ≤ 1048576 := by
  rcases open_ints Tryd.underlying28 Tryd.underlying65 cellsU64 hf with ⟨hcs, _⟩ | ⟨p, n, c, zs, hcs, _, hl, hm, hz, hx, hcell, hwz⟩
  · simp only [List.cons.injEq, and_true] at hcs
    exact ⟨_, _, _, [], hcs, rfl, Nat.le_refl _, .inl rfl, AllW.nil, Nat.zero_le _⟩
  · simp only [List.cons.injEq, and_true] at hcs
    simp only [if_true] at hz
    rw [hx] at hk
    have hlen : (zs.take n).length = n := by rw [List.length_take]; omega
    have hb : n ≤ 1048576 := by
      have := bulk_slice (H := H) (lits .u64 (zs.take n)) (lits .u64 (zs.drop n))
      have hk2 : Rows.uptoBulk (H := H) (.slice (lits .u64 (zs.take n)) (lits .u64 (zs.drop n))) ≤ 1048576 := hk
      have e1 : (lits (H := H) .u64 (zs.take n)).length = (zs.take n).length := by simp [lits]
      omega
    refine ⟨_, _, _, zs.take n, hcs, hlen.symm, hl, ?_, ?_, hb⟩
    · by_cases h0 : n = 0
      · exact .inl (by simp [h0])
      · obtain ⟨b, o, spot⟩ := p
        have hc := hcell 0 (by omega)
        have hspot : spot = none := by simpa [Addr.add] using World.cell?_spot hc
        subst hspot
        refine .inr ⟨b, o, rfl, fun i hi => ?_⟩
        rw [lm_take (by omega)]
        have := hcell i (by omega)
        by_cases hi0 : i = 0
        · subst hi0; simpa [Addr.add, lm] using this
        · simpa [Addr.add, lm, hi0] using this
    · intro y hy
      have := hwz y (List.mem_of_mem_take hy)
      simp [Lit.wf, IntKind.min, IntKind.max, IntKind.signed, IntKind.bits] at this
      exact ⟨by omega, by omega⟩
theorem bulk_agg {H : Type} (l : List (DataW H)) : Rows.uptoBulkAll l ≤ Rows.uptoBulk (.agg l) := by simp only [Rows.uptoBulk]; omega
set_option maxRecDepth 100000 in
/-- A whole number that came in: its sign and its limbs. -/
theorem open_whole {H : Type} {enc : TypeId × Value → H} {W : World} {base : Nat} {v : Value} {d : DataW H} {p : List MemPlace} (hv : Value.okWide Tryd.prog W .any base 30 v)
    (h : DataW.Trod enc Tryd.prog W 0 (fun _ => true) true 30 v d p) (hk : Rows.uptoBulk d ≤ 1048576) :
    ∃ b a n cap xs, v = .agg #[.bool b, .slice a n cap] ∧ n = xs.length ∧ n ≤ cap ∧ Reads W a xs ∧ AllW xs ∧ n ≤ 1048576 := by
  obtain ⟨cs, rfl, hsz⟩ := okWide_struct Tryd.underlying30 hv
  obtain ⟨fuel, hf⟩ := h
  rw [cellsInt] at hsz
  obtain ⟨y0, y1, m, hx, _, hy0, hy1⟩ := trod_struct2 Tryd.underlying30 hf
  obtain ⟨l⟩ := cs
  match l, hsz with
  | [u0, u1], _ =>
    simp only [Value.cells, cellsBool, cellsNatI, List.drop_zero, List.drop_succ_cons, List.take_succ_cons, List.take_zero] at hy0 hy1
    have hd : d = .agg [y0.1, y1.1] := (Prod.mk.inj hx).1
    have hb : Rows.uptoBulk y1.1 ≤ 1048576 := by
      rw [hd] at hk
      have := bulk_agg (H := H) [y0.1, y1.1]
      simp only [Rows.uptoBulkAll] at this
      omega
    obtain ⟨a, n, cap, xs, rfl, h1, h2, h3, h4, h5⟩ := open_natc hy1 hb
    have hbool : ∃ b, u0 = .bool b := by
      cases m with
      | zero => simp [DataW.trod] at hy0
      | succ m =>
        simp only [DataW.trod, Tryd.underlying4] at hy0
        cases u0 <;> simp_all
    obtain ⟨b, rfl⟩ := hbool
    exact ⟨b, a, n, cap, xs, rfl, h1, h2, h3, h4, h5⟩
set_option maxRecDepth 100000 in
theorem trod_whole {H : Type} {enc : TypeId × Value → H} {W W' : World} {v : Value} {d : DataW H} {p : List MemPlace} (h : DataW.Trod enc Tryd.prog W 0 (fun _ => true) true 30 v d p) (bel : Below W.heap.size W W') :
    DataW.Trod enc Tryd.prog W' 0 (fun b => decide (b < W.heap.size)) true 30 v d p :=
  Below.trod laidOut (by kernel_rfl) (of_decide_eq_true (by kernel_rfl)) h bel (trod_blocks h)
end Go.Proofs.YtjbcjapgammbhabDoor
