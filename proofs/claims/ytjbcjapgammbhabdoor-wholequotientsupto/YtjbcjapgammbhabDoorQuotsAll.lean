import Derived.Test.YtjbcjapgammbhabDoorWhG
import Derived.Test.YtjbcjapgammbhabDoorWhN
import Derived.Test.YtjbcjapgammbhabDoorWhAbs
import Derived.LaidEql
import Derived.Test.YtjbcjapgammbhabDoorOpen
namespace Go.Proofs.YtjbcjapgammbhabDoor
open Go.RowKit

/-- The flag and the slice tell the whole number x, in whatever way, S limbs at the most. -/
def TI (w : World) (b : Bool) (a : Option Addr) (n c : Nat) (x : Int) (S : Nat) : Prop := ∃ m, Num w a n c m S ∧ ws b m = x
theorem TI.below {w w' : World} {b : Bool} {a : Option Addr} {n c : Nat} {x : Int} {S : Nat} (h : TI w b a n c x S) (hb : Below w.heap.size w w') : TI w' b a n c x S := by
  obtain ⟨m, h1, h2⟩ := h; exact ⟨m, h1.below hb, h2⟩
theorem TI.drewN {w : World} {b : Bool} {a : Option Addr} {n c : Nat} {x : Int} {S : Nat} (h : TI w b a n c x S) (j : Nat) : TI (w.drewN j) b a n c x S := h.below (belN (Below.refl _ _) j)
theorem GI.form {w : World} {B : Nat} {v : Value} {x : Int} {S : Nat} (h : GI w B v x S) : ∃ b a n c, v = .agg #[.bool b, .slice a n c] := by
  obtain ⟨a, n, c, h1, _⟩ := h; exact ⟨_, a, n, c, h1⟩
theorem GI.ti {w : World} {B : Nat} {b : Bool} {a : Option Addr} {n c : Nat} {x : Int} {S : Nat} (h : GI w B (.agg #[.bool b, .slice a n c]) x S) : TI w b a n c x S := by
  obtain ⟨h1, h2⟩ := h.parts
  exact ⟨_, h2.num, by rw [h1]; exact ws_sign x⟩
theorem addT {a b : Option Addr} {p q : Bool} {na nb ca cb : Nat} {x y : Int} {S R : Nat} (w : World) (ha : TI w p a na ca x S) (hb : TI w q b nb cb y R) (hS : S ≤ 10000000) (hR : R ≤ 10000000) :
    Calls Tryd.prog 26 #[.agg #[.bool p, .slice a na ca], .agg #[.bool q, .slice b nb cb]] w fun e w' => ∃ f c n d, e = .returned (.agg #[.bool f, .slice c n d]) ∧ GI w' w.heap.size (.agg #[.bool f, .slice c n d]) (x + y) (S + R + 1) ∧ Below w.heap.size w w' := by
  obtain ⟨m, h1, rfl⟩ := ha
  obtain ⟨k, h2, rfl⟩ := hb
  refine (addI p q w h1 h2 (by omega) (by omega)).mono ?_
  rintro e w' ⟨v, rfl, G, hb⟩
  obtain ⟨f, c, n, d, rfl⟩ := G.form
  exact ⟨f, c, n, d, rfl, G, hb⟩
theorem subT {a b : Option Addr} {p q : Bool} {na nb ca cb : Nat} {x y : Int} {S R : Nat} (w : World) (ha : TI w p a na ca x S) (hb : TI w q b nb cb y R) (hS : S ≤ 10000000) (hR : R ≤ 10000000) :
    Calls Tryd.prog 31 #[.agg #[.bool p, .slice a na ca], .agg #[.bool q, .slice b nb cb]] w fun e w' => ∃ f c n d, e = .returned (.agg #[.bool f, .slice c n d]) ∧ GI w' w.heap.size (.agg #[.bool f, .slice c n d]) (x - y) (S + R + 1) ∧ Below w.heap.size w w' := by
  obtain ⟨m, h1, rfl⟩ := ha
  obtain ⟨k, h2, rfl⟩ := hb
  refine (subI p q w h1 h2 (by omega) (by omega)).mono ?_
  rintro e w' ⟨v, rfl, G, hb⟩
  obtain ⟨f, c, n, d, rfl⟩ := G.form
  exact ⟨f, c, n, d, rfl, G, hb⟩
theorem mulT {a b : Option Addr} {p q : Bool} {na nb ca cb : Nat} {x y : Int} {S R : Nat} (w : World) (ha : TI w p a na ca x S) (hb : TI w q b nb cb y R) (hS : S ≤ 10000000) (hR : R ≤ 10000000) :
    Calls Tryd.prog 28 #[.agg #[.bool p, .slice a na ca], .agg #[.bool q, .slice b nb cb]] w fun e w' => ∃ f c n d, e = .returned (.agg #[.bool f, .slice c n d]) ∧ GI w' w.heap.size (.agg #[.bool f, .slice c n d]) (x * y) (S + R) ∧ Below w.heap.size w w' := by
  obtain ⟨m, h1, rfl⟩ := ha
  obtain ⟨k, h2, rfl⟩ := hb
  refine (mulI p q w h1 h2 (by omega) (by omega)).mono ?_
  rintro e w' ⟨v, rfl, G, hb⟩
  obtain ⟨f, c, n, d, rfl⟩ := G.form
  exact ⟨f, c, n, d, rfl, G, hb⟩
theorem signT {a : Option Addr} {p : Bool} {na ca : Nat} {x : Int} {S : Nat} (w : World) (ha : TI w p a na ca x S) (hS : S ≤ 10000000) :
    Calls Tryd.prog 35 #[.agg #[.bool p, .slice a na ca]] w fun e w' => e = .returned (.int .i64 x.sign) ∧ Below w.heap.size w w' := by
  obtain ⟨m, h1, rfl⟩ := ha
  exact signI p w h1 (by omega)
theorem cmpT {a b : Option Addr} {p q : Bool} {na nb ca cb : Nat} {x y : Int} {S R : Nat} (w : World) (ha : TI w p a na ca x S) (hb : TI w q b nb cb y R) (hS : S ≤ 10000000) (hR : R ≤ 10000000) :
    Calls Tryd.prog 34 #[.agg #[.bool p, .slice a na ca], .agg #[.bool q, .slice b nb cb]] w fun e w' => e = .returned (.int .i64 (x - y).sign) ∧ Below w.heap.size w w' := by
  obtain ⟨m, h1, rfl⟩ := ha
  obtain ⟨k, h2, rfl⟩ := hb
  exact wcmpI p q w h1 h2 (by omega) (by omega)
theorem ofT (v : Int) (w : World) (h0 : -9223372036854775808 ≤ v) (h1 : v < 9223372036854775808) :
    Calls Tryd.prog 29 #[.int .i64 v] w fun e w' => ∃ f c n d, e = .returned (.agg #[.bool f, .slice c n d]) ∧ GI w' w.heap.size (.agg #[.bool f, .slice c n d]) (v) (1) ∧ Below w.heap.size w w' := by
  refine (ofI v w h0 h1).mono ?_
  rintro e w' ⟨u, rfl, G, hb⟩
  obtain ⟨f, c, n, d, rfl⟩ := G.form
  exact ⟨f, c, n, d, rfl, G, hb⟩
end Go.Proofs.YtjbcjapgammbhabDoor

namespace Go.Proofs.YtjbcjapgammbhabDoor
open Go.RowKit

theorem normT {a : Option Addr} {p : Bool} {na ca : Nat} {x : Int} {S : Nat} (w : World) (ha : TI w p a na ca x S) (hS : S ≤ 10000000) :
    Calls Tryd.prog 32 #[.agg #[.bool p, .slice a na ca]] w fun e w' => ∃ f c n d, e = .returned (.agg #[.bool f, .slice c n d]) ∧ GI w' w.heap.size (.agg #[.bool f, .slice c n d]) (x) (S) ∧ Below w.heap.size w w' := by
  obtain ⟨m, h1, rfl⟩ := ha
  refine (normI p w h1 (by omega)).mono ?_
  rintro e w' ⟨v, rfl, G, hb⟩
  obtain ⟨f, c, n, d, rfl⟩ := G.form
  exact ⟨f, c, n, d, rfl, G, hb⟩
end Go.Proofs.YtjbcjapgammbhabDoor

namespace Go.Proofs.YtjbcjapgammbhabDoor
open Go.RowKit

theorem absT {a : Option Addr} {p : Bool} {na ca : Nat} {x : Int} {S : Nat} (w : World) (ha : TI w p a na ca x S) (hS : S ≤ 10000000) :
    Calls Tryd.prog 37 #[.agg #[.bool p, .slice a na ca]] w fun e w' => ∃ c n d, e = .returned (.slice c n d) ∧ Got w' w.heap.size (.slice c n d) (x.natAbs : Int) S ∧ Below w.heap.size w w' := by
  obtain ⟨m, h1, rfl⟩ := ha
  have h0 := h1.nn
  rw [ws_abs h0]
  exact absI p w h1 (by omega)
end Go.Proofs.YtjbcjapgammbhabDoor

namespace Go.Proofs.YtjbcjapgammbhabDoor
open Go.RowKit

theorem top_ne {xs : List Int} {k : Nat} (h : NF xs) (hk : k + 1 = xs.length) : lm xs k ≠ 0 := by
  have := tlen_top h.1 (m := k) (by rw [h.2]; omega)
  omega
set_option maxRecDepth 100000 in
set_option maxHeartbeats 1000000 in
/-- same: two answers of one number. -/
theorem sameI {a b : Option Addr} {na nb ca cb B B' : Nat} {x : Int} {S R : Nat} (p q : Bool) (w : World) (ha : GI w B (.agg #[.bool p, .slice a na ca]) x S) (hb : GI w B' (.agg #[.bool q, .slice b nb cb]) x R) (hS : S ≤ 10000000000) :
    Calls Tryd.prog 27 #[.agg #[.bool p, .slice a na ca], .agg #[.bool q, .slice b nb cb]] w fun e w' => e = .returned (.bool true) ∧ Below w.heap.size w w' := by
  obtain ⟨hp, xs, o1, nf1, v1, l1⟩ := ha.parts
  obtain ⟨hq, ys, o2, nf2, v2, l2⟩ := hb.parts
  obtain rfl : xs = ys := nf_unique nf1 nf2 (by omega)
  obtain rfl : p = q := by rw [hp, hq]
  obtain ⟨r1, r2, r3⟩ := o1.reads
  obtain ⟨s1, s2, s3⟩ := o2.reads
  obtain rfl : na = nb := by omega
  obtain ⟨P0, P1, hb0, hsz⟩ := box2 w (.bool p) (.slice a na ca) (.bool p) (.slice b na cb) 30
  replace r3 := r3.below hb0
  replace s3 := s3.below hb0
  have hna : na ≤ 10000000000 := by omega
  have Hn : Hid (na = xs.length) := r1
  clear r1 s1 o1 o2 nf1 nf2 v1 v2 l1 l2 hp hq ha hb
  go_enter Tryd.func27, Tryd.ntmps27
  go_wp2_with fail
  generalize (w.alloc (.cells #[.bool p, .slice a na ca] 30)).alloc (.cells #[.bool p, .slice b na cb] 30) = W0 at *
  obtain ⟨p00, p01, p02, p03⟩ := id P0
  obtain ⟨p10, p11, p12, p13⟩ := id P1
  go_loopw [5, 6] (fun ok i wr => ∃ k : Nat, ok = .bool true ∧ i = .int .i64 k ∧ k ≤ na ∧ Var2 wr w.heap.size (.bool p) (.slice a na ca) ∧ Var2 wr (w.heap.size + 1) (.bool p) (.slice b na cb) ∧ Reads wr a xs ∧ Reads wr b xs ∧ Below w.heap.size w wr) (fun _ i _ => na - (intOf i).toNat)
  case atStart => exact ⟨0, rfl, by go_num, Nat.zero_le _, P0, P1, r3, s3, hb0⟩
  case round =>
    clear p00 p01 p02 p03 p10 p11 p12 p13 P0 P1 r3 s3 hb0
    obtain ⟨k, rfl, rfl, hk, P0, P1, r3, s3, hb0⟩ := hrel
    obtain ⟨p00, p01, p02, p03⟩ := id P0
    obtain ⟨p10, p11, p12, p13⟩ := id P1
    by_cases hlt : k < na
    · obtain ⟨bb, oo, rfl, hc⟩ := r3.at (by have := Hn.out; omega)
      obtain ⟨bb', oo', rfl, hc'⟩ := s3.at (by have := Hn.out; omega)
      have c1 := hc k (by have := Hn.out; omega)
      have c2 := hc' k (by have := Hn.out; omega)
      have hki : (k : Int) < na := by omega
      generalize lm xs k = X at *
      clear hc hc'
      go_wp2
      go_quiet (fail)
      go_wp2
      have hq : Below wr.heap.size wr (wr.drewN nq) := belN (Below.refl _ _) nq
      exact ⟨⟨k + 1, rfl, by go_num, by omega, P0.below hq, P1.below hq, r3.below hq, s3.below hq, bel_tr hb0 hq⟩, by simp [intOf]; omega⟩
    · obtain rfl : k = na := by omega
      go_wp2
      go_ret
      exact ⟨rfl, hb0⟩
set_option maxRecDepth 100000 in
set_option maxHeartbeats 1000000 in
/-- good: an answer in the one form. -/
theorem goodI {a : Option Addr} {na ca B : Nat} {x : Int} {S : Nat} (p : Bool) (w : World) (ha : GI w B (.agg #[.bool p, .slice a na ca]) x S) (hS : S ≤ 10000000000) :
    Calls Tryd.prog 33 #[.agg #[.bool p, .slice a na ca]] w fun e w' => e = .returned (.bool true) ∧ Below w.heap.size w w' := by
  obtain ⟨hp, xs, o1, nf1, v1, l1⟩ := ha.parts
  obtain ⟨r1, r2, r3⟩ := o1.reads
  obtain ⟨P0, hb0, hsz⟩ := box1 w (.bool p) (.slice a na ca) 30
  replace r3 := r3.below hb0
  have hna : na ≤ 10000000000 := by omega
  by_cases h0 : na = 0
  · have hx : x = 0 := by
      have h1 := (tlen_zero nf1.1).1 (by rw [nf1.2]; omega)
      omega
    obtain rfl : p = false := by rw [hp, hx]; rfl
    subst h0
    clear ha o1 nf1 v1 hp r3 r1 r2 l1 hx
    go_enter Tryd.func33, Tryd.ntmps33
    go_wp2
    go_ret
    exact ⟨rfl, hb0⟩
  · obtain ⟨bb, oo, rfl, hc⟩ := r3.at (by omega)
    obtain ⟨k, hk⟩ : ∃ k, na = k + 1 := ⟨na - 1, by omega⟩
    have htop : lm xs k ≠ 0 := top_ne nf1 (by omega)
    have hck := hc k (by omega)
    subst hk
    generalize lm xs k = X at *
    clear ha o1 nf1 v1 hp hc r1 r2
    go_enter Tryd.func33, Tryd.ntmps33
    have HX : Hid ((X != 0) = true) := by simpa [Hid] using htop
    clear htop
    go_wp2
    go_ret
    refine ⟨?_, hb0⟩
    first
      | rfl
      | (show Ending.returned (Value.bool (X != 0)) = _
         rw [HX.out])
end Go.Proofs.YtjbcjapgammbhabDoor

namespace Go.Proofs.YtjbcjapgammbhabDoor
open Go.RowKit

set_option maxHeartbeats 1000000 in
theorem fitsT {a b aq ar : Option Addr} {p q fq fr : Bool} {na nb nq nr ca cb cq cr B B' : Nat} {x y xq xr sn : Int} {S R T U : Nat} (w : World) (ha : TI w p a na ca x S) (hb : TI w q b nb cb y R)
    (GQ : GI w B (.agg #[.bool fq, .slice aq nq cq]) xq T) (GR : GI w B' (.agg #[.bool fr, .slice ar nr cr]) xr U) (hS : S ≤ 1100000) (hR : R ≤ 1100000) (hT : T ≤ 2300000) (hU : U ≤ 2300000)
    (h1 : xq * y + xr = x) (h2 : xr.natAbs < y.natAbs) (h3 : xr = 0 ∨ xr.sign = sn) :
    Calls Tryd.prog 40 #[.agg #[.bool p, .slice a na ca], .agg #[.bool q, .slice b nb cb], .agg #[.bool fq, .slice aq nq cq], .agg #[.bool fr, .slice ar nr cr], .int .i64 sn] w fun e w' => e = .returned (.bool true) ∧ Below w.heap.size w w' := by
  obtain ⟨P0, P1, P2, P3, hb0, hsz⟩ := box4 w (.bool p) (.slice a na ca) (.bool q) (.slice b nb cb) (.bool fq) (.slice aq nq cq) (.bool fr) (.slice ar nr cr) 30
  replace ha := ha.below hb0
  replace hb := hb.below hb0
  replace GQ := GQ.below hb0
  replace GR := GR.below hb0
  have H1 : Hid (xq * y + xr = x) := h1
  have H2 : Hid (xr.natAbs < y.natAbs) := h2
  have H3 : Hid (xr = 0 ∨ xr.sign = sn) := h3
  clear h1 h2 h3
  go_enter Tryd.func40, Tryd.ntmps40
  go_wp2_with fail
  generalize (((w.alloc (.cells #[.bool p, .slice a na ca] 30)).alloc (.cells #[.bool q, .slice b nb cb] 30)).alloc (.cells #[.bool fq, .slice aq nq cq] 30)).alloc (.cells #[.bool fr, .slice ar nr cr] 30) = W0 at *
  obtain ⟨p00, p01, _, _⟩ := id P0
  obtain ⟨p10, p11, _, _⟩ := id P1
  obtain ⟨p20, p21, _, _⟩ := id P2
  obtain ⟨p30, p31, _, _⟩ := id P3
  go_region_held3 (fun w' => w'.cell? ⟨w.heap.size, 0, none⟩ = some (.bool p) ∧ w'.cell? ⟨w.heap.size, 1, none⟩ = some (.slice a na ca) ∧ w'.cell? ⟨w.heap.size + 1, 0, none⟩ = some (.bool q) ∧ w'.cell? ⟨w.heap.size + 1, 1, none⟩ = some (.slice b nb cb) ∧ w'.cell? ⟨w.heap.size + 2, 0, none⟩ = some (.bool fq) ∧ w'.cell? ⟨w.heap.size + 2, 1, none⟩ = some (.slice aq nq cq) ∧ w'.cell? ⟨w.heap.size + 3, 0, none⟩ = some (.bool fr) ∧ w'.cell? ⟨w.heap.size + 3, 1, none⟩ = some (.slice ar nr cr))
    (first | (go_keep; done) | (refine ⟨?_, ?_, ?_, ?_, ?_, ?_, ?_, ?_⟩ <;> first | exact kept_c hb4 (by go_keep) | exact kept_c hb3 (by go_keep) | exact kept_c hb2 (by go_keep) | exact kept_c hb1 (by go_keep)) | (refine ⟨?_, ?_, ?_, ?_, ?_, ?_, ?_, ?_⟩ <;> first | exact set2_far (by go_keep) (by simp <;> omega) | exact kept_c (by assumption) (by assumption)))
    ((first
      | (go_at_call 28; go_fit (mulT _ (GQ.ti.drewN _) (hb.drewN _) (by omega) (by omega)); rintro e w1 ⟨f1, c1, n1, d1, rfl, G1, hb1⟩; have hc1 : Below W0.heap.size W0 w1 := (by first | exact hb1 | exact bel_tr (belN (Below.refl _ W0) 1) hb1))
      | (go_at_call 26; go_fit (addT _ G1.ti ((GR.below hc1).ti) (by omega) (by omega)); rintro e w2 ⟨f2, c2, n2, d2, rfl, G2, hb2⟩; have hc2 : Below w1.heap.size w1 w2 := (by first | exact hb2 | exact bel_tr (belN (Below.refl _ w1) 1) hb2))
      | (go_at_call 32; go_fit (normT _ ((ha.below hc1).below hc2) (by omega)); rintro e w3 ⟨f3, c3, n3, d3, rfl, G3, hb3⟩; have hc3 : Below w2.heap.size w2 w3 := (by first | exact hb3 | exact bel_tr (belN (Below.refl _ w2) 1) hb3))
      | (go_at_call 27; go_fit (sameI _ _ _ ((G2.below hc3).val H1.out) G3 (by omega)); rintro e w4 ⟨rfl, hb4⟩; have hc4 : Below w3.heap.size w3 w4 := (by first | exact hb4 | exact bel_tr (belN (Below.refl _ w3) 1) hb4))))
  have hc := bel_tr (bel_tr (bel_tr hc1 hc2) hc3) hc4
  replace P1 := P1.below hc
  replace P2 := P2.below hc
  replace P3 := P3.below hc
  replace hb := hb.below hc
  replace GQ := GQ.below hc
  replace GR := GR.below hc
  replace hb0 := bel_tr hb0 hc
  clear p00 p01 p10 p11 p20 p21 p30 p31 hb1 hb2 hb3 hb4 hc1 hc2 hc3 hc4 hc P0 ha G1 G2 G3
  obtain ⟨p10, p11, _, _⟩ := id P1
  obtain ⟨p20, p21, _, _⟩ := id P2
  obtain ⟨p30, p31, _, _⟩ := id P3
  go_wp2_with fail
  go_region_held3 (fun w' => w'.cell? ⟨w.heap.size + 1, 0, none⟩ = some (.bool q) ∧ w'.cell? ⟨w.heap.size + 1, 1, none⟩ = some (.slice b nb cb) ∧ w'.cell? ⟨w.heap.size + 2, 0, none⟩ = some (.bool fq) ∧ w'.cell? ⟨w.heap.size + 2, 1, none⟩ = some (.slice aq nq cq) ∧ w'.cell? ⟨w.heap.size + 3, 0, none⟩ = some (.bool fr) ∧ w'.cell? ⟨w.heap.size + 3, 1, none⟩ = some (.slice ar nr cr))
    (first | (go_keep; done) | (refine ⟨?_, ?_, ?_, ?_, ?_, ?_⟩ <;> first | exact kept_c hb7 (by go_keep) | exact kept_c hb6 (by go_keep) | exact kept_c hb5 (by go_keep)) | (refine ⟨?_, ?_, ?_, ?_, ?_, ?_⟩ <;> first | exact set2_far (by go_keep) (by simp <;> omega) | exact kept_c (by assumption) (by assumption)))
    ((first
      | (go_at_call 37; go_fit (absT _ (GR.ti.drewN _) (by omega)); rintro e w5 ⟨c5, n5, d5, rfl, K5, hb5⟩; have hc5 : Below w4.heap.size w4 w5 := (by first | exact hb5 | exact bel_tr (belN (Below.refl _ w4) 1) hb5))
      | (go_at_call 37; go_fit (absT _ (hb.below hc5) (by omega)); rintro e w6 ⟨c6, n6, d6, rfl, K6, hb6⟩; have hc6 : Below w5.heap.size w5 w6 := (by first | exact hb6 | exact bel_tr (belN (Below.refl _ w5) 1) hb6))
      | (go_at_call 34; go_fit (cmpT _ ⟨_, (K5.below hc6).num, rfl⟩ ⟨_, K6.num, rfl⟩ (by omega) (by omega)); rintro e w7 ⟨rfl, hb7⟩; have hc7 : Below w6.heap.size w6 w7 := (by first | exact hb7 | exact bel_tr (belN (Below.refl _ w6) 1) hb7))))
  have hc := bel_tr (bel_tr hc5 hc6) hc7
  replace P2 := P2.below hc
  replace P3 := P3.below hc
  replace GQ := GQ.below hc
  replace GR := GR.below hc
  replace hb0 := bel_tr hb0 hc
  have hlt : decide (ws false (xr.natAbs : Int) - ws false (y.natAbs : Int) < 0) = true := decide_eq_true (by
    have h := H2.out
    show (xr.natAbs : Int) - (y.natAbs : Int) < 0
    omega)
  rw [hlt]
  clear p10 p11 p20 p21 p30 p31 hb5 hb6 hb7 hc5 hc6 hc7 hc P1 hb K5 K6 hlt
  obtain ⟨p20, p21, _, _⟩ := id P2
  obtain ⟨p30, p31, _, _⟩ := id P3
  go_wp2_with fail
  refine (signT _ GR.ti (by omega)).mono ?_
  rintro e w8 ⟨rfl, hb8⟩
  replace P2 := P2.below hb8
  replace P3 := P3.below hb8
  replace GQ := GQ.below hb8
  replace GR := GR.below hb8
  replace hb0 := bel_tr hb0 hb8
  clear p20 p21 p30 p31 hb8
  obtain ⟨p20, p21, _, _⟩ := id P2
  obtain ⟨p30, p31, _, _⟩ := id P3
  by_cases hx : xr.sign = 0
  · rw [hx]
    go_wp2_with fail
    refine (goodI fq _ GQ (by omega)).mono ?_
    rintro e w9 ⟨rfl, hb9⟩
    replace P3 := P3.below hb9
    replace GR := GR.below hb9
    replace hb0 := bel_tr hb0 hb9
    clear hb9 p20 p21 p30 p31
    obtain ⟨p30, p31, _, _⟩ := id P3
    go_wp2_with fail
    refine (goodI fr _ GR (by omega)).mono ?_
    rintro e w10 ⟨rfl, hb10⟩
    replace hb0 := bel_tr hb0 hb10
    clear hb10 p30 p31
    go_wp2
    go_ret
    exact ⟨rfl, hb0⟩
  · obtain rfl : xr.sign = sn := by
      rcases H3.out with h | h
      · rw [h] at hx; exact absurd rfl hx
      · exact h
    generalize xr.sign = sg' at *
    go_wp2_with fail
    refine (goodI fq _ GQ (by omega)).mono ?_
    rintro e w9 ⟨rfl, hb9⟩
    replace P3 := P3.below hb9
    replace GR := GR.below hb9
    replace hb0 := bel_tr hb0 hb9
    clear hb9 p20 p21 p30 p31
    obtain ⟨p30, p31, _, _⟩ := id P3
    go_wp2_with fail
    refine (goodI fr _ GR (by omega)).mono ?_
    rintro e w10 ⟨rfl, hb10⟩
    replace hb0 := bel_tr hb0 hb10
    clear hb10 p30 p31
    go_wp2
    go_ret
    exact ⟨rfl, hb0⟩
end Go.Proofs.YtjbcjapgammbhabDoor

namespace Go.Proofs.YtjbcjapgammbhabDoor
open Go.RowKit

theorem Tryd.errComp2 : (Tryd.prog.info? 128).map (·.comparable) = some true := by kernel_rfl
theorem Tryd.errSize2 : (Tryd.prog.info? 146).map (·.size) = some 1 := by kernel_rfl
/-- What QuoRem tells: m = q k + r of two numbers with their signs. -/
theorem quo_eq (p q : Bool) (m k : Int) : ws (p != q) (m / k) * ws q k + ws p (m % k) = ws p m := by
  have h := Int.mul_ediv_add_emod m k
  have h2 : m / k * k + m % k = m := by rw [Int.mul_comm]; exact h
  unfold ws
  cases p <;> cases q <;> simp [Int.neg_mul, Int.mul_neg] <;> omega
theorem rest_lt (p q : Bool) {m k : Int} (hk : 0 < k) : (ws p (m % k)).natAbs < (ws q k).natAbs := by
  have h0 := Int.emod_nonneg m (show k ≠ 0 by omega)
  have h1 := Int.emod_lt_of_pos m hk
  unfold ws
  cases p <;> cases q <;> simp <;> omega
theorem rest_sign (p : Bool) {m k : Int} (hm : 0 ≤ m) (hk : 0 < k) : ws p (m % k) = 0 ∨ (ws p (m % k)).sign = (ws p m).sign := by
  have h0 := Int.emod_nonneg m (show k ≠ 0 by omega)
  by_cases h : m % k = 0
  · left; rw [h, ws_zero]
  · right
    have hm0 : m ≠ 0 := fun e => h (by rw [e]; exact Int.zero_emod k)
    unfold ws
    cases p with
    | true => simp only [if_true]; rw [Int.sign_eq_neg_one_of_neg (by omega), Int.sign_eq_neg_one_of_neg (by omega)]
    | false => simp only [Bool.false_eq_true, if_false]; rw [Int.sign_eq_one_of_pos (by omega), Int.sign_eq_one_of_pos (by omega)]
theorem fl_facts (p q : Bool) {m k : Int} (hk : 0 < k) : flQ p q m k * ws q k + flR p q m k = ws p m ∧ (flR p q m k).natAbs < (ws q k).natAbs ∧ (flR p q m k = 0 ∨ (flR p q m k).sign = (ws q k).sign) := by
  have e := quo_eq p q m k
  have l := rest_lt p q (m := m) hk
  have s1 := sign_is (ws p (m % k))
  have s2 := sign_is (ws q k)
  have hy : ws q k ≠ 0 := by unfold ws; cases q <;> simp <;> omega
  unfold flQ flR
  generalize ws (p != q) (m / k) = Q at *
  generalize ws p (m % k) = R at *
  generalize ws q k = Y at *
  generalize ws p m = X at *
  by_cases h : R.sign * Y.sign < 0
  · rw [if_pos h, if_pos h]
    have hh : (R < 0 ∧ 0 < Y) ∨ (0 < R ∧ Y < 0) := by
      rcases s1 with ⟨a, b⟩ | ⟨a, b⟩ | ⟨a, b⟩ <;> rcases s2 with ⟨c, d⟩ | ⟨c, d⟩ | ⟨c, d⟩ <;> rw [a, c] at h <;> simp at h <;> omega
    refine ⟨by rw [Int.sub_mul, Int.one_mul]; omega, by omega, ?_⟩
    right
    rcases hh with ⟨h1, h2⟩ | ⟨h1, h2⟩
    · rw [Int.sign_eq_one_of_pos (show 0 < R + Y by omega), Int.sign_eq_one_of_pos h2]
    · rw [Int.sign_eq_neg_one_of_neg (show R + Y < 0 by omega), Int.sign_eq_neg_one_of_neg h2]
  · rw [if_neg h, if_neg h]
    refine ⟨e, l, ?_⟩
    rcases s1 with ⟨a, b⟩ | ⟨a, b⟩ | ⟨a, b⟩
    · exact .inl b
    · rcases s2 with ⟨c, d⟩ | ⟨c, d⟩ | ⟨c, d⟩
      · exact absurd d hy
      · right; rw [a, c]
      · rw [a, c] at h; simp at h
    · rcases s2 with ⟨c, d⟩ | ⟨c, d⟩ | ⟨c, d⟩
      · exact absurd d hy
      · rw [a, c] at h; simp at h
      · right; rw [a, c]
end Go.Proofs.YtjbcjapgammbhabDoor

namespace Go.Proofs.YtjbcjapgammbhabDoor
open Go.RowKit

set_option maxHeartbeats 1000000 in
/-- by a number -/
theorem quots_some {a b : Option Addr} {na nb ca cb : Nat} {m k : Int} (p q : Bool) (w : World) (ha : Num w a na ca m 1048576) (hb : Num w b nb cb k 1048576) (hk : 0 < k) :
    Calls Tryd.prog 8 #[.agg #[.bool p, .slice a na ca], .agg #[.bool q, .slice b nb cb]] w fun e w' => e = .returned (.bool true) ∧ Below w.heap.size w w' := by
  have hm := ha.nn
  have Q1 : Hid (ws (p != q) (m / k) * ws q k + ws p (m % k) = ws p m) := quo_eq p q m k
  have Q2 : Hid ((ws p (m % k)).natAbs < (ws q k).natAbs) := rest_lt p q hk
  have Q3 : Hid (ws p (m % k) = 0 ∨ (ws p (m % k)).sign = (ws p m).sign) := rest_sign p hm hk
  obtain ⟨f1, f2, f3⟩ := fl_facts p q (m := m) hk
  have F1 : Hid (flQ p q m k * ws q k + flR p q m k = ws p m) := f1
  have F2 : Hid ((flR p q m k).natAbs < (ws q k).natAbs) := f2
  have F3 : Hid (flR p q m k = 0 ∨ (flR p q m k).sign = (ws q k).sign) := f3
  clear f1 f2 f3
  obtain ⟨P0, P1, hb0, hsz⟩ := box2 w (.bool p) (.slice a na ca) (.bool q) (.slice b nb cb) 30
  replace ha := ha.below hb0
  replace hb := hb.below hb0
  go_enter Tryd.func8, Tryd.ntmps8
  go_wp2_with fail
  generalize (w.alloc (.cells #[.bool p, .slice a na ca] 30)).alloc (.cells #[.bool q, .slice b nb cb] 30) = W0 at *
  obtain ⟨p00, p01, p02, p03⟩ := id P0
  obtain ⟨p10, p11, p12, p13⟩ := id P1
  refine (awakeI _).mono ?_
  rintro e w1 ⟨rfl, hx⟩
  replace P0 := P0.below hx
  replace P1 := P1.below hx
  replace ha := ha.below hx
  replace hb := hb.below hx
  replace hb0 := bel_tr hb0 hx
  clear hx p00 p01 p02 p03 p10 p11 p12 p13
  obtain ⟨p00, p01, p02, p03⟩ := id P0
  obtain ⟨p10, p11, p12, p13⟩ := id P1
  go_wp2_with fail
  refine (quoI p q _ ha hb (by omega) (by omega) hk).mono ?_
  rintro e w2 ⟨c, n, d, c', n', d', rfl, G1, G2, _, hx⟩
  have GQ : GI w2 w1.heap.size (.agg #[.bool (decide (ws (p != q) (m / k) < 0)), .slice c n d]) (ws (p != q) (m / k)) 1048577 := ⟨c, n, d, rfl, by rw [ws_abs G1.pos.1]; exact G1⟩
  have GR : GI w2 w1.heap.size (.agg #[.bool (decide (ws p (m % k) < 0)), .slice c' n' d']) (ws p (m % k)) 1048577 := ⟨c', n', d', rfl, by rw [ws_abs G2.pos.1]; exact G2⟩
  generalize decide (ws (p != q) (m / k) < 0) = fq at *
  generalize decide (ws p (m % k) < 0) = fr at *
  replace P0 := P0.below hx
  replace P1 := P1.below hx
  replace ha := ha.below hx
  replace hb := hb.below hx
  replace hb0 := bel_tr hb0 hx
  clear hx p00 p01 p02 p03 p10 p11 p12 p13 G1 G2
  obtain ⟨Vq, Vr, hx, hsx⟩ := box2 w2 (.bool fq) (.slice c n d) (.bool fr) (.slice c' n' d') 30
  obtain ⟨p00, p01, _, _⟩ := id (P0.below hx)
  obtain ⟨p10, p11, _, _⟩ := id (P1.below hx)
  go_wp2_with fail
  generalize (w2.alloc (.cells #[.bool fq, .slice c n d] 30)).alloc (.cells #[.bool fr, .slice c' n' d'] 30) = w3 at *
  replace P0 := P0.below hx
  replace P1 := P1.below hx
  replace ha := ha.below hx
  replace hb := hb.below hx
  replace GQ := GQ.below hx
  replace GR := GR.below hx
  replace hb0 := bel_tr hb0 hx
  clear hx hsx p00 p01 p10 p11
  refine (divI p q _ ha hb (by omega) (by omega) hk).mono ?_
  rintro e w4 ⟨u, v, rfl, GP, GS, hx⟩
  obtain ⟨fp, c2, n2, d2, rfl⟩ := GP.form
  obtain ⟨fs, c3, n3, d3, rfl⟩ := GS.form
  replace P0 := P0.below hx
  replace P1 := P1.below hx
  replace ha := ha.below hx
  replace hb := hb.below hx
  replace GQ := GQ.below hx
  replace GR := GR.below hx
  replace Vq := Vq.below hx
  replace Vr := Vr.below hx
  replace hb0 := bel_tr hb0 hx
  clear hx
  obtain ⟨Vp, Vs, hx, hsx⟩ := box2 w4 (.bool fp) (.slice c2 n2 d2) (.bool fs) (.slice c3 n3 d3) 30
  obtain ⟨p10, p11, _, _⟩ := id (P1.below hx)
  go_wp2_with fail
  generalize (w4.alloc (.cells #[.bool fp, .slice c2 n2 d2] 30)).alloc (.cells #[.bool fs, .slice c3 n3 d3] 30) = w5 at *
  replace P0 := P0.below hx
  replace P1 := P1.below hx
  replace ha := ha.below hx
  replace hb := hb.below hx
  replace GQ := GQ.below hx
  replace GR := GR.below hx
  replace GP := GP.below hx
  replace GS := GS.below hx
  replace Vq := Vq.below hx
  replace Vr := Vr.below hx
  replace hb0 := bel_tr hb0 hx
  clear hx hsx p10 p11
  refine (signI q _ hb (by omega)).mono ?_
  rintro e w6 ⟨rfl, hx⟩
  replace P0 := P0.below hx
  replace P1 := P1.below hx
  replace ha := ha.below hx
  replace hb := hb.below hx
  replace GQ := GQ.below hx
  replace GR := GR.below hx
  replace GP := GP.below hx
  replace GS := GS.below hx
  replace Vq := Vq.below hx
  replace Vr := Vr.below hx
  replace Vp := Vp.below hx
  replace Vs := Vs.below hx
  replace hb0 := bel_tr hb0 hx
  clear hx
  have hsb : (ws q k).sign ≠ 0 := by
    have h1 := sign_is (ws q k)
    have h2 : ws q k ≠ 0 := by unfold ws; cases q <;> simp <;> omega
    omega
  obtain ⟨p00, p01, _, _⟩ := id P0
  obtain ⟨p10, p11, _, _⟩ := id P1
  obtain ⟨q00, q01, _, _⟩ := id Vq
  obtain ⟨q10, q11, _, _⟩ := id Vr
  obtain ⟨s00, s01, _, _⟩ := id Vp
  obtain ⟨s10, s11, _, _⟩ := id Vs
  go_wp2_with fail
  go_region_held3 (fun w' => w'.cell? ⟨w.heap.size, 0, none⟩ = some (.bool p) ∧ w'.cell? ⟨w.heap.size, 1, none⟩ = some (.slice a na ca) ∧ w'.cell? ⟨w.heap.size + 1, 0, none⟩ = some (.bool q) ∧ w'.cell? ⟨w.heap.size + 1, 1, none⟩ = some (.slice b nb cb) ∧ w'.cell? ⟨w2.heap.size, 0, none⟩ = some (.bool fq) ∧ w'.cell? ⟨w2.heap.size, 1, none⟩ = some (.slice c n d) ∧ w'.cell? ⟨w2.heap.size + 1, 0, none⟩ = some (.bool fr) ∧ w'.cell? ⟨w2.heap.size + 1, 1, none⟩ = some (.slice c' n' d'))
    (first | (go_keep; done) | (refine ⟨?_, ?_, ?_, ?_, ?_, ?_, ?_, ?_⟩ <;> first | exact kept_c hb8 (by go_keep) | exact kept_c hb7 (by go_keep)) | (refine ⟨?_, ?_, ?_, ?_, ?_, ?_, ?_, ?_⟩ <;> first | exact set2_far (by go_keep) (by simp <;> omega) | exact kept_c (by assumption) (by assumption)))
    ((first
      | (go_at_call 35; go_fit (signI p _ (ha.drewN _) (by omega)); rintro e w7 ⟨rfl, hb7⟩; have hc7 : Below w6.heap.size w6 w7 := (by first | exact hb7 | exact bel_tr (belN (Below.refl _ w6) 1) hb7))
      | (go_at_call 40; go_fit (fitsT _ ⟨_, ha.below hc7, rfl⟩ ⟨_, hb.below hc7, rfl⟩ (GQ.below hc7) (GR.below hc7) (by omega) (by omega) (by omega) (by omega) Q1.out Q2.out Q3.out); rintro e w8 ⟨rfl, hb8⟩; have hc8 : Below w7.heap.size w7 w8 := (by first | exact hb8 | exact bel_tr (belN (Below.refl _ w7) 1) hb8))))
  have hx := bel_tr hc7 hc8
  replace P0 := P0.below hx
  replace P1 := P1.below hx
  replace ha := ha.below hx
  replace hb := hb.below hx
  replace GP := GP.below hx
  replace GS := GS.below hx
  replace Vp := Vp.below hx
  replace Vs := Vs.below hx
  replace hb0 := bel_tr hb0 hx
  clear hb7 hb8 hc7 hc8 hx p00 p01 p10 p11 q00 q01 q10 q11 s00 s01 s10 s11 GQ GR Vq Vr
  obtain ⟨p00, p01, _, _⟩ := id P0
  obtain ⟨p10, p11, _, _⟩ := id P1
  obtain ⟨s00, s01, _, _⟩ := id Vp
  obtain ⟨s10, s11, _, _⟩ := id Vs
  go_wp2_with fail
  go_region_held3 (fun w' => w'.cell? ⟨w.heap.size, 0, none⟩ = some (.bool p) ∧ w'.cell? ⟨w.heap.size, 1, none⟩ = some (.slice a na ca) ∧ w'.cell? ⟨w.heap.size + 1, 0, none⟩ = some (.bool q) ∧ w'.cell? ⟨w.heap.size + 1, 1, none⟩ = some (.slice b nb cb) ∧ w'.cell? ⟨w4.heap.size, 0, none⟩ = some (.bool fp) ∧ w'.cell? ⟨w4.heap.size, 1, none⟩ = some (.slice c2 n2 d2) ∧ w'.cell? ⟨w4.heap.size + 1, 0, none⟩ = some (.bool fs) ∧ w'.cell? ⟨w4.heap.size + 1, 1, none⟩ = some (.slice c3 n3 d3))
    (first | (go_keep; done) | (refine ⟨?_, ?_, ?_, ?_, ?_, ?_, ?_, ?_⟩ <;> first | exact kept_c hb10 (by go_keep) | exact kept_c hb9 (by go_keep)) | (refine ⟨?_, ?_, ?_, ?_, ?_, ?_, ?_, ?_⟩ <;> first | exact set2_far (by go_keep) (by simp <;> omega) | exact kept_c (by assumption) (by assumption)))
    ((first
      | (go_at_call 35; go_fit (signI q _ (hb.drewN _) (by omega)); rintro e w9 ⟨rfl, hb9⟩; have hc9 : Below w8.heap.size w8 w9 := (by first | exact hb9 | exact bel_tr (belN (Below.refl _ w8) 1) hb9))
      | (go_at_call 40; go_fit (fitsT _ ⟨_, ha.below hc9, rfl⟩ ⟨_, hb.below hc9, rfl⟩ (GP.below hc9) (GS.below hc9) (by omega) (by omega) (by omega) (by omega) F1.out F2.out F3.out); rintro e w10 ⟨rfl, hb10⟩; have hc10 : Below w9.heap.size w9 w10 := (by first | exact hb10 | exact bel_tr (belN (Below.refl _ w9) 1) hb10))))
  have hbf := bel_tr hb0 (bel_tr hc9 hc10)
  clear hb9 hb10 hc9 hc10 p00 p01 p10 p11 s00 s01 s10 s11 P0 P1 ha hb GP GS Vp Vs hb0
  go_wp2
  go_ret
  exact ⟨rfl, hbf⟩
end Go.Proofs.YtjbcjapgammbhabDoor

namespace Go.Proofs.YtjbcjapgammbhabDoor
open Go.RowKit

set_option maxHeartbeats 1000000 in
/-- whole.QuoRem by nought -/
theorem quoE {a b : Option Addr} {na nb ca cb : Nat} {m : Int} {S R : Nat} (p q : Bool) (w : World) (ha : Num w a na ca m S) (hb : Num w b nb cb 0 R) (hS : S ≤ 2000000) (hR : R ≤ 2000000) {ev : Value} (E : Errs w 0 ev) :
    Calls Tryd.prog 38 #[.agg #[.bool p, .slice a na ca], .agg #[.bool q, .slice b nb cb]] w fun e w' => e = .returned (.tuple #[.agg #[.bool false, .slice none 0 0], .agg #[.bool false, .slice none 0 0], ev]) ∧ Below w.heap.size w w' := by
  have E0 := E
  obtain ⟨P0, P1, R0, R1, hb0, hsz⟩ := box4 w (.bool p) (.slice a na ca) (.bool q) (.slice b nb cb) (.bool false) (.slice none 0 0) (.bool false) (.slice none 0 0) 30
  replace ha := ha.below hb0
  replace hb := hb.below hb0
  go_enter Tryd.func38, Tryd.ntmps38
  go_wp2_with fail
  generalize (((w.alloc (.cells #[.bool p, .slice a na ca] 30)).alloc (.cells #[.bool q, .slice b nb cb] 30)).alloc (.cells #[.bool false, .slice none 0 0] 30)).alloc (.cells #[.bool false, .slice none 0 0] 30) = W0 at *
  obtain ⟨p00, p01, p02, p03⟩ := id P0
  obtain ⟨p10, p11, p12, p13⟩ := id P1
  refine (divE _ ha hb (by omega) (by omega) (E.below hb0)).mono ?_
  rintro e w1 ⟨rfl, hb1⟩
  replace R0 := R0.below hb1
  replace R1 := R1.below hb1
  replace hb0 := bel_tr hb0 hb1
  obtain ⟨_, pp, rfl⟩ := E
  clear p00 p01 p02 p03 p10 p11 p12 p13 hb1 ha hb P0 P1
  obtain ⟨r0, r1, r2, r3⟩ := id R0
  obtain ⟨t0, t1, t2, t3⟩ := id R1
  obtain ⟨V, O⟩ := R0.set (.bool false) (.slice none 0 0)
  have R1' := R1.off O (by omega)
  obtain ⟨V1, O1⟩ := R1'.set (.bool false) (.slice none 0 0)
  have V0 := V.off O1 (by omega)
  have hw := (hb0.trans (O.below (by omega))).trans (O1.below (by omega))
  go_wp2
  refine bodyPost_ret (v := .tuple #[.agg #[.bool false, .slice none 0 0], .agg #[.bool false, .slice none 0 0], .iface 128 (.pointer (some pp))]) (by simp [results, Tryd.results38, go_sem, V0.c0, V0.c1, V1.c0, V1.c1]) rfl ⟨rfl, hw⟩
set_option maxHeartbeats 1000000 in
/-- whole.DivFloor by nought -/
theorem divEz {a b : Option Addr} {na nb ca cb : Nat} {m : Int} {S R : Nat} (p q : Bool) (w : World) (ha : Num w a na ca m S) (hb : Num w b nb cb 0 R) (hS : S ≤ 2000000) (hR : R ≤ 2000000) {ev : Value} (E : Errs w 0 ev) :
    Calls Tryd.prog 39 #[.agg #[.bool p, .slice a na ca], .agg #[.bool q, .slice b nb cb]] w fun e w' => e = .returned (.tuple #[.agg #[.bool false, .slice none 0 0], .agg #[.bool false, .slice none 0 0], ev]) ∧ Below w.heap.size w w' := by
  obtain ⟨P0, P1, R0, R1, hb0, hsz⟩ := box4 w (.bool p) (.slice a na ca) (.bool q) (.slice b nb cb) (.bool false) (.slice none 0 0) (.bool false) (.slice none 0 0) 30
  replace ha := ha.below hb0
  replace hb := hb.below hb0
  go_enter Tryd.func39, Tryd.ntmps39
  go_wp2_with fail
  generalize (((w.alloc (.cells #[.bool p, .slice a na ca] 30)).alloc (.cells #[.bool q, .slice b nb cb] 30)).alloc (.cells #[.bool false, .slice none 0 0] 30)).alloc (.cells #[.bool false, .slice none 0 0] 30) = W0 at *
  obtain ⟨p00, p01, p02, p03⟩ := id P0
  obtain ⟨p10, p11, p12, p13⟩ := id P1
  refine (quoE p q _ ha hb (by omega) (by omega) (E.below hb0)).mono ?_
  rintro e w1 ⟨rfl, hb1⟩
  replace R0 := R0.below hb1
  replace R1 := R1.below hb1
  replace hb0 := bel_tr hb0 hb1
  obtain ⟨_, pp, rfl⟩ := E
  clear p00 p01 p02 p03 p10 p11 p12 p13 hb1 ha hb P0 P1
  obtain ⟨r0, r1, r2, r3⟩ := id R0
  obtain ⟨t0, t1, t2, t3⟩ := id R1
  obtain ⟨V, O⟩ := R0.set (.bool false) (.slice none 0 0)
  have R1' := R1.off O (by omega)
  obtain ⟨V1, O1⟩ := R1'.set (.bool false) (.slice none 0 0)
  have V0 := V.off O1 (by omega)
  have hw := (hb0.trans (O.below (by omega))).trans (O1.below (by omega))
  obtain ⟨X, OX⟩ := V0.set (.bool false) (.slice none 0 0)
  have V1' := V1.off OX (by omega)
  obtain ⟨Y, OY⟩ := V1'.set (.bool false) (.slice none 0 0)
  have X' := X.off OY (by omega)
  have hw2 := (hw.trans (OX.below (by omega))).trans (OY.below (by omega))
  go_wp2
  refine bodyPost_ret (v := .tuple #[.agg #[.bool false, .slice none 0 0], .agg #[.bool false, .slice none 0 0], .iface 128 (.pointer (some pp))]) (by simp [results, Tryd.results39, go_sem, X'.c0, X'.c1, Y.c0, Y.c1]) rfl ⟨rfl, hw2⟩
end Go.Proofs.YtjbcjapgammbhabDoor

namespace Go.Proofs.YtjbcjapgammbhabDoor
open Go.RowKit

set_option maxHeartbeats 1000000 in
/-- by nought -/
theorem quots_nought {a b : Option Addr} {na nb ca cb : Nat} {m : Int} (p q : Bool) (w : World) (ha : Num w a na ca m 1048576) (hb : Num w b nb cb 0 1048576) {ev : Value} (E : Errs w 0 ev) :
    Calls Tryd.prog 8 #[.agg #[.bool p, .slice a na ca], .agg #[.bool q, .slice b nb cb]] w fun e w' => e = .returned (.bool true) ∧ Below w.heap.size w w' := by
  obtain ⟨i, hi, hcmp⟩ := Option.map_eq_some_iff.1 Tryd.errComp2
  obtain ⟨jj, hj, _⟩ := Option.map_eq_some_iff.1 Tryd.errSize2
  obtain ⟨P0, P1, hb0, hsz⟩ := box2 w (.bool p) (.slice a na ca) (.bool q) (.slice b nb cb) 30
  replace ha := ha.below hb0
  replace E := E.below hb0
  replace hb := hb.below hb0
  go_enter Tryd.func8, Tryd.ntmps8
  go_wp2_with fail
  generalize (w.alloc (.cells #[.bool p, .slice a na ca] 30)).alloc (.cells #[.bool q, .slice b nb cb] 30) = W0 at *
  obtain ⟨p00, p01, p02, p03⟩ := id P0
  obtain ⟨p10, p11, p12, p13⟩ := id P1
  refine (awakeI _).mono ?_
  rintro e w1 ⟨rfl, hx⟩
  replace P0 := P0.below hx
  replace P1 := P1.below hx
  replace ha := ha.below hx
  replace hb := hb.below hx
  replace E := E.below hx
  replace hb0 := bel_tr hb0 hx
  clear hx p00 p01 p02 p03 p10 p11 p12 p13
  obtain ⟨p00, p01, p02, p03⟩ := id P0
  obtain ⟨p10, p11, p12, p13⟩ := id P1
  go_wp2_with fail
  refine (quoE p q _ ha hb (by omega) (by omega) E).mono ?_
  rintro e w2 ⟨rfl, hx⟩
  replace P0 := P0.below hx
  replace P1 := P1.below hx
  replace ha := ha.below hx
  replace hb := hb.below hx
  replace E := E.below hx
  replace hb0 := bel_tr hb0 hx
  clear hx p00 p01 p02 p03 p10 p11 p12 p13
  obtain ⟨Vq, Vr, hx, hsx⟩ := box2 w2 (.bool false) (.slice none 0 0) (.bool false) (.slice none 0 0) 30
  obtain ⟨p00, p01, _, _⟩ := id (P0.below hx)
  obtain ⟨p10, p11, _, _⟩ := id (P1.below hx)
  go_wp2_with fail
  generalize (w2.alloc (.cells #[.bool false, .slice none 0 0] 30)).alloc (.cells #[.bool false, .slice none 0 0] 30) = w3 at *
  replace P0 := P0.below hx
  replace P1 := P1.below hx
  replace ha := ha.below hx
  replace hb := hb.below hx
  replace E := E.below hx
  replace hb0 := bel_tr hb0 hx
  clear hx hsx p00 p01 p10 p11
  refine (divEz p q _ ha hb (by omega) (by omega) E).mono ?_
  rintro e w4 ⟨rfl, hx⟩
  replace P0 := P0.below hx
  replace P1 := P1.below hx
  replace ha := ha.below hx
  replace hb := hb.below hx
  replace E := E.below hx
  replace hb0 := bel_tr hb0 hx
  clear hx
  obtain ⟨Vp, Vs, hx, hsx⟩ := box2 w4 (.bool false) (.slice none 0 0) (.bool false) (.slice none 0 0) 30
  obtain ⟨p10, p11, _, _⟩ := id (P1.below hx)
  go_wp2_with fail
  generalize (w4.alloc (.cells #[.bool false, .slice none 0 0] 30)).alloc (.cells #[.bool false, .slice none 0 0] 30) = w5 at *
  replace P0 := P0.below hx
  replace P1 := P1.below hx
  replace ha := ha.below hx
  replace hb := hb.below hx
  replace E := E.below hx
  replace hb0 := bel_tr hb0 hx
  clear hx hsx p10 p11
  refine (signI q _ hb (by omega)).mono ?_
  rintro e w6 ⟨rfl, hx⟩
  replace E := E.below hx
  replace hb0 := bel_tr hb0 hx
  rw [ws_zero]
  obtain ⟨ec, pp, rfl⟩ := E
  have heq := run_eql_iface_ptr_same (P := Tryd.prog) w6 pp Tryd.underlying38 Tryd.underlying128 hi hcmp hj
  clear hx P0 P1 ha hb Vq Vr Vp Vs
  go_wp2
  go_ret
  exact ⟨rfl, hb0⟩
end Go.Proofs.YtjbcjapgammbhabDoor

namespace Go.Proofs.YtjbcjapgammbhabDoor
open Go.RowKit

theorem quotients_walk {a b : Option Addr} {na nb ca cb : Nat} {m k : Int} (p q : Bool) (w : World) (ha : Num w a na ca m 1048576) (hb : Num w b nb cb k 1048576) {ev : Value} (E : Errs w 0 ev) :
    Calls Tryd.prog 8 #[.agg #[.bool p, .slice a na ca], .agg #[.bool q, .slice b nb cb]] w fun e w' => e = .returned (.bool true) ∧ Below w.heap.size w w' := by
  have h0 := hb.nn
  rcases Int.lt_or_le 0 k with hk | hk
  · exact quots_some p q w ha hb hk
  · obtain rfl : k = 0 := by omega
    exact quots_nought p q w ha hb E
end Go.Proofs.YtjbcjapgammbhabDoor

namespace Go.Proofs.YtjbcjapgammbhabDoor
open Go.ChangeShapes Go.WideShapes Go.ChangeAt Go.RowKit

theorem cellsInt : Tryd.prog.cellsOf 30 = 2 := by kernel_rfl
theorem cellsBool : Tryd.prog.cellsOf 4 = 1 := by kernel_rfl
theorem cellsNatI : Tryd.prog.cellsOf 28 = 1 := by kernel_rfl
set_option maxRecDepth 100000 in
/-- A number's one cell, read as data. -/
theorem open_natc {H : Type} {enc : TypeId × Value → H} {W : World} {fuel : Nat} {u : Value} {x : DataW H × List MemPlace}
    (hf : DataW.trod enc Tryd.prog W 0 (fun _ => true) true fuel 28 [u] = some x) (hk : Rows.uptoBulk x.1 ≤ 1048576) :
    ∃ a n cap xs, u = .slice a n cap ∧ n = xs.length ∧ n ≤ cap ∧ Reads W a xs ∧ AllW xs ∧ n ≤ 1048576 := by
  rcases open_ints Tryd.underlying28 Tryd.underlying65 cellsU64 hf with ⟨hcs, _⟩ | ⟨p, n, c, zs, hcs, _, hl, hm, hz, hx, hcell, hwz⟩
  · simp only [List.cons.injEq, and_true] at hcs
    exact ⟨_, _, _, [], hcs, rfl, Nat.le_refl _, .inl rfl, AllW.nil, Nat.zero_le _⟩
  · simp only [List.cons.injEq, and_true] at hcs
    simp only [if_true] at hz
    rw [hx] at hk
    have hlen : (zs.take n).length = n := by rw [List.length_take]; omega
    have hb : n ≤ 1048576 := by
      have := bulk_slice (H := H) (lits .u64 (zs.take n)) (lits .u64 (zs.drop n))
      have hk2 : Rows.uptoBulk (H := H) (.slice (lits .u64 (zs.take n)) (lits .u64 (zs.drop n))) ≤ 1048576 := hk
      have e1 : (lits (H := H) .u64 (zs.take n)).length = (zs.take n).length := by simp [lits]
      omega
    refine ⟨_, _, _, zs.take n, hcs, hlen.symm, hl, ?_, ?_, hb⟩
    · by_cases h0 : n = 0
      · exact .inl (by simp [h0])
      · obtain ⟨b, o, spot⟩ := p
        have hc := hcell 0 (by omega)
        have hspot : spot = none := by simpa [Addr.add] using World.cell?_spot hc
        subst hspot
        refine .inr ⟨b, o, rfl, fun i hi => ?_⟩
        rw [lm_take (by omega)]
        have := hcell i (by omega)
        by_cases hi0 : i = 0
        · subst hi0; simpa [Addr.add, lm] using this
        · simpa [Addr.add, lm, hi0] using this
    · intro y hy
      have := hwz y (List.mem_of_mem_take hy)
      simp [Lit.wf, IntKind.min, IntKind.max, IntKind.signed, IntKind.bits] at this
      exact ⟨by omega, by omega⟩
theorem bulk_agg {H : Type} (l : List (DataW H)) : Rows.uptoBulkAll l ≤ Rows.uptoBulk (.agg l) := by simp only [Rows.uptoBulk]; omega
set_option maxRecDepth 100000 in
/-- A whole number that came in: its sign and its limbs. -/
theorem open_whole {H : Type} {enc : TypeId × Value → H} {W : World} {base : Nat} {v : Value} {d : DataW H} {p : List MemPlace} (hv : Value.okWide Tryd.prog W .any base 30 v)
    (h : DataW.Trod enc Tryd.prog W 0 (fun _ => true) true 30 v d p) (hk : Rows.uptoBulk d ≤ 1048576) :
    ∃ b a n cap xs, v = .agg #[.bool b, .slice a n cap] ∧ n = xs.length ∧ n ≤ cap ∧ Reads W a xs ∧ AllW xs ∧ n ≤ 1048576 := by
  obtain ⟨cs, rfl, hsz⟩ := okWide_struct Tryd.underlying30 hv
  obtain ⟨fuel, hf⟩ := h
  rw [cellsInt] at hsz
  obtain ⟨y0, y1, m, hx, _, hy0, hy1⟩ := trod_struct2 Tryd.underlying30 hf
  obtain ⟨l⟩ := cs
  match l, hsz with
  | [u0, u1], _ =>
    simp only [Value.cells, cellsBool, cellsNatI, List.drop_zero, List.drop_succ_cons, List.take_succ_cons, List.take_zero] at hy0 hy1
    have hd : d = .agg [y0.1, y1.1] := (Prod.mk.inj hx).1
    have hb : Rows.uptoBulk y1.1 ≤ 1048576 := by
      rw [hd] at hk
      have := bulk_agg (H := H) [y0.1, y1.1]
      simp only [Rows.uptoBulkAll] at this
      omega
    obtain ⟨a, n, cap, xs, rfl, h1, h2, h3, h4, h5⟩ := open_natc hy1 hb
    have hbool : ∃ b, u0 = .bool b := by
      cases m with
      | zero => simp [DataW.trod] at hy0
      | succ m =>
        simp only [DataW.trod, Tryd.underlying4] at hy0
        cases u0 <;> simp_all
    obtain ⟨b, rfl⟩ := hbool
    exact ⟨b, a, n, cap, xs, rfl, h1, h2, h3, h4, h5⟩
set_option maxRecDepth 100000 in
theorem trod_whole {H : Type} {enc : TypeId × Value → H} {W W' : World} {v : Value} {d : DataW H} {p : List MemPlace} (h : DataW.Trod enc Tryd.prog W 0 (fun _ => true) true 30 v d p) (bel : Below W.heap.size W W') :
    DataW.Trod enc Tryd.prog W' 0 (fun b => decide (b < W.heap.size)) true 30 v d p :=
  Below.trod laidOut (by kernel_rfl) (of_decide_eq_true (by kernel_rfl)) h bel (trod_blocks h)
end Go.Proofs.YtjbcjapgammbhabDoor
