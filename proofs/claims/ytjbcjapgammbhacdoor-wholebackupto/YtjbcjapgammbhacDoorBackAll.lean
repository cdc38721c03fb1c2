import Derived.Test.YtjbcjapgammbhacDoorWhG
import Derived.Test.YtjbcjapgammbhacDoorWhB
namespace Go.Proofs.YtjbcjapgammbhacDoor
open Go.RowKit

/-- The flag and the slice tell the whole number x, in whatever way, S limbs at the most. -/
def TI (w : World) (b : Bool) (a : Option Addr) (n c : Nat) (x : Int) (S : Nat) : Prop := ∃ m, Num w a n c m S ∧ ws b m = x
theorem TI.below {w w' : World} {b : Bool} {a : Option Addr} {n c : Nat} {x : Int} {S : Nat} (h : TI w b a n c x S) (hb : Below w.heap.size w w') : TI w' b a n c x S := by
  obtain ⟨m, h1, h2⟩ := h; exact ⟨m, h1.below hb, h2⟩
theorem TI.drewN {w : World} {b : Bool} {a : Option Addr} {n c : Nat} {x : Int} {S : Nat} (h : TI w b a n c x S) (j : Nat) : TI (w.drewN j) b a n c x S := h.below (belN (Below.refl _ _) j)
theorem GI.form {w : World} {B : Nat} {v : Value} {x : Int} {S : Nat} (h : GI w B v x S) : ∃ b a n c, v = .agg #[.bool b, .slice a n c] := by
  obtain ⟨a, n, c, h1, _⟩ := h; exact ⟨_, a, n, c, h1⟩
theorem GI.ti {w : World} {B : Nat} {b : Bool} {a : Option Addr} {n c : Nat} {x : Int} {S : Nat} (h : GI w B (.agg #[.bool b, .slice a n c]) x S) : TI w b a n c x S := by
  obtain ⟨h1, h2⟩ := h.parts
  exact ⟨_, h2.num, by rw [h1]; exact ws_sign x⟩
theorem addT {a b : Option Addr} {p q : Bool} {na nb ca cb : Nat} {x y : Int} {S R : Nat} (w : World) (ha : TI w p a na ca x S) (hb : TI w q b nb cb y R) (hS : S ≤ 10000000) (hR : R ≤ 10000000) :
    Calls Tryd.prog 12 #[.agg #[.bool p, .slice a na ca], .agg #[.bool q, .slice b nb cb]] w fun e w' => ∃ f c n d, e = .returned (.agg #[.bool f, .slice c n d]) ∧ GI w' w.heap.size (.agg #[.bool f, .slice c n d]) (x + y) (S + R + 1) ∧ Below w.heap.size w w' := by
  obtain ⟨m, h1, rfl⟩ := ha
  obtain ⟨k, h2, rfl⟩ := hb
  refine (addI p q w h1 h2 (by omega) (by omega)).mono ?_
  rintro e w' ⟨v, rfl, G, hb⟩
  obtain ⟨f, c, n, d, rfl⟩ := G.form
  exact ⟨f, c, n, d, rfl, G, hb⟩
theorem subT {a b : Option Addr} {p q : Bool} {na nb ca cb : Nat} {x y : Int} {S R : Nat} (w : World) (ha : TI w p a na ca x S) (hb : TI w q b nb cb y R) (hS : S ≤ 10000000) (hR : R ≤ 10000000) :
    Calls Tryd.prog 29 #[.agg #[.bool p, .slice a na ca], .agg #[.bool q, .slice b nb cb]] w fun e w' => ∃ f c n d, e = .returned (.agg #[.bool f, .slice c n d]) ∧ GI w' w.heap.size (.agg #[.bool f, .slice c n d]) (x - y) (S + R + 1) ∧ Below w.heap.size w w' := by
  obtain ⟨m, h1, rfl⟩ := ha
  obtain ⟨k, h2, rfl⟩ := hb
  refine (subI p q w h1 h2 (by omega) (by omega)).mono ?_
  rintro e w' ⟨v, rfl, G, hb⟩
  obtain ⟨f, c, n, d, rfl⟩ := G.form
  exact ⟨f, c, n, d, rfl, G, hb⟩
theorem mulT {a b : Option Addr} {p q : Bool} {na nb ca cb : Nat} {x y : Int} {S R : Nat} (w : World) (ha : TI w p a na ca x S) (hb : TI w q b nb cb y R) (hS : S ≤ 10000000) (hR : R ≤ 10000000) :
    Calls Tryd.prog 13 #[.agg #[.bool p, .slice a na ca], .agg #[.bool q, .slice b nb cb]] w fun e w' => ∃ f c n d, e = .returned (.agg #[.bool f, .slice c n d]) ∧ GI w' w.heap.size (.agg #[.bool f, .slice c n d]) (x * y) (S + R) ∧ Below w.heap.size w w' := by
  obtain ⟨m, h1, rfl⟩ := ha
  obtain ⟨k, h2, rfl⟩ := hb
  refine (mulI p q w h1 h2 (by omega) (by omega)).mono ?_
  rintro e w' ⟨v, rfl, G, hb⟩
  obtain ⟨f, c, n, d, rfl⟩ := G.form
  exact ⟨f, c, n, d, rfl, G, hb⟩
theorem signT {a : Option Addr} {p : Bool} {na ca : Nat} {x : Int} {S : Nat} (w : World) (ha : TI w p a na ca x S) (hS : S ≤ 10000000) :
    Calls Tryd.prog 16 #[.agg #[.bool p, .slice a na ca]] w fun e w' => e = .returned (.int .i64 x.sign) ∧ Below w.heap.size w w' := by
  obtain ⟨m, h1, rfl⟩ := ha
  exact signI p w h1 (by omega)
theorem cmpT {a b : Option Addr} {p q : Bool} {na nb ca cb : Nat} {x y : Int} {S R : Nat} (w : World) (ha : TI w p a na ca x S) (hb : TI w q b nb cb y R) (hS : S ≤ 10000000) (hR : R ≤ 10000000) :
    Calls Tryd.prog 14 #[.agg #[.bool p, .slice a na ca], .agg #[.bool q, .slice b nb cb]] w fun e w' => e = .returned (.int .i64 (x - y).sign) ∧ Below w.heap.size w w' := by
  obtain ⟨m, h1, rfl⟩ := ha
  obtain ⟨k, h2, rfl⟩ := hb
  exact wcmpI p q w h1 h2 (by omega) (by omega)
theorem ofT (v : Int) (w : World) (h0 : -9223372036854775808 ≤ v) (h1 : v < 9223372036854775808) :
    Calls Tryd.prog 10 #[.int .i64 v] w fun e w' => ∃ f c n d, e = .returned (.agg #[.bool f, .slice c n d]) ∧ GI w' w.heap.size (.agg #[.bool f, .slice c n d]) (v) (1) ∧ Below w.heap.size w w' := by
  refine (ofI v w h0 h1).mono ?_
  rintro e w' ⟨u, rfl, G, hb⟩
  obtain ⟨f, c, n, d, rfl⟩ := G.form
  exact ⟨f, c, n, d, rfl, G, hb⟩
end Go.Proofs.YtjbcjapgammbhacDoor

namespace Go.Proofs.YtjbcjapgammbhacDoor
open Go.RowKit

set_option maxHeartbeats 1000000 in
/-- whole.Norm -/
theorem normI {a : Option Addr} {na ca : Nat} {m : Int} {S : Nat} (p : Bool) (w : World) (ha : Num w a na ca m S) (hS : S ≤ 10000000000) :
    Calls Tryd.prog 9 #[.agg #[.bool p, .slice a na ca]] w fun e w' => ∃ v, e = .returned v ∧ GI w' w.heap.size v (ws p m) S ∧ Below w.heap.size w w' := by
  obtain ⟨P0, R0, hb0, hsz⟩ := box2 w (.bool p) (.slice a na ca) (.bool false) (.slice none 0 0) 25
  replace ha := ha.below hb0
  go_enter Tryd.func9, Tryd.ntmps9
  go_wp2_with fail
  generalize (w.alloc (.cells #[.bool p, .slice a na ca] 25)).alloc (.cells #[.bool false, .slice none 0 0] 25) = W0 at *
  obtain ⟨p00, p01, p02, p03⟩ := id P0
  refine (fromI (p) _ ha (by omega)).mono ?_
  rintro e w2 ⟨v, rfl, G, hb1⟩
  obtain ⟨c1, n1, d1, rfl, GG⟩ := id G
  have GF : GI w2 W0.heap.size _ (ws p m) S := G
  have R1 := R0.below hb1
  obtain ⟨r0, r1, r2, r3⟩ := id R1
  have hw2 := bel_tr hb0 hb1
  obtain ⟨V, O⟩ := R1.set (.bool (decide (ws (p) m < 0))) (.slice c1 n1 d1)
  clear P0 R0 p00 p01 p02 p03 ha hb0 hb1 GG G
  go_wp2
  refine bodyPost_ret (v := .agg #[.bool (decide (ws (p) m < 0)), .slice c1 n1 d1]) (by simp [results, Tryd.results9, go_sem, V.c0, V.c1]) rfl ⟨_, rfl, ((GF.off O (by omega)).mono (by omega)), hw2.trans (O.below (by omega))⟩

end Go.Proofs.YtjbcjapgammbhacDoor

namespace Go.Proofs.YtjbcjapgammbhacDoor
open Go.RowKit

theorem normT {a : Option Addr} {p : Bool} {na ca : Nat} {x : Int} {S : Nat} (w : World) (ha : TI w p a na ca x S) (hS : S ≤ 10000000) :
    Calls Tryd.prog 9 #[.agg #[.bool p, .slice a na ca]] w fun e w' => ∃ f c n d, e = .returned (.agg #[.bool f, .slice c n d]) ∧ GI w' w.heap.size (.agg #[.bool f, .slice c n d]) (x) (S) ∧ Below w.heap.size w w' := by
  obtain ⟨m, h1, rfl⟩ := ha
  refine (normI p w h1 (by omega)).mono ?_
  rintro e w' ⟨v, rfl, G, hb⟩
  obtain ⟨f, c, n, d, rfl⟩ := G.form
  exact ⟨f, c, n, d, rfl, G, hb⟩
end Go.Proofs.YtjbcjapgammbhacDoor

namespace Go.Proofs.YtjbcjapgammbhacDoor
open Go.RowKit

set_option maxHeartbeats 1000000 in
/-- same: two answers of one number. -/
theorem sameI {a b : Option Addr} {na nb ca cb B B' : Nat} {x : Int} {S R : Nat} (p q : Bool) (w : World) (ha : GI w B (.agg #[.bool p, .slice a na ca]) x S) (hb : GI w B' (.agg #[.bool q, .slice b nb cb]) x R) (hS : S ≤ 10000000000) :
    Calls Tryd.prog 8 #[.agg #[.bool p, .slice a na ca], .agg #[.bool q, .slice b nb cb]] w fun e w' => e = .returned (.bool true) ∧ Below w.heap.size w w' := by
  obtain ⟨hp, xs, o1, nf1, v1, l1⟩ := ha.parts
  obtain ⟨hq, ys, o2, nf2, v2, l2⟩ := hb.parts
  obtain rfl : xs = ys := nf_unique nf1 nf2 (by omega)
  obtain rfl : p = q := by rw [hp, hq]
  obtain ⟨r1, r2, r3⟩ := o1.reads
  obtain ⟨s1, s2, s3⟩ := o2.reads
  obtain rfl : na = nb := by omega
  obtain ⟨P0, P1, hb0, hsz⟩ := box2 w (.bool p) (.slice a na ca) (.bool p) (.slice b na cb) 25
  replace r3 := r3.below hb0
  replace s3 := s3.below hb0
  have hna : na ≤ 10000000000 := by omega
  have Hn : Hid (na = xs.length) := r1
  clear r1 s1 o1 o2 nf1 nf2 v1 v2 l1 l2 hp hq ha hb
  go_enter Tryd.func8, Tryd.ntmps8
  go_wp2_with fail
  generalize (w.alloc (.cells #[.bool p, .slice a na ca] 25)).alloc (.cells #[.bool p, .slice b na cb] 25) = W0 at *
  obtain ⟨p00, p01, p02, p03⟩ := id P0
  obtain ⟨p10, p11, p12, p13⟩ := id P1
  go_loopw [5, 6] (fun ok i wr => ∃ k : Nat, ok = .bool true ∧ i = .int .i64 k ∧ k ≤ na ∧ Var2 wr w.heap.size (.bool p) (.slice a na ca) ∧ Var2 wr (w.heap.size + 1) (.bool p) (.slice b na cb) ∧ Reads wr a xs ∧ Reads wr b xs ∧ Below w.heap.size w wr) (fun _ i _ => na - (intOf i).toNat)
  case atStart => exact ⟨0, rfl, by go_num, Nat.zero_le _, P0, P1, r3, s3, hb0⟩
  case round =>
    clear p00 p01 p02 p03 p10 p11 p12 p13 P0 P1 r3 s3 hb0
    obtain ⟨k, rfl, rfl, hk, P0, P1, r3, s3, hb0⟩ := hrel
    obtain ⟨p00, p01, p02, p03⟩ := id P0
    obtain ⟨p10, p11, p12, p13⟩ := id P1
    by_cases hlt : k < na
    · obtain ⟨bb, oo, rfl, hc⟩ := r3.at (by have := Hn.out; omega)
      obtain ⟨bb', oo', rfl, hc'⟩ := s3.at (by have := Hn.out; omega)
      have c1 := hc k (by have := Hn.out; omega)
      have c2 := hc' k (by have := Hn.out; omega)
      have hki : (k : Int) < na := by omega
      generalize lm xs k = X at *
      clear hc hc'
      go_wp2
      go_quiet (fail)
      go_wp2
      have hq : Below wr.heap.size wr (wr.drewN nq) := belN (Below.refl _ _) nq
      exact ⟨⟨k + 1, rfl, by go_num, by omega, P0.below hq, P1.below hq, r3.below hq, s3.below hq, bel_tr hb0 hq⟩, by simp [intOf]; omega⟩
    · obtain rfl : k = na := by omega
      go_wp2
      go_ret
      exact ⟨rfl, hb0⟩
end Go.Proofs.YtjbcjapgammbhacDoor

namespace Go.Proofs.YtjbcjapgammbhacDoor
open Go.RowKit

theorem str_some {s : ByteArray} (h : 0 < s.size) : s.toList.isEmpty = false := by
  rw [ByteArray.toList_eq]
  obtain ⟨⟨l⟩⟩ := s
  cases l with
  | nil => exact absurd h (by decide)
  | cons x r => rfl
set_option maxHeartbeats 1000000 in
theorem cut_minus (s : ByteArray) (w : World) (hs : s.size ≤ 100000000) (h0 : 0 < s.size) (hB : byt s 0 = 45) :
    Calls Tryd.prog 18 #[.string s] w fun e w' => e = .returned (.tuple #[.bool true, .string (s.extract 1 s.size)]) ∧ Below w.heap.size w w' := by
  have hby := byt_get h0
  rw [hB] at hby
  have h0' : (0 : Int) < (s.size : Int) := by omega
  have h1' : (1 : Int) ≤ (s.size : Int) := by omega
  have he := str_some h0
  go_enter Tryd.func18, Tryd.ntmps18
  go_wp2
  go_region
  go_wp2
  go_ret2
  exact ⟨rfl, (Below.refl _ _).drew⟩
set_option maxHeartbeats 1000000 in
theorem cut_plus (s : ByteArray) (w : World) (hs : s.size ≤ 100000000) (h0 : 0 < s.size) (hB : byt s 0 = 43) :
    Calls Tryd.prog 18 #[.string s] w fun e w' => e = .returned (.tuple #[.bool false, .string (s.extract 1 s.size)]) ∧ Below w.heap.size w w' := by
  have hby := byt_get h0
  rw [hB] at hby
  have h0' : (0 : Int) < (s.size : Int) := by omega
  have h1' : (1 : Int) ≤ (s.size : Int) := by omega
  have he := str_some h0
  go_enter Tryd.func18, Tryd.ntmps18
  go_wp2
  go_region
  go_wp2
  go_ret2
  exact ⟨rfl, (Below.refl _ _).drew⟩
set_option maxHeartbeats 1000000 in
theorem cut_none (s : ByteArray) (w : World) (hs : s.size ≤ 100000000) (h0 : 0 < s.size) (hB : byt s 0 ≠ 43) (hB' : byt s 0 ≠ 45) :
    Calls Tryd.prog 18 #[.string s] w fun e w' => e = .returned (.tuple #[.bool false, .string s]) ∧ Below w.heap.size w w' := by
  have hby := byt_get h0
  have h0' : (0 : Int) < (s.size : Int) := by omega
  have he := str_some h0
  generalize byt s 0 = B at *
  have t1 : (B != 43) = true := by simpa using hB
  have t2 : (B != 45) = true := by simpa using hB'
  go_enter Tryd.func18, Tryd.ntmps18
  go_wp2
  go_ret2
  exact ⟨rfl, Below.refl _ _⟩
end Go.Proofs.YtjbcjapgammbhacDoor

namespace Go.Proofs.YtjbcjapgammbhacDoor
open Go.RowKit

set_option maxHeartbeats 1000000 in
theorem cut_nil (w : World) :
    Calls Tryd.prog 18 #[.string ⟨#[]⟩] w fun e w' => e = .returned (.tuple #[.bool false, .string ⟨#[]⟩]) ∧ Below w.heap.size w w' := by
  go_enter Tryd.func18, Tryd.ntmps18
  go_wp2
  go_ret2
  exact ⟨rfl, Below.refl _ _⟩
def cutS (s : ByteArray) : Bool × ByteArray :=
  if 0 < s.size ∧ byt s 0 = 45 then (true, s.extract 1 s.size) else if 0 < s.size ∧ byt s 0 = 43 then (false, s.extract 1 s.size) else (false, s)
theorem cutS_size (s : ByteArray) : (cutS s).2.size ≤ s.size := by
  unfold cutS
  split
  · show (s.extract 1 s.size).size ≤ s.size
    rw [size_extract _ _ _ (Nat.le_refl _)]; omega
  · split
    · show (s.extract 1 s.size).size ≤ s.size
      rw [size_extract _ _ _ (Nat.le_refl _)]; omega
    · exact Nat.le_refl _
theorem cutS_any (s : ByteArray) (w : World) (hs : s.size ≤ 100000000) :
    Calls Tryd.prog 18 #[.string s] w fun e w' => e = .returned (.tuple #[.bool (cutS s).1, .string (cutS s).2]) ∧ Below w.heap.size w w' := by
  rcases Nat.eq_zero_or_pos s.size with h | h
  · obtain rfl : s = ⟨#[]⟩ := by
      obtain ⟨⟨l⟩⟩ := s
      cases l with
      | nil => rfl
      | cons x r => exact absurd h (by show ¬ ((x :: r).length = 0); simp)
    exact cut_nil w
  · by_cases h1 : byt s 0 = 45
    · have e : cutS s = (true, s.extract 1 s.size) := if_pos ⟨h, h1⟩
      rw [e]
      exact cut_minus s w hs h h1
    · by_cases h2 : byt s 0 = 43
      · have e : cutS s = (false, s.extract 1 s.size) := by
          unfold cutS
          rw [if_neg (fun a => h1 a.2), if_pos ⟨h, h2⟩]
        rw [e]
        exact cut_plus s w hs h h2
      · have e : cutS s = (false, s) := by
          unfold cutS
          rw [if_neg (fun a => h1 a.2), if_neg (fun a => h2 a.2)]
        rw [e]
        exact cut_none s w hs h h2 h1
set_option maxHeartbeats 1000000 in
theorem parseI (s : ByteArray) (w : World) (hs : s.size ≤ 100000000) (hd : Digs (cutS s).2 (cutS s).2.size) (h0 : 0 < (cutS s).2.size) :
    Calls Tryd.prog 7 #[.string s] w fun e w' => ∃ v, e = .returned (.tuple #[v, .nilIface]) ∧ GI w' w.heap.size v (ws (cutS s).1 (rdF (cutS s).2 0 (cutS s).2.size)) (cutS s).2.size ∧ Below w.heap.size w w' := by
  have hz := cutS_size s
  have hc := fun u => cutS_any s u hs
  generalize (cutS s).1 = b at *
  generalize (cutS s).2 = r at *
  obtain ⟨R0, hb0, hsz⟩ := box1 w (.bool false) (.slice none 0 0) 25
  go_enter Tryd.func7, Tryd.ntmps7
  go_wp2_with fail
  generalize w.alloc (.cells #[.bool false, .slice none 0 0] 25) = W0 at *
  refine (hc _).mono ?_
  rintro e w1 ⟨rfl, hb1⟩
  replace R0 := R0.below hb1
  replace hb0 := bel_tr hb0 hb1
  have hs1 := hb1.size
  clear hb1 hc
  go_wp2_with fail
  refine (parse_yes _ _ (by omega) hd h0).mono ?_
  rintro e w2 ⟨c1, n1, d1, rfl, G, hb2⟩
  replace R0 := R0.below hb2
  replace hb0 := bel_tr hb0 hb2
  have hs2 := hb2.size
  clear hb2
  go_wp2_with fail
  refine (signed_any _ _ _ _ _).mono ?_
  rintro e w3 ⟨rfl, hb3⟩
  replace R0 := R0.below hb3
  have hw2 := bel_tr hb0 hb3
  have GF := (G.gi b).below hb3
  obtain ⟨r0, r1, r2, r3⟩ := id R0
  generalize (b && decide (0 < n1)) = B at *
  obtain ⟨V, O⟩ := R0.set (.bool B) (.slice c1 n1 d1)
  clear hb3 hb0 G
  go_wp2
  refine bodyPost_ret (v := .tuple #[.agg #[.bool B, .slice c1 n1 d1], .nilIface]) (by simp [results, Tryd.results7, go_sem, V.c0, V.c1]) rfl ⟨_, rfl, ((GF.off O (by omega)).mono (by omega)), hw2.trans (O.below (by omega))⟩
set_option maxHeartbeats 1000000 in
theorem parseN (s : ByteArray) (w : World) (ev : Value) (hs : s.size ≤ 100000000) (hd : ¬ (Digs (cutS s).2 (cutS s).2.size ∧ 0 < (cutS s).2.size)) (E : Errs w 0 ev) :
    Calls Tryd.prog 7 #[.string s] w fun e w' => e = .returned (.tuple #[.agg #[.bool false, .slice none 0 0], ev]) ∧ Below w.heap.size w w' := by
  have hz := cutS_size s
  have hc := fun u => cutS_any s u hs
  generalize (cutS s).1 = b at *
  generalize (cutS s).2 = r at *
  obtain ⟨R0, hb0, hsz⟩ := box1 w (.bool false) (.slice none 0 0) 25
  go_enter Tryd.func7, Tryd.ntmps7
  go_wp2_with fail
  generalize w.alloc (.cells #[.bool false, .slice none 0 0] 25) = W0 at *
  refine (hc _).mono ?_
  rintro e w1 ⟨rfl, hb1⟩
  replace R0 := R0.below hb1
  replace hb0 := bel_tr hb0 hb1
  have hs1 := hb1.size
  clear hb1 hc
  go_wp2_with fail
  refine (parse_no _ _ ev (by omega) hd (E.below hb0)).mono ?_
  rintro e w2 ⟨rfl, hb2⟩
  replace R0 := R0.below hb2
  replace hb0 := bel_tr hb0 hb2
  have hs2 := hb2.size
  clear hb2
  obtain ⟨r0, r1, r2, r3⟩ := id R0
  obtain ⟨V, O⟩ := R0.set (.bool false) (.slice none 0 0)
  obtain ⟨p, rfl⟩ := E.2
  go_wp2
  exact bodyPost_ret (v := .tuple #[.agg #[.bool false, .slice none 0 0], .iface 88 (.pointer (some p))]) (by simp [results, Tryd.results7, go_sem, V.c0, V.c1]) rfl ⟨rfl, hb0.trans (O.below (by omega))⟩
end Go.Proofs.YtjbcjapgammbhacDoor

namespace Go.Proofs.YtjbcjapgammbhacDoor
open Go.RowKit

/-- What digits tell, the least first. -/
def vl : List Int → Int
  | [] => 0
  | d :: r => d + 10 * vl r
theorem vl_nn : ∀ (zs : List Int), (∀ d ∈ zs, 0 ≤ d ∧ d ≤ 9) → 0 ≤ vl zs := by
  intro zs
  induction zs with
  | nil => intro _; simp [vl]
  | cons d r ih => intro h; have h1 := ih (fun x hx => h x (List.mem_cons_of_mem _ hx)); have h2 := h d (List.mem_cons_self ..); simp only [vl]; omega
theorem vl_decs (v : Nat) : vl (decs v) = v := by
  induction v using Nat.strongRecOn with
  | ind v ih =>
    by_cases hv : v = 0
    · subst hv; rw [decs_zero]; rfl
    · rw [decs_pos hv]
      have h := ih (v / 10) (by omega)
      simp only [vl]; omega
theorem decs_vl : ∀ (zs : List Int), (∀ d ∈ zs, 0 ≤ d ∧ d ≤ 9) → zs.getLast? ≠ some 0 → decs (vl zs).toNat = zs := by
  intro zs
  induction zs with
  | nil => intro _ _; show decs 0 = []; exact decs_zero
  | cons d r ih =>
    intro h hl
    have h2 := h d (List.mem_cons_self ..)
    have hr : ∀ x ∈ r, 0 ≤ x ∧ x ≤ 9 := fun x hx => h x (List.mem_cons_of_mem _ hx)
    have hn := vl_nn r hr
    have h3 : decs (vl r).toNat = r := by
      cases r with
      | nil => show decs 0 = []; exact decs_zero
      | cons x r => exact ih hr (by rw [List.getLast?_cons_cons] at hl; exact hl)
    have h4 : d ≠ 0 ∨ vl r ≠ 0 := by
      cases r with
      | nil => left; intro e; apply hl; subst e; rfl
      | cons x r => right; intro e; rw [e] at h3; rw [show (0 : Int).toNat = 0 from rfl, decs_zero] at h3; cases h3
    have e1 : (vl (d :: r)).toNat % 10 = d.toNat := by simp only [vl]; omega
    have e2 : (vl (d :: r)).toNat / 10 = (vl r).toNat := by simp only [vl]; omega
    rw [decs_pos (by simp only [vl]; omega), e1, e2, h3]
    congr 1
    omega

theorem byt_str {xs : List Int} (h : ∀ d ∈ xs, 0 ≤ d ∧ d < 256) {i : Nat} (hi : i < xs.length) : byt (strOfNums xs) i = xs[i] := by
  unfold byt
  rw [strOfNums_data, List.getD_eq_getElem?_getD, List.getElem?_map, List.getElem?_eq_getElem hi]
  have := h xs[i] (List.getElem_mem hi)
  simp only [Option.map_some, Option.getD_some, UInt8.toNat_ofNat']
  omega
theorem vl_app (a : List Int) (d : Int) (xs : List Int) (h : xs = a ++ [d]) : vl xs.reverse = vl a.reverse * 10 + d := by
  subst h
  simp only [List.reverse_append, List.reverse_cons, List.reverse_nil, List.nil_append, List.cons_append, vl]
  omega
theorem rd_str (xs : List Int) (h : ∀ d ∈ xs, 48 ≤ d ∧ d ≤ 57) (k : Nat) (hk : k ≤ xs.length) : rdF (strOfNums xs) 0 k = vl ((xs.take k).map (· - 48)).reverse := by
  induction k with
  | zero => rfl
  | succ k ih =>
    have hb := byt_str (xs := xs) (fun d hd => by have := h d hd; omega) (i := k) (by omega)
    show rdF _ 0 k * 10 + (byt _ (0 + k) - 48) = _
    have e := vl_app ((xs.take k).map (· - 48)) (xs[k] - 48) ((xs.take (k + 1)).map (· - 48)) (by rw [List.take_succ_eq_append_getElem (by omega), List.map_append]; rfl)
    rw [Nat.zero_add, hb, ih (by omega), e]
theorem rd_str_all (xs : List Int) (h : ∀ d ∈ xs, 48 ≤ d ∧ d ≤ 57) : rdF (strOfNums xs) 0 (strOfNums xs).size = vl (xs.map (· - 48)).reverse := by
  rw [strOfNums_size, rd_str xs h _ (Nat.le_refl _), List.take_length]
/-- A number's text, as a list. -/
def txtL (v : Nat) : List Int := if v = 0 then [48] else ((decs v).map (48 + ·)).reverse
theorem txt_txtL (v : Nat) : txt v = strOfNums (txtL v) := by unfold txt txtL; split <;> rfl
theorem txtL_bd (v : Nat) : ∀ d ∈ txtL v, 48 ≤ d ∧ d ≤ 57 := by
  intro d hd
  unfold txtL at hd
  split at hd
  · simp at hd; omega
  · rw [List.mem_reverse, List.mem_map] at hd
    obtain ⟨x, h1, rfl⟩ := hd
    have := decs_bd v x h1
    omega
theorem txtL_len (v : Nat) : 0 < (txtL v).length := by
  unfold txtL
  split
  · decide
  · rename_i h
    rw [List.length_reverse, List.length_map]
    rw [decs_pos h]; simp
theorem rd_txt (v : Nat) : rdF (txt v) 0 (txt v).size = v := by
  rw [txt_txtL, rd_str_all _ (txtL_bd v)]
  unfold txtL
  split
  · rename_i h; subst h; rfl
  · rw [List.map_reverse, List.reverse_reverse, List.map_map]
    rw [show ((fun x : Int => x - 48) ∘ fun x => 48 + x) = id by funext x; simp only [Function.comp, id]; omega, List.map_id]
    exact vl_decs v
theorem digs_txt (v : Nat) : Digs (txt v) (txt v).size := by
  intro i hi
  rw [txt_txtL] at hi ⊢
  rw [strOfNums_size] at hi
  rw [byt_str (fun d hd => by have := txtL_bd v d hd; omega) hi]
  exact txtL_bd v _ (List.getElem_mem hi)
theorem size_txt (v : Nat) : 0 < (txt v).size := by rw [txt_txtL, strOfNums_size]; exact txtL_len v
/-- Digits that don't open with nought, or are one, are the text of what they tell. -/
theorem txt_rd (t : ByteArray) (hd : Digs t t.size) (h0 : 0 < t.size) (h1 : t.size = 1 ∨ byt t 0 ≠ 48) : txt (rdF t 0 t.size).toNat = t := by
  obtain ⟨xs, rfl, hx⟩ : ∃ xs : List Int, t = strOfNums xs ∧ ∀ d ∈ xs, 48 ≤ d ∧ d ≤ 57 := by
    refine ⟨t.data.toList.map fun b => (b.toNat : Int), ?_, ?_⟩
    · obtain ⟨⟨l⟩⟩ := t
      simp only [strOfNums, List.map_map, ByteArray.mk.injEq]
      rw [show ((fun n : Int => UInt8.ofNat n.toNat) ∘ fun b : UInt8 => (b.toNat : Int)) = id by funext b; simp, List.map_id]
    · intro d hm
      obtain ⟨b, hb, rfl⟩ := List.mem_map.1 hm
      obtain ⟨i, hi, rfl⟩ := List.getElem_of_mem hb
      have := hd i hi
      unfold byt at this
      rw [List.getD_eq_getElem?_getD, List.getElem?_eq_getElem hi] at this
      exact this
  have hb : ∀ d ∈ xs, 0 ≤ d ∧ d < 256 := fun d hd => by have := hx d hd; omega
  rw [rd_str_all _ hx]
  rw [strOfNums_size] at h0 h1
  rw [byt_str hb h0] at h1
  clear hd
  rw [txt_txtL]
  congr 1
  by_cases hz : xs = [48]
  · subst hz; rfl
  · cases xs with
    | nil => exact absurd h0 (by simp)
    | cons d r =>
      have hd0 : d ≠ 48 := by
        rcases h1 with h1 | h1
        · rintro rfl
          apply hz
          cases r with
          | nil => rfl
          | cons y r => simp at h1
        · exact h1
      have hB : ∀ x ∈ ((d :: r).map (· - 48)).reverse, 0 ≤ x ∧ x ≤ 9 := by
        intro x hm
        rw [List.mem_reverse, List.mem_map] at hm
        obtain ⟨y, h2, rfl⟩ := hm
        have := hx y h2
        omega
      have e := decs_vl ((d :: r).map (· - 48)).reverse hB (by rw [List.getLast?_reverse]; simp; omega)
      unfold txtL
      rw [e, if_neg ?_]
      · rw [List.map_reverse, List.reverse_reverse, List.map_map]
        rw [show ((fun x : Int => 48 + x) ∘ fun x => x - 48) = id by funext x; simp only [Function.comp, id]; omega, List.map_id]
      · intro hq
        rw [hq, decs_zero] at e
        simp at e
end Go.Proofs.YtjbcjapgammbhacDoor

namespace Go.Proofs.YtjbcjapgammbhacDoor
open Go.RowKit

theorem Tryd.errCompB : (Tryd.prog.info? 88).map (·.comparable) = some true := by kernel_rfl
theorem Tryd.errSizeB : (Tryd.prog.info? 106).map (·.size) = some 1 := by kernel_rfl
theorem str_ne {t : ByteArray} {l : List UInt8} {u : ByteArray} (hu : u.data.toList = l) (h : t ≠ u) : (t.toList == l) = false := by
  rw [beq_eq_false_iff_ne, ByteArray.toList_eq]
  intro e
  apply h
  apply ByteArray.ext
  apply Array.toList_inj.1
  rw [hu]; exact e
theorem strip_step {u : ByteArray} (h : Digs u u.size) (h1 : 1 < u.size) (h2 : byt u 0 = 48) (h3 : u.size ≤ 100000000) :
    Digs (u.extract 1 u.size) (u.extract 1 u.size).size ∧ 0 < (u.extract 1 u.size).size ∧ (u.extract 1 u.size).size ≤ 100000000 ∧ rdF (u.extract 1 u.size) 0 (u.extract 1 u.size).size = rdF u 0 u.size ∧ (u.extract 1 u.size).size < u.size := by
  have e : (u.extract 1 u.size).size = u.size - 1 := by rw [size_extract _ _ _ (Nat.le_refl _)]
  have eb : ∀ i, i < u.size - 1 → byt (u.extract 1 u.size) i = byt u (1 + i) := fun i hi => byt_extract u 1 u.size i (Nat.le_refl _) (by omega)
  rw [e]
  refine ⟨fun i hi => by rw [eb i hi]; exact h _ (by omega), by omega, by omega, ?_, by omega⟩
  rw [rdF_congr (u.size - 1) eb]
  have := rdF_add u 0 1 (u.size - 1)
  rw [show 1 + (u.size - 1) = u.size by omega] at this
  rw [this]
  simp only [rdF, Nat.zero_add, h2]
  omega
theorem fin_pos {V : Int} (h : 0 ≤ V) : txtI (ws false V) = txt V.toNat := by
  have e : V.natAbs = V.toNat := by omega
  show txtI V = _
  unfold txtI
  rw [if_neg (by omega), e]
theorem fin_neg {V : Int} {u : ByteArray} (h : 0 ≤ V) (hu : txt V.toNat = u) : (u = ⟨#[48]⟩ ∧ txtI (ws true V) = ⟨#[48]⟩) ∨ (u ≠ ⟨#[48]⟩ ∧ txtI (ws true V) = ⟨#[45]⟩ ++ u) := by
  by_cases h0 : V = 0
  · subst h0
    left
    refine ⟨?_, rfl⟩
    rw [← hu]; rfl
  · right
    refine ⟨?_, ?_⟩
    · intro e
      have h1 := rd_txt V.toNat
      rw [hu, e] at h1
      have h2 : rdF ⟨#[48]⟩ 0 (ByteArray.size ⟨#[48]⟩) = 0 := by decide
      rw [h2] at h1
      omega
    · show txtI (-V) = _
      have e : (-V).natAbs = V.toNat := by omega
      unfold txtI
      rw [if_pos (by omega), e, hu]; rfl
theorem byt_app (t u : ByteArray) (h : 0 < t.size) : byt (t ++ u) 0 = byt t 0 := by
  obtain ⟨⟨l⟩⟩ := t
  obtain ⟨⟨r⟩⟩ := u
  cases l with
  | nil => exact absurd h (by decide)
  | cons x l => simp [byt, ByteArray.data_append]
theorem ext_app (t u : ByteArray) (h : t.size = 1) : (t ++ u).extract 1 (t ++ u).size = u := by
  obtain ⟨⟨l⟩⟩ := t
  obtain ⟨⟨r⟩⟩ := u
  have h1 : l.length = 1 := h
  obtain ⟨y, rfl⟩ := List.length_eq_one_iff.1 h1
  apply ByteArray.ext
  rw [ByteArray.size_append]
  simp only [ByteArray.data_extract, ByteArray.data_append]
  have : ({ data := { toList := [y] } } : ByteArray).size = 1 := rfl
  have : ({ data := { toList := r } } : ByteArray).size = r.length := rfl
  simp [*]
theorem cut_txtI (x : Int) : cutS (txtI x) = (decide (x < 0), txt x.natAbs) := by
  have hd := digs_txt x.natAbs 0 (size_txt _)
  have hs := size_txt x.natAbs
  unfold txtI
  split
  · rename_i h
    unfold cutS
    rw [if_pos ⟨by rw [ByteArray.size_append, strOfNums_size]; simp only [List.length_cons, List.length_nil]; omega, by rw [byt_app _ _ (by decide)]; decide⟩, ext_app _ _ (by decide), decide_eq_true h]
  · rename_i h
    unfold cutS
    rw [if_neg (by omega), if_neg (by omega), decide_eq_false h]
theorem textT {a : Option Addr} {p : Bool} {na ca : Nat} {x : Int} {S : Nat} (w : World) (ha : TI w p a na ca x S) (hS : S ≤ 10000000) :
    Calls Tryd.prog 6 #[.agg #[.bool p, .slice a na ca]] w fun e w' => e = .returned (.string (txtI x)) ∧ Below w.heap.size w w' := by
  obtain ⟨m, h1, rfl⟩ := ha
  exact textI p w h1 (by omega)
theorem txtI_size {a : Option Addr} {p : Bool} {na ca : Nat} {x : Int} {S : Nat} {w : World} (ha : TI w p a na ca x S) : (txtI x).size ≤ 20 * S + 2 := by
  obtain ⟨m, h1, rfl⟩ := ha
  have h2 := txt_size h1
  have h3 := ws_abs (b := p) h1.nn
  have e : (ws p m).natAbs = m.toNat := by omega
  unfold txtI
  split
  · rw [ByteArray.size_append, strOfNums_size, e]; simp only [List.length_cons, List.length_nil]; omega
  · rw [e]; omega
theorem parseT {x : Int} (w : World) (hs : (txtI x).size ≤ 100000000) :
    Calls Tryd.prog 7 #[.string (txtI x)] w fun e w' => ∃ f c n d, e = .returned (.tuple #[.agg #[.bool f, .slice c n d], .nilIface]) ∧ GI w' w.heap.size (.agg #[.bool f, .slice c n d]) x 100000000 ∧ Below w.heap.size w w' := by
  have hz := cutS_size (txtI x)
  have h := parseI (txtI x) w hs (by rw [cut_txtI]; exact digs_txt _) (by rw [cut_txtI]; exact size_txt _)
  refine h.mono ?_
  rintro e w' ⟨v, rfl, G, hb⟩
  obtain ⟨f, c, n, d, rfl⟩ := G.form
  rw [cut_txtI] at G
  have e1 : rdF (txt x.natAbs) 0 (txt x.natAbs).size = (x.natAbs : Int) := rd_txt _
  have G' : GI w' w.heap.size _ (ws (decide (x < 0)) (rdF (txt x.natAbs) 0 (txt x.natAbs).size)) _ := G
  rw [e1, ws_sign] at G'
  exact ⟨f, c, n, d, rfl, G'.le (by rw [cut_txtI] at hz; exact Nat.le_trans hz hs), hb⟩
theorem txtI_form (x : Int) : 0 < (txtI x).size ∧ byt (txtI x) 0 ≠ 43 ∧ txtI x ≠ ⟨#[45, 48]⟩ := by
  have hd := digs_txt x.natAbs 0 (size_txt _)
  have hs := size_txt x.natAbs
  refine ⟨?_, ?_, ?_⟩
  · unfold txtI; split
    · rw [ByteArray.size_append, strOfNums_size]; simp only [List.length_cons, List.length_nil]; omega
    · exact hs
  · unfold txtI; split
    · rw [byt_app _ _ (by decide)]; decide
    · omega
  · intro h
    have h1 := cut_txtI x
    rw [h] at h1
    have h2 : cutS ⟨#[45, 48]⟩ = (true, ⟨#[48]⟩) := by decide
    rw [h2, Prod.mk.injEq] at h1
    have h3 := rd_txt x.natAbs
    rw [← h1.2] at h3
    have h4 : rdF ⟨#[48]⟩ 0 (ByteArray.size ⟨#[48]⟩) = 0 := by decide
    rw [h4] at h3
    have := of_decide_eq_true h1.1.symm
    omega
set_option maxHeartbeats 1000000 in
theorem back_walk {a : Option Addr} {p : Bool} {na ca : Nat} {x : Int} (s : ByteArray) (w : World) (ev : Value) (ha : TI w p a na ca x 1048576) (hs : s.size ≤ 1048576) (E : Errs w 0 ev) :
    Calls Tryd.prog 3 #[.agg #[.bool p, .slice a na ca], .string s] w fun e w' => e = .returned (.bool true) ∧ Below w.heap.size w w' := by
  obtain ⟨P0, hb0, hsz⟩ := box1 w (.bool p) (.slice a na ca) 25
  replace ha := ha.below hb0
  have hz := txtI_size ha
  obtain ⟨hf1, hf2, hf3⟩ := txtI_form x
  have hT := fun u => textT u (a := a) (p := p) (na := na) (ca := ca) (x := x) (S := 1048576)
  have hP := fun u => parseT (x := x) u (by omega)
  generalize txtI x = t at *
  go_enter Tryd.func3, Tryd.ntmps3
  go_wp2_with fail
  generalize w.alloc (.cells #[.bool p, .slice a na ca] 25) = W0 at *
  refine (awakeI _).mono ?_
  rintro e w1 ⟨rfl, hx⟩
  replace P0 := P0.below hx
  replace ha := ha.below hx
  replace hb0 := bel_tr hb0 hx
  clear hx
  obtain ⟨p00, p01, -, -⟩ := id P0
  go_wp2_with fail
  refine (hT _ ha (by omega)).mono ?_
  rintro e w2 ⟨rfl, hx⟩
  replace P0 := P0.below hx
  replace ha := ha.below hx
  replace hb0 := bel_tr hb0 hx
  clear hx hT p00 p01
  go_wp2_with fail
  refine (hP _).mono ?_
  rintro e w3 ⟨f3, c3, n3, d3, rfl, G3, hx⟩
  replace P0 := P0.below hx
  replace ha := ha.below hx
  replace hb0 := bel_tr hb0 hx
  clear hx hP
  obtain ⟨P1, hx, hsx⟩ := box1 w3 (.bool f3) (.slice c3 n3 d3) 25
  go_wp2_with fail
  generalize w3.alloc (.cells #[.bool f3, .slice c3 n3 d3] 25) = w4 at *
  replace G3 := G3.below hx
  replace P0 := P0.below hx
  replace ha := ha.below hx
  replace hb0 := bel_tr hb0 hx
  obtain ⟨p00, p01, -, -⟩ := id P0
  obtain ⟨p10, p11, -, -⟩ := id P1
  clear hx
  have hby := byt_get hf1
  have hl0 : ((t.size : Int) == 0) = false := by rw [beq_eq_false_iff_ne]; omega
  have hl0' : (0 : Int) < (t.size : Int) := by omega
  have hm0 : (t.toList == [45, 48]) = false := str_ne (by decide) hf3
  have hp0 : (byt t 0 == 43) = false := by rw [beq_eq_false_iff_ne]; exact hf2
  generalize byt t 0 = B at *
  go_wp2_with fail
  go_region_held3 (fun w' => w'.cell? ⟨w.heap.size, 0, none⟩ = some (.bool p) ∧ w'.cell? ⟨w.heap.size, 1, none⟩ = some (.slice a na ca) ∧ w'.cell? ⟨w3.heap.size, 0, none⟩ = some (.bool f3) ∧ w'.cell? ⟨w3.heap.size, 1, none⟩ = some (.slice c3 n3 d3))
    (first | (go_keep; done) | (refine ⟨?_, ?_, ?_, ?_⟩ <;> first | exact kept_c hb2 (by go_keep) | exact kept_c hb1 (by go_keep)) | (refine ⟨?_, ?_, ?_, ?_⟩ <;> first | exact set2_far (by go_keep) (by simp <;> omega) | exact kept_c (by assumption) (by assumption)))
    ((first
      | (go_at_call 9; go_fit (normT _ (ha.drewN _) (by omega)); rintro e v1 ⟨f1, c1, n1, d1, rfl, G1, hb1⟩; have hc1 : Below w4.heap.size w4 v1 := (by first | exact hb1 | exact bel_tr (belN (Below.refl _ w4) 1) hb1))
      | (go_at_call 8; go_fit (sameI _ _ _ (G3.below hc1) G1 (by omega)); rintro e v2 ⟨rfl, hb2⟩; have hd2 : Below v1.heap.size v1 v2 := (by first | exact hb2 | exact bel_tr (belN (Below.refl _ v1) 1) hb2); have hc2 := bel_tr hc1 hd2)))
  replace hb0 := bel_tr hb0 hc2
  clear hc2 hb2 hd2 hb1 hc1 G1 G3 P0 P1 p00 p01 p10 p11 ha hby hl0 hl0' hm0 hp0 hf1 hf2 hf3 hz hsx
  have E2 := E.below hb0
  go_wp2_with fail
  by_cases hd : Digs (cutS s).2 (cutS s).2.size ∧ 0 < (cutS s).2.size
  · refine (parseI s _ (by omega) hd.1 hd.2).mono ?_
    rintro e w5 ⟨v, rfl, G5, hx⟩
    obtain ⟨f5, c5, n5, d5, rfl⟩ := G5.form
    replace hb0 := bel_tr hb0 hx
    clear hx
    obtain ⟨P2, hx, hsx⟩ := box1 w5 (.bool f5) (.slice c5 n5 d5) 25
    go_wp2_with fail
    generalize w5.alloc (.cells #[.bool f5, .slice c5 n5 d5] 25) = w6 at *
    replace G5 := G5.below hx
    replace hb0 := bel_tr hb0 hx
    clear hx
    obtain ⟨p20, p21, -, -⟩ := id P2
    have hz := cutS_size s
    refine (textT _ G5.ti (by omega)).mono ?_
    rintro e w7 ⟨rfl, hx⟩
    replace hb0 := bel_tr hb0 hx
    clear hx p20 p21 P2
    have hways : (0 < s.size ∧ byt s 0 = 45 ∧ cutS s = (true, s.extract 1 s.size)) ∨ (0 < s.size ∧ byt s 0 = 43 ∧ cutS s = (false, s.extract 1 s.size)) ∨ (0 < s.size ∧ byt s 0 ≠ 45 ∧ byt s 0 ≠ 43 ∧ cutS s = (false, s)) := by
      have h0 : 0 < s.size := by omega
      by_cases h1 : byt s 0 = 45
      · exact Or.inl ⟨h0, h1, if_pos ⟨h0, h1⟩⟩
      · by_cases h2 : byt s 0 = 43
        · exact Or.inr (Or.inl ⟨h0, h2, by unfold cutS; rw [if_neg (fun a => h1 a.2), if_pos ⟨h0, h2⟩]⟩)
        · exact Or.inr (Or.inr ⟨h0, h1, h2, by unfold cutS; rw [if_neg (fun a => h1 a.2), if_neg (fun a => h2 a.2)]⟩)
    have hzr := cutS_size s
    obtain ⟨V, hV⟩ : ∃ V, rdF (cutS s).2 0 (cutS s).2.size = V := ⟨_, rfl⟩
    rw [hV]
    have hV0 : 0 ≤ V := by rw [← hV]; exact (rdF_bd hd.1 _ (by omega)).1
    clear G5 E2 hz
    rcases hways with ⟨h0, h1, hc⟩ | ⟨h0, h1, hc⟩ | ⟨h0, h1, h2, hc⟩
    · rw [hc] at hd hV hzr ⊢
      have hby := byt_get h0
      rw [h1] at hby
      have h0' : (0 : Int) < (s.size : Int) := by omega
      have h1' : (1 : Int) ≤ (s.size : Int) := by omega
      go_wp2_with fail
      go_loopw [1] (fun t wr => ∃ u : ByteArray, t = .string u ∧ Digs u u.size ∧ 0 < u.size ∧ u.size ≤ 100000000 ∧ rdF u 0 u.size = V ∧ Below w.heap.size w wr) (fun t _ => strLen t)
      case atStart => exact ⟨_, rfl, hd.1, hd.2, by omega, hV, hb0⟩
      case round =>
        clear hb0
        obtain ⟨u, rfl, hu1, hu2, hu3, hu4, hb0⟩ := hrel
        have hby := byt_get hu2
        have q0 : (0 : Int) < (u.size : Int) := by omega
        have q1 : (1 : Int) ≤ (u.size : Int) := by omega
        by_cases hgo : 1 < u.size ∧ byt u 0 = 48
        · rw [hgo.2] at hby
          have q2 : (1 : Int) < (u.size : Int) := by omega
          obtain ⟨g1, g2, g3, g4, g5⟩ := strip_step hu1 hgo.1 hgo.2 hu3
          clear hu1
          go_wp2
          exact ⟨⟨_, rfl, g1, g2, g3, g4.trans hu4, hb0⟩, g5⟩
        · have hend : txt V.toNat = u := by rw [← hu4]; exact txt_rd u hu1 hu2 (by omega)
          rcases fin_neg hV0 hend with ⟨rfl, hU⟩ | ⟨hn, hU⟩
          · rw [hU]
            have q3 : ¬ ((1 : Int) < ((ByteArray.mk #[48]).size : Int)) := by decide
            go_wp2
            go_ret
            exact ⟨by simp, hb0⟩
          · rw [hU]
            have q4 : (u.toList == [48]) = false := str_ne rfl hn
            have q5 : (u.toList != [48]) = true := by rw [bne, q4]; rfl
            by_cases q2 : (1 : Int) < (u.size : Int)
            · have q3 : (byt u 0 == 48) = false := by rw [beq_eq_false_iff_ne]; omega
              generalize byt u 0 = B at *
              go_wp2
              go_ret
              exact ⟨by simp, hb0⟩
            · go_wp2
              go_ret
              exact ⟨by simp, hb0⟩
    · rw [hc] at hd hV hzr ⊢
      have hby := byt_get h0
      rw [h1] at hby
      have h0' : (0 : Int) < (s.size : Int) := by omega
      have h1' : (1 : Int) ≤ (s.size : Int) := by omega
      go_wp2_with fail
      go_loopw [1] (fun t wr => ∃ u : ByteArray, t = .string u ∧ Digs u u.size ∧ 0 < u.size ∧ u.size ≤ 100000000 ∧ rdF u 0 u.size = V ∧ Below w.heap.size w wr) (fun t _ => strLen t)
      case atStart => exact ⟨_, rfl, hd.1, hd.2, by omega, hV, hb0⟩
      case round =>
        clear hb0
        obtain ⟨u, rfl, hu1, hu2, hu3, hu4, hb0⟩ := hrel
        have hby := byt_get hu2
        have q0 : (0 : Int) < (u.size : Int) := by omega
        have q1 : (1 : Int) ≤ (u.size : Int) := by omega
        by_cases hgo : 1 < u.size ∧ byt u 0 = 48
        · rw [hgo.2] at hby
          have q2 : (1 : Int) < (u.size : Int) := by omega
          obtain ⟨g1, g2, g3, g4, g5⟩ := strip_step hu1 hgo.1 hgo.2 hu3
          clear hu1
          go_wp2
          exact ⟨⟨_, rfl, g1, g2, g3, g4.trans hu4, hb0⟩, g5⟩
        · have hend : txt V.toNat = u := by rw [← hu4]; exact txt_rd u hu1 hu2 (by omega)
          rw [fin_pos hV0, hend]
          by_cases q2 : (1 : Int) < (u.size : Int)
          · have q3 : (byt u 0 == 48) = false := by rw [beq_eq_false_iff_ne]; omega
            generalize byt u 0 = B at *
            go_wp2
            go_ret
            exact ⟨by simp, hb0⟩
          · go_wp2
            go_ret
            exact ⟨by simp, hb0⟩
    · rw [hc] at hd hV hzr ⊢
      have hby := byt_get h0
      have h0' : (0 : Int) < (s.size : Int) := by omega
      generalize byt s 0 = B at *
      have t1 : (B == 43) = false := by rw [beq_eq_false_iff_ne]; exact h2
      have t2 : (B == 45) = false := by rw [beq_eq_false_iff_ne]; exact h1
      go_wp2_with fail
      go_loopw [1] (fun t wr => ∃ u : ByteArray, t = .string u ∧ Digs u u.size ∧ 0 < u.size ∧ u.size ≤ 100000000 ∧ rdF u 0 u.size = V ∧ Below w.heap.size w wr) (fun t _ => strLen t)
      case atStart => exact ⟨_, rfl, hd.1, hd.2, by omega, hV, hb0⟩
      case round =>
        clear hb0
        obtain ⟨u, rfl, hu1, hu2, hu3, hu4, hb0⟩ := hrel
        have hby := byt_get hu2
        have q0 : (0 : Int) < (u.size : Int) := by omega
        have q1 : (1 : Int) ≤ (u.size : Int) := by omega
        by_cases hgo : 1 < u.size ∧ byt u 0 = 48
        · rw [hgo.2] at hby
          have q2 : (1 : Int) < (u.size : Int) := by omega
          obtain ⟨g1, g2, g3, g4, g5⟩ := strip_step hu1 hgo.1 hgo.2 hu3
          clear hu1
          go_wp2
          exact ⟨⟨_, rfl, g1, g2, g3, g4.trans hu4, hb0⟩, g5⟩
        · have hend : txt V.toNat = u := by rw [← hu4]; exact txt_rd u hu1 hu2 (by omega)
          rw [fin_pos hV0, hend]
          by_cases q2 : (1 : Int) < (u.size : Int)
          · have q3 : (byt u 0 == 48) = false := by rw [beq_eq_false_iff_ne]; omega
            generalize byt u 0 = B at *
            go_wp2
            go_ret
            exact ⟨by simp, hb0⟩
          · go_wp2
            go_ret
            exact ⟨by simp, hb0⟩
  · refine (parseN s _ ev (by omega) hd E2).mono ?_
    rintro e w5 ⟨rfl, hx⟩
    replace hb0 := bel_tr hb0 hx
    replace E2 := E2.below hx
    clear hx
    obtain ⟨P2, hx, hsx⟩ := box1 w5 (.bool false) (.slice none 0 0) 25
    obtain ⟨p, rfl⟩ := E2.2
    have E3 := (E2.below hx).1
    replace hb0 := bel_tr hb0 hx
    go_wp2_with fail
    generalize w5.alloc (.cells #[.bool false, .slice none 0 0] 25) = w6 at *
    obtain ⟨i, hi, hcmp⟩ := Option.map_eq_some_iff.1 Tryd.errCompB
    obtain ⟨jj, hj, _⟩ := Option.map_eq_some_iff.1 Tryd.errSizeB
    have heq := run_eql_iface_ptr_same (P := Tryd.prog) w6 p Tryd.underlying29 Tryd.underlying88 hi hcmp hj
    clear hx hsx P2
    go_wp2
    rw [heq]
    go_wp2
    go_ret
    exact ⟨rfl, hb0⟩
end Go.Proofs.YtjbcjapgammbhacDoor
