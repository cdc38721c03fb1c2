import Derived.Test.YtkgnbcbcgnlodaaGreatDoorDuM
namespace Go.Proofs.YtkgnbcbcgnlodaaGreatDoor
open Go.RowKit

theorem tr_oD (w : World) (S : Nat) : TR w false none 0 0 none 0 0 0 S := ⟨0, 0, ((GI.nil w 0).le (Nat.zero_le S)).ti, ((Got.nil w 0).le (Nat.zero_le S)).num, by simp⟩
/-- A dual, as a problem: each row may take BR. -/
def dprob (mx p : Bool) (a : Option Addr) (na ca : Nat) (d : Option Addr) (nd cd : Nat) (va : Option Addr) (vc : Nat) (ra : Option Addr) (rc : Nat) (k : Rat) (Sk : Nat) (x : DS) (rn BR : Nat) : Prob :=
  { mx := mx, nm := ⟨#[]⟩, p := p, a := a, na := na, ca := ca, d := d, nd := nd, cd := cd, va := va, vn := x.vn, vc := vc, ra := ra, rn := rn, rc := rc, k := k,
    V := fun i => ⟨(x.V i).nm, (x.V i).obj, true, 0, false, 0, false⟩, ZV := fun i => (x.V i).Z + 60,
    R := fun j => ⟨(x.R j).nm, (x.R j).m, (x.R j).t, true, (x.R j).c, true, (x.R j).c⟩, ZR := fun _ => BR, S := Sk,
    K := Sk + tot (fun i => (x.V i).Z + 60) x.vn + tot (fun _ => BR) rn + 0 }
theorem DU.prob {w : World} {F D : Nat} {mx p : Bool} {a : Option Addr} {na ca : Nat} {d : Option Addr} {nd cd : Nat} {va : Option Addr} {vc : Nat} {ra : Option Addr} {rc rn : Nat} {tv : Nat → Value} {k : Rat} {Sk : Nat} {x : DS} {S BR KV : Nat} {KR : Nat → Nat} {P : Prob}
    (hD : DX w F ⟨D, .slice va x.vn vc, .slice ra rn rc, rn, tv⟩ mx (.bool p) (.slice a na ca) (.slice d nd cd) x S) (hG : DG P mx x KV KR) (hrn : rn = P.vn) (hk : TR w p a na ca d nd cd k Sk) (h1 : 1 ≤ Sk) (hvn : x.vn ≤ 1048576) (hB : 60 ≤ BR ∧ S ≤ BR ∧ 1 ≤ S) (hBK : ∀ j, j < rn → KR j ≤ BR) :
    PQ w (dprob mx p a na ca d nd cd va vc ra rc k Sk x rn BR) := by
  obtain ⟨E, s1, s2⟩ := hD.v
  obtain ⟨E', s3, s4⟩ := hD.r
  have s1' : SL w F 54 13 (.slice va x.vn vc) x.vn E := s1
  have s3' : SL w F 59 10 (.slice ra rn rc) rn E' := s3
  obtain ⟨_, _, e1, hvc⟩ := s1'.form
  obtain ⟨_, _, e3, hrc⟩ := s3'.form
  simp only [Value.slice.injEq, true_and] at e1 e3
  obtain ⟨rfl, rfl⟩ := e1
  obtain ⟨rfl, rfl⟩ := e3
  refine ⟨hk, h1, hk.sz h1, ?_, ?_, Nat.le_refl _, hvc, hrc⟩
  · rcases s1'.cell with h | ⟨g, e, hc⟩
    · exact .inl h
    · refine .inr ⟨g, 0, e, fun i hi => ?_⟩
      have hi' : i < x.vn := hi
      obtain ⟨p1, a1, n1, k1, d1, m1, l1, ecs, G⟩ := s2 i hi'
      have hci := hc i hi'
      rw [ecs] at hci
      obtain ⟨z1, z2, z3⟩ := hG.vz i hi'
      have c0 : C3 w g (0 + i * 13 + 5) 0 ((x.V i).Z + 60) := ⟨_, _, _, _, _, _, _, by rw [Nat.zero_add]; exact hci 5 _ rfl, by rw [Nat.zero_add]; exact hci 6 _ rfl, by rw [Nat.zero_add]; exact hci 7 _ rfl, tr_oD _ _⟩
      have c1 : C3 w g (0 + i * 13 + 9) 0 ((x.V i).Z + 60) := ⟨_, _, _, _, _, _, _, by rw [Nat.zero_add]; exact hci 9 _ rfl, by rw [Nat.zero_add]; exact hci 10 _ rfl, by rw [Nat.zero_add]; exact hci 11 _ rfl, tr_oD _ _⟩
      have sz0 : SzR (0 : Rat) ((x.V i).Z + 60) := (tr_oD w _).sz (by omega)
      refine ⟨by rw [Nat.zero_add]; exact hci 0 _ rfl, ?_, by rw [Nat.zero_add]; exact hci 4 _ rfl, c0, by rw [Nat.zero_add]; exact hci 8 _ rfl, c1, by rw [Nat.zero_add]; exact hci 12 _ rfl, by show 1 ≤ (x.V i).Z + 60; omega, z3.le (by show (x.V i).Z ≤ (x.V i).Z + 60; omega), sz0, sz0, by show (x.V i).nm.size ≤ (x.V i).Z + 60; omega⟩
      rw [Nat.zero_add]
      exact (c3_of (hci 1 _ rfl) (hci 2 _ rfl) (hci 3 _ rfl) G).up (show (x.V i).Z ≤ (x.V i).Z + 60 by omega)
  · rcases s3'.cell with h | ⟨g, e, hc⟩
    · exact .inl h
    · refine .inr ⟨g, 0, e, fun j hj => ?_⟩
      have hj' : j < rn := hj
      have hjP : j < P.vn := by rw [← hrn]; exact hj'
      obtain ⟨p1, a1, n1, k1, d1, m1, l1, ecs, G⟩ := s4 j hj'
      have hcj := hc j hj'
      rw [ecs] at hcj
      obtain ⟨Et, t1, t2⟩ := hD.t j hj'
      obtain ⟨ta, tc, etv, htc⟩ := t1.form
      rw [etv] at hcj t1
      have g1 := (c3_of (hcj 3 _ rfl) (hcj 4 _ rfl) (hcj 5 _ rfl) G).up hB.2.1
      have g2 := (c3_of (hcj 7 _ rfl) (hcj 8 _ rfl) (hcj 9 _ rfl) G).up hB.2.1
      have sz := (G.tr.sz hB.2.2).le hB.2.1
      obtain ⟨r1, r2⟩ := hG.rc j hjP
      have hvr := hG.vr j hjP
      refine ⟨by rw [Nat.zero_add]; exact hcj 0 _ rfl, ⟨ta, tc, (x.R j).Z, by rw [Nat.zero_add]; exact hcj 1 _ rfl, ?_, Nat.le_trans (hG.rz j hjP) (hBK j hj'), htc⟩, by rw [Nat.zero_add]; exact hcj 2 _ rfl, by rw [Nat.zero_add]; exact g1, by rw [Nat.zero_add]; exact hcj 6 _ rfl, by rw [Nat.zero_add]; exact g2, by show 1 ≤ BR; omega, sz, sz, by show (x.R j).nm.size ≤ BR; omega⟩
      rcases t1.cell with h | ⟨tg, ea, hcell⟩
      · exact .inl h
      · refine .inr ⟨tg, 0, ea, fun q hq => ?_⟩
        have hq' : q < (x.R j).m := hq
        obtain ⟨p2, a2, n2, k2, d2, m2, l2, e2, G2⟩ := t2 q hq'
        have hk2 := hcell q hq'
        rw [e2] at hk2
        obtain ⟨⟨v1, v2⟩, v3⟩ := hvr q hq'
        have l1 : -9223372036854775808 ≤ ((x.R j).t q).var := by omega
        have l2 : ((x.R j).t q).var ≤ 9223372036854775807 := by omega
        rw [Nat.zero_add]
        exact ⟨hk2 0 _ rfl, c3_of (hk2 1 _ rfl) (hk2 2 _ rfl) (hk2 3 _ rfl) G2, v3, G2.tr.sz v3, l1, l2⟩
/-- The dual of a problem, and what follows. -/
structure DL (P Q : Prob) : Prop where
  mx : Q.mx = !P.mx
  rn : Q.rn = P.vn
  k : Q.k = P.k
  S : Q.S = P.S
  hk : HK Q
  zr : ∀ i, i < Q.rn → Q.ZR i ≤ 2 * P.K + 100
  obj : ∃ D : Int, 0 < D ∧ D < pw (2 * P.K) ∧ ∀ i, i < Q.vn → Wd (2 * P.K) D (Q.V i).obj
  weak : ∀ n X m Y, Hlds P n X → Hlds Q m Y → dle Q.mx (vlu Q Y) (vlu P X)
theorem DL.of {P P1 Q : Prob} {p : Bool} {a : Option Addr} {na ca : Nat} {d : Option Addr} {nd cd : Nat} {va : Option Addr} {vc : Nat} {ra : Option Addr} {rc : Nat} {x : DS} {KV : Nat} {KR : Nat → Nat} {BR : Nat} (h1 : Tid P P1) (hG : DG P1 (!P1.mx) x KV KR) (ht : Tid (dprob (!P1.mx) p a na ca d nd cd va vc ra rc P1.k P1.S x P1.vn BR) Q) (hKV : KV ≤ 2 * P.K) (hvn : x.vn ≤ 1048576) (hPv : P.vn ≤ 1048576) (hBR : BR ≤ 2200000) (hBR2 : BR ≤ 2 * P.K + 100) : DL P Q := by
  have evn : Q.vn = x.vn := ht.vn
  have emx : Q.mx = !P1.mx := ht.mx
  have ern : Q.rn = P1.vn := ht.rn
  have ek : Q.k = P1.k := ht.k
  have eV : ∀ i, (Q.V i).obj = (x.V i).obj := fun i => by rw [ht.V i]; rfl
  refine ⟨by rw [emx, h1.mx], by rw [ern, h1.vn], by rw [ek, h1.k], by have : Q.S = P1.S := ht.S; rw [this, h1.S], ⟨by rw [evn]; exact hvn, by rw [ern, h1.vn]; exact hPv, fun j hj => ?_, fun i hi => ?_⟩, fun i hi => by rw [ht.ZR]; exact hBR2, ?_, fun n X m Y hX hY => ?_⟩
  · rw [ht.ZV]
    show (x.V j).Z + 60 ≤ 1100000
    have := (hG.vz j (by rw [← evn]; exact hj)).2.1.2
    omega
  · rw [ht.ZR]
    exact hBR
  · obtain ⟨D, d1, d2, d3⟩ := Wd.list (X := fun i => (x.V i).obj) (Z := fun i => (x.V i).Z) (n := x.vn) (K := 2 * P.K) (fun i hi => (hG.vz i hi).2.2) (Nat.le_trans hG.vt hKV)
    exact ⟨D, d1, d2, fun i hi => by rw [eV]; exact d3 i (by rw [← evn]; exact hi)⟩
  · have hX1 := (h1.hlds n X).2 hX
    obtain ⟨_, hv, hr⟩ := (ht.hlds m Y).1 hY
    have w1 := hG.weak hX1 (Y := Y) (fun i hi => ?_) (fun j hj => ?_)
    · have e1 : vlu Q Y = P1.k + rsum (fun i => (x.V i).obj * Y i) x.vn := by
        rw [vlu_eq, ek, evn]
        congr 1
        exact rsum_congr fun i _ => by rw [eV]
      have e2 : vlu P X = P1.k + rsum (fun j => (P1.V j).obj * X j) P1.vn := by
        rw [vlu_eq, h1.k, h1.vn]
        congr 1
        exact rsum_congr fun j _ => by rw [h1.V j]
      rw [emx, e1, e2]
      revert w1
      unfold dle
      cases P1.mx
      · show _ ≤ _ → _ ≤ _
        intro w1
        exact Rat.add_le_add_left.2 w1
      · show _ ≤ _ → _ ≤ _
        intro w1
        exact Rat.add_le_add_left.2 w1
    · have h := hv i hi
      exact (wthn_iff.1 h).1 rfl
    · have h := wthn_iff.1 (hr j hj)
      have a1 := h.1 rfl
      have a2 := h.2 rfl
      have e : cv ((dprob (!P1.mx) p a na ca d nd cd va vc ra rc P1.k P1.S x P1.vn BR).R j) Y (dprob (!P1.mx) p a na ca d nd cd va vc ra rc P1.k P1.S x P1.vn BR).vn = rsum (fun i => gsum (x.R j).t (x.R j).m (i : Int) * Y i) x.vn := by
        unfold cv
        rw [cv_gs]
        rfl
      rw [e] at a1 a2
      rw [← (hG.rc j hj).1]
      exact Rat.le_antisymm a2 a1
end Go.Proofs.YtkgnbcbcgnlodaaGreatDoor
