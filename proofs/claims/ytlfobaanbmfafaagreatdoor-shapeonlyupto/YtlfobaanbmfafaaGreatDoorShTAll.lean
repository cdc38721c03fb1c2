import Derived.Test.YtlfobaanbmfafaaGreatDoorShNAll
import Derived.Test.YtlfobaanbmfafaaGreatDoorPuAAll
import Derived.Test.YtlfobaanbmfafaaGreatDoorPqF
import Derived.Test.YtlfobaanbmfafaaGreatDoorShQ
namespace Go.Proofs.YtlfobaanbmfafaaGreatDoor
theorem tsum_row (V:Nat→PV) (t:Nat→PT) (Y:Nat→Rat):∀ q,tsum Y (rowT V t q) = rsum (fun k=>(t k).coef * ryv (V (t k).var.toNat) (clm V (t k).var.toNat) Y) q
 | 0=>rfl
 | q + 1=>by
  show tsum Y (rowT V t q ++ spl (V (t q).var.toNat) (clm V (t q).var.toNat) (t q).coef) = _
  rw [tsum_app,tsum_row V t Y q,tsum_spl,rsum_succ]
theorem cv_pt {V:Nat→PV} {r:PW} {n:Nat} (hm:∀ i,i < r.nt→0≤(r.t i).var∧(r.t i).var < (n:Int)) (Y:Nat→Rat):cv r (fun j=>ptv (V j) (clm V j) Y) n = cv r (fun j=>vbs (V j)) n + tsum Y (rowT V r.t r.nt):=by
 rw [tsum_row]
 unfold cv
 rw [← rsum_plus]
 refine rsum_congr fun k hk=>?_
 unfold tv
 rw [if_pos (hm k hk),if_pos (hm k hk)]
 dsimp only
 rw [ptv_ryv,Rat.mul_add]
def Mts (A:List Eqn × Nat) (Y:Nat→Rat):Prop:=(∀ c,c < A.2→0≤Y c)∧∀ e ∈ A.1,tsum Y e.l = e.r
theorem tsum_one (Y:Nat→Rat) (c:Nat) (x:Rat):tsum Y [⟨(c:Nat),x⟩] = x * Y c:=by
 show x * Y ((c:Int)).toNat + 0 = _
 rw [Int.toNat_natCast,Rat.add_zero]
theorem tsum_wid (Y:Nat→Rat) (c d:Nat):tsum Y [⟨(c:Nat),1⟩,⟨(d:Nat),1⟩] = Y c + Y d:=by
 show (1:Rat) * Y ((c:Int)).toNat + ((1:Rat) * Y ((d:Int)).toNat + 0) = _
 rw [Int.toNat_natCast,Int.toNat_natCast,Rat.add_zero,Rat.one_mul,Rat.one_mul]
theorem row_meets {V:Nat→PV} {r:PW} {n c:Nat} (hm:∀ i,i < r.nt→0≤(r.t i).var∧(r.t i).var < (n:Int)) {Y:Nat→Rat} (hY:∀ k,k < (eqsR V r (cv r (fun j=>vbs (V j)) n) c).2→0≤Y k) (hE:∀ e ∈ (eqsR V r (cv r (fun j=>vbs (V j)) n) c).1,tsum Y e.l = e.r) :
  wthn (cv r (fun j=>ptv (V j) (clm V j) Y) n) r.hlo r.lo r.hhi r.hi = true:=by
 rw [cv_pt hm,wthn_iff]
 generalize cv r (fun j=>vbs (V j)) n = st at *
 generalize hT:tsum Y (rowT V r.t r.nt) = T at *
 unfold eqsR at hY hE
 cases hlo:r.hlo <;> cases hhi:r.hhi <;> simp only [hlo,hhi,if_true,if_false,Bool.false_eq_true] at hY hE
 ·exact ⟨fun h=>(by cases h),fun h=>(by cases h)⟩
 ·have h1:=hE _ (List.mem_singleton.2 rfl)
  simp only [tsum_app,tsum_one,hT] at h1
  have h2:=hY c (by omega)
  refine ⟨fun h=>(by cases h),fun _=>?_⟩
  grind
 ·have h1:=hE _ (List.mem_singleton.2 rfl)
  simp only [tsum_app,tsum_one,hT] at h1
  have h2:=hY c (by omega)
  refine ⟨fun _=>?_,fun h=>(by cases h)⟩
  grind
 ·by_cases he:r.lo - st = r.hi - st
  ·rw [if_pos he] at hY hE
   have h1:=hE _ (List.mem_singleton.2 rfl)
   simp only [hT] at h1
   refine ⟨fun _=>?_,fun _=>?_⟩ <;> grind
  ·rw [if_neg he] at hY hE
   have h1:=hE _ (List.mem_cons.2 (.inl rfl))
   have h2:=hE _ (List.mem_cons.2 (.inr (List.mem_singleton.2 rfl)))
   simp only [tsum_app,tsum_one,hT] at h1
   simp only [tsum_wid] at h2
   have h3:=hY c (show c < c + 2 by omega)
   have h4:=hY (c + 1) (show c + 1 < c + 2 by omega)
   refine ⟨fun _=>?_,fun _=>?_⟩ <;> grind
theorem rows_mono (V:Nat→PV) (R:Nat→PW) (st:Nat→Rat) (n:Nat) {i:Nat}:∀ m,i < m→(∀ e ∈ (eqsR V (R i) (st i) (rowsE V R st n i).2).1,e ∈ (rowsE V R st n m).1)∧(eqsR V (R i) (st i) (rowsE V R st n i).2).2≤(rowsE V R st n m).2
 | 0,h=>by omega
 | m + 1,h=>by
  by_cases e:i = m
  ·subst e
   exact ⟨fun x hx=>List.mem_append.2 (.inr hx),Nat.le_refl _⟩
  ·obtain ⟨h1,h2⟩:=rows_mono (i:=i) V R st n m (by omega)
   have h3:=(eqs_len V (R m) (st m) (rowsE V R st n m).2)
   refine ⟨fun x hx=>List.mem_append.2 (.inl (h1 x hx)),Nat.le_trans h2 ?_⟩
   show (rowsE V R st n m).2≤(eqsR V (R m) (st m) (rowsE V R st n m).2).2
   unfold eqsR
   split
   ·split
    ·split <;> simp
    ·simp
   ·split <;> simp
theorem vars_mono (V:Nat→PV) (A:List Eqn × Nat):∀ j,(∀ e ∈ A.1,e ∈ (varsE V A j).1)∧A.2≤(varsE V A j).2
 | 0=>⟨fun _ h=>h,Nat.le_refl _⟩
 | j + 1=>by
  obtain ⟨h1,h2⟩:=vars_mono V A j
  unfold varsE
  split
  ·exact ⟨fun e he=>List.mem_append.2 (.inl (h1 e he)),by show A.2≤(varsE V A j).2 + 1;omega⟩
  ·exact ⟨h1,h2⟩
theorem vars_eq (V:Nat→PV) (A:List Eqn × Nat) {j:Nat} (hb:((V j).hlo && (V j).hhi) = true):∀ m,j < m→∃ c,c < (varsE V A m).2∧(⟨[⟨(clm V j:Nat),1⟩,⟨(c:Nat),1⟩],(V j).hi - (V j).lo⟩:Eqn) ∈ (varsE V A m).1
 | 0,h=>by omega
 | m + 1,h=>by
  by_cases e:j = m
  ·subst e
   have e:varsE V A (j + 1) = ((varsE V A j).1 ++ [⟨[⟨(clm V j:Nat),1⟩,⟨((varsE V A j).2:Nat),1⟩],(V j).hi - (V j).lo⟩],(varsE V A j).2 + 1):=if_pos hb
   rw [e]
   exact ⟨(varsE V A j).2,Nat.lt_succ_self _,List.mem_append.2 (.inr (List.mem_singleton.2 rfl))⟩
  ·obtain ⟨c,h1,h2⟩:=vars_eq (j:=j) V A hb m (by omega)
   unfold varsE
   split
   ·exact ⟨c,by show c < (varsE V A m).2 + 1;omega,List.mem_append.2 (.inl h2)⟩
   ·exact ⟨c,h1,h2⟩
theorem only_holds {P Q:Prob} (h:Tid P Q) {Y:Nat→Rat} (hM:Mts (eqsQ Q) Y):Hlds Q Q.vn (fun j=>ptv (Q.V j) (clm Q.V j) Y):=by
 have hmn:=(Tid.eqs h).2
 refine ⟨rfl,fun j hj=>?_,fun i hi=>?_⟩
 ·rw [wthn_iff]
  have hc:=clm_lt Q.V hj
  have hw:=wid_pos (Q.V j)
  have hu:=hM.1 (clm Q.V j) (by omega)
  show ((Q.V j).hlo = true→(Q.V j).lo≤ptv (Q.V j) (clm Q.V j) Y)∧((Q.V j).hhi = true→ptv (Q.V j) (clm Q.V j) Y≤(Q.V j).hi)
  unfold ptv
  cases hl:(Q.V j).hlo <;> cases hh:(Q.V j).hhi <;> simp only [if_true,if_false,Bool.false_eq_true]
  ·exact ⟨fun h=>(by cases h),fun h=>(by cases h)⟩
  ·exact ⟨fun h=>(by cases h),fun _=>by grind⟩
  ·exact ⟨fun _=>by grind,fun h=>(by cases h)⟩
  ·obtain ⟨c,c1,c2⟩:=vars_eq Q.V (rowsE Q.V Q.R (fun i=>cv (Q.R i) (fun j=>vbs (Q.V j)) Q.vn) Q.vn Q.rn) (j:=j) (by rw [hl,hh];rfl) Q.vn hj
   have e1:=hM.2 _ c2
   simp only [tsum_wid] at e1
   have h2:=hM.1 c c1
   exact ⟨fun _=>by grind,fun _=>by grind⟩
 ·obtain ⟨h1,h2⟩:=rows_mono Q.V Q.R (fun i=>cv (Q.R i) (fun j=>vbs (Q.V j)) Q.vn) Q.vn Q.rn hi
  obtain ⟨h3,h4⟩:=vars_mono Q.V (rowsE Q.V Q.R (fun i=>cv (Q.R i) (fun j=>vbs (Q.V j)) Q.vn) Q.vn Q.rn) Q.vn
  obtain ⟨_,_,_,_,_,g⟩:=h.R i (by rw [← h.rn];exact hi)
  refine row_meets (c:=(rowsE Q.V Q.R (fun i=>cv (Q.R i) (fun j=>vbs (Q.V j)) Q.vn) Q.vn i).2) (fun q hq=>?_) (fun k hk=>hM.1 k (Nat.lt_of_lt_of_le hk (Nat.le_trans h2 h4))) (fun e he=>hM.2 e (h3 e (h1 e he)))
  rw [h.vn]
  exact g.lt q hq
end Go.Proofs.YtlfobaanbmfafaaGreatDoor
namespace Go.Proofs.YtlfobaanbmfafaaGreatDoor
open Go.RowKit
theorem AL.at {w:World} {B:Nat} {aA:Option Addr} {m cA:Nat} {es:List Eqn} {n S:Nat} {bad:Option Nat} (h:AL w B (.slice aA m cA) es n S bad) {i:Nat} (hi:i < es.length):∃ gA g,aA = some ⟨gA,0,none⟩∧w.cell? ⟨gA,i,none⟩ = some (.slice (some ⟨g,0,none⟩) n n)∧RL w 0 (.slice (some ⟨g,0,none⟩) n n) n (sprd (es.getD i ⟨[],0⟩).l) S:=by
 obtain ⟨E,h1,h2⟩:=h
 have hl:es[i]? = some (es.getD i ⟨[],0⟩):=by rw [List.getD_eq_getElem?_getD,List.getElem?_eq_getElem hi];rfl
 rcases h1.cell with h0 | ⟨g,e,hc⟩
 ·omega
 obtain ⟨g',e1,_,hr⟩:=h2 i _ hl
 have hk:=hc i hi
 rw [e1] at hk
 exact ⟨g,g',e,by simpa using hk 0 _ rfl,hr⟩
theorem AL.below {w w':World} {B:Nat} {v:Value} {es:List Eqn} {n S:Nat} {bad:Option Nat} (h:AL w B v es n S bad) (hb:Below w.heap.size w w'):AL w' B v es n S bad:=h.kx (kx_of (R:=0) (F:=0) (L:=[]) hb (Nat.zero_le _)) (by simp) (by simp) (by simp)
theorem xat_zn (X:Nat→Rat) (n i:Nat):xat X n (i:Int) = zn n X i:=by
 unfold xat zn
 by_cases h:i < n
 ·rw [if_pos (by omega),if_pos h];rfl
 ·rw [if_neg (by omega),if_neg h]
set_option maxRecDepth 100000 in
set_option maxHeartbeats 4000000 in
theorem entryQ {aA:Option Addr} {cA:Nat} {aB:Option Addr} {cB gC n:Nat} {fK:Bool} {cK:Option Addr} {nK kK:Nat} {dK:Option Addr} {mK lK:Nat} {es:List Eqn} {S:Nat} {B:Nat} (i j:Nat) (w:World) (hA:AL w B (.slice aA es.length cA) es n S none) (hi:i < es.length) (hj:j < n) (hS1:1≤S) (hS7:S≤7000000) :
  Calls Tryz.prog 44 #[.agg #[.slice aA es.length cA,.slice aB es.length cB,.slice (some ⟨gC,0,none⟩) n n,.bool fK,.slice cK nK kK,.slice dK mK lK],.int .i64 (i:Nat),.int .i64 (j:Nat)] w fun e w'=>NumP w (sprd (es.getD i ⟨[],0⟩).l j) S e w':=by
 obtain ⟨Bd,B1,hb,hs⟩:=boxd2 w #[.slice aA es.length cA,.slice aB es.length cB,.slice (some ⟨gC,0,none⟩) n n,.bool fK,.slice cK nK kK,.slice dK mK lK] 40 #[.bool false,.slice none 0 0,.slice none 0 0] 27
 have R1:Rw 27 ((w.alloc (.cells #[.slice aA es.length cA,.slice aB es.length cB,.slice (some ⟨gC,0,none⟩) n n,.bool fK,.slice cK nK kK,.slice dK mK lK] 40)).alloc (.cells #[.bool false,.slice none 0 0,.slice none 0 0] 27)) (w.heap.size + 1) #[.bool false,.slice none 0 0,.slice none 0 0]:=by
  have:=Rw.new 27 (w.alloc (.cells #[.slice aA es.length cA,.slice aB es.length cB,.slice (some ⟨gC,0,none⟩) n n,.bool fK,.slice cK nK kK,.slice dK mK lK] 40)) #[.bool false,.slice none 0 0,.slice none 0 0]
  rwa [show (w.alloc (.cells #[.slice aA es.length cA,.slice aB es.length cB,.slice (some ⟨gC,0,none⟩) n n,.bool fK,.slice cK nK kK,.slice dK mK lK] 40)).heap.size = w.heap.size + 1 by simp] at this
 have y0:=Bd 0 _ rfl
 have hi0:¬ (i:Int) < 0:=by omega
 have hi1:¬ ((es.length:Nat):Int)≤(i:Int):=by omega
 have hi2:(i:Int) < ((es.length:Nat):Int):=by omega
 have hi3:(i:Int) * 1 = ((i:Nat):Int):=by omega
 obtain ⟨gA,g,rfl,a0,RR⟩:=hA.at hi
 replace a0:=kept_c hb a0
 replace RR:=RR.below hb
 go_enter Tryz.func44,Tryz.ntmps44
 go_wp2_with fail
 clear y0 Bd B1
 generalize (w.alloc (.cells #[.slice (some ⟨gA,0,none⟩) es.length cA,.slice aB es.length cB,.slice (some ⟨gC,0,none⟩) n n,.bool fK,.slice cK nK kK,.slice dK mK lK] 40)).alloc (.cells #[.bool false,.slice none 0 0,.slice none 0 0] 27) = W0 at *
 refine (atD (xc:=n) (S:=S) (j:Nat) W0 RR.lq (fun _ _=>⟨hS1,Nat.le_refl _⟩) ⟨hS1,hS7⟩).mono ?_
 rintro e w1 ⟨f1,c1,n1,k1,d1,m1,l1,rfl,G1,hx⟩
 have R2:=R1.below hx
 have hb2:=bel_tr hb hx
 have t0:=(R2.cell 0).trans (show _ = some (.bool false) from rfl);have t1:=(R2.cell 1).trans (show _ = some (.slice none 0 0) from rfl);have t2:=(R2.cell 2).trans (show _ = some (.slice none 0 0) from rfl)
 have v0:=R2.frozen 0;have v1:=R2.frozen 1;have v2:=R2.frozen 2
 obtain ⟨RN,ON⟩:=R2.set3 (.bool f1) (.slice c1 n1 k1) (.slice d1 m1 l1)
 have GN:=((G1.mono (B':=0) (Nat.zero_le _)).keep (row:=some (w.heap.size + 1)) (R2.noW (by decide)) ON.grown).val (show xat (sprd (es.getD i ⟨[],0⟩).l) n (j:Int) = sprd (es.getD i ⟨[],0⟩).l j by rw [xat_zn];exact if_pos hj)
 have hbN:=hb2.trans (ON.below (by omega))
 clear hx G1 R1 a0
 go_wp2
 refine bodyPost_ret (v:=.agg #[.bool f1,.slice c1 n1 k1,.slice d1 m1 l1]) (Rw.ret1 Tryz.results44 _ RN rfl Tryz.underlying27 ratI3) rfl ?_
 exact ⟨_,_,_,_,_,_,_,rfl,GN,hbN⟩
def MtP (w:World) (es:List Eqn) (n:Nat) (Y:Nat→Rat) (e:Ending) (w':World):Prop:=∃ b,e = .returned (.bool b)∧(b = true→(∀ c,c < n→0≤Y c)∧∀ i,i < es.length→rsum (fun c=>sprd (es.getD i ⟨[],0⟩).l c * Y c) n = (es.getD i ⟨[],0⟩).r)∧Below w.heap.size w w'
theorem sign_nn {r:Rat} (h:¬ r.num.sign < 0):0≤r:=by
 have h1:0≤r.num:=by
  rcases Int.lt_trichotomy r.num 0 with e | e | e
  ·exact absurd (by rw [Int.sign_eq_neg_one_of_neg e];decide) h
  ·omega
  ·omega
 exact Rat.num_nonneg.1 h1
set_option maxRecDepth 100000 in
set_option maxHeartbeats 16000000 in
theorem meetsQ {aA:Option Addr} {cA:Nat} {aB:Option Addr} {cB gC n:Nat} {fK:Bool} {cK:Option Addr} {nK kK:Nat} {dK:Option Addr} {mK lK:Nat} {es:List Eqn} {S:Nat} {B:Nat} {xa:Option Addr} {m xc:Nat} {X:Nat→Rat} {T Sc U:Nat} (w:World) (hA:AL w B (.slice aA es.length cA) es n S none) (hB:RL w 0 (.slice aB es.length cB) es.length (fun i=>(es.getD i ⟨[],0⟩).r) S) (hx:LQ w xa m X (fun _=>T)) (hT1:1≤T) (hT7:T≤1500000) (hS1:1≤S) (hS7:S≤2200000) (hn:n≤100000000) (hes:es.length≤100000000)
  (hsc:∀ i,i < es.length→∀ c,SzR (sprd (es.getD i ⟨[],0⟩).l c) Sc) (hSc:1≤Sc) (hsu:∀ i,i < es.length→∀ j,j≤n→SzR (rsum (fun c=>sprd (es.getD i ⟨[],0⟩).l c * zn m X c) j) U) (hU1:1≤U) (hU:U + (Sc + T)≤6000000) (hU2:U + S≤6000000) :
  Calls Tryz.prog 19 #[.agg #[.slice aA es.length cA,.slice aB es.length cB,.slice (some ⟨gC,0,none⟩) n n,.bool fK,.slice cK nK kK,.slice dK mK lK],.slice xa m xc] w fun e w'=>MtP w es n (zn m X) e w':=by
 have HAL:Hid (AL w B (.slice aA es.length cA) es n S none):=hA
 have HSC:Hid (∀ i,i < es.length→∀ c,SzR (sprd (es.getD i ⟨[],0⟩).l c) Sc):=hsc
 have HSU:Hid (∀ i,i < es.length→∀ j,j≤n→SzR (rsum (fun c=>sprd (es.getD i ⟨[],0⟩).l c * zn m X c) j) U):=hsu
 clear hA hsc hsu
 have RD0:=Rw.new 40 w #[.slice aA es.length cA,.slice aB es.length cB,.slice (some ⟨gC,0,none⟩) n n,.bool fK,.slice cK nK kK,.slice dK mK lK]
 have hb0:=bel_d0 w (.cells #[.slice aA es.length cA,.slice aB es.length cB,.slice (some ⟨gC,0,none⟩) n n,.bool fK,.slice cK nK kK,.slice dK mK lK] 40)
 have hs0:(w.alloc (.cells #[.slice aA es.length cA,.slice aB es.length cB,.slice (some ⟨gC,0,none⟩) n n,.bool fK,.slice cK nK kK,.slice dK mK lK] 40)).heap.size = w.heap.size + 1:=by simp
 go_enter Tryz.func19,Tryz.ntmps19
 go_wp2_with fail
 generalize w.alloc (.cells #[.slice aA es.length cA,.slice aB es.length cB,.slice (some ⟨gC,0,none⟩) n n,.bool fK,.slice cK nK kK,.slice dK mK lK] 40) = W0 at *
 go_loopw [5] (fun s wr=>∃ (j:Nat),j≤n∧s = .int .i64 j∧Hid (∀ c,c < j→0≤zn m X c)∧Rw 40 wr w.heap.size #[.slice aA es.length cA,.slice aB es.length cB,.slice (some ⟨gC,0,none⟩) n n,.bool fK,.slice cK nK kK,.slice dK mK lK]∧Below w.heap.size w wr) (fun t _=>n - (intOf t).toNat)
 case atStart=>exact ⟨0,Nat.zero_le _,rfl,fun c hc=>absurd hc (Nat.not_lt_zero c),RD0,hb0⟩
 case round =>
  clear RD0 hb0 hs0
  obtain ⟨j,hj,rfl,HN,RD,hbr⟩:=hrel
  have y2:=(RD.cell 2).trans (show _ = some (.slice (some ⟨gC,0,none⟩) n n) from rfl)
  by_cases hlt:j < n
  ·have hkI:(j:Int) < (n:Int):=by omega
   go_wp2_with fail
   clear y2
   refine (atD (xc:=xc) (S:=T) (j:Nat) wr (hx.below hbr) (fun _ _=>⟨hT1,Nat.le_refl _⟩) ⟨hT1,by omega⟩).mono ?_
   rintro e w1 ⟨f1,c1,n1,k1,d1,m1,l1,rfl,G1,h1⟩
   replace G1:=G1.val (xat_zn X m j)
   go_wp2_with fail
   refine (signD w1 G1.tr (by omega) hT1).mono ?_
   rintro e w2 ⟨rfl,h2⟩
   have hb2:=bel_tr (bel_tr hbr h1) h2
   have RD2:=(RD.below h1).below h2
   clear h1 h2 RD hbr G1
   obtain ⟨sg,esg⟩:∃ x,x = (zn m X j).num.sign:=⟨_,rfl⟩
   rw [← esg]
   have HSG:Hid (sg = (zn m X j).num.sign):=esg
   clear esg
   by_cases hs:sg < 0
   ·go_wp2
    go_ret
    exact ⟨false,rfl,fun h=>(by cases h),hb2⟩
   ·have HN2:Hid (∀ c,c < j + 1→0≤zn m X c):=fun c hc=>by
     rcases (by omega:c < j∨c = j) with h | rfl
     ·exact HN.out c h
     ·exact sign_nn (by rw [← HSG.out];exact hs)
    go_wp2
    go_roundw
    case rel=>first | exact ⟨j + 1,by omega,by go_num,HN2,RD2,hb2⟩ | ((repeat apply Exists.intro);refine ⟨?_,rfl⟩;exact ⟨j + 1,by omega,by go_num,HN2,RD2,hb2⟩)
    case measure=>simp [intOf];omega
  ·obtain rfl:j = n:=by omega
   have hkI:¬ (j:Int) < (j:Int):=by omega
   go_wp2_with fail
   clear y2
   obtain ⟨wv,ewv⟩:∃ x,x = wr:=⟨_,rfl⟩
   subst ewv
   obtain ⟨n,en⟩:∃ n,n = j:=⟨_,rfl⟩
   subst en
   go_loopw [6] (fun s wr=>∃ (i:Nat),i≤es.length∧s = .int .i64 i∧Hid (∀ k,k < i→rsum (fun c=>sprd (es.getD k ⟨[],0⟩).l c * zn m X c) n = (es.getD k ⟨[],0⟩).r)∧Rw 40 wr w.heap.size #[.slice aA es.length cA,.slice aB es.length cB,.slice (some ⟨gC,0,none⟩) n n,.bool fK,.slice cK nK kK,.slice dK mK lK]∧Below w.heap.size w wr) (fun t _=>es.length - (intOf t).toNat)
   case atStart=>exact ⟨0,Nat.zero_le _,rfl,fun c hc=>absurd hc (Nat.not_lt_zero c),RD,hbr⟩
   case round =>
    clear RD hbr
    obtain ⟨i,hil,rfl,HM,RD,hbr⟩:=hrel
    have y1:=(RD.cell 1).trans (show _ = some (.slice aB es.length cB) from rfl)
    by_cases hi:i < es.length
    ·have hkI:(i:Int) < ((es.length:Nat):Int):=by omega
     go_wp2_with fail
     clear y1
     refine (ofD 0 wr (by decide) (by decide)).mono ?_
     rintro e w1 ⟨f0,c0,n0,k0,d0,m0,l0,rfl,G0,h1⟩
     have hx1:=bel_d0 w1 (.cells #[.bool f0,.slice c0 n0 k0,.slice d0 m0 l0] 27)
     have RS0:=Rw.new 27 w1 #[.bool f0,.slice c0 n0 k0,.slice d0 m0 l0]
     have RD1:=(RD.below h1).below hx1
     have hb1:=bel_tr (bel_tr hbr h1) hx1
     have GS0:GR _ 0 f0 c0 n0 k0 d0 m0 l0 (rsum (fun c=>sprd (es.getD i ⟨[],0⟩).l c * zn m X c) 0) U:=(((G0.mono (B':=0) (Nat.zero_le _)).below hx1).val rfl).fit (HSU.out i hi 0 (Nat.zero_le _))
     have hsz1:w.heap.size < w1.heap.size:=Nat.lt_of_lt_of_le RD.lt h1.size
     go_wp2_with fail
     clear G0 h1 hx1 RD hbr
     generalize w1.alloc (.cells #[.bool f0,.slice c0 n0 k0,.slice d0 m0 l0] 27) = W1 at *
     obtain ⟨bS,ebS⟩:∃ x,x = w1.heap.size:=⟨_,rfl⟩
     rw [← ebS] at RS0 hsz1 ⊢
     clear ebS
     go_loopw [8] (fun s wr=>∃ (j:Nat) (fs:Bool) (cs:Option Addr) (ns ks:Nat) (ds:Option Addr) (ms ls:Nat),j≤n∧s = .int .i64 j∧Rw 27 wr bS #[.bool fs,.slice cs ns ks,.slice ds ms ls]∧GR wr 0 fs cs ns ks ds ms ls (rsum (fun c=>sprd (es.getD i ⟨[],0⟩).l c * zn m X c) j) U∧Rw 40 wr w.heap.size #[.slice aA es.length cA,.slice aB es.length cB,.slice (some ⟨gC,0,none⟩) n n,.bool fK,.slice cK nK kK,.slice dK mK lK]∧Below w.heap.size w wr) (fun t _=>n - (intOf t).toNat)
     case atStart=>exact ⟨0,_,_,_,_,_,_,_,Nat.zero_le _,rfl,RS0,GS0,RD1,hb1⟩
     case round =>
      clear RS0 GS0 RD1 hb1
      obtain ⟨j,fs,cs,ns,ks,ds,ms,ls,hjn,rfl,RS,GS,RD,hbr⟩:=hrel
      have y2:=(RD.cell 2).trans (show _ = some (.slice (some ⟨gC,0,none⟩) n n) from rfl)
      by_cases hjl:j < n
      ·have hkJ:(j:Int) < (n:Int):=by omega
       go_wp2_with fail
       clear y2
       have HBX:∀ w',Below wr.heap.size wr w'→(w'.cell? ⟨bS,0,none⟩ = some (.bool fs)∧w'.cell? ⟨bS,1,none⟩ = some (.slice cs ns ks)∧w'.cell? ⟨bS,2,none⟩ = some (.slice ds ms ls)∧w'.cell? ⟨w.heap.size,0,none⟩ = some (.slice aA es.length cA)∧w'.cell? ⟨w.heap.size,1,none⟩ = some (.slice aB es.length cB)∧w'.cell? ⟨w.heap.size,2,none⟩ = some (.slice (some ⟨gC,0,none⟩) n n)∧w'.cell? ⟨w.heap.size,3,none⟩ = some (.bool fK)∧w'.cell? ⟨w.heap.size,4,none⟩ = some (.slice cK nK kK)∧w'.cell? ⟨w.heap.size,5,none⟩ = some (.slice dK mK lK)):=fun w' h=>⟨((RS.below h).cell 0).trans rfl,((RS.below h).cell 1).trans rfl,((RS.below h).cell 2).trans rfl,((RD.below h).cell 0).trans rfl,((RD.below h).cell 1).trans rfl,((RD.below h).cell 2).trans rfl,((RD.below h).cell 3).trans rfl,((RD.below h).cell 4).trans rfl,((RD.below h).cell 5).trans rfl⟩
       refine wp_region_noPanic (wp_region_guardT 10 HBX (by as_aux_lemma=>kernel_rfl) ?_)
       have hc0:Below wr.heap.size wr wr.drew:=bel_d1 _
       generalize wr.drew = z0 at *
       refine wpAnyG.tT 0 (v:=.agg #[.bool fs,.slice cs ns ks,.slice ds ms ls]) (by decide) 10 (by as_aux_lemma=>kernel_rfl) (by rfl) ?y0 (HBX _ hc0) ?_
       case y0 =>
        rintro w' ⟨q0,q1,q2,q3,q4,q5,q6,q7,q8⟩
        simp only [lgA,lgZ]
        go_simp
       simp only [lgA,lgZ,Act.put,lsA,lsZ,lsS]
       refine wpAnyG.tT 1 (v:=.agg #[.slice aA es.length cA,.slice aB es.length cB,.slice (some ⟨gC,0,none⟩) n n,.bool fK,.slice cK nK kK,.slice dK mK lK]) (by decide) 10 (by as_aux_lemma=>kernel_rfl) (by rfl) ?y1 (HBX _ hc0) ?_
       case y1 =>
        rintro w' ⟨q0,q1,q2,q3,q4,q5,q6,q7,q8⟩
        simp only [lgA,lgZ,lgS]
        go_simp
       simp only [lgA,lgZ,lgS,Act.put,lsA,lsZ,lsS]
       refine wpAnyG.tT 2 (v:=.int .i64 (i:Nat)) (by decide) 10 (by as_aux_lemma=>kernel_rfl) (by rfl) ?y2 (HBX _ hc0) ?_
       case y2 =>
        rintro w' ⟨q0,q1,q2,q3,q4,q5,q6,q7,q8⟩
        simp only [lgA,lgZ,lgS]
        go_simp
       simp only [lgA,lgZ,lgS,Act.put,lsA,lsZ,lsS]
       refine wpAnyG.tT 3 (v:=.int .i64 (j:Nat)) (by decide) 10 (by as_aux_lemma=>kernel_rfl) (by rfl) ?y3 (HBX _ hc0) ?_
       case y3 =>
        rintro w' ⟨q0,q1,q2,q3,q4,q5,q6,q7,q8⟩
        simp only [lgA,lgZ,lgS]
        go_simp
       simp only [lgA,lgZ,lgS,Act.put,lsA,lsZ,lsS]
       refine wpAnyG.tT 5 (v:=.slice xa m xc) (by decide) 10 (by as_aux_lemma=>kernel_rfl) (by rfl) ?y5 (HBX _ hc0) ?_
       case y5 =>
        rintro w' ⟨q0,q1,q2,q3,q4,q5,q6,q7,q8⟩
        simp only [lgA,lgZ,lgS]
        go_simp
       simp only [lgA,lgZ,lgS,Act.put,lsA,lsZ,lsS]
       refine wpAnyG.tT 6 (v:=.int .i64 (j:Nat)) (by decide) 10 (by as_aux_lemma=>kernel_rfl) (by rfl) ?y6 (HBX _ hc0) ?_
       case y6 =>
        rintro w' ⟨q0,q1,q2,q3,q4,q5,q6,q7,q8⟩
        simp only [lgA,lgZ,lgS]
        go_simp
       simp only [lgA,lgZ,lgS,Act.put,lsA,lsZ,lsS]
       refine wpAnyG.one 4 (by as_aux_lemma=>kernel_rfl) (by decide) (by rfl) (fun K hK=>?_)
       simp only [lgA,lgZ,lgS]
       go_simp
       refine (entryQ i j z0 (HAL.out.below (bel_tr hbr hc0)) hi hjl hS1 (by omega)).mono ?_
       rintro e z1 ⟨f1,c1,n1,k1,d1,m1,l1,rfl,G1,hk1⟩
       have hc1:Below wr.heap.size wr z1:=bel_tr hc0 hk1
       dsimp only
       refine hK _ _ ⟨fun _=>HBX _ hc1,fun _=>trivial⟩ ?_
       clear hK K
       refine wpAnyG.one 7 (by as_aux_lemma=>kernel_rfl) (by decide) (by rfl) (fun K hK=>?_)
       simp only [lgA,lgZ,lgS]
       go_simp
       refine (atD (xc:=xc) (S:=T) (j:Nat) z1 (hx.below (bel_tr hbr hc1)) (fun _ _=>⟨hT1,Nat.le_refl _⟩) ⟨hT1,by omega⟩).mono ?_
       rintro e z2 ⟨f2,c2,n2,k2,d2,m2,l2,rfl,G2,hk2⟩
       have hc2:Below wr.heap.size wr z2:=bel_tr hc1 hk2
       replace G2:=G2.val (xat_zn X m j)
       dsimp only
       refine hK _ _ ⟨fun _=>HBX _ hc2,fun _=>trivial⟩ ?_
       clear hK K
       refine wpAnyG.one 8 (by as_aux_lemma=>kernel_rfl) (by decide) (by rfl) (fun K hK=>?_)
       simp only [lgA,lgZ,lgS]
       go_simp
       refine (mulD z2 ((G1.fit (HSC.out i hi j)).tr.below hk2) G2.tr (by omega) hSc hT1).mono ?_
       rintro e z3 ⟨f3,c3,n3,k3,d3,m3,l3,rfl,G3,hk3⟩
       have hc3:Below wr.heap.size wr z3:=bel_tr hc2 hk3
       dsimp only
       refine hK _ _ ⟨fun _=>HBX _ hc3,fun _=>trivial⟩ ?_
       clear hK K
       refine wpAnyG.one 9 (by as_aux_lemma=>kernel_rfl) (by decide) (by rfl) (fun K hK=>?_)
       simp only [lgA,lgZ,lgS]
       go_simp
       refine (addD z3 (GS.tr.below hc3) G3.tr (by omega) (by omega) (by omega)).mono ?_
       rintro e z4 ⟨f4,c4,n4,k4,d4,m4,l4,rfl,G4,hk4⟩
       have hc4:Below wr.heap.size wr z4:=bel_tr hc3 hk4
       dsimp only
       refine hK _ _ ⟨fun _=>HBX _ hc4,fun _=>trivial⟩ ?_
       clear hK K
       refine wpAnyG.one 10 (by as_aux_lemma=>kernel_rfl) (by decide) (by rfl) (fun K hK=>?_)
       simp only [lgA,lgZ,lgS]
       have RS4:=RS.below hc4
       have t0:=(RS4.cell 0).trans (show _ = some (.bool fs) from rfl);have t1:=(RS4.cell 1).trans (show _ = some (.slice cs ns ks) from rfl);have t2:=(RS4.cell 2).trans (show _ = some (.slice ds ms ls) from rfl)
       have v0:=RS4.frozen 0;have v1:=RS4.frozen 1;have v2:=RS4.frozen 2
       go_simp
       refine hK _ _ ⟨fun h=>absurd h (by decide),fun _=>trivial⟩ ?_
       clear t0 t1 t2 v0 v1 v2
       clear hK K
       refine wpAnyG.done (by as_aux_lemma=>kernel_rfl) (NoPanic.normal ?_)
       obtain ⟨RN,ON⟩:=(RS.below hc4).set3 (.bool f4) (.slice c4 n4 k4) (.slice d4 m4 l4)
       have GN:GR (((z4.setCell ⟨bS,0,none⟩ (.bool f4)).setCell ⟨bS,1,none⟩ (.slice c4 n4 k4)).setCell ⟨bS,2,none⟩ (.slice d4 m4 l4)) 0 f4 c4 n4 k4 d4 m4 l4 (rsum (fun c=>sprd (es.getD i ⟨[],0⟩).l c * zn m X c) (j + 1)) U:=(((G4.mono (B':=0) (Nat.zero_le _)).keep (row:=some bS) ((RS.below hc4).noW (by decide)) ON.grown).val (rsum_succ _ j).symm).fit (HSU.out i hi (j + 1) (by omega))
       have RDN:=(RD.below hc4).off ON (by omega)
       have hbN:Below w.heap.size w (((z4.setCell ⟨bS,0,none⟩ (.bool f4)).setCell ⟨bS,1,none⟩ (.slice c4 n4 k4)).setCell ⟨bS,2,none⟩ (.slice d4 m4 l4)):=(bel_tr hbr hc4).trans (ON.below (by omega))
       clear HBX hc0 hc1 hc2 hc3 hc4 hk1 hk2 hk3 hk4 G1 G2 G3 G4 ON RS GS RD hbr
       generalize ((z4.setCell ⟨bS,0,none⟩ (.bool f4)).setCell ⟨bS,1,none⟩ (.slice c4 n4 k4)).setCell ⟨bS,2,none⟩ (.slice d4 m4 l4) = w9 at *
       go_wp2
       go_roundw
       case rel=>first | exact ⟨j + 1,_,_,_,_,_,_,_,by omega,by go_num,RN,GN,RDN,hbN⟩ | ((repeat apply Exists.intro);refine ⟨?_,rfl⟩;exact ⟨j + 1,_,_,_,_,_,_,_,by omega,by go_num,RN,GN,RDN,hbN⟩)
       case measure=>simp [intOf];omega
      ·obtain rfl:j = n:=by omega
       have hkJ:¬ (j:Int) < (j:Int):=by omega
       have hkI3:(i:Int) * 3 = ((i * 3:Nat):Int):=by omega
       obtain ⟨gB,pb,ab,nb,cb,db,mb,lb,egB,b0,b1,b2,GBi⟩:=(hB.below hbr).at hi
       obtain ⟨t,et⟩:∃ t,t = Go.Proofs.YtlfobaanbmfafaaGreatDoor.cs (rsum (fun c=>sprd (es.getD i ⟨[],0⟩).l c * zn m X c) j) (es.getD i ⟨[],0⟩).r:=⟨_,rfl⟩
       have HT:Hid (t = Go.Proofs.YtlfobaanbmfafaaGreatDoor.cs (rsum (fun c=>sprd (es.getD i ⟨[],0⟩).l c * zn m X c) j) (es.getD i ⟨[],0⟩).r):=et
       clear et
       have egB':aB = some ⟨gB,0,none⟩:=egB
       clear egB
       have y1b:=(RD.cell 1).trans (show _ = some (.slice aB es.length cB) from rfl)
       rw [egB'] at y1b
       go_wp2_with fail
       clear y2
       have HBX:∀ w',Below wr.heap.size wr w'→(w'.cell? ⟨bS,0,none⟩ = some (.bool fs)∧w'.cell? ⟨bS,1,none⟩ = some (.slice cs ns ks)∧w'.cell? ⟨bS,2,none⟩ = some (.slice ds ms ls)∧w'.cell? ⟨w.heap.size,1,none⟩ = some (.slice (some ⟨gB,0,none⟩) es.length cB)∧w'.cell? ⟨gB,i * 3,none⟩ = some (.bool pb)∧w'.cell? ⟨gB,i * 3 + 1,none⟩ = some (.slice ab nb cb)∧w'.cell? ⟨gB,i * 3 + 2,none⟩ = some (.slice db mb lb)):=fun w' h=>⟨((RS.below h).cell 0).trans rfl,((RS.below h).cell 1).trans rfl,((RS.below h).cell 2).trans rfl,kept_c h y1b,kept_c h b0,kept_c h b1,kept_c h b2⟩
       refine wp_region_noPanic (wp_region_guardB HBX (by as_aux_lemma=>kernel_rfl) ?_)
       have hc0:Below wr.heap.size wr wr.drew:=bel_d1 _
       generalize wr.drew = z0 at *
       refine wpAnyG.tA 0 (v:=.agg #[.bool fs,.slice cs ns ks,.slice ds ms ls]) (by decide) 6 (by as_aux_lemma=>kernel_rfl) (by rfl) ?y0 (HBX _ hc0) ?_
       case y0 =>
        rintro w' ⟨q0,q1,q2,q3,q4,q5,q6⟩
        simp only [lgA,lgZ]
        go_simp
       simp only [lgA,lgZ,Act.put,lsA,lsZ,lsS]
       refine wpAnyG.tA 1 (v:=.pointer (some ⟨w.heap.size,1,none⟩)) (by decide) 2 (by as_aux_lemma=>kernel_rfl) (by rfl) ?y1 (HBX _ hc0) ?_
       case y1 =>
        rintro w' ⟨q0,q1,q2,q3,q4,q5,q6⟩
        simp only [lgA,lgZ,lgS]
        go_simp
       simp only [lgA,lgZ,lgS,Act.put,lsA,lsZ,lsS]
       refine wpAnyG.tA 2 (v:=.slice (some ⟨gB,0,none⟩) es.length cB) (by decide) 4 (by as_aux_lemma=>kernel_rfl) (by rfl) ?y2 (HBX _ hc0) ?_
       case y2 =>
        rintro w' ⟨q0,q1,q2,q3,q4,q5,q6⟩
        simp only [lgA,lgZ,lgS]
        go_simp
       simp only [lgA,lgZ,lgS,Act.put,lsA,lsZ,lsS]
       refine wpAnyG.tA 3 (v:=.int .i64 (i:Nat)) (by decide) 4 (by as_aux_lemma=>kernel_rfl) (by rfl) ?y3 (HBX _ hc0) ?_
       case y3 =>
        rintro w' ⟨q0,q1,q2,q3,q4,q5,q6⟩
        simp only [lgA,lgZ,lgS]
        go_simp
       simp only [lgA,lgZ,lgS,Act.put,lsA,lsZ,lsS]
       refine wpAnyG.tA 4 (v:=.pointer (some ⟨gB,i * 3,none⟩)) (by decide) 5 (by as_aux_lemma=>kernel_rfl) (by rfl) ?y4 (HBX _ hc0) ?_
       case y4 =>
        rintro w' ⟨q0,q1,q2,q3,q4,q5,q6⟩
        simp only [lgA,lgZ,lgS]
        go_simp
       simp only [lgA,lgZ,lgS,Act.put,lsA,lsZ,lsS]
       refine wpAnyG.tA 5 (v:=.agg #[.bool pb,.slice ab nb cb,.slice db mb lb]) (by decide) 6 (by as_aux_lemma=>kernel_rfl) (by rfl) ?y5 (HBX _ hc0) ?_
       case y5 =>
        rintro w' ⟨q0,q1,q2,q3,q4,q5,q6⟩
        simp only [lgA,lgZ,lgS]
        go_simp
       simp only [lgA,lgZ,lgS,Act.put,lsA,lsZ,lsS]
       refine wpAnyG.one 6 (by as_aux_lemma=>kernel_rfl) (by decide) (by rfl) (fun K hK=>?_)
       simp only [lgA,lgZ,lgS]
       go_simp
       refine (cmpD t z0 (GS.tr.below hc0) (GBi.tr.below hc0) (by omega) (by omega) hS1 HT.out).mono ?_
       rintro e z1 ⟨rfl,hk1⟩
       have hc1:Below wr.heap.size wr z1:=bel_tr hc0 hk1
       dsimp only
       refine hK _ _ (HBX _ hc1) ?_
       clear hK K
       refine wpAnyG.one 7 (by as_aux_lemma=>kernel_rfl) (by decide) (by rfl) (fun K hK=>?_)
       simp only [lgA,lgZ,lgS]
       go_simp
       refine hK _ _ (HBX _ hc1) ?_
       clear hK K
       refine wpAnyG.done (by as_aux_lemma=>kernel_rfl) (NoPanic.normal ?_)
       have hbN:=bel_tr hbr hc1
       have RDN:=RD.below hc1
       clear HBX hc0 hc1 hk1 RS GS RD hbr GBi b0 b1 b2 y1b
       try rw [← egB']
       clear egB'
       by_cases ht:t = 0
       ·have HM2:Hid (∀ k,k < i + 1→rsum (fun c=>sprd (es.getD k ⟨[],0⟩).l c * zn m X c) j = (es.getD k ⟨[],0⟩).r):=fun k hk=>by
         rcases (by omega:k < i∨k = i) with h | rfl
         ·exact HM.out k h
         ·exact cs_eq.1 (by rw [← HT.out];exact ht)
        go_wp2
        go_roundw
        case rel=>first | exact ⟨i + 1,by omega,by go_num,HM2,RDN,hbN⟩ | ((repeat apply Exists.intro);refine ⟨?_,rfl⟩;exact ⟨i + 1,by omega,by go_num,HM2,RDN,hbN⟩)
        case measure=>simp [intOf];omega
       ·go_wp2
        go_ret
        exact ⟨false,rfl,fun h=>(by cases h),hbN⟩
    ·obtain rfl:i = es.length:=by omega
     have hkI:¬ ((es.length:Nat):Int) < ((es.length:Nat):Int):=by omega
     go_wp2
     go_ret
     exact ⟨true,rfl,fun _=>⟨HN.out,HM.out⟩,hbr⟩
def EqD (K:Nat) (e:Eqn):Prop:=∃ D:Int,0 < D∧D < pw K∧∀ t ∈ e.l,Wd K D t.coef
theorem spl_wd {v:PV} {u:Nat} {c:Rat} {d:Nat} {D:Int} (h:Wd d D c):∀ t ∈ spl v u c,Wd d D t.coef:=by
 intro t ht
 unfold spl at ht
 split at ht
 ·rw [List.mem_singleton.1 ht];exact h
 ·split at ht
  ·rw [List.mem_singleton.1 ht];exact h.neg
  ·simp at ht
   rcases ht with rfl | rfl
   ·exact h
   ·exact h.neg
theorem rowT_wd (V:Nat→PV) (t:Nat→PT) {d:Nat} {D:Int}:∀ q,(∀ k,k < q→Wd d D (t k).coef)→∀ x ∈ rowT V t q,Wd d D x.coef
 | 0,_,x,hx=>by cases hx
 | q + 1,h,x,hx=>by
  rcases List.mem_append.1 hx with h1 | h1
  ·exact rowT_wd V t q (fun k hk=>h k (by omega)) x h1
  ·exact spl_wd (h q (by omega)) x h1
theorem eqs_wd {V:Nat→PV} {r:PW} {K:Nat} {D:Int} (hD:0 < D) (hd:D < pw K) (h:∀ k,k < r.nt→Wd K D (r.t k).coef) (st:Rat) (c:Nat):∀ e ∈ (eqsR V r st c).1,EqD K e:=by
 have h0:=rowT_wd V r.t r.nt h
 have h1:Wd K D 1:=Wd.one hD hd
 have hs:∀ x:Rat,Wd K D x→∀ t ∈ rowT V r.t r.nt ++ [⟨(c:Nat),x⟩],Wd K D t.coef:=fun x hx t ht=>by
  rcases List.mem_append.1 ht with h2 | h2
  ·exact h0 t h2
  ·rw [List.mem_singleton.1 h2];exact hx
 have hw:∀ t ∈ ([⟨(c:Nat),1⟩,⟨((c + 1:Nat):Int),1⟩]:List PT),Wd K D t.coef:=fun t ht=>by
  simp at ht
  rcases ht with rfl | rfl <;> exact h1
 intro e he
 unfold eqsR at he
 split at he
 ·split at he
  ·split at he
   ·rw [List.mem_singleton.1 he];exact ⟨D,hD,hd,h0⟩
   ·simp at he
    rcases he with rfl | rfl
    ·exact ⟨D,hD,hd,hs _ h1.neg⟩
    ·exact ⟨D,hD,hd,hw⟩
  ·rw [List.mem_singleton.1 he];exact ⟨D,hD,hd,hs _ h1.neg⟩
 ·split at he
  ·rw [List.mem_singleton.1 he];exact ⟨D,hD,hd,hs _ h1⟩
  ·cases he
theorem PQ.eqD {w:World} {Q:Prob} (hP:PQ w Q):∀ e ∈ (eqsQ Q).1,EqD Q.K e:=by
 have hall:=hP.all
 have hs1:=hP.s1
 have hrow:∀ i,i≤Q.rn→∀ e ∈ (rowsE Q.V Q.R (fun i=>cv (Q.R i) (fun j=>vbs (Q.V j)) Q.vn) Q.vn i).1,EqD Q.K e:=by
  intro i
  induction i with
  | zero=>intro _ e he;cases he
  | succ i ih =>
   intro hi e he
   rcases List.mem_append.1 he with h1 | h1
   ·exact ih (by omega) e h1
   ·obtain ⟨rb,ro,hR⟩:=hP.row (i:=i) (by omega)
    obtain ⟨ta,tc,Zt,_,hLT,htot,_⟩:=hR.terms
    have hZ:Q.ZR i≤tot Q.ZR Q.rn:=tot_le (by omega)
    obtain ⟨Dc,c1,c2,c3⟩:=Wd.list (X:=fun q=>((Q.R i).t q).coef) (Z:=Zt) (n:=(Q.R i).nt) (K:=Q.K) (fun q hq=>(hLT.get q hq).1) (by omega)
    exact eqs_wd c1 c2 c3 _ _ e h1
 have hv:∀ j,∀ e ∈ (varsE Q.V (rowsE Q.V Q.R (fun i=>cv (Q.R i) (fun j=>vbs (Q.V j)) Q.vn) Q.vn Q.rn) j).1,EqD Q.K e:=by
  intro j
  induction j with
  | zero=>exact hrow Q.rn (Nat.le_refl _)
  | succ j ih =>
   intro e he
   unfold varsE at he
   split at he
   ·rcases List.mem_append.1 he with h1 | h1
    ·exact ih e h1
    ·rw [List.mem_singleton.1 h1]
     have hp:(1:Int) < pw Q.K:=Int.lt_of_lt_of_le (show (1:Int) < pw 1 by decide) (pw_mono (by omega))
     refine ⟨1,by decide,hp,fun t ht=>?_⟩
     simp at ht
     rcases ht with rfl | rfl <;> exact Wd.one (by decide) hp
   ·exact ih e he
 exact hv Q.vn
theorem PQ.meet_sz {w:World} {Q:Prob} (hP:PQ w Q) (hK:Q.K≤1048576) {Ky:Nat} {Y:Nat→Rat} {Dy:Int} (d1:0 < Dy) (d2:Dy < pw Ky) (d3:∀ j,Wd Ky Dy (Y j)) {n:Nat} (hn:n≤100000000) {i:Nat} (hi:i < (eqsQ Q).1.length):(∀ c,SzR (sprd ((eqsQ Q).1.getD i ⟨[],0⟩).l c) Q.K)∧∀ j,j≤n→SzR (rsum (fun c=>sprd ((eqsQ Q).1.getD i ⟨[],0⟩).l c * Y c) j) (Q.K + Ky + 1):=by
 have hmem:(eqsQ Q).1.getD i ⟨[],0⟩ ∈ (eqsQ Q).1:=by
  have hl:(eqsQ Q).1[i]? = some ((eqsQ Q).1.getD i ⟨[],0⟩):=by rw [List.getD_eq_getElem?_getD,List.getElem?_eq_getElem hi];rfl
  exact List.mem_of_getElem? hl
 obtain ⟨D,e1,e2,e3⟩:=hP.eqD _ hmem
 have hw:=sprd_wd e1 e2 e3
 have p:=mul_pw (Int.le_of_lt e1) e2 (Int.le_of_lt d1) d2
 have p0:0 < D * Dy:=Int.mul_pos e1 d1
 have hs1:=hP.s1
 have hall:=hP.all
 exact ⟨fun c=>(hw c).sz (by omega),fun j hj=>(Wd.sum p0 p.1 (fun c _=>(hw c).mul (d3 c)) (by omega) j hj).sz (by omega)⟩
theorem Mts.of {A:List Eqn × Nat} {Y:Nat→Rat} (ho:EqO A) (h1:∀ c,c < A.2→0≤Y c) (h2:∀ i,i < A.1.length→rsum (fun c=>sprd (A.1.getD i ⟨[],0⟩).l c * Y c) A.2 = (A.1.getD i ⟨[],0⟩).r):Mts A Y:=by
 refine ⟨h1,fun e he=>?_⟩
 obtain ⟨i,hi⟩:=List.getElem?_of_mem he
 have hlt:=(List.getElem?_eq_some_iff.1 hi).1
 have e1:A.1.getD i ⟨[],0⟩ = e:=by rw [List.getD_eq_getElem?_getD,hi];rfl
 have h3:=h2 i hlt
 rw [e1,sprd_sum (ho e he)] at h3
 exact h3
theorem PQ.pts {w:World} {Q:Prob} (hP:PQ w Q) {Ky:Nat} {Y:Nat→Rat} {Dy:Int} (d1:0 < Dy) (d2:Dy < pw Ky) (d3:∀ j,Wd Ky Dy (Y j)):∃ D,0 < D∧D < pw (tot Q.ZV Q.vn + Ky + 2)∧∀ j,j < Q.vn→Wd (tot Q.ZV Q.vn + Ky + 2) D (ptv (Q.V j) (clm Q.V j) Y):=by
 obtain ⟨Db,b1,b2,b3⟩:=hP.bases
 have q:=mul_pw (Int.le_of_lt b1) b2 (Int.le_of_lt d1) d2
 refine ⟨Db * Dy,Int.mul_pos b1 d1,Int.lt_of_lt_of_le q.1 (pw_mono (by omega)),fun j hj=>?_⟩
 rw [ptv_ryv]
 have e1:=(b3 j hj).lift (e:=Ky) d1 d2
 have e2:=(Wd.ryv (v:=Q.V j) (u:=clm Q.V j) d3).lift' (e:=tot Q.ZV Q.vn) b1 b2
 exact ((e1.up (e:=tot Q.ZV Q.vn + Ky + 1) (by omega)).add (e2.up (by omega)))
theorem Wd.ovp {d:Nat} {D:Int} {r:Rat} (h:Wd d D r):Ov D (pw d) r:=by
 obtain ⟨h1,h2,m,e1,e2⟩:=h
 refine ⟨m,e1,?_⟩
 have:pw d * 1≤pw d * D:=Int.mul_le_mul_of_nonneg_left (by omega) (Int.le_of_lt (pw_pos _))
 omega
theorem RL.mono1 {w:World} {B:Nat} {v:Value} {n:Nat} {X:Nat→Rat} {S:Nat} (h:RL w B v n X S):RL w 0 v n X S:=by
 obtain ⟨vs,⟨h1,h1'⟩,h2⟩:=h
 refine ⟨vs,⟨h1,?_⟩,fun i hi=>?_⟩
 ·rcases h1' with e | ⟨g,cap,cur,e1,_,rest⟩
  ·exact .inl e
  ·exact .inr ⟨g,cap,cur,e1,Nat.zero_le _,rest⟩
 ·obtain ⟨p,a,na,ca,d,nd,cd,g1,g2,g3,g4⟩:=h2 i hi
  exact ⟨p,a,na,ca,d,nd,cd,g1,g2,g3,g4.mono (Nat.zero_le _)⟩
set_option maxRecDepth 100000 in
set_option maxHeartbeats 32000000 in
theorem only_walk (P:Prob) {xa:Option Addr} {m xc:Nat} {X:Nat→Rat} {Zy:Nat→Nat} {Ky:Nat} (w:World) (hP:PQ w P) (hx:LQ w xa m X Zy) (hzx:∀ i,i < m→1≤Zy i∧SzR (X i) (Zy i)) (htx:tot Zy m≤Ky) (hK:P.K + Ky≤1048576) (hT:TB w)
  (HA:∀ w1,Below w.heap.size w w1→Calls Tryz.prog 7 #[] w1 fun e w'=>e = .returned (.bool true)∧Below w1.heap.size w1 w') :
  Calls Tryz.prog 5 #[P.val,.slice xa m xc] w fun e w'=>e = .returned (.bool true)∧Below w.heap.size w w':=by
 have hKy:1≤Ky:=by have:=tot_pos Zy m;omega
 obtain ⟨Dy,d1,d2,d3⟩:=Wd.list (X:=X) (Z:=Zy) (n:=m) (K:=Ky) (fun i hi=>(hzx i hi).2) htx
 have HDY:Hid (0 < Dy∧Dy < pw Ky∧∀ j,Wd Ky Dy (zn m X j)):=⟨d1,d2,Wd.zn d1 d2 d3⟩
 have hxU:LQ w xa m X (fun _=>Ky):=hx.unif fun i hi=>by have:=tot_le (Z:=Zy) hi;omega
 clear hx hzx htx d1 d2 d3
 have hKP:P.K≤1048576:=by omega
 have HLG:=fun w1 (h:PQ w1 P)=>largeQ P w1 h hKP
 have HMK:=fun w1 (h:PQ w1 P) (ht:TB w1)=>shapeQ P w1 h hKP ht
 have HHD0:∀ (w1:World) (xb:Option Addr) (xcap:Nat) (Xp:Nat→Rat) (D:Int),0 < D→D < pw (tot P.ZV P.vn + Ky + 2)→(∀ j,j < P.vn→Wd (tot P.ZV P.vn + Ky + 2) D (Xp j))→PQ w1 P→RL w1 0 (.slice xb P.vn xcap) P.vn Xp (2 * P.K + 3 + Ky + Ky + 1)→TB w1→Calls Tryz.prog 20 #[P.val,.slice xb P.vn xcap] w1 fun e w'=>∃ b,e = .returned (.bool b)∧(b = true↔Hlds P P.vn Xp)∧Below w1.heap.size w1 w':=fun w1 xb xcap Xp D h1 h2 h3 hq hl ht=>by
  have hall:=hq.all
  exact holdsQ P (S:=3 * P.K + 2 * Ky + 4) (T:=2 * P.K + 2 * Ky + 7) (dx:=tot P.ZV P.vn + Ky + 2) (ax:=tot P.ZV P.vn + Ky + 3) (Ax:=pw (tot P.ZV P.vn + Ky + 2)) w1 hq hl.lq (RLcap hl) (fun j _=>⟨by omega,by omega⟩) (fun i j hi _=>⟨by omega,by have:=tot_le (Z:=P.ZR) hi;omega⟩) (by omega) (by omega) h1 h2 (Int.le_of_lt (pw_pos _)) (pw_lt1 _) (fun j hj=>(h3 j (by omega)).ovp) (fun i hi=>by have:=tot_le (Z:=P.ZR) hi;omega) (by omega) hKP ht
 have Pb:=box_new w #[.bool P.mx,.string P.nm,.bool P.p,.slice P.a P.na P.ca,.slice P.d P.nd P.cd,.slice P.va P.vn P.vc,.slice P.ra P.rn P.rc] 31
 have hb0:=bel_d0 w (.cells #[.bool P.mx,.string P.nm,.bool P.p,.slice P.a P.na P.ca,.slice P.d P.nd P.cd,.slice P.va P.vn P.vc,.slice P.ra P.rn P.rc] 31)
 have y0:=Pb 0 _ rfl;have y1:=Pb 1 _ rfl;have y2:=Pb 2 _ rfl;have y3:=Pb 3 _ rfl;have y4:=Pb 4 _ rfl;have y5:=Pb 5 _ rfl;have y6:=Pb 6 _ rfl
 unfold Prob.val at HLG HMK HHD0 ⊢
 go_enter Tryz.func5,Tryz.ntmps5
 go_wp2_with fail
 clear y0 y1 y2 y3 y4 y5 y6
 generalize w.alloc (.cells #[.bool P.mx,.string P.nm,.bool P.p,.slice P.a P.na P.ca,.slice P.d P.nd P.cd,.slice P.va P.vn P.vc,.slice P.ra P.rn P.rc] 31) = W0 at *
 refine (HLG W0 (hP.below hb0)).mono ?_
 rintro e w1 ⟨lb,rfl,h1⟩
 replace hb0:=bel_tr hb0 h1
 replace Pb:=Pb.below h1
 clear h1 HLG
 cases lb
 case true =>
  go_wp2
  go_ret
  exact ⟨rfl,hb0⟩
 case false =>
  go_wp2_with fail
  refine (HA w1 hb0).mono ?_
  rintro e w2 ⟨rfl,h2⟩
  replace hb0:=bel_tr hb0 h2
  replace Pb:=Pb.below h2
  clear h2 HA
  have y0:=Pb 0 _ rfl;have y1:=Pb 1 _ rfl;have y2:=Pb 2 _ rfl;have y3:=Pb 3 _ rfl;have y4:=Pb 4 _ rfl;have y5:=Pb 5 _ rfl;have y6:=Pb 6 _ rfl
  go_wp2_with fail
  clear y0 y1 y2 y3 y4 y5 y6
  refine (HMK w2 (hP.below hb0) (hT.below hb0)).mono ?_
  rintro e w3 ⟨R,rfl,Q,TID,PQ3,SH3,h3⟩
  replace hb0:=bel_tr hb0 h3
  replace Pb:=Pb.below h3
  clear h3 HMK
  have hKQ:Q.K = P.K:=TID.K
  have hKQ1:Q.K≤1048576:=by omega
  have hKQ0:1≤Q.K:=by have:=PQ3.all;have:=PQ3.s1;omega
  have evn:Q.vn = P.vn:=TID.vn
  have HEO:Hid (EqO (eqsQ Q)∧clm Q.V Q.vn≤(eqsQ Q).2):=TID.eqs
  have HTID:Hid (Tid P Q):=TID
  obtain ⟨hlv,hlr⟩:=PQ3.lens hKQ1
  obtain ⟨hle1,hle⟩:=eqsQ_len Q
  have HMZ:Hid (∀ i,i < (eqsQ Q).1.length→(∀ c,SzR (sprd ((eqsQ Q).1.getD i ⟨[],0⟩).l c) Q.K)∧∀ j,j≤(eqsQ Q).2→SzR (rsum (fun c=>sprd ((eqsQ Q).1.getD i ⟨[],0⟩).l c * zn m X c) j) (Q.K + Ky + 1)):=fun i hi=>PQ3.meet_sz hKQ1 HDY.out.1 HDY.out.2.1 HDY.out.2.2 (by omega) hi
  have HHD:∀ (w1:World) (xb:Option Addr) (xcap:Nat),PQ w1 P→RL w1 0 (.slice xb P.vn xcap) P.vn (fun q=>ptv (Q.V q) (clm Q.V q) (zn m X)) (2 * P.K + 3 + Ky + Ky + 1)→TB w1→Calls Tryz.prog 20 #[.agg #[.bool P.mx,.string P.nm,.bool P.p,.slice P.a P.na P.ca,.slice P.d P.nd P.cd,.slice P.va P.vn P.vc,.slice P.ra P.rn P.rc],.slice xb P.vn xcap] w1 fun e w'=>∃ b,e = .returned (.bool b)∧(b = true↔Hlds P P.vn (fun q=>ptv (Q.V q) (clm Q.V q) (zn m X)))∧Below w1.heap.size w1 w':=fun w1 xb xcap hq hl ht=>by
   obtain ⟨D,e1,e2,e3⟩:=PQ3.pts HDY.out.1 HDY.out.2.1 HDY.out.2.2
   rw [evn,HTID.out.ZV] at e2 e3
   exact HHD0 w1 xb xcap (fun q=>ptv (Q.V q) (clm Q.V q) (zn m X)) D e1 e2 e3 hq hl ht
  clear TID HHD0
  go_wp2_with fail
  refine (stdShape w3 SH3 PQ3 hKQ1 HEO.out (hT.below hb0)).mono ?_
  rintro e w4 ⟨aA,cA,aB,cB,gC,fK,cK,nK,kK,dK,mK,lK,rfl,AL4,BL4,_,_,h4⟩
  have hb4:=bel_tr hb0 h4
  replace Pb:=Pb.below h4
  have hb34:Below w3.heap.size w3 w4:=h4
  have HME:=@meetsQ aA cA aB cB gC (eqsQ Q).2 fK cK nK kK dK mK lK (eqsQ Q).1 (2 * Q.K + 3) w3.heap.size xa m xc X Ky Q.K (Q.K + Ky + 1) w4 AL4 BL4 (hxU.below hb4) hKy (by omega) (by omega) (by omega) (by omega) (by omega) (fun i hi=>(HMZ.out i hi).1) hKQ0 (fun i hi=>(HMZ.out i hi).2) (by omega) (by omega) (by omega)
  clear HMZ AL4 BL4 h4
  go_wp2_with fail
  refine HME.mono ?_
  clear HME
  rintro e w5 ⟨mt,rfl,hmt,h5⟩
  have hb5:=bel_tr hb4 h5
  have hb35:=bel_tr hb34 h5
  replace Pb:=Pb.below h5
  have HMT:Hid (mt = true→(∀ c,c < (eqsQ Q).2→0≤zn m X c)∧∀ i,i < (eqsQ Q).1.length→rsum (fun c=>sprd ((eqsQ Q).1.getD i ⟨[],0⟩).l c * zn m X c) (eqsQ Q).2 = ((eqsQ Q).1.getD i ⟨[],0⟩).r):=hmt
  clear hmt h5 hb4 hb34 hle hle1
  have HBX:∀ w',Below w5.heap.size w5 w'→(w'.cell? ⟨w.heap.size,0,none⟩ = some (.bool P.mx)∧w'.cell? ⟨w.heap.size,1,none⟩ = some (.string P.nm)∧w'.cell? ⟨w.heap.size,2,none⟩ = some (.bool P.p)∧w'.cell? ⟨w.heap.size,3,none⟩ = some (.slice P.a P.na P.ca)∧w'.cell? ⟨w.heap.size,4,none⟩ = some (.slice P.d P.nd P.cd)∧w'.cell? ⟨w.heap.size,5,none⟩ = some (.slice P.va P.vn P.vc)∧w'.cell? ⟨w.heap.size,6,none⟩ = some (.slice P.ra P.rn P.rc)):=fun w' h=>⟨(Pb.below h) 0 _ rfl,(Pb.below h) 1 _ rfl,(Pb.below h) 2 _ rfl,(Pb.below h) 3 _ rfl,(Pb.below h) 4 _ rfl,(Pb.below h) 5 _ rfl,(Pb.below h) 6 _ rfl⟩
  cases mt
  ·go_wp2_with fail
   refine wp_region_noPanic (wp_region_guardT 9 HBX (by as_aux_lemma=>kernel_rfl) ?_)
   have hc0:Below w5.heap.size w5 w5.drew:=bel_d1 _
   generalize w5.drew = z0 at *
   refine wpAnyG.tT 0 (v:=.bool false) (by decide) 9 (by as_aux_lemma=>kernel_rfl) (by rfl) ?y0 (HBX _ hc0) ?_
   case y0 =>
    rintro w' ⟨q0,q1,q2,q3,q4,q5,q6⟩
    simp only [lgA,lgZ]
    go_simp
   simp only [lgA,lgZ,Act.put,lsA,lsZ,lsS]
   refine wpAnyG.tT 1 (v:=.bool true) (by decide) 9 (by as_aux_lemma=>kernel_rfl) (by rfl) ?y1 (HBX _ hc0) ?_
   case y1 =>
    rintro w' ⟨q0,q1,q2,q3,q4,q5,q6⟩
    simp only [lgA,lgZ,lgS]
    go_simp
   simp only [lgA,lgZ,lgS,Act.put,lsA,lsZ,lsS]
   refine wpAnyG.tT 2 (v:=.bool true) (by decide) 9 (by as_aux_lemma=>kernel_rfl) (by rfl) ?y2 (HBX _ hc0) ?_
   case y2 =>
    rintro w' ⟨q0,q1,q2,q3,q4,q5,q6⟩
    simp only [lgA,lgZ,lgS]
    go_simp
   simp only [lgA,lgZ,lgS,Act.put,lsA,lsZ,lsS]
   refine wpAnyG.skip 3 (by decide) (by as_aux_lemma=>kernel_rfl) (fun _ _ _ h=>h) 9 (by rfl) (till_ind (by decide) (by decide)) (by as_aux_lemma=>kernel_rfl) (by as_aux_lemma=>kernel_rfl) (by as_aux_lemma=>kernel_rfl) (by rfl) ⟨fun _=>HBX _ hc0,fun _=>trivial⟩ (by rfl) ?_
   simp only [lgA,lgZ,lgS,Act.put,lsA,lsZ,lsS]
   refine wpAnyG.skip 4 (by decide) (by as_aux_lemma=>kernel_rfl) (fun _ _ _ h=>h) 9 (by rfl) (till_ind (by decide) (by decide)) (by as_aux_lemma=>kernel_rfl) (by as_aux_lemma=>kernel_rfl) (by as_aux_lemma=>kernel_rfl) (by rfl) ⟨fun _=>HBX _ hc0,fun _=>trivial⟩ (by rfl) ?_
   simp only [lgA,lgZ,lgS,Act.put,lsA,lsZ,lsS]
   refine wpAnyG.skip 5 (by decide) (by as_aux_lemma=>kernel_rfl) (fun _ _ _ h=>h) 9 (by rfl) (till_ind (by decide) (by decide)) (by as_aux_lemma=>kernel_rfl) (by as_aux_lemma=>kernel_rfl) (by as_aux_lemma=>kernel_rfl) (by rfl) ⟨fun _=>HBX _ hc0,fun _=>trivial⟩ (by rfl) ?_
   simp only [lgA,lgZ,lgS,Act.put,lsA,lsZ,lsS]
   refine wpAnyG.skip 6 (by decide) (by as_aux_lemma=>kernel_rfl) (fun _ _ _ h=>h) 9 (by rfl) (till_ind (by decide) (by decide)) (by as_aux_lemma=>kernel_rfl) (by as_aux_lemma=>kernel_rfl) (by as_aux_lemma=>kernel_rfl) (by rfl) ⟨fun _=>HBX _ hc0,fun _=>trivial⟩ (by rfl) ?_
   simp only [lgA,lgZ,lgS,Act.put,lsA,lsZ,lsS]
   refine wpAnyG.skip 7 (by decide) (by as_aux_lemma=>kernel_rfl) (fun _ _ _ h=>h) 9 (by rfl) (till_ind (by decide) (by decide)) (by as_aux_lemma=>kernel_rfl) (by as_aux_lemma=>kernel_rfl) (by as_aux_lemma=>kernel_rfl) (by rfl) ⟨fun _=>HBX _ hc0,fun _=>trivial⟩ (by rfl) ?_
   simp only [lgA,lgZ,lgS,Act.put,lsA,lsZ,lsS]
   refine wpAnyG.tT 8 (v:=.bool true) (by decide) 9 (by as_aux_lemma=>kernel_rfl) (by rfl) ?y8 (HBX _ hc0) ?_
   case y8 =>
    rintro w' ⟨q0,q1,q2,q3,q4,q5,q6⟩
    simp only [lgA,lgZ,lgS]
    go_simp
   simp only [lgA,lgZ,lgS,Act.put,lsA,lsZ,lsS]
   refine wpAnyG.one 9 (by as_aux_lemma=>kernel_rfl) (by decide) (by rfl) (fun K hK=>?_)
   simp only [lgA,lgZ,lgS]
   go_simp
   refine hK _ _ ⟨fun h=>absurd h (by decide),fun _=>trivial⟩ ?_
   clear hK K
   refine wpAnyG.done (by as_aux_lemma=>kernel_rfl) (NoPanic.normal ?_)
   have hbF:=bel_tr hb5 hc0
   go_wp2
   go_ret
   exact ⟨rfl,hbF⟩
  ·have HHL:Hid (Hlds P P.vn (fun q=>ptv (Q.V q) (clm Q.V q) (zn m X))):=by
    obtain ⟨g1,g2⟩:=HMT.out rfl
    have h1:=only_holds HTID.out (Mts.of HEO.out.1 g1 g2)
    rw [HTID.out.hlds,evn] at h1
    exact h1
   go_wp2_with fail
   refine wp_region_noPanic (wp_region_guardT 9 HBX (by as_aux_lemma=>kernel_rfl) ?_)
   have hc0:Below w5.heap.size w5 w5.drew:=bel_d1 _
   generalize w5.drew = z0 at *
   refine wpAnyG.tT 0 (v:=.bool true) (by decide) 9 (by as_aux_lemma=>kernel_rfl) (by rfl) ?y0 (HBX _ hc0) ?_
   case y0 =>
    rintro w' ⟨q0,q1,q2,q3,q4,q5,q6⟩
    simp only [lgA,lgZ]
    go_simp
   simp only [lgA,lgZ,Act.put,lsA,lsZ,lsS]
   refine wpAnyG.tT 1 (v:=.bool false) (by decide) 9 (by as_aux_lemma=>kernel_rfl) (by rfl) ?y1 (HBX _ hc0) ?_
   case y1 =>
    rintro w' ⟨q0,q1,q2,q3,q4,q5,q6⟩
    simp only [lgA,lgZ,lgS]
    go_simp
   simp only [lgA,lgZ,lgS,Act.put,lsA,lsZ,lsS]
   refine wpAnyG.tT 2 (v:=.bool false) (by decide) 9 (by as_aux_lemma=>kernel_rfl) (by rfl) ?y2 (HBX _ hc0) ?_
   case y2 =>
    rintro w' ⟨q0,q1,q2,q3,q4,q5,q6⟩
    simp only [lgA,lgZ,lgS]
    go_simp
   simp only [lgA,lgZ,lgS,Act.put,lsA,lsZ,lsS]
   refine wpAnyG.tT 3 (v:=.agg #[.bool P.mx,.string P.nm,.bool P.p,.slice P.a P.na P.ca,.slice P.d P.nd P.cd,.slice P.va P.vn P.vc,.slice P.ra P.rn P.rc]) (by decide) 9 (by as_aux_lemma=>kernel_rfl) (by rfl) ?y3 (HBX _ hc0) ?_
   case y3 =>
    rintro w' ⟨q0,q1,q2,q3,q4,q5,q6⟩
    simp only [lgA,lgZ,lgS]
    go_simp
   simp only [lgA,lgZ,lgS,Act.put,lsA,lsZ,lsS]
   refine wpAnyG.tT 4 (v:=.pointer (some ⟨R,0,none⟩)) (by decide) 9 (by as_aux_lemma=>kernel_rfl) (by rfl) ?y4 (HBX _ hc0) ?_
   case y4 =>
    rintro w' ⟨q0,q1,q2,q3,q4,q5,q6⟩
    simp only [lgA,lgZ,lgS]
    go_simp
   simp only [lgA,lgZ,lgS,Act.put,lsA,lsZ,lsS]
   refine wpAnyG.tT 5 (v:=.slice xa m xc) (by decide) 9 (by as_aux_lemma=>kernel_rfl) (by rfl) ?y5 (HBX _ hc0) ?_
   case y5 =>
    rintro w' ⟨q0,q1,q2,q3,q4,q5,q6⟩
    simp only [lgA,lgZ,lgS]
    go_simp
   simp only [lgA,lgZ,lgS,Act.put,lsA,lsZ,lsS]
   refine wpAnyG.one 6 (by as_aux_lemma=>kernel_rfl) (by decide) (by rfl) (fun K hK=>?_)
   simp only [lgA,lgZ,lgS]
   go_simp
   refine (ptShape (X:=X) (T:=Ky) z0 (SH3.below (bel_tr hb35 hc0)) (PQ3.below (bel_tr hb35 hc0)) hKQ1 (hxU.below (bel_tr hb5 hc0)) hKy (by omega) (hT.below (bel_tr hb5 hc0))).mono ?_
   rintro e z1 ⟨xb,xcap,rfl,LX,hk1⟩
   have hc1:Below w5.heap.size w5 z1:=bel_tr hc0 hk1
   rw [evn,hKQ] at LX
   rw [evn]
   dsimp only
   refine hK _ _ ⟨fun _=>HBX _ hc1,fun _=>trivial⟩ ?_
   clear hK K
   refine wpAnyG.one 7 (by as_aux_lemma=>kernel_rfl) (by decide) (by rfl) (fun K hK=>?_)
   simp only [lgA,lgZ,lgS]
   go_simp
   refine (HHD z1 xb xcap (hP.below (bel_tr hb5 hc1)) LX.mono1 (hT.below (bel_tr hb5 hc1))).mono ?_
   rintro e z2 ⟨bh,rfl,hbh,hk2⟩
   have hc2:Below w5.heap.size w5 z2:=bel_tr hc1 hk2
   obtain rfl:bh = true:=hbh.2 HHL.out
   dsimp only
   refine hK _ _ ⟨fun _=>HBX _ hc2,fun _=>trivial⟩ ?_
   clear hK K
   refine wpAnyG.tT 8 (v:=.bool true) (by decide) 9 (by as_aux_lemma=>kernel_rfl) (by rfl) ?y8 (HBX _ hc2) ?_
   case y8 =>
    rintro w' ⟨q0,q1,q2,q3,q4,q5,q6⟩
    simp only [lgA,lgZ,lgS]
    go_simp
   simp only [lgA,lgZ,lgS,Act.put,lsA,lsZ,lsS]
   refine wpAnyG.one 9 (by as_aux_lemma=>kernel_rfl) (by decide) (by rfl) (fun K hK=>?_)
   simp only [lgA,lgZ,lgS]
   go_simp
   refine hK _ _ ⟨fun h=>absurd h (by decide),fun _=>trivial⟩ ?_
   clear hK K
   refine wpAnyG.done (by as_aux_lemma=>kernel_rfl) (NoPanic.normal ?_)
   have hbF:=bel_tr hb5 hc2
   go_wp2
   go_ret
   exact ⟨rfl,hbF⟩
theorem awake10_all {w:World} (hT:TB w):∀ w1,Below w.heap.size w w1→Calls Tryz.prog 7 #[] w1 fun e w'=>e = .returned (.bool true)∧Below w1.heap.size w1 w':=fun w1 h=>awake10 w1 (hT.below h)
end Go.Proofs.YtlfobaanbmfafaaGreatDoor
