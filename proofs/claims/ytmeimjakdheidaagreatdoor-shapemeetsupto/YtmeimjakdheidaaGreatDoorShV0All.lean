import Derived.Test.YtmeimjakdheidaaGreatDoorShU
import Derived.Test.YtmeimjakdheidaaGreatDoorPqFAll
import Derived.Test.YtmeimjakdheidaaGreatDoorShR0All
namespace Go.Proofs.YtmeimjakdheidaaGreatDoor
open Go.RowKit
def EqD (K:Nat) (e:Eqn):Prop:=∃ D:Int,0<D∧D<pw K∧∀ t ∈ e.l,Wd K D t.coef
theorem spl_wd {v:PV} {u:Nat} {c:Rat} {d:Nat} {D:Int} (h:Wd d D c):∀ t ∈ spl v u c,Wd d D t.coef:=by
 intro t ht
 unfold spl at ht
 split at ht
 ·rw [List.mem_singleton.1 ht];exact h
 ·split at ht
  ·rw [List.mem_singleton.1 ht];exact h.neg
  ·simp at ht
   rcases ht with rfl|rfl
   ·exact h
   ·exact h.neg
theorem xN (V:Nat→PV) (t:Nat→PT) {d:Nat} {D:Int}:∀ q,(∀ k,k<q→Wd d D (t k).coef)→∀ x ∈ rowT V t q,Wd d D x.coef
 | 0,_,x,hx=>by cases hx
 | q+1,h,x,hx=>by
  rcases List.mem_append.1 hx with h1|h1
  ·exact xN V t q (fun k hk=>h k (by omega)) x h1
  ·exact spl_wd (h q (by omega)) x h1
theorem eqs_wd {V:Nat→PV} {r:PW} {K:Nat} {D:Int} (hD:0<D) (hd:D<pw K) (h:∀ k,k<r.nt→Wd K D (r.t k).coef) (st:Rat) (c:Nat):∀ e ∈ (dD V r st c).1,EqD K e:=by
 have h0:=xN V r.t r.nt h
 have h1:Wd K D 1:=Wd.one hD hd
 have hs:∀ x:Rat,Wd K D x→∀ t ∈ rowT V r.t r.nt++[⟨(c:Nat),x⟩],Wd K D t.coef:=fun x hx t ht=>by
  rcases List.mem_append.1 ht with h2|h2
  ·exact h0 t h2
  ·rw [List.mem_singleton.1 h2];exact hx
 have hw:∀ t ∈ ([⟨(c:Nat),1⟩,⟨((c+1:Nat):Int),1⟩]:List PT),Wd K D t.coef:=fun t ht=>by
  simp at ht
  rcases ht with rfl|rfl <;> exact h1
 intro e he
 unfold dD at he
 split at he
 ·split at he
  ·split at he
   ·rw [List.mem_singleton.1 he];exact ⟨D,hD,hd,h0⟩
   ·simp at he
    rcases he with rfl|rfl
    ·exact ⟨D,hD,hd,hs _ h1.neg⟩
    ·exact ⟨D,hD,hd,hw⟩
  ·rw [List.mem_singleton.1 he];exact ⟨D,hD,hd,hs _ h1.neg⟩
 ·split at he
  ·rw [List.mem_singleton.1 he];exact ⟨D,hD,hd,hs _ h1⟩
  ·cases he
theorem PQ.eqD {w:World} {Q:Prob} (hP:PQ w Q):∀ e ∈ (bM Q).1,EqD Q.K e:=by
 have hall:=hP.all
 have hs1:=hP.s1
 have hrow:∀ i,i≤Q.rn→∀ e ∈ (bC Q.V Q.R (fun i=>cv (Q.R i) (fun j=>vbs (Q.V j)) Q.vn) Q.vn i).1,EqD Q.K e:=by
  intro i
  induction i with
  | zero=>intro _ e he;cases he
  | succ i ih =>
   intro hi e he
   rcases List.mem_append.1 he with h1|h1
   ·exact ih (by omega) e h1
   ·obtain ⟨rb,ro,hR⟩:=hP.row (i:=i) (by omega)
    obtain ⟨ta,tc,Zt,_,hLT,htot,_⟩:=hR.terms
    have hZ:Q.ZR i≤tot Q.ZR Q.rn:=bY (by omega)
    obtain ⟨Dc,c1,c2,c3⟩:=Wd.list (X:=fun q=>((Q.R i).t q).coef) (Z:=Zt) (n:=(Q.R i).nt) (K:=Q.K) (fun q hq=>(hLT.get q hq).1) (by omega)
    exact eqs_wd c1 c2 c3 _ _ e h1
 have hv:∀ j,∀ e ∈ (aZ Q.V (bC Q.V Q.R (fun i=>cv (Q.R i) (fun j=>vbs (Q.V j)) Q.vn) Q.vn Q.rn) j).1,EqD Q.K e:=by
  intro j
  induction j with
  | zero=>exact hrow Q.rn (Nat.le_refl _)
  | succ j ih =>
   intro e he
   unfold aZ at he
   split at he
   ·rcases List.mem_append.1 he with h1|h1
    ·exact ih e h1
    ·rw [List.mem_singleton.1 h1]
     have hp:(1:Int)<pw Q.K:=Int.lt_of_lt_of_le (show (1:Int)<pw 1 by decide) (aT (by omega))
     refine ⟨1,by decide,hp,fun t ht=>?_⟩
     simp at ht
     rcases ht with rfl|rfl <;> exact Wd.one (by decide) hp
   ·exact ih e he
 exact hv Q.vn
theorem PQ.meet_sz {w:World} {Q:Prob} (hP:PQ w Q) (hK:Q.K≤1048576) {Ky:Nat} {Y:Nat→Rat} {Dy:Int} (d1:0<Dy) (d2:Dy<pw Ky) (d3:∀ j,Wd Ky Dy (Y j)) {n:Nat} (hn:n≤100000000) {i:Nat} (hi:i<(bM Q).1.length):(∀ c,SzR (bV ((bM Q).1.getD i ⟨[],0⟩).l c) Q.K)∧∀ j,j≤n→SzR (bJ (fun c=>bV ((bM Q).1.getD i ⟨[],0⟩).l c*Y c) j) (Q.K+Ky+1):=by
 have hmem:(bM Q).1.getD i ⟨[],0⟩ ∈ (bM Q).1:=by
  have hl:(bM Q).1[i]? = some ((bM Q).1.getD i ⟨[],0⟩):=by rw [List.getD_eq_getElem?_getD,List.getElem?_eq_getElem hi];rfl
  exact List.mem_of_getElem? hl
 obtain ⟨D,e1,e2,e3⟩:=hP.eqD _ hmem
 have hw:=sprd_wd e1 e2 e3
 have p:=iT (Int.le_of_lt e1) e2 (Int.le_of_lt d1) d2
 have p0:0<D*Dy:=Int.mul_pos e1 d1
 have hs1:=hP.s1
 have hall:=hP.all
 exact ⟨fun c=>(hw c).sz (by omega),fun j hj=>(Wd.sum p0 p.1 (fun c _=>(hw c).mul (d3 c)) (by omega) j hj).sz (by omega)⟩
theorem Mts.of {A:List Eqn × Nat} {Y:Nat→Rat} (ho:EqO A) (h1:∀ c,c<A.2→0≤Y c) (h2:∀ i,i<A.1.length→bJ (fun c=>bV (A.1.getD i ⟨[],0⟩).l c*Y c) A.2=(A.1.getD i ⟨[],0⟩).r):Mts A Y:=by
 refine ⟨h1,fun e he=>?_⟩
 obtain ⟨i,hi⟩:=List.getElem?_of_mem he
 have hlt:=(List.getElem?_eq_some_iff.1 hi).1
 have e1:A.1.getD i ⟨[],0⟩=e:=by rw [List.getD_eq_getElem?_getD,hi];rfl
 have h3:=h2 i hlt
 rw [e1,tH (ho e he)] at h3
 exact h3
theorem Wd.ovp {d:Nat} {D:Int} {r:Rat} (h:Wd d D r):Ov D (pw d) r:=by
 obtain ⟨h1,h2,m,e1,e2⟩:=h
 refine ⟨m,e1,?_⟩
 have:pw d*1≤pw d*D:=Int.mul_le_mul_of_nonneg_left (by omega) (Int.le_of_lt (bG _))
 omega
def Smv (Y:Nat→Rat) (l:List PT) (j:Nat):Rat:=bJ (fun c=>bV l c*Y c) j
theorem uF {Y:Nat→Rat} {l:List PT} {m j:Nat} (h:Inc m l) (hj:m≤j):Smv Y l j=gW Y l:=tH (h.up hj) Y
theorem Smv_pre {Y:Nat→Rat} {l:List PT} {s:Rat} {k j:Nat} (hj:j≤k):Smv Y (l++[⟨(k:Nat),s⟩]) j=Smv Y l j:=dZ fun c hc=>by
 show bV (l++[⟨(k:Nat),s⟩]) c*Y c=_
 rw [iO,if_neg (by show ¬ ((c:Nat):Int)=((k:Nat):Int);omega)]
def PzE (Y:Nat→Rat) (W:Nat) (e:Eqn):Prop:=∀ j,j≤18446744073709551615→SzR (Smv Y e.l j) W∧SzR (e.r-Smv Y e.l j) W
theorem pz_new {Y:Nat→Rat} {W:Nat} {e:Eqn} {l:List PT} {k:Nat} {s:Rat} (h1:e.l=l++[⟨(k:Nat),s⟩]) (h3:Inc k l) (h4:gW Y l+s*Y k=e.r) (hl:∀ j,j≤18446744073709551615→SzR (Smv Y l j) W∧SzR (e.r-Smv Y l j) W) (hr:SzR e.r W) (hW:1≤W):PzE Y W e:=by
 intro j hj
 rw [h1]
 rcases (by omega:j≤k∨k+1≤j) with h|h
 ·rw [Smv_pre h];exact hl j hj
 ·have hi:Inc (k+1) (l++[⟨(k:Nat),s⟩]):=h3.app ⟨List.pairwise_singleton _ _,fun t ht=>by rw [List.mem_singleton.1 ht];show 0≤(k:Int)∧(k:Int)<((k+1:Nat):Int);omega⟩ (by omega) (fun t ht=>by rw [List.mem_singleton.1 ht];show ((k:Nat):Int)≤(k:Int);omega)
  rw [uF hi h,iM,gG,h4,Rat.sub_self]
  exact ⟨hr,kE hW⟩
theorem Smv_one (Y:Nat→Rat) (c j:Nat):Smv Y [⟨(c:Nat),1⟩] j=if c<j then Y c else 0:=by
 split
 ·rename_i h
  rw [uF (m:=c+1) ⟨List.pairwise_singleton _ _,fun t ht=>by rw [List.mem_singleton.1 ht];show 0≤(c:Int)∧(c:Int)<((c+1:Nat):Int);omega⟩ h,gG,Rat.one_mul]
 ·rename_i h
  refine uU _ fun i hi=>?_
  have e:=iO [] ⟨(c:Nat),1⟩ i
  rw [List.nil_append] at e
  show bV [⟨(c:Nat),1⟩] i*Y i=0
  rw [e,if_neg (by show ¬ ((i:Nat):Int)=((c:Nat):Int);omega)]
  exact Rat.zero_mul _
theorem pz_wid {Y:Nat→Rat} {W:Nat} {c k:Nat} {r:Rat} (hck:c<k) (h:Y c+Y k=r) (hc:SzR (Y c) W) (hk:SzR (Y k) W) (hr:SzR r W) (hW:1≤W):PzE Y W ⟨[⟨(c:Nat),1⟩,⟨(k:Nat),1⟩],r⟩:=by
 refine pz_new (l:=[⟨(c:Nat),1⟩]) (k:=k) (s:=1) rfl ⟨List.pairwise_singleton _ _,fun t ht=>by rw [List.mem_singleton.1 ht];show 0≤(c:Int)∧(c:Int)<(k:Int);omega⟩ (by rw [gG,Rat.one_mul,Rat.one_mul];exact h) (fun j _=>?_) hr hW
 rw [Smv_one]
 have e:r-Y c=Y k:=by grind
 split
 ·exact ⟨hc,by show SzR (r-Y c) W;rw [e];exact hk⟩
 ·exact ⟨kE hW,by show SzR (r-0) W;rw [show r-0=r by grind];exact hr⟩
theorem qE {m:Nat} {l:List PT} (h:Inc m l) {c:Nat} (hc:m≤c):bV l c=0:=sprd_ge (fun t ht=>(h.2 t ht).2) hc
theorem pz_row {V:Nat→PV} {r:PW} {n c:Nat} (hup:∀ i j,i<j→j<r.nt→(r.t i).var<(r.t j).var) (hm:∀ i,i<r.nt→0≤(r.t i).var∧(r.t i).var<(n:Int)) (hc:clm V n≤c) {Y:Nat→Rat} {H:Prop}
 (hL:Lai (clm V n) Y H c (dD V r (cv r (fun j=>vbs (V j)) n) c).1 (dD V r (cv r (fun j=>vbs (V j)) n) c).2)
 {Z dv:Nat} {D E:Int} (hD:0<D) (hDd:D<pw dv) (hE:0<E) (hEd:E<pw Z) (hco:∀ k,k<r.nt→Wd Z E (r.t k).coef) (hvb:∀ j,j<n→Wd dv D (vbs (V j))) (hYv:∀ c,c<clm V n→Wd dv D (Y c)) (hlo:SzR r.lo Z) (hhi:SzR r.hi Z)
 {W:Nat} (hW:Z+(Z+dv)+4≤W) (hYW:∀ c,SzR (Y c) W) (hnt:r.nt≤18446744073709551615) (hr2:SzR (r.hi-r.lo) W):∀ e ∈ (dD V r (cv r (fun j=>vbs (V j)) n) c).1,PzE Y W e:=by
 have h0:=oN V r.t r.nt hup n hm
 have hcw:=xN V r.t r.nt hco
 have q:=iT (Int.le_of_lt hE) hEd (Int.le_of_lt hD) hDd
 have q0:0<E*D:=Int.mul_pos hE hD
 have hst:Wd (Z+dv+1) (E*D) (cv r (fun j=>vbs (V j)) n):=by
  refine Wd.sum q0 q.1 (n:=r.nt) (fun k hk=>?_) (by omega) r.nt (Nat.le_refl _)
  unfold tv
  obtain ⟨a,b⟩:=hm k hk
  rw [if_pos (hm k hk)]
  exact (hco k hk).mul (hvb _ (by omega))
 have hSm:∀ j,j≤18446744073709551615→Wd (Z+dv+1) (E*D) (Smv Y (rowT V r.t r.nt) j):=fun j hj=>by
  refine Wd.sum q0 q.1 (n:=j) (fun k _=>?_) (by omega) j (Nat.le_refl _)
  by_cases hk:k<clm V n
  ·exact (sprd_wd hE hEd hcw k).mul (hYv k hk)
  ·show Wd _ _ (bV (rowT V r.t r.nt) k*Y k)
   rw [qE h0 (by omega),Rat.zero_mul]
   exact Wd.zero q0 q.1
 have hone:∀ b:Rat,SzR b Z→SzR (b-cv r (fun j=>vbs (V j)) n) W∧∀ j,j≤18446744073709551615→SzR (Smv Y (rowT V r.t r.nt) j) W∧SzR (b-cv r (fun j=>vbs (V j)) n-Smv Y (rowT V r.t r.nt) j) W:=fun b hb=>by
  have hw:=Wd.self hb
  have b1:=hw.lift (e:=Z+dv+1) q0 (Int.lt_of_lt_of_le q.1 (aT (by omega)))
  have b2:=hst.lift' (e:=Z) hw.1 hw.2.1
  have b3:=b1.sub b2
  refine ⟨(b3.up (by omega)).sz (by omega),fun j hj=>⟨((hSm j hj).up (by omega)).sz (by omega),?_⟩⟩
  have b4:=(hSm j hj).lift' (e:=Z) hw.1 hw.2.1
  exact ((b3.sub (b4.up (e:=Z+(Z+dv+1)+1) (by omega))).up (by omega)).sz (by omega)
 obtain ⟨lo1,lo2⟩:=hone r.lo hlo
 obtain ⟨hi1,hi2⟩:=hone r.hi hhi
 generalize cv r (fun j=>vbs (V j)) n=st at *
 have hb:∀ (x b:Rat),SzR (b-st) W→(∀ j,j≤18446744073709551615→SzR (Smv Y (rowT V r.t r.nt) j) W∧SzR (b-st-Smv Y (rowT V r.t r.nt) j) W)→gW Y (rowT V r.t r.nt)+x*Y c=b-st→PzE Y W ⟨rowT V r.t r.nt++[⟨(c:Nat),x⟩],b-st⟩:=fun x b h1 h2 h3=>pz_new rfl (h0.up hc) h3 h2 h1 (by omega)
 have hlast:∀ {k:Nat} {x y:Rat} {l l':List PT},l++[(⟨(k:Nat),x⟩:PT)]=l'++[⟨(k:Nat),y⟩]→l=l'∧x=y:=fun h=>by
  have:=List.append_inj' h rfl
  refine ⟨this.1,?_⟩
  have h2:=this.2
  injection h2 with h2 _
  injection h2
 have hbar:∀ (x b:Rat) (es:List Eqn) (m:Nat),Lai (clm V n) Y H c (⟨rowT V r.t r.nt++[⟨(c:Nat),x⟩],b⟩::es) m→gW Y (rowT V r.t r.nt)+x*Y c=b∧Lai (clm V n) Y H (c+1) es m:=fun x b es m h=>by
  rcases h with ⟨l,s,e1,_,_,e4,e5⟩|⟨e1,_,_⟩
  ·obtain ⟨rfl,rfl⟩:=hlast e1
   exact ⟨e4,e5⟩
  ·have:=(e1.2 ⟨(c:Nat),x⟩ (List.mem_append.2 (.inr (List.mem_singleton.2 rfl)))).2
   have:(c:Int)<((clm V n:Nat):Int):=this
   omega
 intro e he
 unfold dD at he hL
 split at he
 ·rename_i hl
  rw [if_pos hl] at hL
  split at he
  ·rename_i hh
   rw [if_pos hh] at hL
   split at he
   ·rw [List.mem_singleton.1 he]
    exact lo2
   ·rename_i hne
    rw [if_neg hne] at hL
    obtain ⟨e1,e2⟩:=hbar _ _ _ _ hL
    simp at he
    rcases he with rfl|rfl
    ·exact hb _ _ lo1 lo2 e1
    ·rcases e2 with ⟨l,s,g1,_,_,g4,_⟩|⟨g1,_,_⟩
     ·obtain ⟨rfl,rfl⟩:=hlast (l:=[⟨(c:Nat),1⟩]) g1
      rw [gG,Rat.one_mul,Rat.one_mul] at g4
      refine pz_wid (k:=c+1) (by omega) g4 (hYW _) (hYW _) ?_ (by omega)
      show SzR ((r.hi-st)-(r.lo-st)) W
      rw [show (r.hi-st)-(r.lo-st)=r.hi-r.lo by grind]
      exact hr2
     ·have:=(g1.2 ⟨((c+1:Nat):Int),1⟩ (by simp)).2
      have:(((c+1:Nat):Int))<((clm V n:Nat):Int):=this
      omega
  ·rename_i hh
   rw [if_neg hh] at hL
   rw [List.mem_singleton.1 he]
   exact hb _ _ lo1 lo2 (hbar _ _ _ _ hL).1
 ·rename_i hl
  rw [if_neg hl] at hL
  split at he
  ·rename_i hh
   rw [if_pos hh] at hL
   rw [List.mem_singleton.1 he]
   exact hb _ _ hi1 hi2 (hbar _ _ _ _ hL).1
  ·cases he
theorem colv_wd {v:PV} {x:Rat} {a b:Nat} {D E:Int} (h:Wd a D (vbs v)) (k:Wd b E x):∀ y ∈ kU v x,Wd (a+b+1) (D*E) y:=by
 have h1:=h.lift k.1 k.2.1
 have k1:=k.lift' h.1 h.2.1
 have q:=iT (Int.le_of_lt h.1) h.2.1 (Int.le_of_lt k.1) k.2.1
 intro y hy
 unfold kU at hy
 unfold vbs at h1
 cases hl:v.hlo <;> cases hh:v.hhi <;> simp only [hl,hh,if_true,if_false,Bool.false_eq_true] at hy h1
 ·have z:Wd (a+b+1) (D*E) 0:=Wd.zero (Int.mul_pos h.1 k.1) (Int.lt_of_lt_of_le q.1 (aT (by omega)))
  split at hy <;> simp at hy
  ·rcases hy with rfl|rfl
   ·exact z
   ·exact (k1.up (by omega)).neg
  ·rcases hy with rfl|rfl
   ·exact k1.up (by omega)
   ·exact z
 ·rw [List.mem_singleton.1 hy];exact h1.sub k1
 ·rw [List.mem_singleton.1 hy];exact k1.sub h1
 ·rw [List.mem_singleton.1 hy];exact k1.sub h1
theorem zO {p:Rat→Prop} {V:Nat→PV} {X:Nat→Rat}:∀ n,(∀ j,j<n→∀ y ∈ kU (V j) (X j),p y)→∀ y ∈ qB V X n,p y
 | 0,_,y,hy=>by cases hy
 | n+1,h,y,hy=>by
  rcases List.mem_append.1 hy with h1|h1
  ·exact zO n (fun j hj=>h j (by omega)) y h1
  ·exact h n (by omega) y h1
theorem zQ {p:Rat→Prop} {V:Nat→PV} {R:Nat→PW} {X:Nat→Rat} {n:Nat} (h0:∀ y ∈ qB V X n,p y):∀ i,(∀ k,k<i→∀ y ∈ qA (R k) (cv (R k) X n),p y)→∀ y ∈ lU V R X n i,p y
 | 0,_=>h0
 | i+1,h=>fun y hy=>by
  rcases List.mem_append.1 hy with h1|h1
  ·exact zQ h0 i (fun k hk=>h k (by omega)) y h1
  ·exact h i (by omega) y h1
theorem zS {p:Rat→Prop} {V:Nat→PV} {X:Nat→Rat} {L:List Rat} (h0:∀ y ∈ L,p y):∀ n,(∀ j,j<n→p ((V j).hi-X j))→∀ y ∈ qC V X L n,p y
 | 0,_=>h0
 | n+1,h=>fun y hy=>by
  rcases List.mem_append.1 hy with h1|h1
  ·exact zS h0 n (fun j hj=>h j (by omega)) y h1
  ·split at h1
   ·rw [List.mem_singleton.1 h1];exact h n (by omega)
   ·cases h1
theorem gt0_all {p:Rat→Prop} {L:List Rat} (h0:p 0) (h:∀ y ∈ L,p y) (c:Nat):p (gt0 L c):=by
 by_cases hc:c<L.length
 ·refine h _ (List.mem_of_getElem? (i:=c) ?_)
  unfold gt0
  rw [List.getD_eq_getElem?_getD,List.getElem?_eq_getElem hc]
  rfl
 ·rw [xM (by omega)]
  exact h0
theorem oZ {a b:Rat} {Z d W:Nat} {E:Int} (h:SzR a Z) (k:Wd d E b) (hW:Z+d+1≤W):SzR (a-b) W∧SzR (b-a) W:=by
 have hw:=Wd.self h
 have h1:=hw.lift (e:=d) k.1 k.2.1
 have k1:=k.lift' hw.1 hw.2.1
 exact ⟨((h1.sub k1).up hW).sz (by omega),((k1.sub h1).up hW).sz (by omega)⟩
theorem slkR_sz {r:PW} {s:Rat} {Z d W:Nat} {E:Int} (hlo:SzR r.lo Z) (hhi:SzR r.hi Z) (k:Wd d E s) (hW:Z+d+1≤W):∀ y ∈ qA r s,SzR y W:=by
 have a:=(oZ hlo k hW).2
 have b:=(oZ hhi k hW).1
 intro y hy
 unfold qA at hy
 cases hl:r.hlo <;> cases hh:r.hhi <;> simp only [hl,hh,if_true,if_false,Bool.false_eq_true] at hy
 ·cases hy
 ·rw [List.mem_singleton.1 hy];exact b
 ·rw [List.mem_singleton.1 hy];exact a
 ·split at hy
  ·cases hy
  ·simp at hy
   rcases hy with rfl|rfl
   ·exact a
   ·exact b
theorem PQ.pz {w:World} {P Q:Prob} (hP:PQ w Q) (h:Tid P Q) {X:Nat→Rat} {Zx:Nat→Nat} {Kx:Nat} (hx:∀ j,j<Q.vn→SzR (X j) (Zx j)) (hKx:tot Zx Q.vn≤Kx) (hK:Q.K≤1048576):(∀ c,SzR (gt0 (iV Q X) c) (2*Q.K+Kx+8))∧∀ e ∈ (bM Q).1,PzE (gt0 (iV Q X)) (2*Q.K+Kx+8) e:=by
 have hall:=hP.all
 have hs1:=hP.s1
 obtain ⟨Db,b1,b2,b3⟩:=hP.bases
 obtain ⟨Dx,x1,x2,x3⟩:=Wd.list hx hKx
 have q:=iT (Int.le_of_lt b1) b2 (Int.le_of_lt x1) x2
 have q0:0<Db*Dx:=Int.mul_pos b1 x1
 have hcol:∀ j,j<Q.vn→∀ y ∈ kU (Q.V j) (X j),Wd (tot Q.ZV Q.vn+Kx+1) (Db*Dx) y:=fun j hj=>colv_wd (b3 j hj) (x3 j hj)
 have hrow:∀ i,i<Q.rn→SzR (Q.R i).lo (Q.ZR i)∧SzR (Q.R i).hi (Q.ZR i)∧(Q.R i).nt≤1048576∧∃ E,0<E∧E<pw (Q.ZR i)∧∀ k,k<(Q.R i).nt→Wd (Q.ZR i) E ((Q.R i).t k).coef:=fun i hi=>by
  obtain ⟨rb,ro,hR⟩:=hP.row hi
  obtain ⟨ta,tc,Zt,_,hLT,htot,_⟩:=hR.terms
  have hZ:Q.ZR i≤tot Q.ZR Q.rn:=bY hi
  have hl:=dI Zt (Q.R i).nt
  exact ⟨hR.slo,hR.shi,by omega,Wd.list (X:=fun q=>((Q.R i).t q).coef) (Z:=Zt) (n:=(Q.R i).nt) (K:=Q.ZR i) (fun q hq=>(hLT.get q hq).1) htot⟩
 have hm:∀ k,k<Q.rn→(∀ a b,a<b→b<(Q.R k).nt→((Q.R k).t a).var<((Q.R k).t b).var)∧∀ q,q<(Q.R k).nt→0≤((Q.R k).t q).var∧((Q.R k).t q).var<(Q.vn:Int):=fun k hk=>by
  obtain ⟨_,_,_,_,_,g⟩:=h.R k (by rw [← h.rn];exact hk)
  exact ⟨g.up,fun q hq=>by rw [h.vn];exact g.lt q hq⟩
 have hvar:∀ j,j<Q.vn→SzR (Q.V j).lo (Q.ZV j)∧SzR (Q.V j).hi (Q.ZV j)∧Q.ZV j≤tot Q.ZV Q.vn:=fun j hj=>by
  obtain ⟨b,o,hV⟩:=hP.var hj
  exact ⟨hV.slo,hV.shi,bY hj⟩
 have hsum:∀ i,(hi:i<Q.rn)→∃ E,Wd (Q.ZR i+Kx+1) E (cv (Q.R i) X Q.vn):=fun i hi=>by
  obtain ⟨_,_,hnt,E,e1,e2,e3⟩:=hrow i hi
  have p:=iT (Int.le_of_lt e1) e2 (Int.le_of_lt x1) x2
  refine ⟨E*Dx,Wd.sum (Int.mul_pos e1 x1) p.1 (n:=(Q.R i).nt) (fun k hk=>?_) (by omega) (Q.R i).nt (Nat.le_refl _)⟩
  unfold tv
  obtain ⟨a,b⟩:=(hm i hi).2 k hk
  rw [if_pos ((hm i hi).2 k hk)]
  exact (e3 k hk).mul (x3 _ (by omega))
 have hL0:=zO (p:=Wd (tot Q.ZV Q.vn+Kx+1) (Db*Dx)) Q.vn hcol
 have hall2:∀ c,SzR (gt0 (iV Q X) c) (2*Q.K+Kx+8):=by
  refine gt0_all (p:=fun y=>SzR y (2*Q.K+Kx+8)) (kE (by omega)) (zS (zQ (fun y hy=>((hL0 y hy).up (by omega)).sz (by omega)) Q.rn (fun i hi=>?_)) Q.vn (fun j hj=>?_))
  ·obtain ⟨s1,s2,_,_⟩:=hrow i hi
   obtain ⟨E,hE⟩:=hsum i hi
   have hZ:Q.ZR i≤tot Q.ZR Q.rn:=bY hi
   exact slkR_sz s1 s2 hE (by omega)
  ·obtain ⟨_,s2,s3⟩:=hvar j hj
   exact (oZ s2 (x3 j hj) (by omega)).1
 refine ⟨hall2,?_⟩
 have hX:∀ j,j<Q.vn→ptv (Q.V j) (clm Q.V j) (gt0 (iV Q X))=X j:=fun j hj=>mD Q X hj
 have hYv:∀ c,c<clm Q.V Q.vn→Wd (tot Q.ZV Q.vn+Kx+1) (Db*Dx) (gt0 (iV Q X) c):=fun c hc=>by
  have h1:Pre (qB Q.V X Q.vn) (iV Q X):=(oW Q.V Q.R X Q.vn Q.rn (Nat.zero_le _)).trans (jX Q.V X _ Q.vn (Nat.zero_le _))
  have h2:=lV Q.V X Q.vn
  rw [h1.at (by omega)]
  exact gt0_all (p:=Wd (tot Q.ZV Q.vn+Kx+1) (Db*Dx)) (Wd.zero q0 (Int.lt_of_lt_of_le q.1 (aT (by omega)))) hL0 c
 have hrows:∀ i,i≤Q.rn→∀ e ∈ (bC Q.V Q.R (fun i=>cv (Q.R i) (fun j=>vbs (Q.V j)) Q.vn) Q.vn i).1,PzE (gt0 (iV Q X)) (2*Q.K+Kx+8) e:=by
  intro i
  induction i with
  | zero=>intro _ e he;cases he
  | succ i ih =>
   intro hi e he
   rcases List.mem_append.1 he with h1|h1
   ·exact ih (by omega) e h1
   ·obtain ⟨s1,s2,hnt,E,e1,e2,e3⟩:=hrow i (by omega)
    have hZ:Q.ZR i≤tot Q.ZR Q.rn:=bY (by omega)
    have ho:=(rows_ok (V:=Q.V) (R:=Q.R) (st:=fun i=>cv (Q.R i) (fun j=>vbs (Q.V j)) Q.vn) (n:=Q.vn) i (fun k hk=>hm k (by omega))).2
    have hp:Pre (lU Q.V Q.R X Q.vn (i+1)) (iV Q X):=(oW Q.V Q.R X Q.vn Q.rn hi).trans (jX Q.V X _ Q.vn (Nat.zero_le _))
    have hLi:=lai_at (H:=False) hX rfl hp (fun k hk=>hm k (by omega)) (fun h=>h.elim)
    exact pz_row (hm i (by omega)).1 (hm i (by omega)).2 ho hLi q0 (Int.lt_of_lt_of_le q.1 (aT (Nat.le_succ _))) e1 e2 e3 (fun j hj=>((b3 j hj).lift x1 x2).up (by omega)) hYv s1 s2 (by omega) hall2 (by omega) ((oZ s2 (Wd.self s1) (by omega)).1) e h1
 have hvars:∀ j,j≤Q.vn→∀ e ∈ (aZ Q.V (bC Q.V Q.R (fun i=>cv (Q.R i) (fun j=>vbs (Q.V j)) Q.vn) Q.vn Q.rn) j).1,PzE (gt0 (iV Q X)) (2*Q.K+Kx+8) e:=by
  intro j
  induction j with
  | zero=>intro _;exact hrows Q.rn (Nat.le_refl _)
  | succ j ih =>
   intro hj e he
   unfold aZ at he
   split at he
   ·rename_i hb
    rcases List.mem_append.1 he with h1|h1
    ·exact ih (by omega) e h1
    ·rw [List.mem_singleton.1 h1]
     obtain ⟨s1,s2,s3⟩:=hvar j (by omega)
     have hc:=nN Q.V (j:=j) (n:=Q.vn) (by omega)
     have hw:=oJ (Q.V j)
     have ho:=(rows_ok (V:=Q.V) (R:=Q.R) (st:=fun i=>cv (Q.R i) (fun j=>vbs (Q.V j)) Q.vn) (n:=Q.vn) Q.rn hm).2
     have hmo:=(mX Q.V (bC Q.V Q.R (fun i=>cv (Q.R i) (fun j=>vbs (Q.V j)) Q.vn) Q.vn Q.rn) j).2
     exact pz_wid (by omega) (wid_at (L:=lU Q.V Q.R X Q.vn Q.rn) hX rfl (lW Q.V Q.R X _ Q.vn Q.rn) (by omega) (jX Q.V X _ Q.vn hj) hb) (hall2 _) (hall2 _) ((oZ s2 (Wd.self s1) (by omega)).1) (by omega)
   ·exact ih (by omega) e he
 exact hvars Q.vn (Nat.le_refl _)
end Go.Proofs.YtmeimjakdheidaaGreatDoor
