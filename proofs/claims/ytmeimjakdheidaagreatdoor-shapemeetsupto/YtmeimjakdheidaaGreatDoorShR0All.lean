import Derived.Test.YtmeimjakdheidaaGreatDoorQ3OAll
namespace Go.Proofs.YtmeimjakdheidaaGreatDoor
open Go.RowKit
def bM (Q:Prob):List Eqn × Nat:=aZ Q.V (bC Q.V Q.R (fun i=>cv (Q.R i) (fun j=>vbs (Q.V j)) Q.vn) Q.vn Q.rn) Q.vn
def cstQ (Q:Prob):List PT:=tC Q.V (fun q=>sgn Q.mx (Q.V q).obj) Q.vn
def kQ (Q:Prob):Rat:=sgn Q.mx (bJ (prt Q.k Q.V (fun j=>vbs (Q.V j))) (Q.vn+1))
theorem Tid.eqs {P Q:Prob} (h:Tid P Q):EqO (bM Q)∧clm Q.V Q.vn≤(bM Q).2:=by
 obtain ⟨h1,h2⟩:=rows_ok (V:=Q.V) (R:=Q.R) (st:=fun i=>cv (Q.R i) (fun j=>vbs (Q.V j)) Q.vn) (n:=Q.vn) Q.rn (fun k hk=>by
  obtain ⟨_,_,_,_,_,g⟩:=h.R k (by rw [← h.rn];exact hk)
  rw [h.vn]
  exact ⟨g.up,g.lt⟩)
 obtain ⟨h3,h4⟩:=vars_ok h1 h2 Q.vn (Nat.le_refl _)
 exact ⟨h3,Nat.le_trans h2 h4⟩
theorem zG (Q:Prob):(bM Q).1.length≤2*Q.rn+Q.vn∧(bM Q).2≤3*Q.vn+2*Q.rn:=by
 obtain ⟨h1,h2⟩:=lQ Q.V Q.R (fun i=>cv (Q.R i) (fun j=>vbs (Q.V j)) Q.vn) Q.vn Q.rn
 obtain ⟨h3,h4⟩:=tV Q.V (bC Q.V Q.R (fun i=>cv (Q.R i) (fun j=>vbs (Q.V j)) Q.vn) Q.vn Q.rn) Q.vn
 unfold bM
 omega
theorem PQ.lens {w:World} {Q:Prob} (hP:PQ w Q) (hK:Q.K≤1048576):Q.vn≤1048576∧Q.rn≤1048576:=by
 have:=hP.all
 have:=dI Q.ZV Q.vn
 have:=dI Q.ZR Q.rn
 omega
theorem zH {R:Nat} {Q:Prob} (w:World) (h:SHP w R Q) (hP:PQ w Q) (hK:Q.K≤1048576) (ho:EqO (bM Q)∧clm Q.V Q.vn≤(bM Q).2) (hT:TB w) :
 Calls Tryz.prog 7 #[.pointer (some ⟨R,0,none⟩)] w fun e w'=>StdP w (cstQ Q) (bM Q).1 (bM Q).2 (2*Q.K+3) (kQ Q) e w':=by
 obtain ⟨F,sa,sc,csv,k1,k2,k3,ev,c,fv,h0,h1,h2,h3,h4,h5,h6⟩:=h
 obtain ⟨qa,qc,rfl,_⟩:=h3.form
 obtain ⟨ea,ec,rfl,_⟩:=h5.form
 obtain ⟨f,c0,n0,k0,d0,m0,l0,rfl,rfl,rfl,g⟩:=h4
 obtain ⟨hv,hr⟩:=hP.lens hK
 obtain ⟨e1,e2⟩:=zG Q
 subst h6
 have hc:=(yZ Q.V (fun q=>sgn Q.mx (Q.V q).obj) Q.vn).up ho.2
 exact standardQ w h1 h3 g h5 hc.2 (fun e he=>(ho.1 e he).2) (show (bM Q).2≤_ by omega) (Nat.le_trans hc.len (by omega)) (fun e he=>Nat.le_trans (ho.1 e he).len (by omega)) (show (bM Q).1.length≤_ by omega) (by omega) (by omega) hT
theorem ptShape {R:Nat} {Q:Prob} {xa:Option Addr} {m xc:Nat} {X:Nat→Rat} {T:Nat} (w:World) (h:SHP w R Q) (hP:PQ w Q) (hK:Q.K≤1048576) (hx:LQ w xa m X (fun _=>T)) (hT1:1≤T) (hT2:T≤2200000) (hT:TB w) :
 Calls Tryz.prog 9 #[.pointer (some ⟨R,0,none⟩),.slice xa m xc] w fun e w'=>∃ a cap,e = .returned (.slice a Q.vn cap)∧RL w' w.heap.size (.slice a Q.vn cap) Q.vn (fun q=>ptv (Q.V q) (clm Q.V q) (zn m X)) (2*Q.K+3+T+T+1)∧Below w.heap.size w w':=by
 obtain ⟨F,sa,sc,csv,k1,k2,k3,ev,c,fv,h0,h1,h2,h3,h4,h5,h6⟩:=h
 obtain ⟨hv,hr⟩:=hP.lens hK
 exact pointQ w h1 h2 hx hT1 (by omega) (by omega) hv hT
theorem LQ.unif {w:World} {a:Option Addr} {n:Nat} {X:Nat→Rat} {Z:Nat→Nat} {T:Nat} (h:LQ w a n X Z) (hz:∀ i,i<n→Z i≤T):LQ w a n X (fun _=>T):=by
 rcases h with h|⟨b,o,e,h⟩
 ·exact .inl h
 ·refine .inr ⟨b,o,e,fun i hi=>?_⟩
  obtain ⟨p,a,na,ca,d,nd,cd,h1,h2,h3,h4⟩:=h i hi
  exact ⟨p,a,na,ca,d,nd,cd,h1,h2,h3,h4.up (hz i hi)⟩
end Go.Proofs.YtmeimjakdheidaaGreatDoor
namespace Go.Proofs.YtmeimjakdheidaaGreatDoor
theorem zI (V:Nat→PV) (t:Nat→PT) (Y:Nat→Rat):∀ q,gW Y (rowT V t q)=bJ (fun k=>(t k).coef*ryv (V (t k).var.toNat) (clm V (t k).var.toNat) Y) q
 | 0=>rfl
 | q+1=>by
  show gW Y (rowT V t q++spl (V (t q).var.toNat) (clm V (t q).var.toNat) (t q).coef)=_
  rw [iM,zI V t Y q,tsum_spl,bH]
theorem cv_pt {V:Nat→PV} {r:PW} {n:Nat} (hm:∀ i,i<r.nt→0≤(r.t i).var∧(r.t i).var<(n:Int)) (Y:Nat→Rat):cv r (fun j=>ptv (V j) (clm V j) Y) n=cv r (fun j=>vbs (V j)) n+gW Y (rowT V r.t r.nt):=by
 rw [zI]
 unfold cv
 rw [← uZ]
 refine dZ fun k hk=>?_
 unfold tv
 rw [if_pos (hm k hk),if_pos (hm k hk)]
 dsimp only
 rw [ptv_ryv,Rat.mul_add]
def Mts (A:List Eqn × Nat) (Y:Nat→Rat):Prop:=(∀ c,c<A.2→0≤Y c)∧∀ e ∈ A.1,gW Y e.l=e.r
theorem gG (Y:Nat→Rat) (c:Nat) (x:Rat):gW Y [⟨(c:Nat),x⟩]=x*Y c:=by
 show x*Y ((c:Int)).toNat+0=_
 rw [Int.toNat_natCast,Rat.add_zero]
theorem zJ (Y:Nat→Rat) (c d:Nat):gW Y [⟨(c:Nat),1⟩,⟨(d:Nat),1⟩]=Y c+Y d:=by
 show (1:Rat)*Y ((c:Int)).toNat+((1:Rat)*Y ((d:Int)).toNat+0)=_
 rw [Int.toNat_natCast,Int.toNat_natCast,Rat.add_zero,Rat.one_mul,Rat.one_mul]
theorem row_meets {V:Nat→PV} {r:PW} {n c:Nat} (hm:∀ i,i<r.nt→0≤(r.t i).var∧(r.t i).var<(n:Int)) {Y:Nat→Rat} (hY:∀ k,k<(dD V r (cv r (fun j=>vbs (V j)) n) c).2→0≤Y k) (hE:∀ e ∈ (dD V r (cv r (fun j=>vbs (V j)) n) c).1,gW Y e.l=e.r) :
 fV (cv r (fun j=>ptv (V j) (clm V j) Y) n) r.hlo r.lo r.hhi r.hi=true:=by
 rw [cv_pt hm,jR]
 generalize cv r (fun j=>vbs (V j)) n=st at *
 generalize hT:gW Y (rowT V r.t r.nt)=T at *
 unfold dD at hY hE
 cases hlo:r.hlo <;> cases hhi:r.hhi <;> simp only [hlo,hhi,if_true,if_false,Bool.false_eq_true] at hY hE
 ·exact ⟨fun h=>(by cases h),fun h=>(by cases h)⟩
 ·have h1:=hE _ (List.mem_singleton.2 rfl)
  simp only [iM,gG,hT] at h1
  have h2:=hY c (by omega)
  refine ⟨fun h=>(by cases h),fun _=>?_⟩
  grind
 ·have h1:=hE _ (List.mem_singleton.2 rfl)
  simp only [iM,gG,hT] at h1
  have h2:=hY c (by omega)
  refine ⟨fun _=>?_,fun h=>(by cases h)⟩
  grind
 ·by_cases he:r.lo-st=r.hi-st
  ·rw [if_pos he] at hY hE
   have h1:=hE _ (List.mem_singleton.2 rfl)
   simp only [hT] at h1
   refine ⟨fun _=>?_,fun _=>?_⟩ <;> grind
  ·rw [if_neg he] at hY hE
   have h1:=hE _ (List.mem_cons.2 (.inl rfl))
   have h2:=hE _ (List.mem_cons.2 (.inr (List.mem_singleton.2 rfl)))
   simp only [iM,gG,hT] at h1
   simp only [zJ] at h2
   have h3:=hY c (show c<c+2 by omega)
   have h4:=hY (c+1) (show c+1<c+2 by omega)
   refine ⟨fun _=>?_,fun _=>?_⟩ <;> grind
theorem vJ (V:Nat→PV) (R:Nat→PW) (st:Nat→Rat) (n:Nat) {i:Nat}:∀ m,i<m→(∀ e ∈ (dD V (R i) (st i) (bC V R st n i).2).1,e ∈ (bC V R st n m).1)∧(dD V (R i) (st i) (bC V R st n i).2).2≤(bC V R st n m).2
 | 0,h=>by omega
 | m+1,h=>by
  by_cases e:i=m
  ·subst e
   exact ⟨fun x hx=>List.mem_append.2 (.inr hx),Nat.le_refl _⟩
  ·obtain ⟨h1,h2⟩:=vJ (i:=i) V R st n m (by omega)
   have h3:=(xB V (R m) (st m) (bC V R st n m).2)
   refine ⟨fun x hx=>List.mem_append.2 (.inl (h1 x hx)),Nat.le_trans h2 ?_⟩
   show (bC V R st n m).2≤(dD V (R m) (st m) (bC V R st n m).2).2
   unfold dD
   split
   ·split
    ·split <;> simp
    ·simp
   ·split <;> simp
theorem mX (V:Nat→PV) (A:List Eqn × Nat):∀ j,(∀ e ∈ A.1,e ∈ (aZ V A j).1)∧A.2≤(aZ V A j).2
 | 0=>⟨fun _ h=>h,Nat.le_refl _⟩
 | j+1=>by
  obtain ⟨h1,h2⟩:=mX V A j
  unfold aZ
  split
  ·exact ⟨fun e he=>List.mem_append.2 (.inl (h1 e he)),by show A.2≤(aZ V A j).2+1;omega⟩
  ·exact ⟨h1,h2⟩
theorem vars_eq (V:Nat→PV) (A:List Eqn × Nat) {j:Nat} (hb:((V j).hlo && (V j).hhi)=true):∀ m,j<m→∃ c,c<(aZ V A m).2∧(⟨[⟨(clm V j:Nat),1⟩,⟨(c:Nat),1⟩],(V j).hi-(V j).lo⟩:Eqn) ∈ (aZ V A m).1
 | 0,h=>by omega
 | m+1,h=>by
  by_cases e:j=m
  ·subst e
   have e:aZ V A (j+1)=((aZ V A j).1++[⟨[⟨(clm V j:Nat),1⟩,⟨((aZ V A j).2:Nat),1⟩],(V j).hi-(V j).lo⟩],(aZ V A j).2+1):=if_pos hb
   rw [e]
   exact ⟨(aZ V A j).2,Nat.lt_succ_self _,List.mem_append.2 (.inr (List.mem_singleton.2 rfl))⟩
  ·obtain ⟨c,h1,h2⟩:=vars_eq (j:=j) V A hb m (by omega)
   unfold aZ
   split
   ·exact ⟨c,by show c<(aZ V A m).2+1;omega,List.mem_append.2 (.inl h2)⟩
   ·exact ⟨c,h1,h2⟩
theorem only_holds {P Q:Prob} (h:Tid P Q) {Y:Nat→Rat} (hM:Mts (bM Q) Y):sW Q Q.vn (fun j=>ptv (Q.V j) (clm Q.V j) Y):=by
 have hmn:=(Tid.eqs h).2
 refine ⟨rfl,fun j hj=>?_,fun i hi=>?_⟩
 ·rw [jR]
  have hc:=nN Q.V hj
  have hw:=oJ (Q.V j)
  have hu:=hM.1 (clm Q.V j) (by omega)
  show ((Q.V j).hlo=true→(Q.V j).lo≤ptv (Q.V j) (clm Q.V j) Y)∧((Q.V j).hhi=true→ptv (Q.V j) (clm Q.V j) Y≤(Q.V j).hi)
  unfold ptv
  cases hl:(Q.V j).hlo <;> cases hh:(Q.V j).hhi <;> simp only [if_true,if_false,Bool.false_eq_true]
  ·exact ⟨fun h=>(by cases h),fun h=>(by cases h)⟩
  ·exact ⟨fun h=>(by cases h),fun _=>by grind⟩
  ·exact ⟨fun _=>by grind,fun h=>(by cases h)⟩
  ·obtain ⟨c,c1,c2⟩:=vars_eq Q.V (bC Q.V Q.R (fun i=>cv (Q.R i) (fun j=>vbs (Q.V j)) Q.vn) Q.vn Q.rn) (j:=j) (by rw [hl,hh];rfl) Q.vn hj
   have e1:=hM.2 _ c2
   simp only [zJ] at e1
   have h2:=hM.1 c c1
   exact ⟨fun _=>by grind,fun _=>by grind⟩
 ·obtain ⟨h1,h2⟩:=vJ Q.V Q.R (fun i=>cv (Q.R i) (fun j=>vbs (Q.V j)) Q.vn) Q.vn Q.rn hi
  obtain ⟨h3,h4⟩:=mX Q.V (bC Q.V Q.R (fun i=>cv (Q.R i) (fun j=>vbs (Q.V j)) Q.vn) Q.vn Q.rn) Q.vn
  obtain ⟨_,_,_,_,_,g⟩:=h.R i (by rw [← h.rn];exact hi)
  refine row_meets (c:=(bC Q.V Q.R (fun i=>cv (Q.R i) (fun j=>vbs (Q.V j)) Q.vn) Q.vn i).2) (fun q hq=>?_) (fun k hk=>hM.1 k (Nat.lt_of_lt_of_le hk (Nat.le_trans h2 h4))) (fun e he=>hM.2 e (h3 e (h1 e he)))
  rw [h.vn]
  exact g.lt q hq
end Go.Proofs.YtmeimjakdheidaaGreatDoor
namespace Go.Proofs.YtmeimjakdheidaaGreatDoor
def kU (v:PV) (x:Rat):List Rat:=if v.hlo then [x-v.lo] else if v.hhi then [v.hi-x] else if x<0 then [0,-x] else [x,0]
theorem colv_len (v:PV) (x:Rat):(kU v x).length=wid v:=by
 unfold kU wid
 split
 ·rfl
 ·split
  ·rfl
  ·split <;> rfl
def qA (r:PW) (s:Rat):List Rat:=if r.hlo then (if r.hhi then (if r.lo=r.hi then [] else [s-r.lo,r.hi-s]) else [s-r.lo]) else if r.hhi then [r.hi-s] else []
def qB (V:Nat→PV) (X:Nat→Rat):Nat→List Rat
 | 0=>[]
 | j+1=>qB V X j++kU (V j) (X j)
def lU (V:Nat→PV) (R:Nat→PW) (X:Nat→Rat) (n:Nat):Nat→List Rat
 | 0=>qB V X n
 | i+1=>lU V R X n i++qA (R i) (cv (R i) X n)
def qC (V:Nat→PV) (X:Nat→Rat) (L:List Rat):Nat→List Rat
 | 0=>L
 | j+1=>qC V X L j++(if (V j).hlo && (V j).hhi then [(V j).hi-X j] else [])
def iV (Q:Prob) (X:Nat→Rat):List Rat:=qC Q.V X (lU Q.V Q.R X Q.vn Q.rn) Q.vn
def gt0 (L:List Rat) (c:Nat):Rat:=L.getD c 0
theorem gt0_lt {L M:List Rat} {c:Nat} (h:c<L.length):gt0 (L++M) c=gt0 L c:=by
 unfold gt0
 simp only [List.getD_eq_getElem?_getD]
 rw [List.getElem?_append_left h]
theorem gt0_ge {L M:List Rat} {c d:Nat} (h:c=L.length+d):gt0 (L++M) c=gt0 M d:=by
 unfold gt0
 simp only [List.getD_eq_getElem?_getD]
 rw [List.getElem?_append_right (by omega),h,Nat.add_sub_cancel_left]
theorem xM {L:List Rat} {c:Nat} (h:L.length≤c):gt0 L c=0:=by
 unfold gt0
 rw [List.getD_eq_getElem?_getD,List.getElem?_eq_none h]
 rfl
theorem lV (V:Nat→PV) (X:Nat→Rat):∀ n,(qB V X n).length=clm V n
 | 0=>rfl
 | n+1=>by show (qB V X n++kU (V n) (X n)).length=clm V n+wid (V n);rw [List.length_append,lV V X n,colv_len]
def Pre (L M:List Rat):Prop:=∃ K,M=L++K
theorem Pre.refl (L:List Rat):Pre L L:=⟨[],by simp⟩
theorem Pre.trans {L M K:List Rat} (h:Pre L M) (k:Pre M K):Pre L K:=by
 obtain ⟨A,rfl⟩:=h
 obtain ⟨B,rfl⟩:=k
 exact ⟨A++B,by simp⟩
theorem Pre.at {L M:List Rat} (h:Pre L M) {c:Nat} (hc:c<L.length):gt0 M c=gt0 L c:=by
 obtain ⟨A,rfl⟩:=h
 exact gt0_lt hc
theorem zK (V:Nat→PV) (X:Nat→Rat) {j:Nat}:∀ n,j≤n→Pre (qB V X j) (qB V X n)
 | 0,h=>by rw [Nat.le_zero.1 h];exact Pre.refl _
 | n+1,h=>by
  rcases (by omega:j≤n∨j=n+1) with h1|rfl
  ·exact (zK V X n h1).trans ⟨_,rfl⟩
  ·exact Pre.refl _
theorem oW (V:Nat→PV) (R:Nat→PW) (X:Nat→Rat) (n:Nat) {i:Nat}:∀ m,i≤m→Pre (lU V R X n i) (lU V R X n m)
 | 0,h=>by rw [Nat.le_zero.1 h];exact Pre.refl _
 | m+1,h=>by
  rcases (by omega:i≤m∨i=m+1) with h1|rfl
  ·exact (oW V R X n m h1).trans ⟨_,rfl⟩
  ·exact Pre.refl _
theorem jX (V:Nat→PV) (X:Nat→Rat) (L:List Rat) {i:Nat}:∀ m,i≤m→Pre (qC V X L i) (qC V X L m)
 | 0,h=>by rw [Nat.le_zero.1 h];exact Pre.refl _
 | m+1,h=>by
  rcases (by omega:i≤m∨i=m+1) with h1|rfl
  ·exact (jX V X L m h1).trans ⟨_,rfl⟩
  ·exact Pre.refl _
theorem zL {lo hi st:Rat}:(lo-st=hi-st)↔lo=hi:=⟨fun h=>by grind,fun h=>by rw [h]⟩
theorem slkR_len (V:Nat→PV) (r:PW) (s st:Rat) (c:Nat):(dD V r st c).2=c+(qA r s).length:=by
 unfold dD qA
 cases r.hlo <;> cases r.hhi <;> simp only [if_true,if_false,Bool.false_eq_true]
 ·rfl
 ·rfl
 ·rfl
 ·by_cases h:r.lo=r.hi
  ·rw [if_pos (by rw [h]),if_pos h];rfl
  ·rw [if_neg (fun e=>h (zL.1 e)),if_neg h];rfl
theorem lW (V:Nat→PV) (R:Nat→PW) (X:Nat→Rat) (st:Nat→Rat) (n:Nat):∀ i,(lU V R X n i).length=(bC V R st n i).2
 | 0=>lV V X n
 | i+1=>by
  show (lU V R X n i++qA (R i) (cv (R i) X n)).length=(dD V (R i) (st i) (bC V R st n i).2).2
  rw [List.length_append,lW V R X st n i,slkR_len]
theorem uC (V:Nat→PV) (X:Nat→Rat) {L:List Rat} {A:List Eqn × Nat} (h:L.length=A.2):∀ j,(qC V X L j).length=(aZ V A j).2
 | 0=>h
 | j+1=>by
  have ih:=uC V X h j
  unfold qC aZ
  split
  ·rw [List.length_append,ih];rfl
  ·rw [List.append_nil];exact ih
theorem layQ_len (Q:Prob) (X:Nat→Rat):(iV Q X).length=(bM Q).2:=uC Q.V X (lW Q.V Q.R X _ Q.vn Q.rn) Q.vn
theorem colv_pt (v:PV) (x:Rat) (u:Nat) {Y:Nat→Rat} (h:∀ d,d<wid v→Y (u+d)=gt0 (kU v x) d):ptv v u Y=x:=by
 unfold ptv
 unfold wid at h
 unfold kU at h
 cases hl:v.hlo <;> cases hh:v.hhi <;> simp only [hl,hh,if_true,if_false,Bool.false_eq_true] at h ⊢
 ·have h0:=h 0 (by omega)
  have h1:=h 1 (by omega)
  rw [Nat.add_zero] at h0
  split at h0 <;> rename_i hx
  ·rw [if_pos hx] at h1
   rw [h0,h1]
   show (0:Rat) - -x=x
   grind
  ·rw [if_neg hx] at h1
   rw [h0,h1]
   show x-0=x
   grind
 ·have h0:=h 0 (by omega)
  rw [Nat.add_zero] at h0
  rw [h0]
  show v.hi-(v.hi-x)=x
  grind
 ·have h0:=h 0 (by omega)
  rw [Nat.add_zero] at h0
  rw [h0]
  show v.lo+(x-v.lo)=x
  grind
 ·have h0:=h 0 (by omega)
  rw [Nat.add_zero] at h0
  rw [h0]
  show v.lo+(x-v.lo)=x
  grind
theorem layL_at (Q:Prob) (X:Nat→Rat):∀ j,j<Q.vn→∀ d,d<wid (Q.V j)→gt0 (iV Q X) (clm Q.V j+d)=gt0 (kU (Q.V j) (X j)) d:=fun j hj d hd=>by
 have hl:=lV Q.V X j
 have h1:Pre (qB Q.V X (j+1)) (iV Q X):=(zK Q.V X Q.vn hj).trans ((oW Q.V Q.R X Q.vn Q.rn (Nat.zero_le _)).trans (jX Q.V X _ Q.vn (Nat.zero_le _)))
 have hl1:(qB Q.V X (j+1)).length=clm Q.V j+wid (Q.V j):=lV Q.V X (j+1)
 rw [h1.at (by omega)]
 exact gt0_ge (by omega)
theorem mD (Q:Prob) (X:Nat→Rat) {j:Nat} (hj:j<Q.vn):ptv (Q.V j) (clm Q.V j) (gt0 (iV Q X))=X j:=colv_pt _ _ _ fun d hd=>layL_at Q X j hj d hd
def Lai (f:Nat) (Y:Nat→Rat) (H:Prop):Nat→List Eqn→Nat→Prop
 | k,[],m=>k=m
 | k,e::es,m=>(∃ l s,e.l=l++[⟨(k:Nat),s⟩]∧(s=1∨s = -1)∧Inc k l∧gW Y l+s*Y k=e.r∧Lai f Y H (k+1) es m)∨(Inc f e.l∧(H→gW Y e.l=e.r)∧Lai f Y H k es m)
theorem Lai.app {f:Nat} {Y:Nat→Rat} {H:Prop} {m q:Nat} {fs:List Eqn} (hf:Lai f Y H m fs q):∀ {k:Nat} {es:List Eqn},Lai f Y H k es m→Lai f Y H k (es++fs) q
 | k,[],h=>by
  have h:k=m:=h
  rw [h];exact hf
 | k,e::es,h=>by
  rcases h with ⟨l,s,h1,h2,h3,h4,h5⟩|⟨h1,h2,h3⟩
  ·exact .inl ⟨l,s,h1,h2,h3,h4,hf.app h5⟩
  ·exact .inr ⟨h1,h2,hf.app h3⟩
theorem Lai.one {f:Nat} {Y:Nat→Rat} {H:Prop} {k:Nat} {e:Eqn} {l:List PT} {s:Rat} (h1:e.l=l++[⟨(k:Nat),s⟩]) (h2:s=1∨s = -1) (h3:Inc k l) (h4:gW Y l+s*Y k=e.r):Lai f Y H k [e] (k+1):=.inl ⟨l,s,h1,h2,h3,h4,rfl⟩
theorem Lai.le {f:Nat} {Y:Nat→Rat} {H:Prop} {m:Nat}:∀ {k:Nat} {es:List Eqn},Lai f Y H k es m→k≤m
 | k,[],h=>Nat.le_of_eq h
 | k,e::es,h=>by
  rcases h with ⟨_,_,_,_,_,_,h5⟩|⟨_,_,h3⟩
  ·have:=Lai.le h5;omega
  ·exact Lai.le h3
theorem Lai.met {f:Nat} {Y:Nat→Rat} {H:Prop} (hH:H) {m:Nat}:∀ {k:Nat} {es:List Eqn},Lai f Y H k es m→∀ e ∈ es,gW Y e.l=e.r
 | k,[],h,e,he=>by cases he
 | k,e'::es,h,e,he=>by
  rcases h with ⟨l,s,h1,h2,h3,h4,h5⟩|⟨h1,h2,h3⟩
  ·rcases List.mem_cons.1 he with rfl|h6
   ·rw [h1,iM,gG,h4]
   ·exact Lai.met hH h5 e h6
  ·rcases List.mem_cons.1 he with rfl|h6
   ·exact h2 hH
   ·exact Lai.met hH h3 e h6
theorem lai_row {V:Nat→PV} {r:PW} {n c:Nat} (hup:∀ i j,i<j→j<r.nt→(r.t i).var<(r.t j).var) (hm:∀ i,i<r.nt→0≤(r.t i).var∧(r.t i).var<(n:Int)) (hc:clm V n≤c) {X Y:Nat→Rat} {H:Prop}
 (hX:∀ j,j<n→ptv (V j) (clm V j) Y=X j) (hY:∀ d,d<(qA r (cv r X n)).length→Y (c+d)=gt0 (qA r (cv r X n)) d) (hH:H→fV (cv r X n) r.hlo r.lo r.hhi r.hi=true) :
 Lai (clm V n) Y H c (dD V r (cv r (fun j=>vbs (V j)) n) c).1 (dD V r (cv r (fun j=>vbs (V j)) n) c).2:=by
 have e1:cv r (fun j=>ptv (V j) (clm V j) Y) n=cv r X n:=dZ fun k hk=>by
  unfold tv
  obtain ⟨a,b⟩:=hm k hk
  rw [if_pos (hm k hk),if_pos (hm k hk)]
  dsimp only
  rw [hX _ (by omega)]
 rw [cv_pt hm] at e1
 have h0:=oN V r.t r.nt hup n hm
 generalize cv r (fun j=>vbs (V j)) n=st at *
 generalize hT:gW Y (rowT V r.t r.nt)=T at *
 generalize cv r X n=s at *
 have hw:∀ x:Rat,Inc (c+1) [⟨(c:Nat),x⟩]:=fun x=>⟨List.pairwise_singleton _ _,fun t ht=>by rw [List.mem_singleton.1 ht];show 0≤(c:Int)∧(c:Int)<((c+1:Nat):Int);omega⟩
 unfold dD
 unfold qA at hY
 unfold fV at hH
 cases hl:r.hlo <;> cases hh:r.hhi <;> simp only [hl,hh,if_true,if_false,Bool.false_eq_true] at hY ⊢
 ·exact rfl
 ·have y0:=hY 0 (by show 0<1;omega)
  rw [Nat.add_zero] at y0
  refine Lai.one rfl (.inl rfl) (h0.up hc) ?_
  rw [hT,y0]
  show T+1*(r.hi-s)=r.hi-st
  grind
 ·have y0:=hY 0 (by show 0<1;omega)
  rw [Nat.add_zero] at y0
  refine Lai.one rfl (.inr rfl) (h0.up hc) ?_
  rw [hT,y0]
  show T + -1*(s-r.lo)=r.lo-st
  grind
 ·by_cases he:r.lo=r.hi
  ·rw [if_pos (by rw [he])]
   refine .inr ⟨h0,fun h=>?_,rfl⟩
   have h1:=hH h
   rw [hl,hh] at h1
   have h2:=(jR (a:=s) (lo:=r.lo) (hi:=r.hi) (hlo:=true) (hhi:=true)).1 h1
   have h3:=h2.1 rfl
   have h4:=h2.2 rfl
   rw [hT]
   show T=r.lo-st
   grind
  ·rw [if_neg (fun e=>he (zL.1 e))]
   rw [if_neg he] at hY
   have y0:=hY 0 (by show 0<2;omega)
   have y1:=hY 1 (by show 1<2;omega)
   rw [Nat.add_zero] at y0
   refine .inl ⟨_,-1,rfl,.inr rfl,h0.up hc,?_,?_⟩
   ·rw [hT,y0]
    show T + -1*(s-r.lo)=r.lo-st
    grind
   ·refine Lai.one (l:=[⟨(c:Nat),1⟩]) (s:=1) rfl (.inl rfl) (hw 1) ?_
    rw [gG,y0,y1]
    show 1*(s-r.lo)+1*(r.hi-s)=(r.hi-st)-(r.lo-st)
    grind
theorem lai_at {V:Nat→PV} {R:Nat→PW} {n:Nat} {X Y:Nat→Rat} {H:Prop} {M:List Rat} (hX:∀ j,j<n→ptv (V j) (clm V j) Y=X j) (hY:Y=gt0 M) {i:Nat} (hp:Pre (lU V R X n (i+1)) M) (hm:∀ k,k<i+1→(∀ a b,a<b→b<(R k).nt→((R k).t a).var<((R k).t b).var)∧∀ q,q<(R k).nt→0≤((R k).t q).var∧((R k).t q).var<(n:Int))
 (hH:H→fV (cv (R i) X n) (R i).hlo (R i).lo (R i).hhi (R i).hi=true):Lai (clm V n) Y H (bC V R (fun i=>cv (R i) (fun j=>vbs (V j)) n) n i).2 (dD V (R i) (cv (R i) (fun j=>vbs (V j)) n) (bC V R (fun i=>cv (R i) (fun j=>vbs (V j)) n) n i).2).1 (dD V (R i) (cv (R i) (fun j=>vbs (V j)) n) (bC V R (fun i=>cv (R i) (fun j=>vbs (V j)) n) n i).2).2:=by
 have hl:=lW V R X (fun i=>cv (R i) (fun j=>vbs (V j)) n) n i
 have ho:=(rows_ok (V:=V) (R:=R) (st:=fun i=>cv (R i) (fun j=>vbs (V j)) n) (n:=n) i (fun k hk=>hm k (by omega))).2
 refine lai_row (hm i (by omega)).1 (hm i (by omega)).2 ho hX (fun d hd=>?_) hH
 have hl2:(lU V R X n (i+1)).length=(lU V R X n i).length+(qA (R i) (cv (R i) X n)).length:=List.length_append
 rw [hY,hp.at (by omega)]
 exact gt0_ge (by omega)
theorem zM {V:Nat→PV} {R:Nat→PW} {n:Nat} {X Y:Nat→Rat} {H:Prop} {M:List Rat} (hX:∀ j,j<n→ptv (V j) (clm V j) Y=X j) (hY:Y=gt0 M):∀ i,Pre (lU V R X n i) M→(∀ k,k<i→(∀ a b,a<b→b<(R k).nt→((R k).t a).var<((R k).t b).var)∧∀ q,q<(R k).nt→0≤((R k).t q).var∧((R k).t q).var<(n:Int)) →
 (∀ k,k<i→H→fV (cv (R k) X n) (R k).hlo (R k).lo (R k).hhi (R k).hi=true)→Lai (clm V n) Y H (clm V n) (bC V R (fun i=>cv (R i) (fun j=>vbs (V j)) n) n i).1 (bC V R (fun i=>cv (R i) (fun j=>vbs (V j)) n) n i).2
 | 0,_,_,_=>rfl
 | i+1,hp,hm,hH=>by
  have p0:Pre (lU V R X n i) (lU V R X n (i+1)):=⟨_,rfl⟩
  exact Lai.app (lai_at hX hY hp hm (hH i (by omega))) (zM hX hY i (p0.trans hp) (fun k hk=>hm k (by omega)) (fun k hk=>hH k (by omega)))
theorem wid_at {V:Nat→PV} {A:List Eqn × Nat} {n:Nat} {X Y:Nat→Rat} {L M:List Rat} (hX:∀ j,j<n→ptv (V j) (clm V j) Y=X j) (hY:Y=gt0 M) (hL:L.length=A.2) {j:Nat} (hj:j<n) (hp:Pre (qC V X L (j+1)) M) (hb:((V j).hlo && (V j).hhi)=true):Y (clm V j)+Y ((aZ V A j).2)=(V j).hi-(V j).lo:=by
 have hl:=uC V X hL j
 have hx:=hX j hj
 unfold qC at hp
 rw [if_pos hb] at hp
 simp only [Bool.and_eq_true] at hb
 have h1:Y ((aZ V A j).2)=(V j).hi-X j:=by
  rw [hY,hp.at (by rw [List.length_append,hl];show _<_+1;omega)]
  rw [gt0_ge (d:=0) (by omega)]
  rfl
 have h2:(V j).lo+Y (clm V j)=X j:=by
  unfold ptv at hx
  rw [if_pos hb.1] at hx
  exact hx
 rw [h1]
 grind
theorem zN {V:Nat→PV} {A:List Eqn × Nat} {n:Nat} {X Y:Nat→Rat} {H:Prop} {L M:List Rat} (hX:∀ j,j<n→ptv (V j) (clm V j) Y=X j) (hY:Y=gt0 M) (hL:L.length=A.2) (hA:clm V n≤A.2) (h0:Lai (clm V n) Y H (clm V n) A.1 A.2):∀ j,j≤n→Pre (qC V X L j) M→Lai (clm V n) Y H (clm V n) (aZ V A j).1 (aZ V A j).2
 | 0,_,_=>h0
 | j+1,hj,hp=>by
  have p0:Pre (qC V X L j) (qC V X L (j+1)):=⟨_,rfl⟩
  have ih:=zN hX hY hL hA h0 j (by omega) (p0.trans hp)
  have hc:=nN V (j:=j) (n:=n) (by omega)
  have hw:=oJ (V j)
  have hm:=(mX V A j).2
  unfold aZ
  split
  ·rename_i hb
   refine Lai.app (Lai.one (l:=[⟨(clm V j:Nat),1⟩]) (s:=1) rfl (.inl rfl) ⟨List.pairwise_singleton _ _,fun t ht=>by rw [List.mem_singleton.1 ht];show 0≤(clm V j:Int)∧(clm V j:Int)<((aZ V A j).2:Int);omega⟩ ?_) ih
   rw [gG,Rat.one_mul,Rat.one_mul]
   exact wid_at hX hY hL (by omega) hp hb
  ·exact ih
theorem lai_Q {P Q:Prob} (h:Tid P Q) (X:Nat→Rat):Lai (clm Q.V Q.vn) (gt0 (iV Q X)) (sW Q Q.vn X) (clm Q.V Q.vn) (bM Q).1 (bM Q).2:=by
 have hm:∀ k,k<Q.rn→(∀ a b,a<b→b<(Q.R k).nt→((Q.R k).t a).var<((Q.R k).t b).var)∧∀ q,q<(Q.R k).nt→0≤((Q.R k).t q).var∧((Q.R k).t q).var<(Q.vn:Int):=fun k hk=>by
  obtain ⟨_,_,_,_,_,g⟩:=h.R k (by rw [← h.rn];exact hk)
  exact ⟨g.up,fun q hq=>by rw [h.vn];exact g.lt q hq⟩
 have hX:∀ j,j<Q.vn→ptv (Q.V j) (clm Q.V j) (gt0 (iV Q X))=X j:=fun j hj=>mD Q X hj
 have h1:=zM (H:=sW Q Q.vn X) hX rfl Q.rn (jX Q.V X _ Q.vn (Nat.zero_le _)) hm (fun k hk hH=>hH.2.2 k hk)
 have ho:=(rows_ok (V:=Q.V) (R:=Q.R) (st:=fun i=>cv (Q.R i) (fun j=>vbs (Q.V j)) Q.vn) (n:=Q.vn) Q.rn hm).2
 exact zN (L:=lU Q.V Q.R X Q.vn Q.rn) hX rfl (lW Q.V Q.R X _ Q.vn Q.rn) ho h1 Q.vn (Nat.le_refl _) (Pre.refl _)
theorem layL_nn {V:Nat→PV} {X:Nat→Rat}:∀ n,(∀ j,j<n→fV (X j) (V j).hlo (V j).lo (V j).hhi (V j).hi=true)→∀ y ∈ qB V X n,0≤y
 | 0,_,y,hy=>by cases hy
 | n+1,h,y,hy=>by
  rcases List.mem_append.1 hy with h1|h1
  ·exact layL_nn n (fun j hj=>h j (by omega)) y h1
  ·have h2:=jR.1 (h n (by omega))
   unfold kU at h1
   cases hl:(V n).hlo <;> cases hh:(V n).hhi <;> simp only [hl,hh,if_true,if_false,Bool.false_eq_true] at h1 h2
   ·by_cases hx:X n<0
    ·rw [if_pos hx] at h1
     simp at h1
     rcases h1 with rfl|rfl <;> grind
    ·rw [if_neg hx] at h1
     simp at h1
     rcases h1 with rfl|rfl <;> grind
   ·rw [List.mem_singleton.1 h1];have:=h2.2 trivial;grind
   ·rw [List.mem_singleton.1 h1];have:=h2.1 trivial;grind
   ·rw [List.mem_singleton.1 h1];have:=h2.1 trivial;grind
theorem slkR_nn {r:PW} {s:Rat} (h:fV s r.hlo r.lo r.hhi r.hi=true):∀ y ∈ qA r s,0≤y:=by
 intro y hy
 have h2:=jR.1 h
 unfold qA at hy
 cases hl:r.hlo <;> cases hh:r.hhi <;> simp only [hl,hh,if_true,if_false,Bool.false_eq_true] at hy h2
 ·cases hy
 ·rw [List.mem_singleton.1 hy];have:=h2.2 trivial;grind
 ·rw [List.mem_singleton.1 hy];have:=h2.1 trivial;grind
 ·have a:=h2.1 trivial
  have b:=h2.2 trivial
  split at hy
  ·cases hy
  ·simp at hy
   rcases hy with rfl|rfl <;> grind
theorem layR_nn {V:Nat→PV} {R:Nat→PW} {X:Nat→Rat} {n:Nat} (h0:∀ y ∈ qB V X n,0≤y):∀ i,(∀ k,k<i→fV (cv (R k) X n) (R k).hlo (R k).lo (R k).hhi (R k).hi=true)→∀ y ∈ lU V R X n i,0≤y
 | 0,_=>h0
 | i+1,h=>fun y hy=>by
  rcases List.mem_append.1 hy with h1|h1
  ·exact layR_nn h0 i (fun k hk=>h k (by omega)) y h1
  ·exact slkR_nn (h i (by omega)) y h1
theorem layW_nn {V:Nat→PV} {X:Nat→Rat} {L:List Rat} (h0:∀ y ∈ L,0≤y):∀ n,(∀ j,j<n→fV (X j) (V j).hlo (V j).lo (V j).hhi (V j).hi=true)→∀ y ∈ qC V X L n,0≤y
 | 0,_=>h0
 | n+1,h=>fun y hy=>by
  rcases List.mem_append.1 hy with h1|h1
  ·exact layW_nn h0 n (fun j hj=>h j (by omega)) y h1
  ·have h2:=jR.1 (h n (by omega))
   split at h1
   ·rename_i hb
    simp only [Bool.and_eq_true] at hb
    rw [List.mem_singleton.1 h1]
    have:=h2.2 hb.2
    grind
   ·cases h1
theorem gt0_nn {L:List Rat} (h:∀ y ∈ L,0≤y) (c:Nat):0≤gt0 L c:=by
 by_cases hc:c<L.length
 ·refine h _ (List.mem_of_getElem? (i:=c) ?_)
  unfold gt0
  rw [List.getD_eq_getElem?_getD,List.getElem?_eq_getElem hc]
  rfl
 ·rw [xM (by omega)]
  exact Rat.le_refl
theorem meets_iff {P Q:Prob} (h:Tid P Q) (X:Nat→Rat):Mts (bM Q) (gt0 (iV Q X))↔sW Q Q.vn X:=by
 constructor
 ·intro hM
  have h1:=only_holds h hM
  refine ⟨rfl,fun j hj=>?_,fun i hi=>?_⟩
  ·have h2:=h1.2.1 j hj
   dsimp only at h2
   rwa [mD Q X hj] at h2
  ·have:=h1.2.2 i hi
   have e:cv (Q.R i) (fun j=>ptv (Q.V j) (clm Q.V j) (gt0 (iV Q X))) Q.vn=cv (Q.R i) X Q.vn:=dZ fun k hk=>by
    unfold tv
    split
    ·dsimp only;rw [mD Q X (by omega)]
    ·rfl
   rwa [e] at this
 ·intro hH
  exact ⟨fun c _=>gt0_nn (layW_nn (layR_nn (layL_nn Q.vn hH.2.1) Q.rn hH.2.2) Q.vn hH.2.1) c,(lai_Q h X).met hH⟩
end Go.Proofs.YtmeimjakdheidaaGreatDoor
