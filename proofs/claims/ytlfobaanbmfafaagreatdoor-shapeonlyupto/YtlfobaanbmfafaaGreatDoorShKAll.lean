import Derived.Test.YtlfobaanbmfafaaGreatDoorShGAll
import Derived.Test.YtlfobaanbmfafaaGreatDoorWdAll
import Derived.Test.YtlfobaanbmfafaaGreatDoorPsA
import Derived.Test.YtlfobaanbmfafaaGreatDoorShJ
import Derived.Test.YtlfobaanbmfafaaGreatDoorPvB0
namespace Go.Proofs.YtlfobaanbmfafaaGreatDoor
open Go.RowKit
theorem vbs_sz {v:PV} {S:Nat} (h1:SzR v.lo S) (h2:SzR v.hi S) (hS:1≤S):SzR (vbs v) S:=by
 unfold vbs
 split
 ·exact h1
 ·split
  ·exact h2
  ·exact sz_zero hS
theorem PQ.bases {w:World} {P:Prob} (hP:PQ w P):∃ D,0 < D∧D < pw (tot P.ZV P.vn)∧∀ j,j < P.vn→Wd (tot P.ZV P.vn) D (vbs (P.V j)) :=
 Wd.list (X:=fun j=>vbs (P.V j)) (Z:=P.ZV) (fun j hj=>by
  obtain ⟨b,o,h⟩:=hP.var hj
  exact vbs_sz h.slo h.shi h.s1) (Nat.le_refl _)
theorem PQ.val_szX {w:World} {P:Prob} (hP:PQ w P) {Kx:Nat} {X:Nat→Rat} {Dx:Int} (dx1:0 < Dx) (dx2:Dx < pw Kx) (dx3:∀ j,j < P.vn→Wd Kx Dx (X j)) (hK:P.K≤1048576):∀ k,k≤P.vn + 1→SzR (rsum (prt P.k P.V X) k) (P.K + Kx + 1):=by
 intro k hk
 have hall:=hP.all
 have hl:=tot_len P.ZV P.vn
 obtain ⟨Do,o1,o2,o3⟩:=Wd.list (X:=fun j=>(P.V j).obj) (Z:=P.ZV) (n:=P.vn) (K:=tot P.ZV P.vn) (fun j hj=>by
  obtain ⟨b,o,hV⟩:=hP.var hj
  exact hV.sobj) (Nat.le_refl _)
 have hs:=Wd.self hP.sk
 have k1:=hs.1
 have k2:=hs.2.1
 generalize (P.k.den:Int) = Dk at *
 have q:=mul_pw (Int.le_of_lt o1) o2 (Int.le_of_lt dx1) dx2
 have q0:0 < Do * Dx:=Int.mul_pos o1 dx1
 have q2:=mul_pw (Int.le_of_lt k1) k2 q.2 q.1
 have h4:=Wd.sum (Y:=prt P.k P.V X) (n:=P.vn + 1) (D:=Dk * (Do * Dx)) (Int.mul_pos k1 q0) q2.1 (fun j hj=>by
  cases j with
  | zero=>exact (hs.lift q0 q.1)
  | succ j=>exact ((o3 j (by omega)).mul (dx3 j (by omega))).lift' k1 k2) (by omega) k hk
 exact (h4.up (show _≤P.K + Kx + 1 by omega)).sz (by omega)
theorem PQ.starts {w:World} {P:Prob} (hP:PQ w P) (hK:P.K≤1048576) {i:Nat} (hi:i < P.rn):SzR (cv (P.R i) (fun j=>vbs (P.V j)) P.vn) (2 * P.K + 3)∧SzR ((P.R i).lo - cv (P.R i) (fun j=>vbs (P.V j)) P.vn) (2 * P.K + 3)∧SzR ((P.R i).hi - cv (P.R i) (fun j=>vbs (P.V j)) P.vn) (2 * P.K + 3):=by
 obtain ⟨Db,b1,b2,b3⟩:=hP.bases
 obtain ⟨rb,ro,hR⟩:=hP.row hi
 obtain ⟨ta,tc,Zt,_,hLT,htot,_⟩:=hR.terms
 have hall:=hP.all
 have hZ:P.ZR i≤tot P.ZR P.rn:=tot_le hi
 have hnt:(P.R i).nt≤P.K:=hP.nt_le hi
 obtain ⟨Dc,c1,c2,c3⟩:=Wd.list (X:=fun q=>((P.R i).t q).coef) (Z:=Zt) (n:=(P.R i).nt) (K:=P.ZR i) (fun q hq=>(hLT.get q hq).1) htot
 have q:=mul_pw (Int.le_of_lt c1) c2 (Int.le_of_lt b1) b2
 have q0:0 < Dc * Db:=Int.mul_pos c1 b1
 have hs:=Wd.sum (Y:=tv (P.R i) (fun j=>vbs (P.V j)) P.vn) (n:=(P.R i).nt) (D:=Dc * Db) q0 q.1 (fun k hk=>by
  unfold tv
  split
  ·rename_i h
   exact (c3 k hk).mul (b3 _ (by omega))
  ·exact Wd.zero q0 q.1) (by omega) (P.R i).nt (Nat.le_refl _)
 have hst:Wd (P.ZR i + tot P.ZV P.vn + 1) (Dc * Db) (cv (P.R i) (fun j=>vbs (P.V j)) P.vn):=hs
 have sb:∀ x,SzR x (P.ZR i)→SzR (x - cv (P.R i) (fun j=>vbs (P.V j)) P.vn) (2 * P.K + 3):=fun x hx=>by
  have hw:=Wd.self hx
  have e1:=hw.lift (e:=P.ZR i + tot P.ZV P.vn + 1) q0 (Int.lt_of_lt_of_le q.1 (pw_mono (by omega)))
  have e2:=hst.lift' hw.1 hw.2.1
  exact ((e1.sub e2).up (show _≤2 * P.K + 3 by omega)).sz (by omega)
 exact ⟨(hst.up (show _≤2 * P.K + 3 by omega)).sz (by omega),sb _ hR.slo,sb _ hR.shi⟩
theorem rat_width (a b s:Rat):(a - s) - (b - s) = a - b:=by
 rw [Rat.sub_eq_add_neg,Rat.sub_eq_add_neg,Rat.sub_eq_add_neg,Rat.sub_eq_add_neg,Rat.neg_add,Rat.neg_neg,Rat.add_assoc,Rat.add_comm (-b) s,← Rat.add_assoc (-s),Rat.neg_add_cancel,Rat.zero_add]
theorem sub_sz {a b:Rat} {S:Nat} (h:SzR a S) (k:SzR b S):SzR (a - b) (2 * S + 1):=by
 have e:=h.add (s:=-b) (R:=S) ⟨by rw [Rat.neg_num];simpa using k.1,by rw [Rat.neg_den];exact k.2⟩
 rw [← Rat.sub_eq_add_neg] at e
 exact e.le (by omega)
def RowG (w:World) (g o:Nat) (r:PW) (S:Nat):Prop :=
 ∃ ta tc p2 a2 n2 k2 d2 m2 l2 p3 a3 n3 k3 d3 m3 l3,(∀ j u,[.string r.nm,.slice ta r.nt tc,.bool r.hlo,.bool p2,.slice a2 n2 k2,.slice d2 m2 l2,.bool r.hhi,.bool p3,.slice a3 n3 k3,.slice d3 m3 l3][j]? = some u→w.cell? ⟨g,o + j,none⟩ = some u)∧LTG w ta r.nt r.t S∧GR w 0 p2 a2 n2 k2 d2 m2 l2 r.lo S∧GR w 0 p3 a3 n3 k3 d3 m3 l3 r.hi S
structure TG (w:World) (Q:Prob) (S:Nat):Prop where
 v:LG w Q.va Q.vn Q.V S
 r:Q.rn = 0∨∃ g,Q.ra = some ⟨g,0,none⟩∧∀ i,i < Q.rn→RowG w g (i * 10) (Q.R i) S
 t:∀ i,i < Q.rn→∀ q,q < (Q.R i).nt→0≤((Q.R i).t q).var∧((Q.R i).t q).var < (Q.vn:Int)
theorem TG.of {w:World} {B S:Nat} {P Q:Prob} (h:TOc w B P Q) (ht:Tid P Q) (hP:PQ w Q) (hS:Q.K≤S):TG w Q S:=by
 have hall:=hP.all
 have hZV:∀ j,j < P.vn→P.ZV j≤S:=fun j hj=>by
  have:=tot_le (Z:=Q.ZV) (n:=Q.vn) (i:=j) (by rw [ht.vn];exact hj)
  rw [ht.ZV] at this
  rw [ht.ZV] at hall
  omega
 have hZR:∀ j,j < P.rn→P.ZR j≤S:=fun j hj=>by
  have:=tot_le (Z:=Q.ZR) (n:=Q.rn) (i:=j) (by rw [ht.rn];exact hj)
  rw [ht.ZR] at this
  rw [ht.ZR] at hall
  omega
 refine ⟨?_,?_,?_⟩
 ·obtain ⟨E,hs,hV⟩:=h.v
  rcases hs.cell with h0 | ⟨g,e,hc⟩
  ·exact .inl (by rw [ht.vn];exact h0)
  ·refine .inr ⟨g,e,fun j hj=>?_⟩
   rw [ht.vn] at hj
   obtain ⟨p1,a1,n1,k1,d1,m1,l1,p2,a2,n2,k2,d2,m2,l2,p3,a3,n3,k3,d3,m3,l3,e1,g1,g2,g3⟩:=hV j hj
   have hcj:=hc j hj
   rw [e1] at hcj
   rw [ht.V j]
   exact ⟨p1,a1,n1,k1,d1,m1,l1,p2,a2,n2,k2,d2,m2,l2,p3,a3,n3,k3,d3,m3,l3,hcj,(g1.mono (Nat.zero_le _)).le (hZV j hj),(g2.mono (Nat.zero_le _)).le (hZV j hj),(g3.mono (Nat.zero_le _)).le (hZV j hj)⟩
 ·obtain ⟨E,hs,hR⟩:=h.r
  rcases hs.cell with h0 | ⟨g,e,hc⟩
  ·exact .inl (by rw [ht.rn];exact h0)
  ·refine .inr ⟨g,e,fun i hi=>?_⟩
   have hi':i < P.rn:=by rw [← ht.rn];exact hi
   obtain ⟨v,m,u,Z,p2,a2,n2,k2,d2,m2,l2,p3,a3,n3,k3,d3,m3,l3,e1,g1,z1,z2,t1,g2,g3⟩:=hR i hi'
   have hcj:=hc i hi'
   rw [e1] at hcj
   obtain ⟨e2,e3,e4,e5,e6,g4⟩:=ht.R i hi'
   obtain ⟨hm,hu⟩:=g1.uniq g4 (fun _ _ _=>rfl)
   obtain ⟨ta,tc,rfl,htc⟩:=t1.form
   rw [← e2,← e3,← e5] at hcj
   rw [← e4] at g2
   rw [← e6] at g3
   have hcj2:=hcj
   rw [hm] at hcj2
   obtain ⟨rb,ro,hRow⟩:=hP.row hi
   obtain ⟨ta2,tc2,Zt,_,hLT,htot,_⟩:=hRow.terms
   have hZ2:Q.ZR i≤S:=by
    have:=tot_le (Z:=Q.ZR) (n:=Q.rn) hi
    omega
   refine ⟨ta,tc,p2,a2,n2,k2,d2,m2,l2,p3,a3,n3,k3,d3,m3,l3,hcj2,?_,(g2.mono (Nat.zero_le _)).le (hZR i hi'),(g3.mono (Nat.zero_le _)).le (hZR i hi')⟩
   obtain ⟨E2,s1,s2⟩:=t1
   rcases s1.cell with h0 | ⟨g',ea,hcell⟩
   ·exact .inl (by rw [← hm];exact h0)
   ·refine .inr ⟨g',ea,fun q hq=>?_⟩
    have hq':q < m:=by rw [hm];exact hq
    obtain ⟨p,a,na,ca,d,nd,cd,e7,gc⟩:=s2 q hq'
    have hk:=hcell q hq'
    rw [e7] at hk
    obtain ⟨v1,v2⟩:=hu q hq'
    rw [v1] at hk
    have hz:=(hLT.get q hq).1.le (show Zt q≤S by have:=tot_le (Z:=Zt) hq;omega)
    exact ⟨p,a,na,ca,d,nd,cd,by simpa using hk 0 _ rfl,hk 1 _ rfl,hk 2 _ rfl,hk 3 _ rfl,((gc.val v2).fit hz).mono (Nat.zero_le _)⟩
 ·intro i hi q hq
  have hi':i < P.rn:=by rw [← ht.rn];exact hi
  obtain ⟨_,_,_,_,_,g4⟩:=ht.R i hi'
  have:=g4.lt q hq
  rw [ht.vn]
  exact this
theorem StQ.kxl {w w':World} {R F:Nat} {L:List TypeId} {V:Nat→PV} {n S:Nat} {v:Value} (h:StQ w R F V n S v) (k:Kx R F L w w') (hL:125 ∉ L) (hL4:76 ∉ L):StQ w' R F V n S v:=by
 obtain ⟨E,h1,h2⟩:=h
 exact ⟨E,h1.kxh k hL4,fun i hi=>(h2 i hi).kxl k hL⟩
theorem K3.kx {w w':World} {R F:Nat} {L:List TypeId} {k1 k2 k3:Value} {r:Rat} {T:Nat} (h:K3 w k1 k2 k3 r T) (k:Kx R F L w w') (hL:125 ∉ L):K3 w' k1 k2 k3 r T:=by
 obtain ⟨f,c,n,k',c',n',k'',e1,e2,e3,g⟩:=h
 exact ⟨f,c,n,k',c',n',k'',e1,e2,e3,g.kx k hL⟩
theorem TO.off {w w':World} {B R:Nat} {P:Prob} {v:Value} {cs:Array Value} (h:TO w B P v) (hr:Rw 31 w R cs) (ho:Off R w w') (hR:R < B):TO w' B P v:=by
 obtain ⟨f,c,n,k,c',n',k',va,vc,ra,rc,E,F,e,g,s1,s2,s3,s4⟩:=h
 have hg:=ho.grown
 have nw:NoW w (some R):=hr.noW (by decide)
 have nt:NoT w (some R):=hr.noT (by decide)
 refine ⟨f,c,n,k,c',n',k',va,vc,ra,rc,E,F,e,g.keep nw hg,s1.kept hg (fun g e1 e2=>?_),fun q hq=>(s2 q hq).keep nw hg,s3.kept hg (fun g e1 e2=>?_),fun q hq=>(s4 q hq).keep nw nt hg⟩
 ·cases e2
  have:=(s1.lt _ e1).1
  omega
 ·cases e2
  have:=(s3.lt _ e1).1
  omega
theorem SL.weak {w:World} {B:Nat} {T:TypeId} {c:Nat} {v:Value} {n:Nat} {E:Nat→List Value} (h:SL w B T c v n E):SL w B T c v n (fun _=>[]):=by
 obtain ⟨vs,h1,_⟩:=h
 exact ⟨vs,h1,fun i hi j u hu=>by simp at hu⟩
theorem RL.at {w:World} {B:Nat} {a:Option Addr} {m n cap:Nat} {X:Nat→Rat} {S:Nat} (h:RL w B (.slice a m cap) n X S) {i:Nat} (hi:i < n):∃ g p a' na ca d nd cd,a = some ⟨g,0,none⟩∧w.cell? ⟨g,i * 3,none⟩ = some (.bool p)∧w.cell? ⟨g,i * 3 + 1,none⟩ = some (.slice a' na ca)∧w.cell? ⟨g,i * 3 + 2,none⟩ = some (.slice d nd cd)∧GR w 0 p a' na ca d nd cd (X i) S:=by
 obtain ⟨vs,h1,h2⟩:=h
 obtain ⟨p,a',na,ca,d,nd,cd,g1,g2,g3,g4⟩:=h2 i hi
 rcases h1.2 with ⟨_,e2⟩ | ⟨g,cap',cur,e1,_,hg,_,_,_,ht⟩
 ·omega
 ·simp only [Value.slice.injEq] at e1
  exact ⟨g,p,a',na,ca,d,nd,cd,e1.1,row_cell hg ht g1,row_cell hg ht g2,row_cell hg ht g3,g4.mono (Nat.zero_le _)⟩
theorem RLcap {w:World} {B:Nat} {a:Option Addr} {m n cap:Nat} {X:Nat→Rat} {S:Nat} (h:RL w B (.slice a m cap) n X S):n≤cap:=by
 obtain ⟨vs,h1,h2⟩:=h
 rcases h1.2 with ⟨e1,e2⟩ | ⟨g,cap',cur,e1,_,hg,hc,_⟩
 ·omega
 ·simp only [Value.slice.injEq] at e1
  omega
theorem infInt1:Inf 3 1 8:=inf_of (by kernel_rfl)
def SHP (w:World) (R:Nat) (Q:Prob):Prop :=
 ∃ F sa sc csv k1 k2 k3 ev c fv,R < F∧Rw 67 w R #[.slice sa Q.vn sc,csv,k1,k2,k3,ev,.int .i64 (c:Nat),fv]∧StQ w R F Q.V Q.vn (2 * Q.K + 3) (.slice sa Q.vn sc)∧TM w F csv (cstL Q.V (fun q=>sgn Q.mx (Q.V q).obj) Q.vn) (2 * Q.K + 3)∧K3 w k1 k2 k3 (sgn Q.mx (rsum (prt Q.k Q.V (fun j=>vbs (Q.V j))) (Q.vn + 1))) (2 * Q.K + 3)∧EM w F ev (varsE Q.V (rowsE Q.V Q.R (fun i=>cv (Q.R i) (fun j=>vbs (Q.V j)) Q.vn) Q.vn Q.rn) Q.vn).1 (2 * Q.K + 3)∧c = (varsE Q.V (rowsE Q.V Q.R (fun i=>cv (Q.R i) (fun j=>vbs (Q.V j)) Q.vn) Q.vn Q.rn) Q.vn).2
theorem SHP.below {w w':World} {R:Nat} {Q:Prob} (h:SHP w R Q) (hb:Below w.heap.size w w'):SHP w' R Q:=by
 obtain ⟨F,sa,sc,csv,k1,k2,k3,ev,c,fv,h0,h1,h2,h3,h4,h5,h6⟩:=h
 have k:=kx_of (R:=0) (F:=0) (L:=[]) hb (Nat.zero_le _)
 exact ⟨F,sa,sc,csv,k1,k2,k3,ev,c,fv,h0,h1.below hb,h2.below hb,h3.below hb,h4.kx k (by simp),h5.kx k (by simp) (by simp) (by simp),h6⟩
theorem eqs_len (V:Nat→PV) (r:PW) (st:Rat) (c:Nat):(eqsR V r st c).1.length≤2∧(eqsR V r st c).2≤c + 2:=by
 unfold eqsR
 split
 ·split
  ·split <;> simp
  ·simp
 ·split <;> simp
theorem rows_len (V:Nat→PV) (R:Nat→PW) (st:Nat→Rat) (n:Nat):∀ i,(rowsE V R st n i).1.length≤2 * i∧(rowsE V R st n i).2≤2 * n + 2 * i
 | 0=>⟨Nat.le_refl _,clm_le V n⟩
 | i + 1=>by
  obtain ⟨h1,h2⟩:=rows_len V R st n i
  obtain ⟨h3,h4⟩:=eqs_len V (R i) (st i) (rowsE V R st n i).2
  show ((rowsE V R st n i).1 ++ (eqsR V (R i) (st i) (rowsE V R st n i).2).1).length≤_∧(eqsR V (R i) (st i) (rowsE V R st n i).2).2≤_
  rw [List.length_append]
  omega
theorem vars_len (V:Nat→PV) (A:List Eqn × Nat):∀ j,(varsE V A j).1.length≤A.1.length + j∧(varsE V A j).2≤A.2 + j
 | 0=>⟨Nat.le_refl _,Nat.le_refl _⟩
 | j + 1=>by
  obtain ⟨h1,h2⟩:=vars_len V A j
  unfold varsE
  split
  ·simp
   omega
  ·omega
theorem StQ.at2 {w:World} {R F:Nat} {V:Nat→PV} {n S:Nat} {g:Nat} {sa:Option Addr} {m sc:Nat} (h:StQ w R F V n S (.slice sa m sc)) {i:Nat} (hi:i < n) (hsa:sa = some ⟨g,0,none⟩):w.cell? ⟨g,i * 5,none⟩ = some (.int .i64 (clm V i:Nat)):=by
 obtain ⟨g',c0,_,_,_,_,e,_,e0,_,h0,_⟩:=h.at hi
 rw [hsa] at e
 simp only [Option.some.injEq,Addr.mk.injEq] at e
 rw [e.1,h0,e0]
theorem bel_a2 {B:Nat} {a b c:World} (h:Below B a b) (k:Below b.heap.size b c) (hB:B≤b.heap.size:=by omega):Below B a c:=h.trans (k.mono hB)
theorem PQ.sum_pre {w:World} {Q:Prob} (hP:PQ w Q) (hK:Q.K≤1048576):∃ D,0 < D∧D < pw (tot Q.ZV Q.vn)∧(0:Int)≤pw (tot Q.ZV Q.vn)∧pw (tot Q.ZV Q.vn) < pw (tot Q.ZV Q.vn + 1)∧(∀ j,j < Q.vn→Ov D (pw (tot Q.ZV Q.vn)) (vbs (Q.V j)))∧∀ k,k≤Q.vn + 1→SzR (rsum (prt Q.k Q.V (fun j=>vbs (Q.V j))) k) (2 * Q.K + 3):=by
 obtain ⟨D,h1,h2,h3⟩:=hP.bases
 have hall:=hP.all
 refine ⟨D,h1,h2,Int.le_of_lt (pw_pos _),pw_lt1 _,fun j hj=>?_,fun k hk=>(hP.val_szX h1 h2 h3 hK k hk).le (by omega)⟩
 obtain ⟨a,b,m,e1,e2⟩:=h3 j hj
 refine ⟨m,e1,?_⟩
 have:pw (tot Q.ZV Q.vn) * 1≤pw (tot Q.ZV Q.vn) * D:=Int.mul_le_mul_of_nonneg_left (by omega) (Int.le_of_lt (pw_pos _))
 omega
set_option maxRecDepth 100000 in
set_option maxHeartbeats 32000000 in
theorem shapeQ (P:Prob) (w:World) (hP:PQ w P) (hKP:P.K≤1048576) (hT:TB w) :
  Calls Tryz.prog 8 #[P.val] w fun e w'=>∃ R,e = .returned (.pointer (some ⟨R,0,none⟩))∧∃ Q,Tid P Q∧PQ w' Q∧SHP w' R Q∧Below w.heap.size w w':=by
 have RP0:=Rw.new 31 w #[.bool P.mx,.string P.nm,.bool P.p,.slice P.a P.na P.ca,.slice P.d P.nd P.cd,.slice P.va P.vn P.vc,.slice P.ra P.rn P.rc]
 have Pb0:=box_new w #[.bool P.mx,.string P.nm,.bool P.p,.slice P.a P.na P.ca,.slice P.d P.nd P.cd,.slice P.va P.vn P.vc,.slice P.ra P.rn P.rc] 31
 have hb0:=bel_d0 w (.cells #[.bool P.mx,.string P.nm,.bool P.p,.slice P.a P.na P.ca,.slice P.d P.nd P.cd,.slice P.va P.vn P.vc,.slice P.ra P.rn P.rc] 31)
 have hs0:(w.alloc (.cells #[.bool P.mx,.string P.nm,.bool P.p,.slice P.a P.na P.ca,.slice P.d P.nd P.cd,.slice P.va P.vn P.vc,.slice P.ra P.rn P.rc] 31)).heap.size = w.heap.size + 1:=by simp
 have x0:=Pb0 0 _ rfl;have x1:=Pb0 1 _ rfl;have x2:=Pb0 2 _ rfl;have x3:=Pb0 3 _ rfl;have x4:=Pb0 4 _ rfl;have x5:=Pb0 5 _ rfl;have x6:=Pb0 6 _ rfl
 unfold Prob.val
 go_enter Tryz.func8,Tryz.ntmps8
 go_wp2_with fail
 clear x0 x1 x2 x3 x4 x5 x6 Pb0
 generalize w.alloc (.cells #[.bool P.mx,.string P.nm,.bool P.p,.slice P.a P.na P.ca,.slice P.d P.nd P.cd,.slice P.va P.vn P.vc,.slice P.ra P.rn P.rc] 31) = W0 at *
 have HTD:=tidyQ P W0 (hP.below hb0) hKP (hT.below hb0)
 unfold Prob.val at HTD
 refine HTD.mono ?_
 clear HTD
 rintro e w1 ⟨v,rfl,TOv,hk1⟩
 have RP1:=RP0.below hk1
 have hb1:=bel_tr hb0 hk1
 have TOv2:=TOv
 obtain ⟨fk,ck,nk,kk,dk,mk,lk,va,vc,ra,rc,_,_,ev,_⟩:=TOv2
 subst ev
 have hs1:=hk1.size
 clear RP0 hk1 hb0
 go_wp2_with (refine RP1.put #[.bool P.mx,.string P.nm,.bool fk,.slice ck nk kk,.slice dk mk lk,.slice va P.vn vc,.slice ra P.rn rc] rfl _ _ rfl rfl rfl prbI rfl (by simp [Value.oneCell']) ?_)
 intro w2 RP2 O2
 have TO2:=TOv.off RP1 O2 (by omega)
 obtain ⟨Q,eQ,PQ2,TID,TOC⟩:=TO2.prob hP hKP
 have eQ7:=Value.agg.inj eQ
 rw [eQ7] at RP2
 have hKQ:Q.K≤1048576:=by rw [TID.K];exact hKP
 have TG2:TG w2 Q (2 * Q.K + 3):=TG.of TOC TID PQ2 (by omega)
 have hb2:Below w.heap.size w w2:=hb1.trans (O2.below (Nat.le_refl _))
 have HTID:Hid (Tid P Q):=TID
 have HTG:Hid (TG w2 Q (2 * Q.K + 3)):=TG2
 have hvn:Q.vn≤1048576:=by have:=PQ2.all;have:=tot_len Q.ZV Q.vn;omega
 have hrn:Q.rn≤1048576:=by have:=PQ2.all;have:=tot_len Q.ZR Q.rn;omega
 have hall:=PQ2.all
 have hnm2:=Nat.zero_le Q.nm.size
 clear TOv TO2 TOC TID TG2 eQ eQ7 O2 RP1 hP
 -- the shape's own block
 have R3:=Rw.new 67 w2 #[.slice none 0 0,.slice none 0 0,.bool false,.slice none 0 0,.slice none 0 0,.slice none 0 0,.int .i64 0,.slice none 0 0]
 have hb3:=bel_d0 w2 (.cells #[.slice none 0 0,.slice none 0 0,.bool false,.slice none 0 0,.slice none 0 0,.slice none 0 0,.int .i64 0,.slice none 0 0] 67)
 have hs3:(w2.alloc (.cells #[.slice none 0 0,.slice none 0 0,.bool false,.slice none 0 0,.slice none 0 0,.slice none 0 0,.int .i64 0,.slice none 0 0] 67)).heap.size = w2.heap.size + 1:=by simp
 have RP3:=RP2.below hb3
 have y5:=(RP3.cell 5).trans (show _ = some (.slice Q.va Q.vn Q.vc) from rfl)
 go_wp2_with fail
 clear y5
 generalize w2.alloc (.cells #[.slice none 0 0,.slice none 0 0,.bool false,.slice none 0 0,.slice none 0 0,.slice none 0 0,.int .i64 0,.slice none 0 0] 67) = W3 at *
 have hpw:=RP2.lt
 have htab:2 < w.heap.size:=hT.2
 have hsw2:=hb2.size
 have HT3:=hT.below (bel_tr hb2 hb3)
 obtain ⟨R,eR⟩:∃ R,R = w2.heap.size:=⟨_,rfl⟩
 rw [← eR] at R3 ⊢
 have hR1:R≤w2.heap.size:=by omega
 have hR2:w2.heap.size≤R:=by omega
 clear eR
 refine (addStepsQ w2 W3 HTG.out.v hb3 hR2 R3 hvn).mono ?_
 rintro e w4 ⟨rfl,sv,RS4,SQ4,K4⟩
 obtain ⟨sa,sc,rfl,_⟩:=SQ4.form
 have hs4:=K4.size
 have HT4:=HT3.kx K4 (by omega) (by omega)
 have RP4:=RP3.kxh K4 (by decide)
 clear R3
 go_wp2_with fail
 refine (pointQ (X:=fun _=>0) (T:=1) w4 RS4 SQ4 (.inl rfl) (by omega) (by omega) (by omega) hvn HT4).mono ?_
 rintro e w5 ⟨xa,xc,rfl,L5,hk5⟩
 replace L5:=L5.congr (Y:=(fun j=>vbs (Q.V j))) (fun i _=>by
  have:(zn 0 (fun _=>(0:Rat))) = fun _=>0:=funext fun i=>if_neg (by omega)
  show ptv _ _ (zn 0 fun _=>0) = _
  rw [this,ptv_nil])
 have hs5:=hk5.size
 have RS5:=RS4.below hk5
 have SQ5:=SQ4.below hk5
 have RP5:=RP4.below hk5
 have HT5:=HT4.below hk5
 obtain ⟨F,eF⟩:∃ F,F = w4.heap.size:=⟨_,rfl⟩
 rw [← eF] at SQ5
 have hF1:F≤w4.heap.size:=by omega
 have hF2:w4.heap.size≤F:=by omega
 have hRF:R < F:=by have:=RS4.lt;omega
 clear eF
 have hb25:Below w2.heap.size w2 w5:=((hb3.trans ((K4.below (Nat.le_refl R)).mono hR2))).trans (hk5.mono (by omega))
 obtain ⟨Db,D1,D2,D3,D4,D5,D6⟩:=(PQ2.below hb25).sum_pre hKQ
 have HVAL:∀ w1,Below w5.heap.size w5 w1→Calls Tryz.prog 14 #[Q.val,.slice xa Q.vn xc] w1 fun e w'=>∃ f c n k c' n' k',e = .returned (.agg #[.bool f,.slice c n k,.slice c' n' k'])∧GR w' w1.heap.size f c n k c' n' k' (rsum (prt Q.k Q.V (fun j=>vbs (Q.V j))) (Q.vn + 1)) (2 * Q.K + 3)∧Below w1.heap.size w1 w':=fun w1 hb=>by
  have h:=valueQ Q (m:=Q.vn) (X:=(fun j=>vbs (Q.V j))) (S:=3 * Q.K + 8) (T:=(2 * Q.K + 3)) w1 (PQ2.below (bel_a2 hb25 hb)) (L5.lq.below hb) (RLcap L5) (by omega) (by omega) (fun j hj=>⟨by omega,by have:=tot_le (Z:=Q.ZV) hj;omega⟩) (by omega) (by omega) D6 hvn (HT5.below hb)
  exact h
 have y0:=(RP5.cell 0).trans (show _ = some (.bool Q.mx) from rfl);have y1:=(RP5.cell 1).trans (show _ = some (.string Q.nm) from rfl);have y2:=(RP5.cell 2).trans (show _ = some (.bool Q.p) from rfl);have y3:=(RP5.cell 3).trans (show _ = some (.slice Q.a Q.na Q.ca) from rfl);have y4:=(RP5.cell 4).trans (show _ = some (.slice Q.d Q.nd Q.cd) from rfl);have y5:=(RP5.cell 5).trans (show _ = some (.slice Q.va Q.vn Q.vc) from rfl);have y6:=(RP5.cell 6).trans (show _ = some (.slice Q.ra Q.rn Q.rc) from rfl)
 unfold Prob.val at HVAL
 go_wp2_with fail
 clear y0 y1 y2 y3 y4 y5 y6
 have HSC:=setCostsQ Q (F:=F) (T:=(2 * Q.K + 3)) (r:=rsum (prt Q.k Q.V (fun j=>vbs (Q.V j))) (Q.vn + 1)) w2 w5 HTG.out.v hb25 hR2 RS5 SQ5 hRF (by omega) (by unfold Prob.val;exact HVAL) hvn (by omega) (by omega) (by omega) (by omega) HT5 (by omega)
 unfold Prob.val at HSC
 refine HSC.mono ?_
 clear HSC HVAL
 rintro e w6 ⟨rfl,csv,k1,k2,k3,RS6,TM6,K36,K6⟩
 have hs6:=K6.size
 have RP6:=RP5.kxh K6 (by decide)
 have L6:=L5.kx K6 (by decide) (by decide)
 have SQ6:=SQ5.kxh K6 (by decide) (by decide) (by decide) (by decide)
 have HT6:=HT5.kx K6 (by omega) (by omega)
 have hb26:Below w2.heap.size w2 w6:=hb25.trans ((K6.below (by omega)).mono hR2)
 have HSM:=sumsQ Q (m:=Q.vn) (X:=(fun j=>vbs (Q.V j))) (S:=3 * Q.K + 8) (T:=2 * Q.K + 6) (Dx:=Db) (Ax:=pw (tot Q.ZV Q.vn)) (dx:=tot Q.ZV Q.vn) (ax:=tot Q.ZV Q.vn + 1) w6 (PQ2.below hb26) L6.lq (RLcap L6) (by omega) (fun i j hi hj=>⟨by omega,by have:=tot_le (Z:=Q.ZR) hi;omega⟩) (by omega) (by omega) D1 D2 D3 D4 D5 (fun i hi=>by have:=tot_le (Z:=Q.ZR) hi;omega) (by omega) hKQ HT6
 unfold Prob.val at HSM
 have y0:=(RP6.cell 0).trans (show _ = some (.bool Q.mx) from rfl);have y1:=(RP6.cell 1).trans (show _ = some (.string Q.nm) from rfl);have y2:=(RP6.cell 2).trans (show _ = some (.bool Q.p) from rfl);have y3:=(RP6.cell 3).trans (show _ = some (.slice Q.a Q.na Q.ca) from rfl);have y4:=(RP6.cell 4).trans (show _ = some (.slice Q.d Q.nd Q.cd) from rfl);have y5:=(RP6.cell 5).trans (show _ = some (.slice Q.va Q.vn Q.vc) from rfl);have y6:=(RP6.cell 6).trans (show _ = some (.slice Q.ra Q.rn Q.rc) from rfl)
 go_wp2_with fail
 clear y0 y1 y2 y3 y4 y5 y6 D1 D2 D3 D4 D5 D6 L5 L6
 refine HSM.mono ?_
 clear HSM
 rintro e w7 ⟨ua,uc,rfl,L7,hk7⟩
 have hs7:=hk7.size
 have RS7:=RS6.below hk7
 have RP7:=RP6.below hk7
 have SQ7:=SQ6.below hk7
 have TM7:=TM6.below hk7
 have HT7:=HT6.below hk7
 have K37:=K36.kx (kx_of (R:=0) (F:=0) (L:=[]) hk7 (Nat.zero_le _)) (by simp)
 have hb27:Below w2.heap.size w2 w7:=bel_a2 hb26 hk7
 have HZ0:Hid (∀ i,i < Q.rn→SzR (cv (Q.R i) (fun j=>vbs (Q.V j)) Q.vn) (2 * Q.K + 3)∧SzR ((Q.R i).lo - cv (Q.R i) (fun j=>vbs (Q.V j)) Q.vn) (2 * Q.K + 3)∧SzR ((Q.R i).hi - cv (Q.R i) (fun j=>vbs (Q.V j)) Q.vn) (2 * Q.K + 3)):=fun i hi=>(PQ2.starts hKQ hi)
 have HPQ:Hid (PQ w2 Q):=PQ2
 clear RS4 RS5 RS6 RP3 RP4 RP5 RP6 SQ4 SQ5 SQ6 TM6 HT3 HT4 HT5 HT6 K36 K4 K6 hk5 hk7 hb3 PQ2 RP2 hb25 hb26
 go_wp2_with fail
 go_loopw [27] (fun s wr=>∃ (i:Nat) (ea:Option Addr) (em ec c:Nat) (fa:Option Addr) (fm fc:Nat),i≤Q.rn∧s = .int .i64 i∧Rw 67 wr R #[.slice sa Q.vn sc,csv,k1,k2,k3,.slice ea em ec,.int .i64 (c:Nat),.slice fa fm fc]∧EM wr F (.slice ea em ec) (rowsE Q.V Q.R (fun i=>cv (Q.R i) (fun j=>vbs (Q.V j)) Q.vn) Q.vn i).1 (2 * Q.K + 3)∧Hid (c = (rowsE Q.V Q.R (fun i=>cv (Q.R i) (fun j=>vbs (Q.V j)) Q.vn) Q.vn i).2)∧fm≤i∧SL wr F 3 1 (.slice fa fm fc) fm (fun _=>[])∧Kx R F [67,79,3] w7 wr) (fun t _=>Q.rn - (intOf t).toNat)
 case atStart=>exact ⟨0,none,0,0,_,none,0,0,Nat.zero_le _,rfl,RS7,EM.nil _ _ _,rfl,Nat.zero_le _,SL.nil _ _ _ _ _,Kx.refl _ _ _ _⟩
 case round =>
  clear RS7
  obtain ⟨i,ea,em,ec,c,fa,fm,fc,hi,rfl,RW,EMi,HC,hfm,SLF,KU⟩:=hrel
  have hlen:=rows_len Q.V Q.R (fun i=>cv (Q.R i) (fun j=>vbs (Q.V j)) Q.vn) Q.vn i
  have hemb:em≤2 * i:=by rw [EMi.len];exact hlen.1
  have hcb:c≤2 * Q.vn + 2 * i:=by rw [HC.out];exact hlen.2
  clear hlen
  have hFw:F≤wr.heap.size:=Nat.le_trans (by omega) KU.size
  have hbw2:Below w2.heap.size w2 wr:=hb27.trans ((KU.below (by omega)).mono hR2)
  have RPr:=RP7.kxh KU (by decide)
  have SQr:=SQ7.kxl KU (by decide) (by decide)
  have HTr:=HT7.kx KU (by omega) (by omega)
  have hsr:=KU.size
  by_cases hlt:i < Q.rn
  ·have hkI:(i:Int) < (Q.rn:Int):=by omega
   have hkI3:(i:Int) * 3 = ((i * 3:Nat):Int):=by omega
   have hkI10:(i:Int) * 10 = ((i * 10:Nat):Int):=by omega
   obtain ⟨ug,ps,as',ns,cs',ds,ms,ls,hua,s0,s1,s2,GSr⟩:=(L7.kx KU (by decide) (by decide)).at hlt
   have hua':ua = some ⟨ug,0,none⟩:=hua
   clear hua
   rcases HTG.out.r with h0 | ⟨rg,hra,hrow⟩
   ·omega
   obtain ⟨ta,tc,p2,a2,n2,k2',d2,m2,l2,p3,a3,n3,k3',d3,m3,l3,RG0,LT2,GL2,GH2⟩:=hrow i hlt
   have RG10:∀ w',Below w2.heap.size w2 w'→∀ j u,[.string (Q.R i).nm,.slice ta (Q.R i).nt tc,.bool (Q.R i).hlo,.bool p2,.slice a2 n2 k2',.slice d2 m2 l2,.bool (Q.R i).hhi,.bool p3,.slice a3 n3 k3',.slice d3 m3 l3][j]? = some u→w'.cell? ⟨rg,i * 10 + j,none⟩ = some u:=fun w' h j u hu=>kept_c h (RG0 j u hu)
   obtain ⟨Z1,Z2,Z3⟩:=HZ0.out i hlt
   have HZ:Hid (SzR ((Q.R i).lo - cv (Q.R i) (fun j=>vbs (Q.V j)) Q.vn) (2 * Q.K + 3)∧SzR ((Q.R i).hi - cv (Q.R i) (fun j=>vbs (Q.V j)) Q.vn) (2 * Q.K + 3)∧SzR (((Q.R i).hi - cv (Q.R i) (fun j=>vbs (Q.V j)) Q.vn) - ((Q.R i).lo - cv (Q.R i) (fun j=>vbs (Q.V j)) Q.vn)) (2 * Q.K + 3)):=⟨Z2,Z3,by
    rw [rat_width]
    obtain ⟨rb,ro,hRow⟩:=HPQ.out.row hlt
    have:=tot_le (Z:=Q.ZR) hlt
    exact (sub_sz hRow.shi hRow.slo).le (by omega)⟩
   have hnt:(Q.R i).nt≤1048576:=by have:=HPQ.out.nt_le hlt;omega
   have hz:=bel_d0 wr (.cells #[.bool ps,.slice as' ns cs',.slice ds ms ls] 27)
   have hsW:(wr.alloc (.cells #[.bool ps,.slice as' ns cs',.slice ds ms ls] 27)).heap.size = wr.heap.size + 1:=by simp
   have RU:=RW.below hz
   have PBU:=RPr.below hz
   rw [hra] at PBU
   have SBU:=Rw.new 27 wr #[.bool ps,.slice as' ns cs',.slice ds ms ls]
   have SQU:=SQr.below hz
   have EMU:=EMi.kx (kx_of (R:=R) (F:=F) (L:=[]) hz hFw) (by simp) (by simp) (by simp)
   have SLFU:=SLF.below hz
   have hbW2:Below w2.heap.size w2 (wr.alloc (.cells #[.bool ps,.slice as' ns cs',.slice ds ms ls] 27)):=bel_a2 hbw2 hz
   have LTU:=LT2.below hbW2
   have GLU:=GL2.below hbW2
   have GHU:=GH2.below hbW2
   have GSU:=GSr.below hz
   have HTU:=HTr.below hz
   have KUW:=KU.bel hz hFw
   have hTF:2 < F:=by omega
   have hTR:2 ≠ R:=by omega
   go_wp2_with fail
   clear s0 s1 s2 RG0 LT2 GL2 GH2 GSr hrow Z1 Z2 Z3 RW EMi SLF hz RPr SQr HTr hra
   generalize wr.alloc (.cells #[.bool ps,.slice as' ns cs',.slice ds ms ls] 27) = W2 at *
   have RS0:=RU.below (bel_d1 W2)
   have PB0:=PBU.below (bel_d1 W2)
   have SB0:=SBU.below (bel_d1 W2)
   have KW0:=kx_of (R:=R) (F:=F) (L:=[67,79]) (bel_d1 W2) (by omega)
   have hs0:W2.heap.size≤W2.drew.heap.size:=(bel_d1 W2).size
   have hFz0:F≤W2.drew.heap.size:=by omega
   have SQ0:=SQU.below (bel_d1 W2)
   have EM0:=EMU.kx (kx_of (R:=R) (F:=F) (L:=[]) (bel_d1 W2) (by omega)) (by simp) (by simp) (by simp)
   have SLF0:=SLFU.below (bel_d1 W2)
   have LT0:=LTU.below (bel_d1 W2)
   have GL0:=GLU.below (bel_d1 W2)
   have GH0:=GHU.below (bel_d1 W2)
   have GS0:=GSU.below (bel_d1 W2)
   have HT0:=HTU.below (bel_d1 W2)
   have hb00:=bel_a2 hbW2 (bel_d1 W2)
   have hcF:(W2.drew.cell? ⟨R,7,none⟩ = some (.slice fa fm fc)∧W2.drew.cell? ⟨w.heap.size,6,none⟩ = some (.slice (some ⟨rg,0,none⟩) Q.rn Q.rc)∧W2.drew.cell? ⟨rg,i * 10,none⟩ = some (.string (Q.R i).nm)∧W2.drew.cell? ⟨rg,i * 10 + 1,none⟩ = some (.slice ta (Q.R i).nt tc)∧W2.drew.cell? ⟨rg,i * 10 + 2,none⟩ = some (.bool (Q.R i).hlo)∧W2.drew.cell? ⟨rg,i * 10 + 3,none⟩ = some (.bool p2)∧W2.drew.cell? ⟨rg,i * 10 + 4,none⟩ = some (.slice a2 n2 k2')∧W2.drew.cell? ⟨rg,i * 10 + 5,none⟩ = some (.slice d2 m2 l2)∧W2.drew.cell? ⟨rg,i * 10 + 6,none⟩ = some (.bool (Q.R i).hhi)∧W2.drew.cell? ⟨rg,i * 10 + 7,none⟩ = some (.bool p3)∧W2.drew.cell? ⟨rg,i * 10 + 8,none⟩ = some (.slice a3 n3 k3')∧W2.drew.cell? ⟨rg,i * 10 + 9,none⟩ = some (.slice d3 m3 l3)∧W2.drew.cell? ⟨wr.heap.size,0,none⟩ = some (.bool ps)∧W2.drew.cell? ⟨wr.heap.size,1,none⟩ = some (.slice as' ns cs')∧W2.drew.cell? ⟨wr.heap.size,2,none⟩ = some (.slice ds ms ls)):=⟨(RS0.cell 7).trans rfl,(PB0.cell 6).trans rfl,(by simpa using RG10 _ hb00 0 _ rfl),(RG10 _ hb00 1 _ rfl),(RG10 _ hb00 2 _ rfl),(RG10 _ hb00 3 _ rfl),(RG10 _ hb00 4 _ rfl),(RG10 _ hb00 5 _ rfl),(RG10 _ hb00 6 _ rfl),(RG10 _ hb00 7 _ rfl),(RG10 _ hb00 8 _ rfl),(RG10 _ hb00 9 _ rfl),(SB0.cell 0).trans rfl,(SB0.cell 1).trans rfl,(SB0.cell 2).trans rfl⟩
   have HF0:=hcF
   clear hcF
   refine wp_region_noPanic (wp_region_guard (Till 15 15 (fun w'=>w'.cell? ⟨R,7,none⟩ = some (.slice fa fm fc)∧w'.cell? ⟨w.heap.size,6,none⟩ = some (.slice (some ⟨rg,0,none⟩) Q.rn Q.rc)∧w'.cell? ⟨rg,i * 10,none⟩ = some (.string (Q.R i).nm)∧w'.cell? ⟨rg,i * 10 + 1,none⟩ = some (.slice ta (Q.R i).nt tc)∧w'.cell? ⟨rg,i * 10 + 2,none⟩ = some (.bool (Q.R i).hlo)∧w'.cell? ⟨rg,i * 10 + 3,none⟩ = some (.bool p2)∧w'.cell? ⟨rg,i * 10 + 4,none⟩ = some (.slice a2 n2 k2')∧w'.cell? ⟨rg,i * 10 + 5,none⟩ = some (.slice d2 m2 l2)∧w'.cell? ⟨rg,i * 10 + 6,none⟩ = some (.bool (Q.R i).hhi)∧w'.cell? ⟨rg,i * 10 + 7,none⟩ = some (.bool p3)∧w'.cell? ⟨rg,i * 10 + 8,none⟩ = some (.slice a3 n3 k3')∧w'.cell? ⟨rg,i * 10 + 9,none⟩ = some (.slice d3 m3 l3)∧w'.cell? ⟨wr.heap.size,0,none⟩ = some (.bool ps)∧w'.cell? ⟨wr.heap.size,1,none⟩ = some (.slice as' ns cs')∧w'.cell? ⟨wr.heap.size,2,none⟩ = some (.slice ds ms ls)) (fun _=>True)) (by as_aux_lemma=>kernel_rfl) ?_)
   have hc0:(W2.drew.cell? ⟨R,7,none⟩ = some (.slice fa fm fc)∧W2.drew.cell? ⟨w.heap.size,6,none⟩ = some (.slice (some ⟨rg,0,none⟩) Q.rn Q.rc)∧W2.drew.cell? ⟨rg,i * 10,none⟩ = some (.string (Q.R i).nm)∧W2.drew.cell? ⟨rg,i * 10 + 1,none⟩ = some (.slice ta (Q.R i).nt tc)∧W2.drew.cell? ⟨rg,i * 10 + 2,none⟩ = some (.bool (Q.R i).hlo)∧W2.drew.cell? ⟨rg,i * 10 + 3,none⟩ = some (.bool p2)∧W2.drew.cell? ⟨rg,i * 10 + 4,none⟩ = some (.slice a2 n2 k2')∧W2.drew.cell? ⟨rg,i * 10 + 5,none⟩ = some (.slice d2 m2 l2)∧W2.drew.cell? ⟨rg,i * 10 + 6,none⟩ = some (.bool (Q.R i).hhi)∧W2.drew.cell? ⟨rg,i * 10 + 7,none⟩ = some (.bool p3)∧W2.drew.cell? ⟨rg,i * 10 + 8,none⟩ = some (.slice a3 n3 k3')∧W2.drew.cell? ⟨rg,i * 10 + 9,none⟩ = some (.slice d3 m3 l3)∧W2.drew.cell? ⟨wr.heap.size,0,none⟩ = some (.bool ps)∧W2.drew.cell? ⟨wr.heap.size,1,none⟩ = some (.slice as' ns cs')∧W2.drew.cell? ⟨wr.heap.size,2,none⟩ = some (.slice ds ms ls)):=HF0
   generalize W2.drew = z0 at *
   refine wpAnyG.take 0 (v:=.pointer (some ⟨R,0,none⟩)) (by decide) (by as_aux_lemma=>kernel_rfl) (fun _ _ _ h=>h) 15 _ (by rfl) (till_ind (by decide) (by decide)) (fun L w' h1 h2=>h2.1 h1) (by as_aux_lemma=>kernel_rfl) (by as_aux_lemma=>kernel_rfl) (by as_aux_lemma=>kernel_rfl) (by rfl) ?y0 ⟨fun _=>(fun _ h=>h) _ hc0,fun _=>trivial⟩ (by rfl) ?_
   case y0 =>
    rintro w' ⟨q0,q1,q2,q3,q4,q5,q6,q7,q8,q9,q10,q11,q12,q13,q14⟩
    simp only [lgA,lgZ]
    go_simp
   simp only [lgA,lgZ,Act.put,lsA,lsZ,lsS]
   refine wpAnyG.take 1 (v:=.pointer (some ⟨R,0,none⟩)) (by decide) (by as_aux_lemma=>kernel_rfl) (fun _ _ _ h=>h) 15 _ (by rfl) (till_ind (by decide) (by decide)) (fun L w' h1 h2=>h2.1 h1) (by as_aux_lemma=>kernel_rfl) (by as_aux_lemma=>kernel_rfl) (by as_aux_lemma=>kernel_rfl) (by rfl) ?y1 ⟨fun _=>(fun _ h=>h) _ hc0,fun _=>trivial⟩ (by rfl) ?_
   case y1 =>
    rintro w' ⟨q0,q1,q2,q3,q4,q5,q6,q7,q8,q9,q10,q11,q12,q13,q14⟩
    simp only [lgA,lgZ,lgS]
    go_simp
   simp only [lgA,lgZ,lgS,Act.put,lsA,lsZ,lsS]
   refine wpAnyG.take 2 (v:=.pointer (some ⟨R,0,none⟩)) (by decide) (by as_aux_lemma=>kernel_rfl) (fun _ _ _ h=>h) 15 _ (by rfl) (till_ind (by decide) (by decide)) (fun L w' h1 h2=>h2.1 h1) (by as_aux_lemma=>kernel_rfl) (by as_aux_lemma=>kernel_rfl) (by as_aux_lemma=>kernel_rfl) (by rfl) ?y2 ⟨fun _=>(fun _ h=>h) _ hc0,fun _=>trivial⟩ (by rfl) ?_
   case y2 =>
    rintro w' ⟨q0,q1,q2,q3,q4,q5,q6,q7,q8,q9,q10,q11,q12,q13,q14⟩
    simp only [lgA,lgZ,lgS]
    go_simp
   simp only [lgA,lgZ,lgS,Act.put,lsA,lsZ,lsS]
   refine wpAnyG.take 3 (v:=.pointer (some ⟨R,7,none⟩)) (by decide) (by as_aux_lemma=>kernel_rfl) (fun _ _ _ h=>h) 15 _ (by rfl) (till_ind (by decide) (by decide)) (fun L w' h1 h2=>h2.1 h1) (by as_aux_lemma=>kernel_rfl) (by as_aux_lemma=>kernel_rfl) (by as_aux_lemma=>kernel_rfl) (by rfl) ?y3 ⟨fun _=>(fun _ h=>h) _ hc0,fun _=>trivial⟩ (by rfl) ?_
   case y3 =>
    rintro w' ⟨q0,q1,q2,q3,q4,q5,q6,q7,q8,q9,q10,q11,q12,q13,q14⟩
    simp only [lgA,lgZ,lgS]
    go_simp
   simp only [lgA,lgZ,lgS,Act.put,lsA,lsZ,lsS]
   refine wpAnyG.take 4 (v:=.slice fa fm fc) (by decide) (by as_aux_lemma=>kernel_rfl) (fun _ _ _ h=>h) 15 _ (by rfl) (till_ind (by decide) (by decide)) (fun L w' h1 h2=>h2.1 h1) (by as_aux_lemma=>kernel_rfl) (by as_aux_lemma=>kernel_rfl) (by as_aux_lemma=>kernel_rfl) (by rfl) ?y4 ⟨fun _=>(fun _ h=>h) _ hc0,fun _=>trivial⟩ (by rfl) ?_
   case y4 =>
    rintro w' ⟨q0,q1,q2,q3,q4,q5,q6,q7,q8,q9,q10,q11,q12,q13,q14⟩
    simp only [lgA,lgZ,lgS]
    go_simp
   simp only [lgA,lgZ,lgS,Act.put,lsA,lsZ,lsS]
   refine wpAnyG.take 5 (v:=.pointer (some ⟨R,0,none⟩)) (by decide) (by as_aux_lemma=>kernel_rfl) (fun _ _ _ h=>h) 15 _ (by rfl) (till_ind (by decide) (by decide)) (fun L w' h1 h2=>h2.1 h1) (by as_aux_lemma=>kernel_rfl) (by as_aux_lemma=>kernel_rfl) (by as_aux_lemma=>kernel_rfl) (by rfl) ?y5 ⟨fun _=>(fun _ h=>h) _ hc0,fun _=>trivial⟩ (by rfl) ?_
   case y5 =>
    rintro w' ⟨q0,q1,q2,q3,q4,q5,q6,q7,q8,q9,q10,q11,q12,q13,q14⟩
    simp only [lgA,lgZ,lgS]
    go_simp
   simp only [lgA,lgZ,lgS,Act.put,lsA,lsZ,lsS]
   refine wpAnyG.take 6 (v:=.pointer (some ⟨w.heap.size,6,none⟩)) (by decide) (by as_aux_lemma=>kernel_rfl) (fun _ _ _ h=>h) 15 _ (by rfl) (till_ind (by decide) (by decide)) (fun L w' h1 h2=>h2.1 h1) (by as_aux_lemma=>kernel_rfl) (by as_aux_lemma=>kernel_rfl) (by as_aux_lemma=>kernel_rfl) (by rfl) ?y6 ⟨fun _=>(fun _ h=>h) _ hc0,fun _=>trivial⟩ (by rfl) ?_
   case y6 =>
    rintro w' ⟨q0,q1,q2,q3,q4,q5,q6,q7,q8,q9,q10,q11,q12,q13,q14⟩
    simp only [lgA,lgZ,lgS]
    go_simp
   simp only [lgA,lgZ,lgS,Act.put,lsA,lsZ,lsS]
   refine wpAnyG.take 7 (v:=.slice (some ⟨rg,0,none⟩) Q.rn Q.rc) (by decide) (by as_aux_lemma=>kernel_rfl) (fun _ _ _ h=>h) 15 _ (by rfl) (till_ind (by decide) (by decide)) (fun L w' h1 h2=>h2.1 h1) (by as_aux_lemma=>kernel_rfl) (by as_aux_lemma=>kernel_rfl) (by as_aux_lemma=>kernel_rfl) (by rfl) ?y7 ⟨fun _=>(fun _ h=>h) _ hc0,fun _=>trivial⟩ (by rfl) ?_
   case y7 =>
    rintro w' ⟨q0,q1,q2,q3,q4,q5,q6,q7,q8,q9,q10,q11,q12,q13,q14⟩
    simp only [lgA,lgZ,lgS]
    go_simp
   simp only [lgA,lgZ,lgS,Act.put,lsA,lsZ,lsS]
   refine wpAnyG.take 8 (v:=.int .i64 (i:Int)) (by decide) (by as_aux_lemma=>kernel_rfl) (fun _ _ _ h=>h) 15 _ (by rfl) (till_ind (by decide) (by decide)) (fun L w' h1 h2=>h2.1 h1) (by as_aux_lemma=>kernel_rfl) (by as_aux_lemma=>kernel_rfl) (by as_aux_lemma=>kernel_rfl) (by rfl) ?y8 ⟨fun _=>(fun _ h=>h) _ hc0,fun _=>trivial⟩ (by rfl) ?_
   case y8 =>
    rintro w' ⟨q0,q1,q2,q3,q4,q5,q6,q7,q8,q9,q10,q11,q12,q13,q14⟩
    simp only [lgA,lgZ,lgS]
    go_simp
   simp only [lgA,lgZ,lgS,Act.put,lsA,lsZ,lsS]
   refine wpAnyG.take 9 (v:=.pointer (some ⟨rg,i * 10,none⟩)) (by decide) (by as_aux_lemma=>kernel_rfl) (fun _ _ _ h=>h) 15 _ (by rfl) (till_ind (by decide) (by decide)) (fun L w' h1 h2=>h2.1 h1) (by as_aux_lemma=>kernel_rfl) (by as_aux_lemma=>kernel_rfl) (by as_aux_lemma=>kernel_rfl) (by rfl) ?y9 ⟨fun _=>(fun _ h=>h) _ hc0,fun _=>trivial⟩ (by rfl) ?_
   case y9 =>
    rintro w' ⟨q0,q1,q2,q3,q4,q5,q6,q7,q8,q9,q10,q11,q12,q13,q14⟩
    simp only [lgA,lgZ,lgS]
    go_simp
   simp only [lgA,lgZ,lgS,Act.put,lsA,lsZ,lsS]
   refine wpAnyG.take 10 (v:=.agg #[.string (Q.R i).nm,.slice ta (Q.R i).nt tc,.bool (Q.R i).hlo,.bool p2,.slice a2 n2 k2',.slice d2 m2 l2,.bool (Q.R i).hhi,.bool p3,.slice a3 n3 k3',.slice d3 m3 l3]) (by decide) (by as_aux_lemma=>kernel_rfl) (fun _ _ _ h=>h) 15 _ (by rfl) (till_ind (by decide) (by decide)) (fun L w' h1 h2=>h2.1 h1) (by as_aux_lemma=>kernel_rfl) (by as_aux_lemma=>kernel_rfl) (by as_aux_lemma=>kernel_rfl) (by rfl) ?y10 ⟨fun _=>(fun _ h=>h) _ hc0,fun _=>trivial⟩ (by rfl) ?_
   case y10 =>
    rintro w' ⟨q0,q1,q2,q3,q4,q5,q6,q7,q8,q9,q10,q11,q12,q13,q14⟩
    simp only [lgA,lgZ,lgS]
    go_simp
   simp only [lgA,lgZ,lgS,Act.put,lsA,lsZ,lsS]
   refine wpAnyG.take 11 (v:=.agg #[.bool ps,.slice as' ns cs',.slice ds ms ls]) (by decide) (by as_aux_lemma=>kernel_rfl) (fun _ _ _ h=>h) 15 _ (by rfl) (till_ind (by decide) (by decide)) (fun L w' h1 h2=>h2.1 h1) (by as_aux_lemma=>kernel_rfl) (by as_aux_lemma=>kernel_rfl) (by as_aux_lemma=>kernel_rfl) (by rfl) ?y11 ⟨fun _=>(fun _ h=>h) _ hc0,fun _=>trivial⟩ (by rfl) ?_
   case y11 =>
    rintro w' ⟨q0,q1,q2,q3,q4,q5,q6,q7,q8,q9,q10,q11,q12,q13,q14⟩
    simp only [lgA,lgZ,lgS]
    go_simp
   simp only [lgA,lgZ,lgS,Act.put,lsA,lsZ,lsS]
   refine wpAnyG.one 12 (by as_aux_lemma=>kernel_rfl) (by decide) (by rfl) (fun K hK=>?_)
   simp only [lgA,lgZ,lgS]
   go_simp
   refine (addRowQ Q.V (Q.R i) (Sl:=(2 * Q.K + 3)) (Ss:=2 * Q.K + 6) (st:=cv (Q.R i) (fun j=>vbs (Q.V j)) Q.vn) z0 RS0 SQ0 EM0 hFz0 LT0 (HTG.out.t i hlt) GL0 GH0 GS0 (by omega) (by omega) (by omega) HZ.out.1 HZ.out.2.1 HZ.out.2.2 (by omega) (by omega) hnt (by omega) (by omega) HT0 hTF hTR).mono ?_
   rintro e z1 ⟨i1,ea1,em1,ec1,c1,rfl,RS1,EM1,hc1e,hi1,K1⟩
   clear hi1
   have KW1:=(KW0.up (L':=[67,79,3]) (by simp)).trans (K1.up (by simp))
   have PB1:=PB0.kxh K1 (by decide)
   have SB1:=SB0.kxh K1 (by decide)
   have hs1:=K1.size
   have hbz:Below w2.heap.size w2 z1:=hbW2.trans ((KW1.below (by omega)).mono hR2)
   have HC1:Hid (c1 = (rowsE Q.V Q.R (fun i=>cv (Q.R i) (fun j=>vbs (Q.V j)) Q.vn) Q.vn (i + 1)).2):=by
    show c1 = (eqsR Q.V (Q.R i) _ (rowsE Q.V Q.R (fun i=>cv (Q.R i) (fun j=>vbs (Q.V j)) Q.vn) Q.vn i).2).2
    rw [hc1e,HC.out]
   have hc1b:=(eqs_len Q.V (Q.R i) (cv (Q.R i) (fun j=>vbs (Q.V j)) Q.vn) c).2
   rw [← hc1e] at hc1b
   clear hc1e
   have hcF:(z1.cell? ⟨R,7,none⟩ = some (.slice fa fm fc)∧z1.cell? ⟨w.heap.size,6,none⟩ = some (.slice (some ⟨rg,0,none⟩) Q.rn Q.rc)∧z1.cell? ⟨rg,i * 10,none⟩ = some (.string (Q.R i).nm)∧z1.cell? ⟨rg,i * 10 + 1,none⟩ = some (.slice ta (Q.R i).nt tc)∧z1.cell? ⟨rg,i * 10 + 2,none⟩ = some (.bool (Q.R i).hlo)∧z1.cell? ⟨rg,i * 10 + 3,none⟩ = some (.bool p2)∧z1.cell? ⟨rg,i * 10 + 4,none⟩ = some (.slice a2 n2 k2')∧z1.cell? ⟨rg,i * 10 + 5,none⟩ = some (.slice d2 m2 l2)∧z1.cell? ⟨rg,i * 10 + 6,none⟩ = some (.bool (Q.R i).hhi)∧z1.cell? ⟨rg,i * 10 + 7,none⟩ = some (.bool p3)∧z1.cell? ⟨rg,i * 10 + 8,none⟩ = some (.slice a3 n3 k3')∧z1.cell? ⟨rg,i * 10 + 9,none⟩ = some (.slice d3 m3 l3)∧z1.cell? ⟨wr.heap.size,0,none⟩ = some (.bool ps)∧z1.cell? ⟨wr.heap.size,1,none⟩ = some (.slice as' ns cs')∧z1.cell? ⟨wr.heap.size,2,none⟩ = some (.slice ds ms ls)):=⟨(RS1.cell 7).trans rfl,(PB1.cell 6).trans rfl,(by simpa using RG10 _ hbz 0 _ rfl),(RG10 _ hbz 1 _ rfl),(RG10 _ hbz 2 _ rfl),(RG10 _ hbz 3 _ rfl),(RG10 _ hbz 4 _ rfl),(RG10 _ hbz 5 _ rfl),(RG10 _ hbz 6 _ rfl),(RG10 _ hbz 7 _ rfl),(RG10 _ hbz 8 _ rfl),(RG10 _ hbz 9 _ rfl),(SB1.cell 0).trans rfl,(SB1.cell 1).trans rfl,(SB1.cell 2).trans rfl⟩
   have hc1:=hcF
   clear hcF
   dsimp only
   refine hK _ _ ⟨fun _=>(fun _ h=>h) _ hc1,fun _=>trivial⟩ ?_
   clear hK K
   refine wpAnyG.one 13 (by as_aux_lemma=>kernel_rfl) (by decide) (by rfl) (fun K hK=>?_)
   simp only [lgA,lgZ,lgS]
   go_simp
   have KW2:=KW1.bel (bel_d0 z1 (.cells #[.int .i64 i1] 3)) (by omega)
   have K2:=(Kx.refl R F [] z1).bel (bel_d0 z1 (.cells #[.int .i64 i1] 3)) (by omega)
   have RS2:=RS1.below (bel_d0 z1 (.cells #[.int .i64 i1] 3))
   have PB2:=PB1.below (bel_d0 z1 (.cells #[.int .i64 i1] 3))
   have SB2:=SB1.below (bel_d0 z1 (.cells #[.int .i64 i1] 3))
   have BX:=box_new z1 #[.int .i64 i1] 3
   have hs2:(z1.alloc (.cells #[.int .i64 i1] 3)).heap.size = z1.heap.size + 1:=by simp
   have EM2:=EM1.kx K2 (by simp) (by simp) (by simp)
   have hbz2:=bel_a2 hbz (bel_d0 z1 (.cells #[.int .i64 i1] 3))
   have hcF:((z1.alloc (.cells #[.int .i64 i1] 3)).cell? ⟨R,7,none⟩ = some (.slice fa fm fc)∧(z1.alloc (.cells #[.int .i64 i1] 3)).cell? ⟨w.heap.size,6,none⟩ = some (.slice (some ⟨rg,0,none⟩) Q.rn Q.rc)∧(z1.alloc (.cells #[.int .i64 i1] 3)).cell? ⟨rg,i * 10,none⟩ = some (.string (Q.R i).nm)∧(z1.alloc (.cells #[.int .i64 i1] 3)).cell? ⟨rg,i * 10 + 1,none⟩ = some (.slice ta (Q.R i).nt tc)∧(z1.alloc (.cells #[.int .i64 i1] 3)).cell? ⟨rg,i * 10 + 2,none⟩ = some (.bool (Q.R i).hlo)∧(z1.alloc (.cells #[.int .i64 i1] 3)).cell? ⟨rg,i * 10 + 3,none⟩ = some (.bool p2)∧(z1.alloc (.cells #[.int .i64 i1] 3)).cell? ⟨rg,i * 10 + 4,none⟩ = some (.slice a2 n2 k2')∧(z1.alloc (.cells #[.int .i64 i1] 3)).cell? ⟨rg,i * 10 + 5,none⟩ = some (.slice d2 m2 l2)∧(z1.alloc (.cells #[.int .i64 i1] 3)).cell? ⟨rg,i * 10 + 6,none⟩ = some (.bool (Q.R i).hhi)∧(z1.alloc (.cells #[.int .i64 i1] 3)).cell? ⟨rg,i * 10 + 7,none⟩ = some (.bool p3)∧(z1.alloc (.cells #[.int .i64 i1] 3)).cell? ⟨rg,i * 10 + 8,none⟩ = some (.slice a3 n3 k3')∧(z1.alloc (.cells #[.int .i64 i1] 3)).cell? ⟨rg,i * 10 + 9,none⟩ = some (.slice d3 m3 l3)∧(z1.alloc (.cells #[.int .i64 i1] 3)).cell? ⟨wr.heap.size,0,none⟩ = some (.bool ps)∧(z1.alloc (.cells #[.int .i64 i1] 3)).cell? ⟨wr.heap.size,1,none⟩ = some (.slice as' ns cs')∧(z1.alloc (.cells #[.int .i64 i1] 3)).cell? ⟨wr.heap.size,2,none⟩ = some (.slice ds ms ls)):=⟨(RS2.cell 7).trans rfl,(PB2.cell 6).trans rfl,(by simpa using RG10 _ hbz2 0 _ rfl),(RG10 _ hbz2 1 _ rfl),(RG10 _ hbz2 2 _ rfl),(RG10 _ hbz2 3 _ rfl),(RG10 _ hbz2 4 _ rfl),(RG10 _ hbz2 5 _ rfl),(RG10 _ hbz2 6 _ rfl),(RG10 _ hbz2 7 _ rfl),(RG10 _ hbz2 8 _ rfl),(RG10 _ hbz2 9 _ rfl),(SB2.cell 0).trans rfl,(SB2.cell 1).trans rfl,(SB2.cell 2).trans rfl⟩
   generalize z1.alloc (.cells #[.int .i64 i1] 3) = z5 at *
   refine hK _ _ ⟨fun _=>hcF,fun _=>trivial⟩ ?_
   clear hcF
   clear hK K
   refine wpAnyG.one 14 (by as_aux_lemma=>kernel_rfl) (by decide) (by rfl) (fun K hK=>?_)
   simp only [lgA,lgZ,lgS]
   have SLZ:=(SLF0.kxh (K1.up (L':=[67,79]) (by simp)) (by decide)).kxh K2 (by simp)
   refine wp_appendS z5 _ _ 65 3 1 8 rfl Tryz.underlying65 infInt1 (by decide) (by decide) F (.slice fa fm fc) fm (fun _=>[]) rfl SLZ z1.heap.size 1 rfl [.int .i64 i1] rfl (fun u hu=>by simp at hu;rw [hu];rfl) BX (by omega) (by omega) _ rfl ?_
   intro g6 cap6 w6 SN hg hat hgl
   have hne:(.slice fa fm fc:Value).ownBlock ≠ some R:=SLZ.neR RS2 (by decide)
   have RS6:=RS2.kept hg hne
   have KG:=(Kx.refl R F [3] z5).grown SLZ (by simp) (Nat.le_refl F) (by omega) hg
   have PB6:=PB2.kxh KG (by decide)
   have SB6:=SB2.kxh KG (by decide)
   have hbz6:Below w2.heap.size w2 w6:=hbz2.trans ((KG.below (by omega)).mono (by omega))
   have hs6:=hg.size
   have e1:=RS6.frozen 7
   have e0:=(RS6.cell 7).trans (show _ = some (.slice fa fm fc) from rfl)
   have hcF:(w6.cell? ⟨R,7,none⟩ = some (.slice fa fm fc)∧w6.cell? ⟨w.heap.size,6,none⟩ = some (.slice (some ⟨rg,0,none⟩) Q.rn Q.rc)∧w6.cell? ⟨rg,i * 10,none⟩ = some (.string (Q.R i).nm)∧w6.cell? ⟨rg,i * 10 + 1,none⟩ = some (.slice ta (Q.R i).nt tc)∧w6.cell? ⟨rg,i * 10 + 2,none⟩ = some (.bool (Q.R i).hlo)∧w6.cell? ⟨rg,i * 10 + 3,none⟩ = some (.bool p2)∧w6.cell? ⟨rg,i * 10 + 4,none⟩ = some (.slice a2 n2 k2')∧w6.cell? ⟨rg,i * 10 + 5,none⟩ = some (.slice d2 m2 l2)∧w6.cell? ⟨rg,i * 10 + 6,none⟩ = some (.bool (Q.R i).hhi)∧w6.cell? ⟨rg,i * 10 + 7,none⟩ = some (.bool p3)∧w6.cell? ⟨rg,i * 10 + 8,none⟩ = some (.slice a3 n3 k3')∧w6.cell? ⟨rg,i * 10 + 9,none⟩ = some (.slice d3 m3 l3)∧w6.cell? ⟨wr.heap.size,0,none⟩ = some (.bool ps)∧w6.cell? ⟨wr.heap.size,1,none⟩ = some (.slice as' ns cs')∧w6.cell? ⟨wr.heap.size,2,none⟩ = some (.slice ds ms ls)):=⟨(RS6.cell 7).trans rfl,(PB6.cell 6).trans rfl,(by simpa using RG10 _ hbz6 0 _ rfl),(RG10 _ hbz6 1 _ rfl),(RG10 _ hbz6 2 _ rfl),(RG10 _ hbz6 3 _ rfl),(RG10 _ hbz6 4 _ rfl),(RG10 _ hbz6 5 _ rfl),(RG10 _ hbz6 6 _ rfl),(RG10 _ hbz6 7 _ rfl),(RG10 _ hbz6 8 _ rfl),(RG10 _ hbz6 9 _ rfl),(SB6.cell 0).trans rfl,(SB6.cell 1).trans rfl,(SB6.cell 2).trans rfl⟩
   refine hK _ _ ⟨fun _=>hcF,fun _=>trivial⟩ ?_
   clear hcF
   clear hK K
   refine wpAnyG.one 15 (by as_aux_lemma=>kernel_rfl) (by decide) (by rfl) (fun K hK=>?_)
   simp only [lgA,lgZ,lgS]
   go_simp
   refine hK _ _ ⟨fun h=>absurd h (by decide),fun _=>trivial⟩ ?_
   clear hK K
   refine wpAnyG.one 16 (by as_aux_lemma=>kernel_rfl) (by decide) (by rfl) (fun K hK=>?_)
   simp only [lgA,lgZ,lgS]
   go_simp
   refine hK _ _ ⟨fun h=>absurd h (by decide),fun _=>trivial⟩ ?_
   clear hK K
   refine wpAnyG.one 17 (by as_aux_lemma=>kernel_rfl) (by decide) (by rfl) (fun K hK=>?_)
   simp only [lgA,lgZ,lgS]
   go_simp
   refine hK _ _ ⟨fun h=>absurd h (by decide),fun _=>trivial⟩ ?_
   clear hK K
   refine wpAnyG.done (by as_aux_lemma=>kernel_rfl) (NoPanic.normal ?_)
   obtain ⟨RN,ON⟩:=RS6.set 7 (.slice (some ⟨g6,0,none⟩) (fm + 1) cap6)
   replace RN:Rw 67 (w6.setCell ⟨R,7,none⟩ (.slice (some ⟨g6,0,none⟩) (fm + 1) cap6)) R #[.slice sa Q.vn sc,csv,k1,k2,k3,.slice ea1 em1 ec1,.int .i64 (c1:Nat),.slice (some ⟨g6,0,none⟩) (fm + 1) cap6]:=by simpa using RN
   have KF:=((KUW.trans KW2).trans (KG.up (L':=[67,79,3]) (by simp))).off RS6 (by simp) ON
   have EMN:EM (w6.setCell ⟨R,7,none⟩ (.slice (some ⟨g6,0,none⟩) (fm + 1) cap6)) F (.slice ea1 em1 ec1) (rowsE Q.V Q.R (fun i=>cv (Q.R i) (fun j=>vbs (Q.V j)) Q.vn) Q.vn (i + 1)).1 (2 * Q.K + 3):=by
    have h:=(EM2.kx (KG.up (L':=[67,3]) (by simp)) (by decide) (by decide) (by decide)).kx ((Kx.refl R F [67] w6).off RS6 (by simp) ON) (by decide) (by decide) (by decide)
    rw [HC.out] at h
    exact h
   have SNN:=(SN.kxh ((Kx.refl R F [67] w6).off RS6 (by simp) ON) (by decide)).weak
   clear RS0 PB0 SB0 KW0 SQ0 EM0 SLF0 LT0 GL0 GH0 GS0 HT0 hb00 HF0 RS1 PB1 SB1 KW1 K1 EM1 RS2 PB2 SB2 KW2 K2 EM2 hbz hbz2 hbz6 BX SLZ SN hg hat hgl hne RS6 KG PB6 SB6 e0 e1 ON hc0 hc1 RU PBU SBU SQU EMU SLFU LTU GLU GHU GSU HTU KUW RG10 HZ
   generalize w6.setCell ⟨R,7,none⟩ (.slice (some ⟨g6,0,none⟩) (fm + 1) cap6) = w8 at *
   try rw [← hua']
   clear hua'
   go_wp2
   go_roundw
   case rel=>first | exact ⟨i + 1,_,_,_,_,_,_,_,by omega,by go_num,RN,EMN,HC1,by omega,SNN,KF⟩ | ((repeat apply Exists.intro);refine ⟨?_,rfl⟩;exact ⟨i + 1,_,_,_,_,_,_,_,by omega,by go_num,RN,EMN,HC1,by omega,SNN,KF⟩)
   case measure=>simp [intOf];omega
  ·obtain rfl:i = Q.rn:=by omega
   have hkI:¬ (Q.rn:Int) < (Q.rn:Int):=by omega
   have y5:=(RPr.cell 5).trans (show _ = some (.slice Q.va Q.vn Q.vc) from rfl)
   obtain ⟨wv,ewv⟩:∃ x,x = wr:=⟨_,rfl⟩
   subst ewv
   go_wp2_with fail
   clear y5
   have EM0':EM wv F (.slice ea em ec) (varsE Q.V (rowsE Q.V Q.R (fun i=>cv (Q.R i) (fun j=>vbs (Q.V j)) Q.vn) Q.vn Q.rn) 0).1 (2 * Q.K + 3):=EMi
   have HC0':Hid (c = (varsE Q.V (rowsE Q.V Q.R (fun i=>cv (Q.R i) (fun j=>vbs (Q.V j)) Q.vn) Q.vn Q.rn) 0).2):=HC
   go_loopw [53] (fun s wr=>∃ (j:Nat) (ea2:Option Addr) (em2 ec2 c2:Nat),j≤Q.vn∧s = .int .i64 j∧Rw 67 wr R #[.slice sa Q.vn sc,csv,k1,k2,k3,.slice ea2 em2 ec2,.int .i64 (c2:Nat),.slice fa fm fc]∧EM wr F (.slice ea2 em2 ec2) (varsE Q.V (rowsE Q.V Q.R (fun i=>cv (Q.R i) (fun j=>vbs (Q.V j)) Q.vn) Q.vn Q.rn) j).1 (2 * Q.K + 3)∧Hid (c2 = (varsE Q.V (rowsE Q.V Q.R (fun i=>cv (Q.R i) (fun j=>vbs (Q.V j)) Q.vn) Q.vn Q.rn) j).2)∧Kx R F [67,79,3] w7 wr) (fun t _=>Q.vn - (intOf t).toNat)
   case atStart=>exact ⟨0,_,_,_,_,Nat.zero_le _,rfl,RW,EM0',HC0',KU⟩
   case round =>
    have hem0:((rowsE Q.V Q.R (fun i=>cv (Q.R i) (fun j=>vbs (Q.V j)) Q.vn) Q.vn Q.rn)).1.length≤2 * Q.rn:=(rows_len Q.V Q.R (fun i=>cv (Q.R i) (fun j=>vbs (Q.V j)) Q.vn) Q.vn Q.rn).1
    have hc0:((rowsE Q.V Q.R (fun i=>cv (Q.R i) (fun j=>vbs (Q.V j)) Q.vn) Q.vn Q.rn)).2≤2 * Q.vn + 2 * Q.rn:=(rows_len Q.V Q.R (fun i=>cv (Q.R i) (fun j=>vbs (Q.V j)) Q.vn) Q.vn Q.rn).2
    clear RW EM0' HC0' KU hbw2 RPr SQr HTr hsr EMi SLF HC hFw hemb hcb hfm
    obtain ⟨j,ea2,em2,ec2,c2,hj,rfl,RW,EMj,HC2,KU⟩:=hrel
    have hlen:=vars_len Q.V (rowsE Q.V Q.R (fun i=>cv (Q.R i) (fun j=>vbs (Q.V j)) Q.vn) Q.vn Q.rn) j
    have hemb:em2≤2 * Q.rn + j:=by rw [EMj.len];omega
    have hcb:c2≤2 * Q.vn + 2 * Q.rn + j:=by rw [HC2.out];omega
    clear hlen hem0 hc0
    have hFw:F≤wr.heap.size:=Nat.le_trans (by omega) KU.size
    have hbw2:Below w2.heap.size w2 wr:=hb27.trans ((KU.below (by omega)).mono hR2)
    have SQr:=SQ7.kxl KU (by decide) (by decide)
    have HTr:=HT7.kx KU (by omega) (by omega)
    have hsr:=KU.size
    by_cases hlt:j < Q.vn
    ·have hkI:(j:Int) < (Q.vn:Int):=by omega
     have hkI2:(j:Int) * 13 = ((j * 13:Nat):Int):=by omega
     have hkI3:(j:Int) * 5 = ((j * 5:Nat):Int):=by omega
     rcases HTG.out.v.below hbw2 with h00 | ⟨vg,hva,hev⟩
     ·omega
     obtain ⟨p1,a1,n1,k1',d1,m1,l1,p2,a2,n2,k2',d2,m2,l2,p3,a3,n3,k3',d3,m3,l3,hc13,GV1,GV2,GV3⟩:=hev j hlt
     obtain ⟨nm,enm⟩:∃ nm,nm = (Q.V j).nm:=⟨_,rfl⟩
     obtain ⟨hl,ehl⟩:∃ hl,hl = (Q.V j).hlo:=⟨_,rfl⟩
     obtain ⟨hh,ehh⟩:∃ hh,hh = (Q.V j).hhi:=⟨_,rfl⟩
     obtain ⟨wh,ewh⟩:∃ wh,wh = (Q.V j).whole:=⟨_,rfl⟩
     rw [← enm,← ehl,← ehh,← ewh] at hc13
     have r0:=hc13 0 _ rfl;have r1:=hc13 1 _ rfl;have r2:=hc13 2 _ rfl;have r3:=hc13 3 _ rfl;have r4:=hc13 4 _ rfl;have r5:=hc13 5 _ rfl;have r6:=hc13 6 _ rfl;have r7:=hc13 7 _ rfl;have r8:=hc13 8 _ rfl;have r9:=hc13 9 _ rfl;have r10:=hc13 10 _ rfl;have r11:=hc13 11 _ rfl;have r12:=hc13 12 _ rfl
     have HE:Hid (hl = (Q.V j).hlo∧hh = (Q.V j).hhi):=⟨ehl,ehh⟩
     clear hc13 hev enm ehl ehh ewh
     have hva':Q.va = some ⟨vg,0,none⟩:=hva
     clear hva
     rw [Nat.add_zero] at r0
     have hz:=bel_d0 wr (.cells #[.string nm,.bool p1,.slice a1 n1 k1',.slice d1 m1 l1,.bool hl,.bool p2,.slice a2 n2 k2',.slice d2 m2 l2,.bool hh,.bool p3,.slice a3 n3 k3',.slice d3 m3 l3,.bool wh] 56)
     have hsW:(wr.alloc (.cells #[.string nm,.bool p1,.slice a1 n1 k1',.slice d1 m1 l1,.bool hl,.bool p2,.slice a2 n2 k2',.slice d2 m2 l2,.bool hh,.bool p3,.slice a3 n3 k3',.slice d3 m3 l3,.bool wh] 56)).heap.size = wr.heap.size + 1:=by simp
     have RU:=RW.below hz
     have VBU:=Rw.new 56 wr #[.string nm,.bool p1,.slice a1 n1 k1',.slice d1 m1 l1,.bool hl,.bool p2,.slice a2 n2 k2',.slice d2 m2 l2,.bool hh,.bool p3,.slice a3 n3 k3',.slice d3 m3 l3,.bool wh]
     have SQU:=SQr.below hz
     have EMU:=EMj.kx (kx_of (R:=R) (F:=F) (L:=[]) hz hFw) (by simp) (by simp) (by simp)
     have GLU:=GV2.below hz
     have GHU:=GV3.below hz
     have HTU:=HTr.below hz
     have KUW:=KU.bel hz hFw
     obtain ⟨g,c0,_,_,_,_,hsa0,_,ec0,_,hg0',_⟩:=SQU.at hlt
     rw [ec0] at hg0'
     have hgU:=hg0'
     have HZW:Hid (SzR ((Q.V j).hi - (Q.V j).lo) (2 * Q.K + 3)):=by
      obtain ⟨vb,vo,hVar⟩:=HPQ.out.var hlt
      have:=tot_le (Z:=Q.ZV) hlt
      exact (sub_sz hVar.shi hVar.slo).le (by omega)
     clear hz SQr HTr GV1 GV2 GV3 hg0' ec0 EMj
     cases hl
     ·cases hh
      ·go_wp2_with fail
       have hcond:((Q.V j).hlo && (Q.V j).hhi) = false:=by rw [← HE.out.1,← HE.out.2];rfl
       have EMN:EM (wr.alloc (.cells #[.string nm,.bool p1,.slice a1 n1 k1',.slice d1 m1 l1,.bool false,.bool p2,.slice a2 n2 k2',.slice d2 m2 l2,.bool false,.bool p3,.slice a3 n3 k3',.slice d3 m3 l3,.bool wh] 56)) F (.slice ea2 em2 ec2) (varsE Q.V (rowsE Q.V Q.R (fun i=>cv (Q.R i) (fun j=>vbs (Q.V j)) Q.vn) Q.vn Q.rn) (j + 1)).1 (2 * Q.K + 3):=by
        unfold varsE
        rw [hcond]
        exact EMU
       have HCN:Hid (c2 = (varsE Q.V (rowsE Q.V Q.R (fun i=>cv (Q.R i) (fun j=>vbs (Q.V j)) Q.vn) Q.vn Q.rn) (j + 1)).2):=by
        show c2 = _
        unfold varsE
        rw [hcond]
        exact HC2.out
       clear r0 r1 r2 r3 r4 r5 r6 r7 r8 r9 r10 r11 r12 hcond
       generalize wr.alloc (.cells #[.string nm,.bool p1,.slice a1 n1 k1',.slice d1 m1 l1,.bool false,.bool p2,.slice a2 n2 k2',.slice d2 m2 l2,.bool false,.bool p3,.slice a3 n3 k3',.slice d3 m3 l3,.bool wh] 56) = W2 at *
       try rw [← hva']
       clear hva'
       go_wp2
       go_roundw
       case rel=>first | exact ⟨j + 1,_,_,_,_,by omega,by go_num,RU,EMN,HCN,KUW⟩ | ((repeat apply Exists.intro);refine ⟨?_,rfl⟩;exact ⟨j + 1,_,_,_,_,by omega,by go_num,RU,EMN,HCN,KUW⟩)
       case measure=>simp [intOf];omega
      ·go_wp2_with fail
       have hcond:((Q.V j).hlo && (Q.V j).hhi) = false:=by rw [← HE.out.1,← HE.out.2];rfl
       have EMN:EM (wr.alloc (.cells #[.string nm,.bool p1,.slice a1 n1 k1',.slice d1 m1 l1,.bool false,.bool p2,.slice a2 n2 k2',.slice d2 m2 l2,.bool true,.bool p3,.slice a3 n3 k3',.slice d3 m3 l3,.bool wh] 56)) F (.slice ea2 em2 ec2) (varsE Q.V (rowsE Q.V Q.R (fun i=>cv (Q.R i) (fun j=>vbs (Q.V j)) Q.vn) Q.vn Q.rn) (j + 1)).1 (2 * Q.K + 3):=by
        unfold varsE
        rw [hcond]
        exact EMU
       have HCN:Hid (c2 = (varsE Q.V (rowsE Q.V Q.R (fun i=>cv (Q.R i) (fun j=>vbs (Q.V j)) Q.vn) Q.vn Q.rn) (j + 1)).2):=by
        show c2 = _
        unfold varsE
        rw [hcond]
        exact HC2.out
       clear r0 r1 r2 r3 r4 r5 r6 r7 r8 r9 r10 r11 r12 hcond
       generalize wr.alloc (.cells #[.string nm,.bool p1,.slice a1 n1 k1',.slice d1 m1 l1,.bool false,.bool p2,.slice a2 n2 k2',.slice d2 m2 l2,.bool true,.bool p3,.slice a3 n3 k3',.slice d3 m3 l3,.bool wh] 56) = W2 at *
       try rw [← hva']
       clear hva'
       go_wp2
       go_roundw
       case rel=>first | exact ⟨j + 1,_,_,_,_,by omega,by go_num,RU,EMN,HCN,KUW⟩ | ((repeat apply Exists.intro);refine ⟨?_,rfl⟩;exact ⟨j + 1,_,_,_,_,by omega,by go_num,RU,EMN,HCN,KUW⟩)
       case measure=>simp [intOf];omega
     ·cases hh
      ·go_wp2_with fail
       have hcond:((Q.V j).hlo && (Q.V j).hhi) = false:=by rw [← HE.out.1,← HE.out.2];rfl
       have EMN:EM (wr.alloc (.cells #[.string nm,.bool p1,.slice a1 n1 k1',.slice d1 m1 l1,.bool true,.bool p2,.slice a2 n2 k2',.slice d2 m2 l2,.bool false,.bool p3,.slice a3 n3 k3',.slice d3 m3 l3,.bool wh] 56)) F (.slice ea2 em2 ec2) (varsE Q.V (rowsE Q.V Q.R (fun i=>cv (Q.R i) (fun j=>vbs (Q.V j)) Q.vn) Q.vn Q.rn) (j + 1)).1 (2 * Q.K + 3):=by
        unfold varsE
        rw [hcond]
        exact EMU
       have HCN:Hid (c2 = (varsE Q.V (rowsE Q.V Q.R (fun i=>cv (Q.R i) (fun j=>vbs (Q.V j)) Q.vn) Q.vn Q.rn) (j + 1)).2):=by
        show c2 = _
        unfold varsE
        rw [hcond]
        exact HC2.out
       clear r0 r1 r2 r3 r4 r5 r6 r7 r8 r9 r10 r11 r12 hcond
       generalize wr.alloc (.cells #[.string nm,.bool p1,.slice a1 n1 k1',.slice d1 m1 l1,.bool true,.bool p2,.slice a2 n2 k2',.slice d2 m2 l2,.bool false,.bool p3,.slice a3 n3 k3',.slice d3 m3 l3,.bool wh] 56) = W2 at *
       try rw [← hva']
       clear hva'
       go_wp2
       go_roundw
       case rel=>first | exact ⟨j + 1,_,_,_,_,by omega,by go_num,RU,EMN,HCN,KUW⟩ | ((repeat apply Exists.intro);refine ⟨?_,rfl⟩;exact ⟨j + 1,_,_,_,_,by omega,by go_num,RU,EMN,HCN,KUW⟩)
       case measure=>simp [intOf];omega
      ·go_wp2_with fail
       have hcond:((Q.V j).hlo && (Q.V j).hhi) = true:=by rw [← HE.out.1,← HE.out.2];rfl
       clear r0 r1 r2 r3 r4 r5 r6 r7 r8 r9 r10 r11 r12 RW
       rw [hsa0] at RU
       generalize wr.alloc (.cells #[.string nm,.bool p1,.slice a1 n1 k1',.slice d1 m1 l1,.bool true,.bool p2,.slice a2 n2 k2',.slice d2 m2 l2,.bool true,.bool p3,.slice a3 n3 k3',.slice d3 m3 l3,.bool wh] 56) = W2 at *
       have RS0:=RU.below (bel_d1 W2)
       have VB0:=VBU.below (bel_d1 W2)
       have KW0:=kx_of (R:=R) (F:=F) (L:=[67,79]) (bel_d1 W2) (by omega)
       have hs0:W2.heap.size≤W2.drew.heap.size:=(bel_d1 W2).size
       have SQ0:=SQU.below (bel_d1 W2)
       have EM0:=EMU.kx (kx_of (R:=R) (F:=F) (L:=[]) (bel_d1 W2) (by omega)) (by simp) (by simp) (by simp)
       have GL0:=GLU.below (bel_d1 W2)
       have GH0:=GHU.below (bel_d1 W2)
       have HT0:=HTU.below (bel_d1 W2)
       have hg0:=kept_c (bel_d1 W2) hgU
       have hcF:(W2.drew.cell? ⟨R,0,none⟩ = some (.slice (some ⟨g,0,none⟩) Q.vn sc)∧W2.drew.cell? ⟨g,j * 5,none⟩ = some (.int .i64 (clm Q.V j:Nat))∧W2.drew.cell? ⟨wr.heap.size,5,none⟩ = some (.bool p2)∧W2.drew.cell? ⟨wr.heap.size,6,none⟩ = some (.slice a2 n2 k2')∧W2.drew.cell? ⟨wr.heap.size,7,none⟩ = some (.slice d2 m2 l2)∧W2.drew.cell? ⟨wr.heap.size,9,none⟩ = some (.bool p3)∧W2.drew.cell? ⟨wr.heap.size,10,none⟩ = some (.slice a3 n3 k3')∧W2.drew.cell? ⟨wr.heap.size,11,none⟩ = some (.slice d3 m3 l3)):=⟨(RS0.cell 0).trans rfl,hg0,(VB0.cell 5).trans rfl,(VB0.cell 6).trans rfl,(VB0.cell 7).trans rfl,(VB0.cell 9).trans rfl,(VB0.cell 10).trans rfl,(VB0.cell 11).trans rfl⟩
       have HF0:=hcF
       clear hcF
       refine wp_region_noPanic (wp_region_guard (fun _ w'=>w'.cell? ⟨R,0,none⟩ = some (.slice (some ⟨g,0,none⟩) Q.vn sc)∧w'.cell? ⟨g,j * 5,none⟩ = some (.int .i64 (clm Q.V j:Nat))∧w'.cell? ⟨wr.heap.size,5,none⟩ = some (.bool p2)∧w'.cell? ⟨wr.heap.size,6,none⟩ = some (.slice a2 n2 k2')∧w'.cell? ⟨wr.heap.size,7,none⟩ = some (.slice d2 m2 l2)∧w'.cell? ⟨wr.heap.size,9,none⟩ = some (.bool p3)∧w'.cell? ⟨wr.heap.size,10,none⟩ = some (.slice a3 n3 k3')∧w'.cell? ⟨wr.heap.size,11,none⟩ = some (.slice d3 m3 l3)) (by as_aux_lemma=>kernel_rfl) ?_)
       have hc0:(W2.drew.cell? ⟨R,0,none⟩ = some (.slice (some ⟨g,0,none⟩) Q.vn sc)∧W2.drew.cell? ⟨g,j * 5,none⟩ = some (.int .i64 (clm Q.V j:Nat))∧W2.drew.cell? ⟨wr.heap.size,5,none⟩ = some (.bool p2)∧W2.drew.cell? ⟨wr.heap.size,6,none⟩ = some (.slice a2 n2 k2')∧W2.drew.cell? ⟨wr.heap.size,7,none⟩ = some (.slice d2 m2 l2)∧W2.drew.cell? ⟨wr.heap.size,9,none⟩ = some (.bool p3)∧W2.drew.cell? ⟨wr.heap.size,10,none⟩ = some (.slice a3 n3 k3')∧W2.drew.cell? ⟨wr.heap.size,11,none⟩ = some (.slice d3 m3 l3)):=HF0
       generalize W2.drew = z0 at *
       refine wpAnyG.take 0 (v:=.pointer (some ⟨R,0,none⟩)) (by decide) (by as_aux_lemma=>kernel_rfl) (fun _ _ _ h=>h) 15 _ (by rfl) (fun _ _=>Iff.rfl) (fun _ _ _ h=>h) (by as_aux_lemma=>kernel_rfl) (by as_aux_lemma=>kernel_rfl) (by as_aux_lemma=>kernel_rfl) (by rfl) ?y0 ((fun _ h=>h) _ hc0) (by rfl) ?_
       case y0 =>
        rintro w' ⟨q0,q1,q2,q3,q4,q5,q6,q7⟩
        simp only [lgA,lgZ]
        go_simp
       simp only [lgA,lgZ,Act.put,lsA,lsZ,lsS]
       refine wpAnyG.take 1 (v:=.pointer (some ⟨R,0,none⟩)) (by decide) (by as_aux_lemma=>kernel_rfl) (fun _ _ _ h=>h) 2 _ (by rfl) (fun _ _=>Iff.rfl) (fun _ _ _ h=>h) (by as_aux_lemma=>kernel_rfl) (by as_aux_lemma=>kernel_rfl) (by as_aux_lemma=>kernel_rfl) (by rfl) ?y1 ((fun _ h=>h) _ hc0) (by rfl) ?_
       case y1 =>
        rintro w' ⟨q0,q1,q2,q3,q4,q5,q6,q7⟩
        simp only [lgA,lgZ,lgS]
        go_simp
       simp only [lgA,lgZ,lgS,Act.put,lsA,lsZ,lsS]
       refine wpAnyG.take 2 (v:=.pointer (some ⟨R,0,none⟩)) (by decide) (by as_aux_lemma=>kernel_rfl) (fun _ _ _ h=>h) 3 _ (by rfl) (fun _ _=>Iff.rfl) (fun _ _ _ h=>h) (by as_aux_lemma=>kernel_rfl) (by as_aux_lemma=>kernel_rfl) (by as_aux_lemma=>kernel_rfl) (by rfl) ?y2 ((fun _ h=>h) _ hc0) (by rfl) ?_
       case y2 =>
        rintro w' ⟨q0,q1,q2,q3,q4,q5,q6,q7⟩
        simp only [lgA,lgZ,lgS]
        go_simp
       simp only [lgA,lgZ,lgS,Act.put,lsA,lsZ,lsS]
       refine wpAnyG.take 3 (v:=.pointer (some ⟨R,0,none⟩)) (by decide) (by as_aux_lemma=>kernel_rfl) (fun _ _ _ h=>h) 4 _ (by rfl) (fun _ _=>Iff.rfl) (fun _ _ _ h=>h) (by as_aux_lemma=>kernel_rfl) (by as_aux_lemma=>kernel_rfl) (by as_aux_lemma=>kernel_rfl) (by rfl) ?y3 ((fun _ h=>h) _ hc0) (by rfl) ?_
       case y3 =>
        rintro w' ⟨q0,q1,q2,q3,q4,q5,q6,q7⟩
        simp only [lgA,lgZ,lgS]
        go_simp
       simp only [lgA,lgZ,lgS,Act.put,lsA,lsZ,lsS]
       refine wpAnyG.take 4 (v:=.slice (some ⟨g,0,none⟩) Q.vn sc) (by decide) (by as_aux_lemma=>kernel_rfl) (fun _ _ _ h=>h) 6 _ (by rfl) (fun _ _=>Iff.rfl) (fun _ _ _ h=>h) (by as_aux_lemma=>kernel_rfl) (by as_aux_lemma=>kernel_rfl) (by as_aux_lemma=>kernel_rfl) (by rfl) ?y4 ((fun _ h=>h) _ hc0) (by rfl) ?_
       case y4 =>
        rintro w' ⟨q0,q1,q2,q3,q4,q5,q6,q7⟩
        simp only [lgA,lgZ,lgS]
        go_simp
       simp only [lgA,lgZ,lgS,Act.put,lsA,lsZ,lsS]
       refine wpAnyG.take 5 (v:=.int .i64 (j:Int)) (by decide) (by as_aux_lemma=>kernel_rfl) (fun _ _ _ h=>h) 6 _ (by rfl) (fun _ _=>Iff.rfl) (fun _ _ _ h=>h) (by as_aux_lemma=>kernel_rfl) (by as_aux_lemma=>kernel_rfl) (by as_aux_lemma=>kernel_rfl) (by rfl) ?y5 ((fun _ h=>h) _ hc0) (by rfl) ?_
       case y5 =>
        rintro w' ⟨q0,q1,q2,q3,q4,q5,q6,q7⟩
        simp only [lgA,lgZ,lgS]
        go_simp
       simp only [lgA,lgZ,lgS,Act.put,lsA,lsZ,lsS]
       refine wpAnyG.take 6 (v:=.pointer (some ⟨g,j * 5,none⟩)) (by decide) (by as_aux_lemma=>kernel_rfl) (fun _ _ _ h=>h) 7 _ (by rfl) (fun _ _=>Iff.rfl) (fun _ _ _ h=>h) (by as_aux_lemma=>kernel_rfl) (by as_aux_lemma=>kernel_rfl) (by as_aux_lemma=>kernel_rfl) (by rfl) ?y6 ((fun _ h=>h) _ hc0) (by rfl) ?_
       case y6 =>
        rintro w' ⟨q0,q1,q2,q3,q4,q5,q6,q7⟩
        simp only [lgA,lgZ,lgS]
        go_simp
       simp only [lgA,lgZ,lgS,Act.put,lsA,lsZ,lsS]
       refine wpAnyG.take 7 (v:=.pointer (some ⟨g,j * 5,none⟩)) (by decide) (by as_aux_lemma=>kernel_rfl) (fun _ _ _ h=>h) 8 _ (by rfl) (fun _ _=>Iff.rfl) (fun _ _ _ h=>h) (by as_aux_lemma=>kernel_rfl) (by as_aux_lemma=>kernel_rfl) (by as_aux_lemma=>kernel_rfl) (by rfl) ?y7 ((fun _ h=>h) _ hc0) (by rfl) ?_
       case y7 =>
        rintro w' ⟨q0,q1,q2,q3,q4,q5,q6,q7⟩
        simp only [lgA,lgZ,lgS]
        go_simp
       simp only [lgA,lgZ,lgS,Act.put,lsA,lsZ,lsS]
       refine wpAnyG.take 8 (v:=.int .i64 (clm Q.V j:Nat)) (by decide) (by as_aux_lemma=>kernel_rfl) (fun _ _ _ h=>h) 15 _ (by rfl) (fun _ _=>Iff.rfl) (fun _ _ _ h=>h) (by as_aux_lemma=>kernel_rfl) (by as_aux_lemma=>kernel_rfl) (by as_aux_lemma=>kernel_rfl) (by rfl) ?y8 ((fun _ h=>h) _ hc0) (by rfl) ?_
       case y8 =>
        rintro w' ⟨q0,q1,q2,q3,q4,q5,q6,q7⟩
        simp only [lgA,lgZ,lgS]
        go_simp
       simp only [lgA,lgZ,lgS,Act.put,lsA,lsZ,lsS]
       refine wpAnyG.take 9 (v:=.pointer (some ⟨wr.heap.size,4,none⟩)) (by decide) (by as_aux_lemma=>kernel_rfl) (fun _ _ _ h=>h) 10 _ (by rfl) (fun _ _=>Iff.rfl) (fun _ _ _ h=>h) (by as_aux_lemma=>kernel_rfl) (by as_aux_lemma=>kernel_rfl) (by as_aux_lemma=>kernel_rfl) (by rfl) ?y9 ((fun _ h=>h) _ hc0) (by rfl) ?_
       case y9 =>
        rintro w' ⟨q0,q1,q2,q3,q4,q5,q6,q7⟩
        simp only [lgA,lgZ,lgS]
        go_simp
       simp only [lgA,lgZ,lgS,Act.put,lsA,lsZ,lsS]
       refine wpAnyG.take 10 (v:=.pointer (some ⟨wr.heap.size,5,none⟩)) (by decide) (by as_aux_lemma=>kernel_rfl) (fun _ _ _ h=>h) 11 _ (by rfl) (fun _ _=>Iff.rfl) (fun _ _ _ h=>h) (by as_aux_lemma=>kernel_rfl) (by as_aux_lemma=>kernel_rfl) (by as_aux_lemma=>kernel_rfl) (by rfl) ?y10 ((fun _ h=>h) _ hc0) (by rfl) ?_
       case y10 =>
        rintro w' ⟨q0,q1,q2,q3,q4,q5,q6,q7⟩
        simp only [lgA,lgZ,lgS]
        go_simp
       simp only [lgA,lgZ,lgS,Act.put,lsA,lsZ,lsS]
       refine wpAnyG.take 11 (v:=.agg #[.bool p2,.slice a2 n2 k2',.slice d2 m2 l2]) (by decide) (by as_aux_lemma=>kernel_rfl) (fun _ _ _ h=>h) 15 _ (by rfl) (fun _ _=>Iff.rfl) (fun _ _ _ h=>h) (by as_aux_lemma=>kernel_rfl) (by as_aux_lemma=>kernel_rfl) (by as_aux_lemma=>kernel_rfl) (by rfl) ?y11 ((fun _ h=>h) _ hc0) (by rfl) ?_
       case y11 =>
        rintro w' ⟨q0,q1,q2,q3,q4,q5,q6,q7⟩
        simp only [lgA,lgZ,lgS]
        go_simp
       simp only [lgA,lgZ,lgS,Act.put,lsA,lsZ,lsS]
       refine wpAnyG.take 12 (v:=.pointer (some ⟨wr.heap.size,8,none⟩)) (by decide) (by as_aux_lemma=>kernel_rfl) (fun _ _ _ h=>h) 13 _ (by rfl) (fun _ _=>Iff.rfl) (fun _ _ _ h=>h) (by as_aux_lemma=>kernel_rfl) (by as_aux_lemma=>kernel_rfl) (by as_aux_lemma=>kernel_rfl) (by rfl) ?y12 ((fun _ h=>h) _ hc0) (by rfl) ?_
       case y12 =>
        rintro w' ⟨q0,q1,q2,q3,q4,q5,q6,q7⟩
        simp only [lgA,lgZ,lgS]
        go_simp
       simp only [lgA,lgZ,lgS,Act.put,lsA,lsZ,lsS]
       refine wpAnyG.take 13 (v:=.pointer (some ⟨wr.heap.size,9,none⟩)) (by decide) (by as_aux_lemma=>kernel_rfl) (fun _ _ _ h=>h) 14 _ (by rfl) (fun _ _=>Iff.rfl) (fun _ _ _ h=>h) (by as_aux_lemma=>kernel_rfl) (by as_aux_lemma=>kernel_rfl) (by as_aux_lemma=>kernel_rfl) (by rfl) ?y13 ((fun _ h=>h) _ hc0) (by rfl) ?_
       case y13 =>
        rintro w' ⟨q0,q1,q2,q3,q4,q5,q6,q7⟩
        simp only [lgA,lgZ,lgS]
        go_simp
       simp only [lgA,lgZ,lgS,Act.put,lsA,lsZ,lsS]
       refine wpAnyG.take 14 (v:=.agg #[.bool p3,.slice a3 n3 k3',.slice d3 m3 l3]) (by decide) (by as_aux_lemma=>kernel_rfl) (fun _ _ _ h=>h) 15 _ (by rfl) (fun _ _=>Iff.rfl) (fun _ _ _ h=>h) (by as_aux_lemma=>kernel_rfl) (by as_aux_lemma=>kernel_rfl) (by as_aux_lemma=>kernel_rfl) (by rfl) ?y14 ((fun _ h=>h) _ hc0) (by rfl) ?_
       case y14 =>
        rintro w' ⟨q0,q1,q2,q3,q4,q5,q6,q7⟩
        simp only [lgA,lgZ,lgS]
        go_simp
       simp only [lgA,lgZ,lgS,Act.put,lsA,lsZ,lsS]
       refine wpAnyG.one 15 (by as_aux_lemma=>kernel_rfl) (by decide) (by rfl) (fun K hK=>?_)
       simp only [lgA,lgZ,lgS]
       go_simp
       refine (addWidQ (Sl:=(2 * Q.K + 3)) (clm Q.V j) z0 RS0 EM0 (by omega) GL0 GH0 ⟨by omega,by omega⟩ HZW.out (by omega) (by omega) (by omega) HT0).mono ?_
       rintro e z1 ⟨rfl,ea1,ec1,RS1,EM1,K1⟩
       have VB1:=VB0.kxh K1 (by decide)
       have hg1:z1.cell? ⟨g,j * 5,none⟩ = some (.int .i64 (clm Q.V j:Nat)):=by
        have:=(((SQ0.kxl K1 (by decide) (by decide)).at2 hlt hsa0))
        exact this
       have hcF:(z1.cell? ⟨R,0,none⟩ = some (.slice (some ⟨g,0,none⟩) Q.vn sc)∧z1.cell? ⟨g,j * 5,none⟩ = some (.int .i64 (clm Q.V j:Nat))∧z1.cell? ⟨wr.heap.size,5,none⟩ = some (.bool p2)∧z1.cell? ⟨wr.heap.size,6,none⟩ = some (.slice a2 n2 k2')∧z1.cell? ⟨wr.heap.size,7,none⟩ = some (.slice d2 m2 l2)∧z1.cell? ⟨wr.heap.size,9,none⟩ = some (.bool p3)∧z1.cell? ⟨wr.heap.size,10,none⟩ = some (.slice a3 n3 k3')∧z1.cell? ⟨wr.heap.size,11,none⟩ = some (.slice d3 m3 l3)):=⟨(RS1.cell 0).trans rfl,hg1,(VB1.cell 5).trans rfl,(VB1.cell 6).trans rfl,(VB1.cell 7).trans rfl,(VB1.cell 9).trans rfl,(VB1.cell 10).trans rfl,(VB1.cell 11).trans rfl⟩
       have hc1:=hcF
       clear hcF
       dsimp only
       refine hK _ _ ((fun _ h=>h) _ hc1) ?_
       clear hK K
       refine wpAnyG.done (by as_aux_lemma=>kernel_rfl) (NoPanic.normal ?_)
       have hs1:=K1.size
       have EMN:EM z1 F (.slice ea1 (em2 + 1) ec1) (varsE Q.V (rowsE Q.V Q.R (fun i=>cv (Q.R i) (fun j=>vbs (Q.V j)) Q.vn) Q.vn Q.rn) (j + 1)).1 (2 * Q.K + 3):=by
        unfold varsE
        rw [hcond]
        show EM z1 F _ (((varsE Q.V (rowsE Q.V Q.R (fun i=>cv (Q.R i) (fun j=>vbs (Q.V j)) Q.vn) Q.vn Q.rn) j)).1 ++ [⟨[⟨(clm Q.V j:Nat),1⟩,⟨(((varsE Q.V (rowsE Q.V Q.R (fun i=>cv (Q.R i) (fun j=>vbs (Q.V j)) Q.vn) Q.vn Q.rn) j)).2:Nat),1⟩],(Q.V j).hi - (Q.V j).lo⟩]) _
        rw [← HC2.out]
        exact EM1
       have HCN:Hid (c2 + 1 = (varsE Q.V (rowsE Q.V Q.R (fun i=>cv (Q.R i) (fun j=>vbs (Q.V j)) Q.vn) Q.vn Q.rn) (j + 1)).2):=by
        show c2 + 1 = _
        unfold varsE
        rw [hcond,HC2.out]
        rfl
       have KF:=KUW.trans ((KW0.trans K1).up (by simp))
       rw [← hsa0] at RS1
       clear RS0 VB0 KW0 SQ0 EM0 GL0 GH0 HT0 hg0 HF0 VB1 hg1 hc0 hc1 EM1 K1 RU VBU SQU EMU GLU GHU HTU KUW hgU HZW hcond
       try rw [← hva']
       clear hva'
       go_wp2
       go_roundw
       case rel=>first | exact ⟨j + 1,_,_,_,_,by omega,by go_num,RS1,EMN,HCN,KF⟩ | ((repeat apply Exists.intro);refine ⟨?_,rfl⟩;exact ⟨j + 1,_,_,_,_,by omega,by go_num,RS1,EMN,HCN,KF⟩)
       case measure=>simp [intOf];omega
    ·obtain rfl:j = Q.vn:=by omega
     have hkI:¬ (Q.vn:Int) < (Q.vn:Int):=by omega
     go_wp2
     go_ret
     exact ⟨R,rfl,Q,HTID.out,HPQ.out.below hbw2,⟨F,sa,sc,csv,k1,k2,k3,_,c2,_,hRF,RW,SQr,TM7.kx KU (by decide) (by decide),K37.kx KU (by decide),EMj,HC2.out⟩,hb2.trans (hbw2.mono hsw2)⟩
structure RX (w:World) (B g N n:Nat) (X:Nat→Rat) (S:Nat):Prop where
 blk:∃ cur,w.heap[g]? = some (.cells cur 27 (0,0))∧cur.size = N * 3
 lo:B≤g
 el:∀ i,i < n→∃ p a na ca d nd cd,w.cell? ⟨g,i * 3,none⟩ = some (.bool p)∧w.cell? ⟨g,i * 3 + 1,none⟩ = some (.slice a na ca)∧w.cell? ⟨g,i * 3 + 2,none⟩ = some (.slice d nd cd)∧GR w 0 p a na ca d nd cd (X i) S
theorem RX.lt {w:World} {B g N n:Nat} {X:Nat→Rat} {S:Nat} (h:RX w B g N n X S):g < w.heap.size:=by
 obtain ⟨cur,h1,_⟩:=h.blk
 exact (Array.getElem?_eq_some_iff.1 h1).1
theorem RX.below {w w':World} {B g N n:Nat} {X:Nat→Rat} {S:Nat} (h:RX w B g N n X S) (hb:Below w.heap.size w w'):RX w' B g N n X S:=by
 have hg:=h.lt
 obtain ⟨cur,h1,h2⟩:=h.blk
 refine ⟨⟨cur,(hb.block g hg).trans h1,h2⟩,h.lo,fun i hi=>?_⟩
 obtain ⟨p,a,na,ca,d,nd,cd,e1,e2,e3,e4⟩:=h.el i hi
 exact ⟨p,a,na,ca,d,nd,cd,kept_c hb e1,kept_c hb e2,kept_c hb e3,e4.below hb⟩
theorem RX.congr {w:World} {B g N n:Nat} {X Y:Nat→Rat} {S:Nat} (h:RX w B g N n X S) (e:∀ i,i < n→X i = Y i):RX w B g N n Y S :=
 ⟨h.blk,h.lo,fun i hi=>by rw [← e i hi];exact h.el i hi⟩
theorem RX.three {w:World} {B g N n:Nat} {X:Nat→Rat} {S:Nat} (h:RX w B g N n X S) {i:Nat} (hi:i < N):∃ u0 u1 u2,w.cell? ⟨g,i * 3,none⟩ = some u0∧w.cell? ⟨g,i * 3 + 1,none⟩ = some u1∧w.cell? ⟨g,i * 3 + 2,none⟩ = some u2∧w.frozen? ⟨g,i * 3,none⟩ = false∧w.frozen? ⟨g,i * 3 + 1,none⟩ = false∧w.frozen? ⟨g,i * 3 + 2,none⟩ = false :=
 (RV.mk (w:=w) (B:=B) (g:=g) (N:=N) (n:=0) (X:=X) (S:=S) h.blk h.lo (fun i hi=>by omega)).three hi
theorem RX.put {w:World} {B g N n m:Nat} {X Y:Nat→Rat} {S:Nat} (h:RX w B g N n X S) {i:Nat} (hi:i < N) {p:Bool} {a:Option Addr} {na ca:Nat} {d:Option Addr} {nd cd:Nat} {r:Rat} (he:GR w 0 p a na ca d nd cd r S)
  (hm:∀ q,q < m→q = i∧Y q = r∨q ≠ i∧q < n∧Y q = X q) :
  RX (((w.setCell ⟨g,i * 3,none⟩ (.bool p)).setCell ⟨g,i * 3 + 1,none⟩ (.slice a na ca)).setCell ⟨g,i * 3 + 2,none⟩ (.slice d nd cd)) B g N m Y S∧Off g w (((w.setCell ⟨g,i * 3,none⟩ (.bool p)).setCell ⟨g,i * 3 + 1,none⟩ (.slice a na ca)).setCell ⟨g,i * 3 + 2,none⟩ (.slice d nd cd)):=by
 have O:Off g w (((w.setCell ⟨g,i * 3,none⟩ (.bool p)).setCell ⟨g,i * 3 + 1,none⟩ (.slice a na ca)).setCell ⟨g,i * 3 + 2,none⟩ (.slice d nd cd)):=(((Off.refl _ _).set (i * 3) _).set (i * 3 + 1) _).set (i * 3 + 2) _
 obtain ⟨u0,u1,u2,c0,c1,c2,_⟩:=h.three hi
 obtain ⟨cur,h1,h2⟩:=h.blk
 have nw:NoW w (some g):=fun k e=>by cases e;exact ⟨cur,27,h1,by decide⟩
 refine ⟨⟨⟨_,heap_setCell_same _ g _ _ _ _ (heap_setCell_same _ g _ _ _ _ (heap_setCell_same w g _ cur _ _ h1)),by simpa using h2⟩,h.lo,fun q hq=>?_⟩,O⟩
 rcases hm q hq with ⟨rfl,e⟩ | ⟨hne,hlt,e⟩
 ·refine ⟨p,a,na,ca,d,nd,cd,?_,?_,?_,by rw [e];exact he.keep nw O.grown⟩
  ·rw [World.cell?_setCell_other _ _ _ _ (by simp),World.cell?_setCell_other _ _ _ _ (by simp),World.cell?_setCell_same _ _ _ c0]
  ·rw [World.cell?_setCell_other _ _ _ _ (by simp),World.cell?_setCell_same _ _ _ ((World.cell?_setCell_other _ _ _ _ (by simp)).trans c1)]
  ·rw [World.cell?_setCell_same _ _ _ ((World.cell?_setCell_other _ _ _ _ (by simp)).trans ((World.cell?_setCell_other _ _ _ _ (by simp)).trans c2))]
 ·obtain ⟨p',a',na',ca',d',nd',cd',e1,e2,e3,e4⟩:=h.el q hlt
  refine ⟨p',a',na',ca',d',nd',cd',?_,?_,?_,by rw [e];exact e4.keep nw O.grown⟩
  ·rw [World.cell?_setCell_other _ _ _ _ (by simp <;> omega),World.cell?_setCell_other _ _ _ _ (by simp <;> omega),World.cell?_setCell_other _ _ _ _ (by simp <;> omega)];exact e1
  ·rw [World.cell?_setCell_other _ _ _ _ (by simp <;> omega),World.cell?_setCell_other _ _ _ _ (by simp <;> omega),World.cell?_setCell_other _ _ _ _ (by simp <;> omega)];exact e2
  ·rw [World.cell?_setCell_other _ _ _ _ (by simp <;> omega),World.cell?_setCell_other _ _ _ _ (by simp <;> omega),World.cell?_setCell_other _ _ _ _ (by simp <;> omega)];exact e3
theorem RX.rl {w:World} {B g N:Nat} {X:Nat→Rat} {S:Nat} (h:RX w B g N N X S) (hN:N≤100000000):RL w 0 (.slice (some ⟨g,0,none⟩) N N) N X S:=by
 obtain ⟨cur,h1,h2⟩:=h.blk
 have hc:∀ k u,w.cell? ⟨g,k,none⟩ = some u→cur.toList[k]? = some u:=fun k u hu=>by
  rw [cell_of_row w g k cur _ (0,0) h1] at hu
  simpa using hu
 refine ⟨cur.toList,⟨by simpa using h2,.inr ⟨g,N,cur,rfl,Nat.zero_le _,h1,Nat.le_refl _,by unfold maxLen;omega,h2,by rw [← h2,← Array.length_toList,List.take_length]⟩⟩,fun i hi=>?_⟩
 obtain ⟨p,a,na,ca,d,nd,cd,e1,e2,e3,e4⟩:=h.el i hi
 exact ⟨p,a,na,ca,d,nd,cd,hc _ _ e1,hc _ _ e2,hc _ _ e3,e4⟩
theorem TM.at {w:World} {B:Nat} {ta:Option Addr} {m tc:Nat} {l:List PT} {S:Nat} (h:TM w B (.slice ta m tc) l S) {i:Nat} (hi:i < l.length):∃ g p a na ca d nd cd,ta = some ⟨g,0,none⟩∧w.cell? ⟨g,i * 4,none⟩ = some (.int .i64 (l.getD i ⟨0,0⟩).var)∧w.cell? ⟨g,i * 4 + 1,none⟩ = some (.bool p)∧w.cell? ⟨g,i * 4 + 2,none⟩ = some (.slice a na ca)∧w.cell? ⟨g,i * 4 + 3,none⟩ = some (.slice d nd cd)∧GR w 0 p a na ca d nd cd (l.getD i ⟨0,0⟩).coef S∧l.getD i ⟨0,0⟩ ∈ l:=by
 obtain ⟨E,h1,h2⟩:=h
 have hl:l[i]? = some (l.getD i ⟨0,0⟩):=by rw [List.getD_eq_getElem?_getD,List.getElem?_eq_getElem hi];rfl
 rcases h1.cell with h0 | ⟨g,e,hc⟩
 ·omega
 obtain ⟨p,a,na,ca,d,nd,cd,e2,g2⟩:=h2 i _ hl
 have hk:=hc i hi
 rw [e2] at hk
 exact ⟨g,p,a,na,ca,d,nd,cd,e,by simpa using hk 0 _ rfl,hk 1 _ rfl,hk 2 _ rfl,hk 3 _ rfl,g2,List.mem_of_getElem? hl⟩
set_option maxRecDepth 100000 in
set_option maxHeartbeats 8000000 in
theorem spreadQ {R B n S:Nat} {a0' a1' a2' a3' a4' a5' a7':Value} {ta:Option Addr} {tm tc:Nat} {l:List PT} (w:World) (hr:Rw 67 w R #[a0',a1',a2',a3',a4',a5',.int .i64 (n:Nat),a7']) (hl:TM w B (.slice ta tm tc) l S) (hin:∀ t ∈ l,0≤t.var∧t.var < (n:Int)) (hn:n≤100000000) (htm:tm≤100000000) (hS7:S≤7000000) (hS1:1≤S) (hT:TB w) :
  Calls Tryz.prog 31 #[.pointer (some ⟨R,0,none⟩),.slice ta tm tc] w fun e w'=>∃ g,e = .returned (.slice (some ⟨g,0,none⟩) n n)∧RX w' w.heap.size g n n (sprd l) S∧Below w.heap.size w w':=by
 have HTM:Hid (tm = l.length):=hl.len
 have HIN:Hid (∀ t ∈ l,0≤t.var∧t.var < (n:Int)):=hin
 have y6:=(hr.cell 6).trans (show _ = some (.int .i64 (n:Nat)) from rfl)
 clear hin
 go_enter Tryz.func31,Tryz.ntmps31
 go_wp2_with (refine wpList_makeV w rfl _ _ rfl n rfl rfl hn S ?_)
 intro w1 V0 hb1 hs1
 clear y6
 have X0:RX w1 w.heap.size w.heap.size n 0 (fun _=>0) S:=⟨V0.blk,V0.lo,fun i hi=>by omega⟩
 clear V0
 go_wp2_with fail
 go_loopw [16] (fun s wr=>∃ (j:Nat),j≤n∧s = .int .i64 j∧RX wr w.heap.size w.heap.size n j (fun _=>0) S∧Below w.heap.size w wr) (fun t _=>n - (intOf t).toNat)
 case atStart=>exact ⟨0,Nat.zero_le _,rfl,X0,hb1⟩
 case round =>
  clear X0 hb1 hs1
  obtain ⟨j,hj,rfl,V,hb⟩:=hrel
  by_cases hlt:j < n
  ·have hkI:(j:Int) < (n:Int):=by omega
   have hkI3:(j:Int) * 3 = ((j * 3:Nat):Int):=by omega
   go_wp2_with fail
   refine (ofQ 0 wr (by decide) (by decide)).mono ?_
   rintro e w2 ⟨f1,c1,n1,k1,d1,m1,l1,rfl,G1,hx⟩
   have V2:=V.below hx
   have hb2:=bel_tr hb hx
   obtain ⟨u0,u1,u2,c0,c1',c2,c3,c4,c5⟩:=V2.three hlt
   obtain ⟨V3,O⟩:=V2.put (m:=j + 1) (Y:=fun _=>0) hlt ((G1.mono (Nat.zero_le _)).le hS1) (fun q hq=>by
    rcases (by omega:q = j∨q < j) with rfl | h
    ·exact .inl ⟨rfl,rfl⟩
    ·exact .inr ⟨by omega,h,rfl⟩)
   have hb3:Below w.heap.size w _:=hb2.trans (O.below (Nat.le_refl _))
   clear V V2 hb hb2 hx G1 O
   go_wp2
   clear c0 c1' c2 c3 c4 c5
   go_roundw
   case rel=>first | exact ⟨j + 1,by omega,by go_num,V3,hb3⟩ | ((repeat apply Exists.intro);refine ⟨?_,rfl⟩;exact ⟨j + 1,by omega,by go_num,V3,hb3⟩)
   case measure=>simp [intOf];omega
  ·obtain rfl:j = n:=by omega
   have hkI:¬ (j:Int) < (j:Int):=by omega
   go_wp2_with fail
   replace V:=V.congr (Y:=sprI l 0) (fun _ _=>rfl)
   obtain ⟨wv,ewv⟩:∃ x,x = wr:=⟨_,rfl⟩
   subst ewv
   obtain ⟨n,en⟩:∃ n,n = j:=⟨_,rfl⟩
   subst en
   go_loopw [26] (fun s wr=>∃ (i:Nat),i≤tm∧s = .int .i64 i∧RX wr w.heap.size w.heap.size n n (sprI l i) S∧Below w.heap.size w wr) (fun t _=>tm - (intOf t).toNat)
   case atStart=>exact ⟨0,Nat.zero_le _,rfl,V,hb⟩
   case round =>
    clear V hb
    obtain ⟨i,hi,rfl,V,hb⟩:=hrel
    by_cases hlt:i < tm
    ·have hkI:(i:Int) < (tm:Int):=by omega
     have hkI4:(i:Int) * 4 = ((i * 4:Nat):Int):=by omega
     obtain ⟨tg,p,a,na,ca,d,nd,cd,hta,r0,r1,r2,r3,GC,hmem⟩:=(hl.below hb).at (i:=i) (by rw [← HTM.out];exact hlt)
     have hvi:=HIN.out _ hmem
     obtain ⟨v,ev⟩:∃ v:Nat,v = (l.getD i ⟨0,0⟩).var.toNat:=⟨_,rfl⟩
     have hvn:v < n:=by omega
     have hvI:(v:Int) < (n:Int):=by omega
     have hv0:¬ (v:Int) < 0:=by omega
     have hkI3:(v:Int) * 3 = ((v * 3:Nat):Int):=by omega
     have HVV:Hid ((l.getD i ⟨0,0⟩).var = (v:Int)):=by show (l.getD i ⟨0,0⟩).var = (v:Int);omega
     rw [HVV.out] at r0
     have hta':ta = some ⟨tg,0,none⟩:=hta
     clear hta hmem ev hvi
     have BU:=box_new wr #[.int .i64 (v:Nat),.bool p,.slice a na ca,.slice d nd cd] 58
     have hz:=bel_d0 wr (.cells #[.int .i64 (v:Nat),.bool p,.slice a na ca,.slice d nd cd] 58)
     have hsW:(wr.alloc (.cells #[.int .i64 (v:Nat),.bool p,.slice a na ca,.slice d nd cd] 58)).heap.size = wr.heap.size + 1:=by simp
     have hsw:=hb.size
     have VU:=V.below hz
     have HT2:=(hT.below hb).below hz
     replace GC:=GC.below hz
     have hb2:=bel_tr hb hz
     go_wp2_with fail
     clear r0 r1 r2 r3 hz V hb
     generalize wr.alloc (.cells #[.int .i64 (v:Nat),.bool p,.slice a na ca,.slice d nd cd] 58) = W2 at *
     have HBX:∀ w',Below W2.heap.size W2 w'→(w'.cell? ⟨wr.heap.size,0,none⟩ = some (.int .i64 (v:Nat))∧w'.cell? ⟨wr.heap.size,1,none⟩ = some (.bool p)∧w'.cell? ⟨wr.heap.size,2,none⟩ = some (.slice a na ca)∧w'.cell? ⟨wr.heap.size,3,none⟩ = some (.slice d nd cd)):=fun w' h=>⟨kept_c h (BU 0 _ rfl),kept_c h (BU 1 _ rfl),kept_c h (BU 2 _ rfl),kept_c h (BU 3 _ rfl)⟩
     refine wp_region_noPanic (wp_region_guardT 7 HBX (by as_aux_lemma=>kernel_rfl) ?_)
     have hc0:Below W2.heap.size W2 W2.drew:=bel_d1 _
     generalize W2.drew = z0 at *
     refine wpAnyG.tT 0 (v:=.slice (some ⟨w.heap.size,0,none⟩) n n) (by decide) 7 (by as_aux_lemma=>kernel_rfl) (by rfl) ?y0 (HBX _ hc0) ?_
     case y0 =>
      rintro w' ⟨q0,q1,q2,q3⟩
      simp only [lgA,lgZ]
      go_simp
     simp only [lgA,lgZ,Act.put,lsA,lsZ,lsS]
     refine wpAnyG.tT 1 (v:=.pointer (some ⟨wr.heap.size,0,none⟩)) (by decide) 7 (by as_aux_lemma=>kernel_rfl) (by rfl) ?y1 (HBX _ hc0) ?_
     case y1 =>
      rintro w' ⟨q0,q1,q2,q3⟩
      simp only [lgA,lgZ,lgS]
      go_simp
     simp only [lgA,lgZ,lgS,Act.put,lsA,lsZ,lsS]
     refine wpAnyG.tT 2 (v:=.int .i64 (v:Nat)) (by decide) 7 (by as_aux_lemma=>kernel_rfl) (by rfl) ?y2 (HBX _ hc0) ?_
     case y2 =>
      rintro w' ⟨q0,q1,q2,q3⟩
      simp only [lgA,lgZ,lgS]
      go_simp
     simp only [lgA,lgZ,lgS,Act.put,lsA,lsZ,lsS]
     refine wpAnyG.tT 3 (v:=.pointer (some ⟨wr.heap.size,1,none⟩)) (by decide) 7 (by as_aux_lemma=>kernel_rfl) (by rfl) ?y3 (HBX _ hc0) ?_
     case y3 =>
      rintro w' ⟨q0,q1,q2,q3⟩
      simp only [lgA,lgZ,lgS]
      go_simp
     simp only [lgA,lgZ,lgS,Act.put,lsA,lsZ,lsS]
     refine wpAnyG.tT 4 (v:=.agg #[.bool p,.slice a na ca,.slice d nd cd]) (by decide) 7 (by as_aux_lemma=>kernel_rfl) (by rfl) ?y4 (HBX _ hc0) ?_
     case y4 =>
      rintro w' ⟨q0,q1,q2,q3⟩
      simp only [lgA,lgZ,lgS]
      go_simp
     simp only [lgA,lgZ,lgS,Act.put,lsA,lsZ,lsS]
     refine wpAnyG.one 5 (by as_aux_lemma=>kernel_rfl) (by decide) (by rfl) (fun K hK=>?_)
     simp only [lgA,lgZ,lgS]
     go_simp
     refine (normR z0 (GC.tr.below hc0) hS7 hS1 (HT2.below hc0)).mono ?_
     rintro e z1 ⟨f1,c1,n1,k1,d1,m1,l1,rfl,G1,hk1⟩
     have hc1:Below W2.heap.size W2 z1:=bel_tr hc0 hk1
     dsimp only
     refine hK _ _ ⟨fun _=>HBX _ hc1,fun _=>trivial⟩ ?_
     clear hK K
     refine wpAnyG.tT 6 (v:=.pointer (some ⟨w.heap.size,v * 3,none⟩)) (by decide) 7 (by as_aux_lemma=>kernel_rfl) (by rfl) ?y6 (HBX _ hc1) ?_
     case y6 =>
      rintro w' ⟨q0,q1,q2,q3⟩
      simp only [lgA,lgZ,lgS]
      go_simp
     simp only [lgA,lgZ,lgS,Act.put,lsA,lsZ,lsS]
     refine wpAnyG.one 7 (by as_aux_lemma=>kernel_rfl) (by decide) (by rfl) (fun K hK=>?_)
     simp only [lgA,lgZ,lgS]
     obtain ⟨u0,u1,u2,c0,c1',c2,c3,c4,c5⟩:=(VU.below hc1).three hvn
     obtain ⟨V2,O⟩:=(VU.below hc1).put (m:=n) (Y:=sprI l (i + 1)) hvn (G1.mono (Nat.zero_le _)) (fun q hq=>by
      show q = v∧(if (q:Int) = (l.getD i ⟨0,0⟩).var then (l.getD i ⟨0,0⟩).coef else sprI l i q) = _∨_
      by_cases e:q = v
      ·exact .inl ⟨e,if_pos (by rw [e];exact HVV.out.symm)⟩
      ·exact .inr ⟨e,hq,if_neg (fun h=>e (by have:=HVV.out;omega))⟩)
     go_simp
     refine hK _ _ ⟨fun h=>absurd h (by decide),fun _=>trivial⟩ ?_
     clear c0 c1' c2 c3 c4 c5
     clear hK K
     refine wpAnyG.done (by as_aux_lemma=>kernel_rfl) (NoPanic.normal ?_)
     have hbN:Below w.heap.size w _:=(bel_tr hb2 hc1).trans (O.below (Nat.le_refl _))
     clear HBX hc0 hc1 hk1 G1 VU BU HT2 GC O hb2
     try rw [← hta']
     clear hta'
     go_wp2
     go_roundw
     case rel=>first | exact ⟨i + 1,by omega,by go_num,V2,hbN⟩ | ((repeat apply Exists.intro);refine ⟨?_,rfl⟩;exact ⟨i + 1,by omega,by go_num,V2,hbN⟩)
     case measure=>simp [intOf];omega
    ·obtain rfl:i = tm:=by omega
     have hkI:¬ (i:Int) < (i:Int):=by omega
     have VF:RX wr w.heap.size w.heap.size n n (sprd l) S:=V.congr (fun q _=>by unfold sprd;rw [← HTM.out])
     go_wp2
     go_ret
     exact ⟨_,rfl,VF,hb⟩
end Go.Proofs.YtlfobaanbmfafaaGreatDoor
