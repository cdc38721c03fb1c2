import Derived.Test.YtceigfafmalfgaaGreatDoorMbDAll
namespace Go.Proofs.YtceigfafmalfgaaGreatDoor
open Go.RowKit Go.Maps
theorem run_store1 {w:World} {b o:Nat} {ty:TypeId} {v u:Value} (hv:v.cells = #[v]) (h1:v.oneCell'=true) (hi:(Tryz.prog.info? ty).map (·.size)=some 1) (hc:w.cell? ⟨b,o,none⟩=some u) (hf:w.frozen? ⟨b,o,none⟩=false):(storeVar ty ⟨b,o,none⟩ v).run Tryz.prog w = .ok () (w.setCell ⟨b,o,none⟩ v):=by
 have ht:w.there b o (#[v]:Array Value).size:=fun j hj=>by
  obtain rfl:j=0:=by have:j<1:=hj;omega
  exact ⟨by rw [Nat.add_zero,hc];rfl,hf⟩
 have h:=run_storeVar_mid (P:=Tryz.prog) w b o ty #[v] ht hi (by simp [h1])
 have e:storeVar ty ⟨b,o,none⟩ v=storeVar ty ⟨b,o,none⟩ (.agg #[v]):=by
  unfold storeVar
  rw [hv]
  rfl
 rw [e]
 exact h
theorem wpList_store1W {ops:Array Oper} {rest:List Oper} {op:Oper} {a:Act} {w:World} {Q:Exit→Act→World→Prop} (hgd:op.guard=none) (ty:TypeId) (x y:Operand) (ho:op.op = .store ty x y)
  (b o:Nat) (v:Value) (hx:a.eval x = .pointer (some ⟨b,o,none⟩)) (hy:a.eval y=v) (hv:v.cells = #[v]) (h1:v.oneCell'=true) (hi:(Tryz.prog.info? ty).map (·.size)=some 1) {u:Value} (hc:w.cell? ⟨b,o,none⟩=some u) (hf:w.frozen? ⟨b,o,none⟩=false) (W:World) (hW:Hid (W=w.setCell ⟨b,o,none⟩ v))
  (h:wpList Tryz.prog ops Q rest (a.put op.dst undef) W):wpList Tryz.prog ops Q (op::rest) a w :=
 wpList_plain hgd fun _ hK=>by
  unfold Oper.wp execOp
  simp only [ho,hx,hy,Instr.storeAt,Instr.sureAddr,Sem.run_bind,Sem.run_pure,Result.andThen_ok,run_store1 hv h1 hi hc hf]
  exact hK _ _ (hW.out ▸ h)
theorem SL.neS {w:World} {B B':Nat} {T U:TypeId} {c c':Nat} {v u:Value} {n m:Nat} {E E':Nat→List Value} (h:SL w B T c v n E) (k:SL w B' U c' u m E') (hT:T≠U):∀ g,v.ownBlock=some g→u.ownBlock≠some g:=by
 obtain ⟨vs,h1,_⟩:=h
 obtain ⟨us,k1,_⟩:=k
 exact row_neT h1 k1 hT
theorem sl_one {w:World} {B:Nat} {T:TypeId} {c:Nat} {a:List Value} (ha:a.length=c) (hB:B≤w.heap.size):SL (w.alloc (.cells a.toArray T)) B T c (.slice (some ⟨w.heap.size,0,none⟩) 1 1) 1 (fun _=>a):=by
 subst ha
 refine ⟨a,⟨by omega,.inr ⟨_,1,a.toArray,rfl,hB,heap_alloc_new _ _,Nat.le_refl _,by unfold maxLen;decide,by simp,?_⟩⟩,fun i hi j u hu=>?_⟩
 ·simp
 ·obtain rfl:i=0:=by omega
  have:=(List.getElem?_eq_some_iff.1 hu).1
  exact ⟨by omega,by rw [Nat.zero_mul,Nat.zero_add];exact hu⟩
theorem infItem:Inf 59 6 88:=inf_of (by kernel_rfl)
theorem infLimit:Inf 77 13 168:=inf_of (by kernel_rfl)
theorem infMention:Inf 79 3 32:=inf_of (by kernel_rfl)
theorem infClaim:Inf 61 12 184:=inf_of (by kernel_rfl)
def IQ (w0:World) (cs:List Value) (t:PI) (S:Nat):Prop:=∃ p a na ca d nd cd,cs=[.bool p,.slice a na ca,.slice d nd cd,.string t.nm,.int .i64 t.ln,.int .i64 t.cl]∧TR w0 p a na ca d nd cd t.coef S∧1≤S∧SzR t.coef S∧t.nm.size≤1000000000
def LmQ (w0:World) (cs:List Value) (t:PL) (S:Nat):Prop:=∃ p a na ca d nd cd p' a' na' ca' d' nd' cd',cs=[.string t.nm,.int .i64 t.ln,.int .i64 t.cl,.bool t.slo,.bool t.shi,.bool t.hlo,.bool p,.slice a na ca,.slice d nd cd,.bool t.hhi,.bool p',.slice a' na' ca',.slice d' nd' cd']∧TR w0 p a na ca d nd cd t.lo S∧TR w0 p' a' na' ca' d' nd' cd' t.hi S∧1≤S∧SzR t.lo S∧SzR t.hi S∧t.nm.size≤1000000000
def MnQ (cs:List Value) (t:PM):Prop:=cs=[.string t.nm,.int .i64 t.ln,.int .i64 t.cl]∧t.nm.size≤1000000000
def CmQ (w0 w:World) (B:Nat) (cs:List Value) (t:PC) (S:Nat):Prop:=∃ ia ic E Z p a na ca d nd cd p' a' na' ca' d' nd' cd',cs=[.string t.nm,.int .i64 t.ln,.int .i64 t.cl,.slice ia t.n ic,.bool t.hlo,.bool p,.slice a na ca,.slice d nd cd,.bool t.hhi,.bool p',.slice a' na' ca',.slice d' nd' cd']∧SL w B 59 6 (.slice ia t.n ic) t.n E∧(∀ q,q<t.n→IQ w0 (E q) (t.I q) (Z q))∧tot Z t.n≤S∧t.n≤ic∧TR w0 p a na ca d nd cd t.lo S∧TR w0 p' a' na' ca' d' nd' cd' t.hi S∧1≤S∧SzR t.lo S∧SzR t.hi S∧t.nm.size≤1000000000
theorem CmQ.below {w0 w w':World} {B:Nat} {cs:List Value} {t:PC} {S:Nat} (h:CmQ w0 w B cs t S) (hb:Below w.heap.size w w'):CmQ w0 w' B cs t S:=by
 obtain ⟨ia,ic,E,Z,p,a,na,ca,d,nd,cd,p',a',na',ca',d',nd',cd',e,h1,h2⟩:=h
 exact ⟨ia,ic,E,Z,p,a,na,ca,d,nd,cd,p',a',na',ca',d',nd',cd',e,h1.below hb,h2⟩
def NoI (w:World) (row:Option Nat):Prop:=∀ g,row=some g→∃ cur T,w.heap[g]? = some (.cells cur T (0,0))∧T≠59
theorem Rw.noI {t:TypeId} {w:World} {R:Nat} {cs:Array Value} (h:Rw t w R cs) (ht:t≠59):NoI w (some R):=fun g e=>by cases e;exact ⟨cs,t,h,ht⟩
theorem SL.noI {w:World} {B:Nat} {T:TypeId} {c:Nat} {v:Value} {n:Nat} {E:Nat→List Value} (h:SL w B T c v n E) (ht:T≠59):NoI w v.ownBlock:=fun g e=>by
 obtain ⟨cur,h1⟩:=h.cells g e
 exact ⟨cur,T,h1,ht⟩
theorem SL.ne_noI {w:World} {B:Nat} {c:Nat} {v:Value} {n:Nat} {E:Nat→List Value} (h:SL w B 59 c v n E) {row:Option Nat} (hn:NoI w row):∀ g,v.ownBlock=some g→row≠some g:=by
 intro g e1 e2
 obtain ⟨cur,T,f2,hT⟩:=hn g e2
 obtain ⟨cur',f1⟩:=h.cells g e1
 rw [f1] at f2
 simp only [Option.some.injEq,Obj.cells.injEq] at f2
 exact hT f2.2.1.symm
theorem CmQ.keep {w0 w w':World} {B:Nat} {cs:List Value} {t:PC} {S:Nat} (h:CmQ w0 w B cs t S) {row:Option Nat} (hn:NoI w row) (hg:w.grownBy w' row):CmQ w0 w' B cs t S:=by
 obtain ⟨ia,ic,E,Z,p,a,na,ca,d,nd,cd,p',a',na',ca',d',nd',cd',e,h1,h2⟩:=h
 exact ⟨ia,ic,E,Z,p,a,na,ca,d,nd,cd,p',a',na',ca',d',nd',cd',e,h1.kept hg (h1.ne_noI hn),h2⟩
def ziP (P:Prob) (j:Nat):Nat:=if j=0 then P.S else P.ZV (j-1)
def liP (P:Prob) (j:Nat):PL:=⟨(P.V j).nm,0,0,true,true,(P.V j).hlo,(P.V j).lo,(P.V j).hhi,(P.V j).hi⟩
def clP (P:Prob) (i:Nat):PC:=⟨(P.R i).nm,0,0,flt (okR P i) (P.R i).nt,itR P i,(P.R i).hlo,(P.R i).lo,(P.R i).hhi,(P.R i).hi⟩
structure TS (P:Prob) (w0 w:World) (B RT a b c n:Nat) (vI vL vM vC:Value):Prop where
 rw:Rw 43 w RT #[.bool P.mx,.string P.nm,vI,vC,vL,vM,.slice none 0 0]
 i:∃ E,SL w B 59 6 vI a E∧∀ q,q<a→IQ w0 (E q) (itP P q) (ziP P q)
 l:∃ E,SL w B 77 13 vL b E∧∀ q,q<b→LmQ w0 (E q) (liP P q) (P.ZV q)
 m:∃ E,SL w B 79 3 vM (flt (whP P) c) E∧∀ q,q<flt (whP P) c→MnQ (E q) ⟨(P.V (fxq (whP P) c q)).nm,0,0⟩
 c:∃ E,SL w B 61 12 vC n E∧∀ q,q<n→CmQ w0 w B (E q) (clP P q) (P.ZR q)
 lo:B≤RT
theorem TS.below {P:Prob} {w0 w w':World} {B RT a b c n:Nat} {vI vL vM vC:Value} (h:TS P w0 w B RT a b c n vI vL vM vC) (hb:Below w.heap.size w w'):TS P w0 w' B RT a b c n vI vL vM vC:=by
 obtain ⟨E1,h1,k1⟩:=h.i
 obtain ⟨E2,h2,k2⟩:=h.l
 obtain ⟨E3,h3,k3⟩:=h.m
 obtain ⟨E4,h4,k4⟩:=h.c
 exact ⟨h.rw.below hb,⟨E1,h1.below hb,k1⟩,⟨E2,h2.below hb,k2⟩,⟨E3,h3.below hb,k3⟩,⟨E4,h4.below hb,fun q hq=>(k4 q hq).below hb⟩,h.lo⟩
theorem TS.addI {P:Prob} {w0 z w':World} {B RT a b c n:Nat} {vI vL vM vC:Value} (h:TS P w0 z B RT a b c n vI vL vM vC) {E:Nat→List Value} (hS:SL z B 59 6 vI a E) (hE:∀ q,q<a→IQ w0 (E q) (itP P q) (ziP P q)) {g cap:Nat} {cs:List Value}
  (SN:SL w' B 59 6 (.slice (some ⟨g,0,none⟩) (a+1) cap) (a+1) (fun i=>if i<a then E i else cs)) (hg:z.grownBy w' vI.ownBlock) (hc:IQ w0 cs (itP P a) (ziP P a)) (hn:n=0) :
  TS P w0 (w'.setCell ⟨RT,2,none⟩ (.slice (some ⟨g,0,none⟩) (a+1) cap)) B RT (a+1) b c n (.slice (some ⟨g,0,none⟩) (a+1) cap) vL vM vC:=by
 subst hn
 have RZ:=h.rw.kept hg (hS.neR h.rw (by decide))
 obtain ⟨RN,O⟩:=RZ.set 2 (.slice (some ⟨g,0,none⟩) (a+1) cap)
 obtain ⟨E2,h2,k2⟩:=h.l
 obtain ⟨E3,h3,k3⟩:=h.m
 obtain ⟨E4,h4,k4⟩:=h.c
 have l2:=h2.kept hg (fun k e e2=>h2.neS hS (by decide) k e e2)
 have l3:=h3.kept hg (fun k e e2=>h3.neS hS (by decide) k e e2)
 have l4:=h4.kept hg (fun k e e2=>h4.neS hS (by decide) k e e2)
 refine ⟨by simpa using RN,⟨_,SN.kept O.grown (fun k e e2=>SN.neR RZ (by decide) (by rw [e];exact e2.symm)),fun q hq=>?_⟩,⟨E2,l2.kept O.grown (fun k e e2=>l2.neR RZ (by decide) (by rw [e];exact e2.symm)),k2⟩,⟨E3,l3.kept O.grown (fun k e e2=>l3.neR RZ (by decide) (by rw [e];exact e2.symm)),k3⟩,⟨E4,l4.kept O.grown (fun k e e2=>l4.neR RZ (by decide) (by rw [e];exact e2.symm)),fun q hq=>by omega⟩,h.lo⟩
 by_cases e:q<a
 ·simp only [e,if_true];exact hE q e
 ·obtain rfl:q=a:=by omega
  simp only [e,if_false];exact hc
theorem TS.addL {P:Prob} {w0 z w':World} {B RT a b c n:Nat} {vI vL vM vC:Value} (h:TS P w0 z B RT a b c n vI vL vM vC) {E:Nat→List Value} (hS:SL z B 77 13 vL b E) (hE:∀ q,q<b→LmQ w0 (E q) (liP P q) (P.ZV q)) {g cap:Nat} {cs:List Value}
  (SN:SL w' B 77 13 (.slice (some ⟨g,0,none⟩) (b+1) cap) (b+1) (fun i=>if i<b then E i else cs)) (hg:z.grownBy w' vL.ownBlock) (hc:LmQ w0 cs (liP P b) (P.ZV b)) :
  TS P w0 (w'.setCell ⟨RT,4,none⟩ (.slice (some ⟨g,0,none⟩) (b+1) cap)) B RT a (b+1) c n vI (.slice (some ⟨g,0,none⟩) (b+1) cap) vM vC:=by
 have RZ:=h.rw.kept hg (hS.neR h.rw (by decide))
 obtain ⟨RN,O⟩:=RZ.set 4 (.slice (some ⟨g,0,none⟩) (b+1) cap)
 obtain ⟨E2,h2,k2⟩:=h.i
 obtain ⟨E3,h3,k3⟩:=h.m
 obtain ⟨E4,h4,k4⟩:=h.c
 have l2:=h2.kept hg (fun k e e2=>h2.neS hS (by decide) k e e2)
 have l3:=h3.kept hg (fun k e e2=>h3.neS hS (by decide) k e e2)
 have l4:=h4.kept hg (fun k e e2=>h4.neS hS (by decide) k e e2)
 refine ⟨by simpa using RN,⟨E2,l2.kept O.grown (fun k e e2=>l2.neR RZ (by decide) (by rw [e];exact e2.symm)),k2⟩,⟨_,SN.kept O.grown (fun k e e2=>SN.neR RZ (by decide) (by rw [e];exact e2.symm)),fun q hq=>?_⟩,⟨E3,l3.kept O.grown (fun k e e2=>l3.neR RZ (by decide) (by rw [e];exact e2.symm)),k3⟩,⟨E4,l4.kept O.grown (fun k e e2=>l4.neR RZ (by decide) (by rw [e];exact e2.symm)),fun q hq=>((k4 q hq).keep (hS.noI (by decide)) hg).keep (RZ.noI (by decide)) O.grown⟩,h.lo⟩
 by_cases e:q<b
 ·simp only [e,if_true];exact hE q e
 ·obtain rfl:q=b:=by omega
  simp only [e,if_false];exact hc
theorem TS.addM {P:Prob} {w0 z w':World} {B RT a b c n:Nat} {vI vL vM vC:Value} (h:TS P w0 z B RT a b c n vI vL vM vC) {E:Nat→List Value} (hS:SL z B 79 3 vM (flt (whP P) c) E) (hE:∀ q,q<flt (whP P) c→MnQ (E q) ⟨(P.V (fxq (whP P) c q)).nm,0,0⟩) {g cap:Nat} {cs:List Value}
  (SN:SL w' B 79 3 (.slice (some ⟨g,0,none⟩) (flt (whP P) c+1) cap) (flt (whP P) c+1) (fun i=>if i<flt (whP P) c then E i else cs)) (hg:z.grownBy w' vM.ownBlock) (hc:MnQ cs ⟨(P.V c).nm,0,0⟩) (hw:whP P c=true) :
  TS P w0 (w'.setCell ⟨RT,5,none⟩ (.slice (some ⟨g,0,none⟩) (flt (whP P) c+1) cap)) B RT a b (c+1) n vI vL (.slice (some ⟨g,0,none⟩) (flt (whP P) c+1) cap) vC:=by
 have RZ:=h.rw.kept hg (hS.neR h.rw (by decide))
 obtain ⟨RN,O⟩:=RZ.set 5 (.slice (some ⟨g,0,none⟩) (flt (whP P) c+1) cap)
 obtain ⟨E2,h2,k2⟩:=h.i
 obtain ⟨E3,h3,k3⟩:=h.l
 obtain ⟨E4,h4,k4⟩:=h.c
 have l2:=h2.kept hg (fun k e e2=>h2.neS hS (by decide) k e e2)
 have l3:=h3.kept hg (fun k e e2=>h3.neS hS (by decide) k e e2)
 have l4:=h4.kept hg (fun k e e2=>h4.neS hS (by decide) k e e2)
 refine ⟨by simpa using RN,⟨E2,l2.kept O.grown (fun k e e2=>l2.neR RZ (by decide) (by rw [e];exact e2.symm)),k2⟩,⟨E3,l3.kept O.grown (fun k e e2=>l3.neR RZ (by decide) (by rw [e];exact e2.symm)),k3⟩,⟨_,by rw [flt_yes hw];exact SN.kept O.grown (fun k e e2=>SN.neR RZ (by decide) (by rw [e];exact e2.symm)),fun q hq=>?_⟩,⟨E4,l4.kept O.grown (fun k e e2=>l4.neR RZ (by decide) (by rw [e];exact e2.symm)),fun q hq=>((k4 q hq).keep (hS.noI (by decide)) hg).keep (RZ.noI (by decide)) O.grown⟩,h.lo⟩
 rw [flt_yes hw] at hq
 by_cases e:q<flt (whP P) c
 ·simp only [e,if_true];rw [fxq_old e];exact hE q e
 ·obtain rfl:q=flt (whP P) c:=by omega
  simp only [e,if_false];rw [fxq_new hw];exact hc
theorem TS.skipM {P:Prob} {w0 w:World} {B RT a b c n:Nat} {vI vL vM vC:Value} (h:TS P w0 w B RT a b c n vI vL vM vC) (hw:whP P c=false):TS P w0 w B RT a b (c+1) n vI vL vM vC:=by
 obtain ⟨E3,h3,k3⟩:=h.m
 exact ⟨h.rw,h.i,h.l,⟨E3,by rw [flt_no hw];exact h3,fun q hq=>by rw [flt_no hw] at hq;rw [fxq_no hw];exact k3 q hq⟩,h.c,h.lo⟩
theorem TS.addC {P:Prob} {w0 z w':World} {B RT a b c n:Nat} {vI vL vM vC:Value} (h:TS P w0 z B RT a b c n vI vL vM vC) {E:Nat→List Value} (hS:SL z B 61 12 vC n E) (hE:∀ q,q<n→CmQ w0 z B (E q) (clP P q) (P.ZR q)) {g cap:Nat} {cs:List Value}
  (SN:SL w' B 61 12 (.slice (some ⟨g,0,none⟩) (n+1) cap) (n+1) (fun i=>if i<n then E i else cs)) (hg:z.grownBy w' vC.ownBlock) (hc:CmQ w0 z B cs (clP P n) (P.ZR n)) :
  TS P w0 (w'.setCell ⟨RT,3,none⟩ (.slice (some ⟨g,0,none⟩) (n+1) cap)) B RT a b c (n+1) vI vL vM (.slice (some ⟨g,0,none⟩) (n+1) cap):=by
 have RZ:=h.rw.kept hg (hS.neR h.rw (by decide))
 obtain ⟨RN,O⟩:=RZ.set 3 (.slice (some ⟨g,0,none⟩) (n+1) cap)
 obtain ⟨E2,h2,k2⟩:=h.i
 obtain ⟨E3,h3,k3⟩:=h.l
 obtain ⟨E4,h4,k4⟩:=h.m
 have l2:=h2.kept hg (fun k e e2=>h2.neS hS (by decide) k e e2)
 have l3:=h3.kept hg (fun k e e2=>h3.neS hS (by decide) k e e2)
 have l4:=h4.kept hg (fun k e e2=>h4.neS hS (by decide) k e e2)
 refine ⟨by simpa using RN,⟨E2,l2.kept O.grown (fun k e e2=>l2.neR RZ (by decide) (by rw [e];exact e2.symm)),k2⟩,⟨E3,l3.kept O.grown (fun k e e2=>l3.neR RZ (by decide) (by rw [e];exact e2.symm)),k3⟩,⟨E4,l4.kept O.grown (fun k e e2=>l4.neR RZ (by decide) (by rw [e];exact e2.symm)),k4⟩,⟨_,SN.kept O.grown (fun k e e2=>SN.neR RZ (by decide) (by rw [e];exact e2.symm)),fun q hq=>?_⟩,h.lo⟩
 by_cases e:q<n
 ·simp only [e,if_true];exact ((hE q e).keep (hS.noI (by decide)) hg).keep (RZ.noI (by decide)) O.grown
 ·obtain rfl:q=n:=by omega
  simp only [e,if_false];exact (hc.keep (hS.noI (by decide)) hg).keep (RZ.noI (by decide)) O.grown
theorem TS.offX {P:Prob} {w0 w w':World} {B RT a b c n R:Nat} {vI vL vM vC:Value} (h:TS P w0 w B RT a b c n vI vL vM vC) (o:Off R w w') (hR:R<B):TS P w0 w' B RT a b c n vI vL vM vC:=by
 have hk:∀ {T:TypeId} {c:Nat} {v:Value} {n:Nat} {E:Nat→List Value},SL w B T c v n E→SL w' B T c v n E:=fun {T c v n E} s=>s.kept o.grown (fun g e e2=>by cases e2;have:=(s.lt _ e).1;omega)
 have hl:=h.lo
 obtain ⟨E1,h1,k1⟩:=h.i
 obtain ⟨E2,h2,k2⟩:=h.l
 obtain ⟨E3,h3,k3⟩:=h.m
 obtain ⟨E4,h4,k4⟩:=h.c
 refine ⟨h.rw.off o (by omega),⟨E1,hk h1,k1⟩,⟨E2,hk h2,k2⟩,⟨E3,hk h3,k3⟩,⟨E4,hk h4,fun q hq=>?_⟩,h.lo⟩
 obtain ⟨ia,ic,E,Z,p,a,na,ca,d,nd,cd,p',a',na',ca',d',nd',cd',e,c1,c2⟩:=k4 q hq
 exact ⟨ia,ic,E,Z,p,a,na,ca,d,nd,cd,p',a',na',ca',d',nd',cd',e,hk c1,c2⟩
theorem clmI:(Tryz.prog.info? 61).map (·.size)=some 12:=by kernel_rfl
theorem textI7:(Tryz.prog.info? 43).map (·.size)=some 7:=by kernel_rfl
def itK (P:Prob) (i k q:Nat):PI:=⟨((P.R i).t (fxq (okR P i) k q)).coef,(P.V ((P.R i).t (fxq (okR P i) k q)).var.toNat).nm,0,0⟩
theorem TS.tx {P:Prob} {w0 w:World} {B RT:Nat} {ia:Option Addr} {ic:Nat} {ca:Option Addr} {cc:Nat} {la:Option Addr} {lc:Nat} {wa:Option Addr} {wc:Nat} (h:TS P w0 w B RT (P.vn+1) P.vn P.vn P.rn (.slice ia (P.vn+1) ic) (.slice la P.vn lc) (.slice wa (flt (whP P) P.vn) wc) (.slice ca P.rn cc)) (hb:Below w0.heap.size w0 w) (hP:PQ w0 P) (hvn:P.vn≤1048576):TX w (txP P ia ic ca cc la lc wa wc):=by
 obtain ⟨E1,h1,k1⟩:=h.i
 obtain ⟨E2,h2,k2⟩:=h.l
 obtain ⟨E3,h3,k3⟩:=h.m
 obtain ⟨E4,h4,k4⟩:=h.c
 have hit:∀ {g o:Nat} {cs:List Value} {t:PI} {S:Nat},IQ w0 cs t S→(∀ j u,cs[j]? = some u→w.cell? ⟨g,o+j,none⟩=some u)→ItemAt w g o t S:=fun {g o cs t S} hq hc=>by
  obtain ⟨p,a,na,ca,d,nd,cd,rfl,hR,s1,s2,s3⟩:=hq
  exact ⟨⟨p,a,na,ca,d,nd,cd,hc 0 _ rfl,hc 1 _ rfl,hc 2 _ rfl,hR.below hb⟩,hc 3 _ rfl,hc 4 _ rfl,hc 5 _ rfl,s1,s2,s3⟩
 have htz:tot (ziP P) (P.vn+1)=P.S+tot P.ZV P.vn+1:=by
  have h1:∀ m,tot (ziP P) (m+1)=P.S+tot P.ZV m+1:=fun m=>by
   induction m with
   | zero=>show 1+ziP P 0+1=_;show 1+P.S+1=P.S+1+1;omega
   | succ m ih =>
    show tot (ziP P) (m+1)+ziP P (m+1)+1=_;rw [ih];have e:ziP P (m+1)=P.ZV m:=by unfold ziP;rw [if_neg (by omega)];rfl
    rw [e];show _=P.S+(tot P.ZV m+P.ZV m+1)+1;omega
  exact h1 P.vn
 refine ⟨?_,?_,?_,?_,?_,?_,?_,?_⟩
 ·rcases h1.cell with e|⟨g,rfl,hc⟩
  ·omega
  ·exact .inr ⟨g,0,rfl,fun i hi=>hit (k1 i hi) (fun j u hu=>by rw [Nat.zero_add];exact hc i hi j u hu)⟩
 ·rcases h4.cell with e|⟨g,rfl,hc⟩
  ·exact .inl e
  ·refine .inr ⟨g,0,rfl,fun i hi=>?_⟩
   obtain ⟨ia',ic',E,Z,p,a,na,ca,d,nd,cd,p',a',na',ca',d',nd',cd',e,c1,c2,c3,c4,t1,t2,s1,s2,s3,s4⟩:=k4 i hi
   have hi':=hc i hi
   rw [e] at hi'
   rw [Nat.zero_add]
   refine ⟨hi' 0 _ rfl,hi' 1 _ rfl,hi' 2 _ rfl,⟨ia',ic',Z,hi' 3 _ rfl,?_,c3,c4⟩,hi' 4 _ rfl,⟨p,a,na,ca,d,nd,cd,hi' 5 _ rfl,hi' 6 _ rfl,hi' 7 _ rfl,t1.below hb⟩,hi' 8 _ rfl,⟨p',a',na',ca',d',nd',cd',hi' 9 _ rfl,hi' 10 _ rfl,hi' 11 _ rfl,t2.below hb⟩,s1,s2,s3,s4⟩
   rcases c1.cell with e|⟨g',rfl,hc'⟩
   ·exact .inl e
   ·exact .inr ⟨g',0,rfl,fun q hq=>hit (c2 q hq) (fun j u hu=>by rw [Nat.zero_add];exact hc' q hq j u hu)⟩
 ·show tot (ziP P) (P.vn+1)+tot P.ZR P.rn+P.nm.size≤P.K+1
  rw [htz]
  have:=hP.all
  omega
 ·obtain ⟨a',c',e,hc⟩:=h1.form
  simp only [Value.slice.injEq] at e
  show P.vn+1≤ic
  omega
 ·obtain ⟨a',c',e,hc⟩:=h4.form
  simp only [Value.slice.injEq] at e
  show P.rn≤cc
  omega
 ·rcases h2.cell with e|⟨g,rfl,hc⟩
  ·exact .inl e
  ·refine .inr ⟨g,0,rfl,fun i hi=>?_⟩
   obtain ⟨p,a,na,ca,d,nd,cd,p',a',na',ca',d',nd',cd',e,t1,t2,s1,s2,s3,s4⟩:=k2 i hi
   have hi':=hc i hi
   rw [e] at hi'
   rw [Nat.zero_add]
   exact ⟨hi' 0 _ rfl,hi' 1 _ rfl,hi' 2 _ rfl,hi' 3 _ rfl,hi' 4 _ rfl,hi' 5 _ rfl,⟨p,a,na,ca,d,nd,cd,hi' 6 _ rfl,hi' 7 _ rfl,hi' 8 _ rfl,t1.below hb⟩,hi' 9 _ rfl,⟨p',a',na',ca',d',nd',cd',hi' 10 _ rfl,hi' 11 _ rfl,hi' 12 _ rfl,t2.below hb⟩,s1,s2,s3,s4⟩
 ·rcases h3.cell with e|⟨g,rfl,hc⟩
  ·exact .inl e
  ·refine .inr ⟨g,0,rfl,fun i hi=>?_⟩
   obtain ⟨e,s⟩:=k3 i hi
   have hi':=hc i hi
   rw [e] at hi'
   rw [Nat.zero_add]
   exact ⟨hi' 0 _ rfl,hi' 1 _ rfl,hi' 2 _ rfl,s⟩
 ·have:=flt_le (whP P) P.vn
  exact ⟨by show P.vn≤1048580;omega,by show flt (whP P) P.vn≤1048580;omega⟩
end Go.Proofs.YtceigfafmalfgaaGreatDoor
