import Derived.Test.YtgdilnljjgdinaaGreatDoorLaN
import Derived.Test.YtgdilnljjgdinaaGreatDoorLaHAll
import Derived.Test.YtgdilnljjgdinaaGreatDoorOpAll
import Derived.LaidSub
import Derived.Lay
namespace Go.Proofs.YtgdilnljjgdinaaGreatDoor
open Go.RowKit Go.Shelf
set_option maxRecDepth 100000 in
set_option maxHeartbeats 4000000 in
theorem all_walk (s:ByteArray) (n:Int) (k0:-9223372036854775808≤n) (k1:n<9223372036854775808) (w:World) (hT:Tabs w) (hE:Ers w) {ev:Value} (E:Errs w 0 ev) (hg:w.cell? ⟨1,0,none⟩=some (.iface 115 (.agg #[.pointer (some ⟨16,34,none⟩)]))) :
  Calls Tryz.prog 3 #[.string s,.int .i64 n] w fun e w'=>e = .returned (.bool true)∧Below w.heap.size w w':=by
 have HA:∀ w',Below w.heap.size w w'→Calls Tryz.prog 4 #[] w' fun e w''=>e = .returned (.bool true)∧Below w'.heap.size w' w'':=fun w' hb=>awake5 w' (hT.below hb) (E.below hb) (kept_c hb hg)
 by_cases h:262144≤s.size
 ·have HL:=fun u=>longO s u
  rw [decide_eq_true h] at HL
  have hb0:=bel_d0 w (.cells #[.string s] 9)
  have RB:=Rw.new 9 w #[.string s]
  clear hT hE E hg
  go_enter Tryz.func3,Tryz.ntmps3
  go_wp2_with fail
  refine (HA _ hb0).mono ?_
  rintro e w1 ⟨rfl,hb⟩
  have y1:=(RB.below hb).cell 0
  have hb1:=bel_tr hb0 hb
  clear RB hb hb0 HA
  go_wp2_with fail
  refine (HL _).mono ?_
  rintro e w2 ⟨rfl,ez⟩
  subst w2
  go_wp2
  go_ret
  exact ⟨rfl,hb1⟩
 ·obtain ⟨g,hg2⟩:∃ g,gpN s.data.toList=g:=⟨_,rfl⟩
  have hgs:g≤s.size:=by rw [← hg2,← len_list];exact gpN_le _
  obtain ⟨r0,hr0⟩:∃ r0,s.extract g s.size=r0:=⟨_,rfl⟩
  have hrs:r0.size=s.size-g:=by rw [← hr0,size_extract _ _ _ (Nat.le_refl _)]
  have hxs:=ext0 s g hgs
  obtain ⟨l0,hl0⟩:∃ l0,ovL (s.extract 0 g) 1=l0:=⟨_,rfl⟩
  obtain ⟨c0,hc0⟩:∃ c0,ovC (s.extract 0 g) 1=c0:=⟨_,rfl⟩
  have a1:=ovL_bd (x:=s.extract 0 g) (l:=1) (by omega)
  have a2:=ovC_bd (x:=s.extract 0 g) (c:=1) (by omega)
  rw [hl0] at a1
  rw [hc0] at a2
  obtain ⟨ts,R',L',C',p1,p2,p3,p4,p5⟩:=chn_all pd_doc r0.size r0 l0 c0 (Nat.le_refl _) (by omega) a1.1 (by omega) a2.1 (by omega)
  have hr1:r0.data.toList=s.data.toList.drop (gpN s.data.toList):=by rw [← hr0,ext_back,← hg2]
  obtain ⟨p',O,k2,k3,k4,-,-⟩:=ock_of (p:=gpN s.data.toList) p2 hr1 (by rw [hg2];exact hgs) (by rw [← hl0,hg2];unfold ovL lnO;rw [ext_front]) (by rw [← hc0,hg2,ovC_cn,cnO,ext_front])
  have hRs:R'.size=s.size-p':=by rw [← len_list,k4,List.length_drop,len_list]
  refine all_core s r0 R' g l0 c0 L' C' ts p' n k0 k1 w HA (by omega) hg2 hr0 hl0 hc0 p1 (by omega) ?_ O ?_ hT
  ·rcases p5 with h|⟨h,e,code,h1,h2⟩
   ·exact .inl h
   ·obtain ⟨ev2,E2⟩:=hE.at h1
    exact .inr ⟨h,e,ev2,h2,E2⟩
  ·rcases p5 with h|⟨h,e,code,h1,h2⟩
   ·exact .inl (by omega)
   ·exact .inr ⟨by omega,R',e,code,k4,h1⟩
end Go.Proofs.YtgdilnljjgdinaaGreatDoor
namespace Go.Proofs.YtgdilnljjgdinaaGreatDoor
open Go.ChangeShapes Go.WideShapes Go.ChangeAt Go.RowKit
def prD (T:List (List UInt8 × Nat)):DataW Unit:=.agg (T.map fun e=>.agg [.lit (.string e.1),.lit (.int .i64 (e.2:Nat))])
theorem flat2 {α β:Type} (f:β→List α):∀ (zs:List β) (cs:List α),cs.length=zs.length*2→(∀ (i:Nat) b,zs[i]? = some b→(cs.drop (i*2)).take 2=f b)→cs=zs.flatMap f
 | [],cs,hl,_=>List.eq_nil_of_length_eq_zero (by simpa using hl)
 | z::zs,cs,hl,h=>by
  have h0:cs.take 2=f z:=h 0 z rfl
  have ih:=flat2 f zs (cs.drop 2) (by simp at hl ⊢;omega) (fun i b hb=>by
   have h1:=h (i+1) b (by simpa using hb)
   rw [List.drop_drop,← h1]
   congr 2
   omega)
  rw [List.flatMap_cons,← h0,← ih,List.take_append_drop]
theorem pairs_head {n:String} {T:List (List UInt8 × Nat)} {r:List (String × DataW Unit)} {W:World} {g:Nat} {t e:TypeId} {m:Nat} {f0 f1:Field} (hg:Tryz.prog.globalNamed n=some g) (ht:(Tryz.prog.globals[g]?).map (·.type)=some t)
  (hu:Tryz.prog.underlying t=some (.array m e)) (he:Tryz.prog.underlying e=some (.struct #[f0,f1])) (h0:Tryz.prog.underlying f0.type=some .string) (h1:Tryz.prog.underlying f1.type=some (.int .i64)) (o0:f0.offset=0) (o1:f1.offset=1)
  (c0:Tryz.prog.cellsOf f0.type=1) (c1:Tryz.prog.cellsOf f1.type=1) (ce:Tryz.prog.cellsOf e=2) (ct:Tryz.prog.cellsOf t=m*2) (h:laidMet Tryz.prog ((n,prD T)::r) W) :
  ∃ t fr,W.heap[g]? = some (.cells (T.flatMap fun e=>[Value.string ⟨e.1.toArray⟩,Value.int .i64 (e.2:Nat)]).toArray t fr):=by
 obtain ⟨ps,⟨g',t',cs,fuel,p,q,hg',ht',hvar,hd,_,_⟩,_⟩:=h
 obtain rfl:=Option.some.inj (hg.symm.trans hg')
 obtain rfl:=Option.some.inj (ht.symm.trans ht')
 obtain ⟨xs,k,rfl,hx,hlen,hn,hel⟩:=DataW.trod_array hu hd
 have hmap:T.map (fun e=>(DataW.agg [.lit (.string e.1),.lit (.int .i64 (e.2:Nat))]:DataW Unit))=xs.map (·.1):=by
  have:=congrArg Prod.fst hx
  simpa [prD] using this
 have hTl:T.length=m:=by have:=congrArg List.length hmap;simp at this;omega
 have hcs:cs.toList=T.flatMap fun e=>[Value.string ⟨e.1.toArray⟩,Value.int .i64 (e.2:Nat)]:=by
  refine flat2 _ T cs.toList (by rw [hlen,ct,hTl]) (fun i b hb=>?_)
  have hi:i<T.length:=(List.getElem?_eq_some_iff.1 hb).1
  have e1:=hel i (by omega)
  rw [ce,List.getElem?_eq_getElem (show i<xs.length by omega)] at e1
  obtain ⟨y0,y1,k2,hy,hl2,hy0,hy1⟩:=trod_struct2 he e1
  rw [o0,c0] at hy0
  rw [o1,c1] at hy1
  obtain ⟨s,q0,rfl,_⟩:=DataW.trod_string h0 hy0
  obtain ⟨z,q1,rfl,_⟩:=DataW.trod_int h1 hy1
  have e2:=congrArg (fun l=>l[i]?) hmap
  simp only [List.getElem?_map,hb,List.getElem?_eq_getElem (show i<xs.length by omega),Option.map_some,hy,Option.some.injEq,DataW.agg.injEq,List.cons.injEq,DataW.lit.injEq,Lit.string.injEq,Lit.int.injEq,true_and,and_true] at e2
  obtain ⟨e3,e4⟩:=e2
  rw [ce] at hl2
  generalize ((cs.toList.drop (i*2)).take 2)=l2 at *
  match l2,hl2,q0,q1 with
  | [u,v],_,q0,q1 =>
   simp at q0 q1
   rw [q0,q1,e3,e4]
 unfold World.var? at hvar
 rw [hg] at hvar
 simp only [Option.bind_some] at hvar
 split at hvar
 ·rename_i c2 t2 fr2 hc
  obtain rfl:=Option.some.inj hvar
  exact ⟨t2,fr2,by rw [hc,← hcs]⟩
 ·cases hvar
theorem laid_one {l:List (String × DataW Unit)} {W:World} (h:laidMetH Tryz.prog l W) {n:String} {d:DataW Unit} (e:(l.filter fun x=>x.1 == n)=[(n,d)]) (hd:d.handleName?.isNone=true):laidMet Tryz.prog [(n,d)] W:=by
 have h1:=laidMetH.filter (fun x=>x.1 == n) h
 rw [e,MakeChecks.laidMetH_plain _ _ _ (by simp [hd])] at h1
 exact h1
theorem laid_handle {l:List (String × DataW Unit)} {W:World} (h:laidMetH Tryz.prog l W) {n:String} {d:DataW Unit} (e:(l.filter fun x=>x.1 == n)=[(n,d)]) (hd:d.handleName? = some [101,114,114,111,114]) (hf:d.funcsIn? = none) {N:Nat} {v:Value}
  (hN:Tryz.prog.types.size=N) (ht:((List.range N).filter fun t=>Tryz.prog.rowNamed t [101,114,114,111,114])=[34]) (hv:typeHandle Tryz.prog 34=v) {g:Nat} (hg:Tryz.prog.globalNamed n=some g) :
  W.cell? ⟨g,0,none⟩=some (.iface 115 (.agg #[v])):=by
 have h1:=(laidMetH_iff.1 (laidMetH.filter (fun x=>x.1 == n) h)).2
 rw [e] at h1
 have h2:=h1 (n,d) (by simp [hd])
 simp only [hf] at h2
 obtain ⟨name,u',ty',e1,e2,e3,e4,e5⟩:=h2
 obtain rfl:=Option.some.inj (hd.symm.trans e1)
 have e6:some u'=some 115:=e2.symm.trans (by kernel_rfl)
 obtain rfl:=Option.some.inj e6
 have hm:ty' ∈ (List.range N).filter fun t=>Tryz.prog.rowNamed t [101,114,114,111,114]:=List.mem_filter.2 ⟨List.mem_range.2 (by rw [← hN];exact e3),e4⟩
 rw [ht] at hm
 obtain rfl:=List.mem_singleton.1 hm
 rw [hv] at e5
 simpa using World.var?_cell hg e5 0
theorem laidMet_all2 {P:Program} {w0:World} {laid:List (String × DataW Unit)} (args:Array Value) (hf:w0.layFits P laid []=true) (hi:w0.layIfaces P laid (w0.layVars P laid)=true) :
  laidMet P laid ((w0.layVars P laid).forCall (fun _ _=>0) ⟨#[],args,[]⟩).memory:=by
 have e1:(laid.filter fun x=>(laid.map (·.1)).contains x.1)=laid:=List.filter_eq_self.2 fun x hx=>List.contains_iff_mem.2 (List.mem_map.2 ⟨x,hx,rfl⟩)
 have e2:(laid.filter fun x=>!(laid.map (·.1)).contains x.1)=[]:=List.filter_eq_nil_iff.2 fun x hx=>by rw [List.contains_iff_mem.2 (List.mem_map.2 ⟨x,hx,rfl⟩)];simp
 have h:laidMet P laid (w0.layVars P laid):=laidMet_layVars (w0:=w0) (laid.map (·.1)) [] (by rw [e1]) (by rw [e1];exact hf) (by rw [e1];exact hi) (by rw [e2];exact LaidIn.none)
 exact h.of_heap (by simp [World.memory,World.forCall,Input.heap])
end Go.Proofs.YtgdilnljjgdinaaGreatDoor
