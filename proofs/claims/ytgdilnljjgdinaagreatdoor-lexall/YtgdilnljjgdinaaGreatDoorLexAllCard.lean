import Derived.Test.YtgdilnljjgdinaaGreatDoorLaOAll
import Derived.Lay
namespace Go.Proofs.YtgdilnljjgdinaaGreatDoor.lexAllP
open Go.ChangeShapes Go.WideShapes Go.ChangeAt Go.RowKit
set_option maxRecDepth 100000 in
theorem contract (H:Type) (enc:TypeId × Value→H) (W:World) (base:Nat) (args:Array Value) (ds gs:List (DataW H)) (before:List MemPlace)
  (hval:∀ (j:Nat) t v,Tryz.f3.params[j]? = some t→args[j]? = some v→Value.okWide Tryz.prog W .any base t v)
  (hW:DataW.Whole enc Tryz.prog Tryz.f3.params.toList Rows.lexAllSpec.vars false W args.toList ds gs before) (hL:laidMetH Tryz.prog Rows.lexAllRow.laid W) :
  Calls Tryz.prog 3 args W fun e W'=>∃ v,e = .returned v∧Rows.lexAllSpec.post enc Tryz.prog Tryz.f3 false true false false W args v W':=by
 have hW':=hW
 obtain ⟨p,q,hA0,hV,rfl,hfz,hnd⟩:=hW
 have hA:DataW.TrodAll enc Tryz.prog W 0 (fun _=>true) true Tryz.f3.params.toList args.toList ds p:=hA0
 rw [Tryz.params3] at hA hval
 obtain ⟨v0,vs0,d0,ds0,p0,q0,hargs,rfl,rfl,h0,r0⟩:=trodAll_cons hA
 obtain ⟨v1,vs1,d1,ds1,p1,q1,rfl,rfl,rfl,h1,r1⟩:=trodAll_cons r0
 obtain ⟨rfl,rfl,rfl⟩:=trodAll_nil r1
 obtain rfl:args = #[v0,v1]:=by cases args;simp_all
 obtain ⟨rfl,rfl⟩:=trodVars_none hV
 obtain ⟨s0,rfl,rfl,rfl,w0⟩:=Go.ChangeMaps.open_string Tryz.underlying9 (hval 0 9 v0 rfl rfl) h0
 obtain ⟨x1,rfl,rfl,rfl,w1⟩:=open_int Tryz.underlying3 (hval 1 3 v1 rfl rfl) h1
 have hT : Tabs W := ⟨pairs_head (T := wordT) (n := (Rows.lexAllRow.laid.getD 10 ("", .nil)).1) (g := 2) (t := 97) (e := 96) (m := 28) (by kernel_rfl) (by kernel_rfl) Tryz.underlying97 Tryz.underlying96 Tryz.underlying9 Tryz.underlying3 rfl rfl (by kernel_rfl) (by kernel_rfl) (by kernel_rfl) (by kernel_rfl) (laid_one hL (n := (Rows.lexAllRow.laid.getD 10 ("", .nil)).1) (d := prD wordT) (by kernel_rfl) (by kernel_rfl)), pairs_head (T := sgT) (n := (Rows.lexAllRow.laid.getD 9 ("", .nil)).1) (g := 3) (t := 152) (e := 151) (m := 10) (by kernel_rfl) (by kernel_rfl) Tryz.underlying152 Tryz.underlying151 Tryz.underlying9 Tryz.underlying3 rfl rfl (by kernel_rfl) (by kernel_rfl) (by kernel_rfl) (by kernel_rfl) (laid_one hL (n := (Rows.lexAllRow.laid.getD 9 ("", .nil)).1) (d := prD sgT) (by kernel_rfl) (by kernel_rfl)), tab_head (n := (Rows.lexAllRow.laid.getD 0 ("", .nil)).1) (g := 13) (tab := Lib.deBruijn64tab) (by kernel_rfl) (by kernel_rfl) rfl (laid_one hL (n := (Rows.lexAllRow.laid.getD 0 ("", .nil)).1) (d := .agg (Lib.deBruijn64tab.map fun (k : Nat) => .lit (.int .u8 (k : Int)))) (by kernel_rfl) (by kernel_rfl))⟩
 obtain ⟨a3, E3⟩ := errs_head (n := (Rows.lexAllRow.laid.getD 5 ("", .nil)).1) (g := 0) (by kernel_rfl) (by kernel_rfl) (laid_one hL (n := (Rows.lexAllRow.laid.getD 5 ("", .nil)).1) (d := Rows.laid_vertex_api_ErrDivide) (by kernel_rfl) (by kernel_rfl))
 obtain ⟨a5, E5⟩ := errs_head (n := (Rows.lexAllRow.laid.getD 6 ("", .nil)).1) (g := 11) (by kernel_rfl) (by kernel_rfl) (laid_one hL (n := (Rows.lexAllRow.laid.getD 6 ("", .nil)).1) (d := Rows.laid_vertex_api_ErrNumber) (by kernel_rfl) (by kernel_rfl))
 obtain ⟨a7, E7⟩ := errs_head (n := (Rows.lexAllRow.laid.getD 7 ("", .nil)).1) (g := 4) (by kernel_rfl) (by kernel_rfl) (laid_one hL (n := (Rows.lexAllRow.laid.getD 7 ("", .nil)).1) (d := Rows.laid_vertex_api_ErrChar) (by kernel_rfl) (by kernel_rfl))
 obtain ⟨a8, E8⟩ := errs_head (n := (Rows.lexAllRow.laid.getD 8 ("", .nil)).1) (g := 12) (by kernel_rfl) (by kernel_rfl) (laid_one hL (n := (Rows.lexAllRow.laid.getD 8 ("", .nil)).1) (d := Rows.laid_vertex_api_ErrExponent) (by kernel_rfl) (by kernel_rfl))
 have hg : W.cell? ⟨1, 0, none⟩ = some (.iface 115 (.agg #[.pointer (some ⟨16, 34, none⟩)])) := laid_handle hL (n := (Rows.lexAllRow.laid.getD 2 ("", .nil)).1) (d := Rows.laid_errors_errorType) (by kernel_rfl) (by kernel_rfl) (by kernel_rfl) (N := Tryz.prog.types.size) rfl (by kernel_rfl) (by kernel_rfl) (by kernel_rfl)
 refine (all_walk s0 x1 (int_wf w1).1 (Int.lt_add_one_of_le (int_wf w1).2) W hT ⟨⟨_,E5⟩,⟨_,E8⟩,⟨_,E3⟩,⟨_,E7⟩⟩ E3 hg).mono fun e W' ⟨he,bel⟩=>?_
 subst he
 exact ⟨_,rfl,_,_,_,[],_,[],hW',trodAll_mk1 (shut_bool Tryz.underlying4 _),trodAll_cons_mk (Go.ChangeMaps.shut_string Tryz.underlying9 w0) (trodAll_cons_mk (shut_int Tryz.underlying3 w1) trodAll_mk0),rfl,bel.frame _,fun h=>by cases h⟩
theorem laid_met (os:Os) (args:Array Value):laidMetH Tryz.prog Rows.lexAllRow.laid ((({ World.holding Tryz.prog os ⟨#[],#[],[]⟩ with heap:=(World.holding Tryz.prog os ⟨#[],#[],[]⟩).heap.modify 1 fun | .cells _ t fr=>.cells #[.iface 115 (.agg #[.pointer (some ⟨16,34,none⟩)])] t fr|o=>o }:World).layVars Tryz.prog (Rows.lexAllRow.laid.filter fun x=>x.2.handleName?.isNone)).forCall (fun _ _=>0) ⟨#[],args,[]⟩).memory :=
 laidMetH_of_parts3 (fuel:=8) (laidMet_all2 args (by kernel_rfl) (by kernel_rfl)) (by kernel_rfl) (by kernel_rfl)
theorem reads (os:Os) {H:Type} (enc:TypeId × Value→H):∃ places,DataW.whole enc Tryz.prog ((({ World.holding Tryz.prog os ⟨#[],#[],[]⟩ with heap:=(World.holding Tryz.prog os ⟨#[],#[],[]⟩).heap.modify 1 fun | .cells _ t fr=>.cells #[.iface 115 (.agg #[.pointer (some ⟨16,34,none⟩)])] t fr|o=>o }:World).layVars Tryz.prog (Rows.lexAllRow.laid.filter fun x=>x.2.handleName?.isNone)).forCall (fun _ _=>0) ⟨#[],#[.string (ByteArray.mk #[]),.int .i64 0],[]⟩).memory Tryz.f3.params.toList Rows.lexAllSpec.vars false #[Value.string (ByteArray.mk #[]),.int .i64 0].toList 8=some ([.lit (.string []),.lit (.int .i64 0)],[],places) :=
 ⟨[],by kernel_rfl⟩
set_option maxRecDepth 100000 in
theorem lifted (os:Os) (started:os.Started) (H:Type) (enc:TypeId × Value→H) (F:Stop.Interp) :
  ReturnsInHanded {} Tryz.checked os 3 .any ((OpenSpec.ofChange Rows.lexAllSpec).preRow enc Tryz.prog Tryz.f3 Rows.lexAllRow.domain false Rows.lexAllRow.laid) (((OpenSpec.ofChange Rows.lexAllSpec).at F).post enc Tryz.prog Tryz.f3 false true false false):=by
 obtain ⟨places,hx⟩:=reads os enc
 refine returnsInHanded_of_row (C:=Tryz.checked) (s:=OpenSpec.ofChange Rows.lexAllSpec) own started (by kernel_rfl) Tryz.func3
  (witness_row_atRef (enc:=enc) (C:=Tryz.checked) false (({ World.holding Tryz.prog os ⟨#[],#[],[]⟩ with heap:=(World.holding Tryz.prog os ⟨#[],#[],[]⟩).heap.modify 1 fun | .cells _ t fr=>.cells #[.iface 115 (.agg #[.pointer (some ⟨16,34,none⟩)])] t fr|o=>o }:World).layVars Tryz.prog (Rows.lexAllRow.laid.filter fun x=>x.2.handleName?.isNone)) #[.string (ByteArray.mk #[]),.int .i64 0] (World.layVars_os _ _ _) (by kernel_rfl) (by kernel_rfl) (by kernel_rfl)
   (OpenSpec.preRow_of_cond 8 hx (by kernel_rfl) (fun k hk=>by cases hk) (by kernel_rfl) (laid_met os _))) ?_
 intro W base args ds gs before hval hW _ _ _ hL _ _
 exact contract H enc W base args ds gs before hval hW hL
theorem said:Rows.LexAllSaid :=
 OpenClaim.holds_of_cond 3 Tryz.f3 rfl rfl rfl rfl rfl rfl rfl ⟨rfl,rfl,rfl,rfl,rfl⟩ rfl rfl rfl rfl rfl (by kernel_rfl) Tryz.func3 (by kernel_rfl)
  (of_decide_eq_true (by kernel_rfl)) (by unfold Func.isWrapper;first|(rw [if_pos (by decide +kernel)];kernel_rfl)|(rw [if_neg (by decide +kernel)];exact ⟨rfl,rfl⟩))
  (fun os started H enc _ F=>by rw [OpenClaim.pre_eq_preRow];exact lifted os started H enc F)
theorem plain (f:FuncId) (fn:Func) (hf:Tryz.pinned.checked.prog.funcNamed Rows.lexAllRow.func=some f) (hfn:Tryz.pinned.checked.prog.funcs[f]? = some fn) :
  true=Tryz.pinned.checked.prog.looks []∧∀ (j:Nat) t,fn.params[j]? = some t→Tryz.pinned.checked.prog.wantsStandIn t=false:=by
 obtain rfl:f=3:=Option.some.inj ((show Tryz.prog.funcNamed Rows.lexAllRow.func=some 3 by kernel_rfl).symm.trans hf) |>.symm
 obtain rfl:fn=Tryz.f3:=(Option.some.inj (Tryz.func3.symm.trans hfn)).symm
 refine ⟨by kernel_rfl,fun j t ht=>?_⟩
 rw [Tryz.params3] at ht
 have hm:=Array.mem_of_getElem? ht
 have hm2:t=9∨t=3:=by simpa using hm
 rcases hm2 with rfl|rfl
 ·exact (show Tryz.prog.wantsStandIn 9=false by kernel_rfl)
 ·exact (show Tryz.prog.wantsStandIn 3=false by kernel_rfl)
theorem card:Rows.LexAllCardSaid :=
 Claim7.holds_tied_plain_at .later [] _ _ _ _ said (fun _ h=>by cases h) (by kernel_rfl) (fun _ h=>by cases h) lexAll_row_tie rfl ⟨rfl,rfl⟩ (by kernel_rfl) rfl plain (by kernel_rfl)
end Go.Proofs.YtgdilnljjgdinaaGreatDoor.lexAllP
namespace Go.Proofs.YtgdilnljjgdinaaGreatDoor
theorem lexAll_full:Rows.LexAllCardSaid:=lexAllP.card
end Go.Proofs.YtgdilnljjgdinaaGreatDoor
