import Derived.Test.YtnokmjmefipplaaGreatDoorTtRAll
import Derived.Test.YtnokmjmefipplaaGreatDoorOpAll
import Derived.Test.YtnokmjmefipplaaGreatDoorOpCAll
import Derived.Test.YtnokmjmefipplaaGreatDoorOpRAll
set_option maxRecDepth 100000
namespace Go.Proofs.YtnokmjmefipplaaGreatDoor.topTreeP
open Go.ChangeShapes Go.WideShapes Go.ChangeAt Go.RowKit
theorem contract (H:Type) (enc:TypeId × Value→H) (W:World) (base:Nat) (args:Array Value) (ds gs:List (DataW H)) (before:List MemPlace)
 (hval:∀ (j:Nat) t v,Tryz.f3.params[j]? = some t→args[j]? = some v→Value.okWide Tryz.prog W .any base t v)
 (hW:DataW.Whole enc Tryz.prog Tryz.f3.params.toList Rows.topTreeSpec.vars false W args.toList ds gs before) (hk:Rows.uptoSmall H (ds ++ gs) = true) (hL:laidMetH Tryz.prog Rows.topTreeUptoRow.laid W) :
 Calls Tryz.prog 3 args W fun e W'=>∃ v,e = .returned v∧Rows.topTreeSpec.post enc Tryz.prog Tryz.f3 false true false false W args v W':=by
 have hW':=hW
 obtain ⟨p,q,hA0,hV,rfl,hfz,hnd⟩:=hW
 have hA:DataW.TrodAll enc Tryz.prog W 0 (fun _=>true) true Tryz.f3.params.toList args.toList ds p:=hA0
 rw [Tryz.params3] at hA hval
 obtain ⟨v0,vs0,d0,ds0,p0,q0,hargs,rfl,rfl,h0,r0⟩:=trodAll_cons hA
 obtain ⟨v1,vs1,d1,ds1,p1,q1,rfl,rfl,rfl,h1,r1⟩:=trodAll_cons r0
 obtain ⟨v2,vs2,d2,ds2,p2,q2,rfl,rfl,rfl,h2,r2⟩:=trodAll_cons r1
 obtain ⟨v3,vs3,d3,ds3,p3,q3,rfl,rfl,rfl,h3,r3⟩:=trodAll_cons r2
 obtain ⟨rfl,rfl,rfl⟩:=trodAll_nil r3
 obtain rfl:args = #[v0,v1,v2,v3]:=by cases args;simp_all
 obtain ⟨rfl,rfl⟩:=trodVars_none hV
 have hb:=of_decide_eq_true hk
 simp only [List.append_nil,Rows.uptoBulkAll] at hb
 obtain ⟨P0,rfl,R0,k0⟩:=wP (hval 0 31 v0 rfl rfl) h0
 obtain ⟨S1,rfl,R1,k1⟩:=yY (hval 1 35 v1 rfl rfl) h1
 obtain ⟨a2,n2,c2,X2,Z2,rfl,l2,b2,R2,z2,t2⟩:=open_rats (hval 2 32 v2 rfl rfl) h2
 obtain ⟨b3,a3,n3,c3,a'3,n'3,c'3,r3q,rfl,R3,k3⟩:=open_ratB (hval 3 27 v3 rfl rfl) h3
 rw [MakeChecks.laidMetH_plain _ _ _ (by kernel_rfl)] at hL
 obtain ⟨hT,hgt⟩:=tab_head (g:=13) (tab:=Lib.deBruijn64tab) (by kernel_rfl) (by kernel_rfl) rfl hL
 obtain ⟨ev0,E0⟩:=fM (g:=4) (by kernel_rfl) (by kernel_rfl) hL.tail.tail.tail
 obtain ⟨ev1,E1⟩:=fM (g:=5) (by kernel_rfl) (by kernel_rfl) hL.tail.tail.tail.tail
 obtain ⟨ev2,E2⟩:=fM (g:=2) (by kernel_rfl) (by kernel_rfl) hL.tail.tail.tail.tail.tail
 obtain ⟨ev3,E3⟩:=fM (g:=7) (by kernel_rfl) (by kernel_rfl) hL.tail.tail.tail.tail.tail.tail
 obtain ⟨ev4,E4⟩:=fM (g:=8) (by kernel_rfl) (by kernel_rfl) hL.tail.tail.tail.tail.tail.tail.tail
 obtain ⟨ev5,E5⟩:=fM (g:=1) (by kernel_rfl) (by kernel_rfl) hL.tail.tail.tail.tail.tail.tail.tail.tail
 obtain ⟨ev6,E6⟩:=fM (g:=0) (by kernel_rfl) (by kernel_rfl) hL.tail.tail.tail.tail.tail.tail.tail.tail.tail
 obtain ⟨ev7,E7⟩:=fM (g:=3) (by kernel_rfl) (by kernel_rfl) hL.tail.tail.tail.tail.tail.tail.tail.tail.tail.tail
 obtain ⟨ev8,E8⟩:=fM (g:=6) (by kernel_rfl) (by kernel_rfl) hL.tail.tail.tail.tail.tail.tail.tail.tail.tail.tail.tail
 refine (zD P0 S1 W R0 R1 R2 z2 t2 R3 (by omega) (by omega) ⟨hT,hgt⟩ ⟨E0.errs,E1.errs,E2.errs,E3.errs,E4.errs,E5.errs⟩ E7.errs E8.errs E6.errs).mono fun e W' ⟨he,bel⟩=>?_
 subst he
 exact ⟨_,rfl,_,_,_,[],_,[],hW',trodAll_mk1 (shut_bool Tryz.underlying4 _),trodAll_cons_mk (wQ h0 bel) (trodAll_cons_mk (yZ h1 bel) (trodAll_cons_mk (trod_rats h2 bel) (trodAll_cons_mk (trod_rat h3 bel) trodAll_mk0))),rfl,bel.frame _,fun h=>by cases h⟩
theorem laid_met (os:Os) (args:Array Value):laidMetH Tryz.prog Rows.topTreeUptoRow.laid ((World.doorLaid Tryz.prog 4000 os).forCall (fun _ _=>0) ⟨#[],args,[]⟩).memory :=
 laidMetH_of_parts3 (fuel:=8) (laidMet_of_run' 8 (by kernel_rfl) (by kernel_rfl)) (by kernel_rfl) (by kernel_rfl)
theorem reads (os:Os) {H:Type} (enc:TypeId × Value→H):∃ places,DataW.whole enc Tryz.prog ((World.doorLaid Tryz.prog 4000 os).forCall (fun _ _=>0) ⟨#[],#[.agg #[.bool false,.string (ByteArray.mk #[]),.bool false,.slice none 0 0,.slice none 0 0,.slice none 0 0,.slice none 0 0],.agg #[.int .i64 0,.bool false,.slice none 0 0,.slice none 0 0,.slice none 0 0,.slice none 0 0,.slice none 0 0,.int .i64 0],.slice none 0 0,.agg #[.bool false,.slice none 0 0,.slice none 0 0]],[]⟩).memory Tryz.f3.params.toList Rows.topTreeSpec.vars false #[Value.agg #[.bool false,.string (ByteArray.mk #[]),.bool false,.slice none 0 0,.slice none 0 0,.slice none 0 0,.slice none 0 0],.agg #[.int .i64 0,.bool false,.slice none 0 0,.slice none 0 0,.slice none 0 0,.slice none 0 0,.slice none 0 0,.int .i64 0],.slice none 0 0,.agg #[.bool false,.slice none 0 0,.slice none 0 0]].toList 8 = some ([.agg [.lit (.bool false),.lit (.string []),.agg [.agg [.lit (.bool false),.nil],.nil],.nil,.nil],.agg [.lit (.int .i64 0),.agg [.agg [.lit (.bool false),.nil],.nil],.nil,.nil,.nil,.lit (.int .i64 0)],.nil,.agg [.agg [.lit (.bool false),.nil],.nil]],[],places) :=
 ⟨[],by kernel_rfl⟩
theorem aA8 (os:Os) (started:os.Started) (H:Type) (enc:TypeId × Value→H) (F:Stop.Interp) :
 ReturnsInHanded {} Tryz.checked os 3 .any ((Rows.OpenSpec.upto Rows.topTreeSpec).preRow enc Tryz.prog Tryz.f3 Rows.topTreeUptoRow.domain false Rows.topTreeUptoRow.laid) (((Rows.OpenSpec.upto Rows.topTreeSpec).at F).post enc Tryz.prog Tryz.f3 false true false false):=by
 obtain ⟨places,hx⟩:=reads os enc
 refine returnsInHanded_of_row (C:=Tryz.checked) (s:=Rows.OpenSpec.upto Rows.topTreeSpec) own started (by kernel_rfl) Tryz.func3
  (witness_row_atRef (enc:=enc) (C:=Tryz.checked) false (World.doorLaid Tryz.prog 4000 os) #[.agg #[.bool false,.string (ByteArray.mk #[]),.bool false,.slice none 0 0,.slice none 0 0,.slice none 0 0,.slice none 0 0],.agg #[.int .i64 0,.bool false,.slice none 0 0,.slice none 0 0,.slice none 0 0,.slice none 0 0,.slice none 0 0,.int .i64 0],.slice none 0 0,.agg #[.bool false,.slice none 0 0,.slice none 0 0]] rfl (by kernel_rfl) (by kernel_rfl) (by kernel_rfl)
   (OpenSpec.preRow_of_cond 8 hx (by kernel_rfl) (fun k hk=>by cases hk;kernel_rfl) (by kernel_rfl) (laid_met os _))) ?_
 intro W base args ds gs before hval hW _ hcond _ hL _ _
 exact contract H enc W base args ds gs before hval hW (hcond _ rfl) hL
theorem aI7:Rows.TopTreeUptoSaid :=
 OpenClaim.holds_of_cond 3 Tryz.f3 rfl rfl rfl rfl rfl rfl rfl ⟨rfl,rfl,rfl,rfl,rfl⟩ rfl rfl rfl rfl rfl (by kernel_rfl) Tryz.func3 (by kernel_rfl)
  (of_decide_eq_true (by kernel_rfl)) (by unfold Func.isWrapper;first | (rw [if_pos (by decide +kernel)];kernel_rfl) | (rw [if_neg (by decide +kernel)];exact ⟨rfl,rfl⟩))
  (fun os started H enc _ F=>by rw [OpenClaim.pre_eq_preRow];exact aA8 os started H enc F)
theorem plain (f:FuncId) (fn:Func) (hf:Tryz.pinned.checked.prog.funcNamed Rows.topTreeUptoRow.func = some f) (hfn:Tryz.pinned.checked.prog.funcs[f]? = some fn) :
 false = Tryz.pinned.checked.prog.looks []∧∀ (j:Nat) t,fn.params[j]? = some t→Tryz.pinned.checked.prog.wantsStandIn t = false:=by
 obtain rfl:f = 3:=Option.some.inj ((show Tryz.prog.funcNamed Rows.topTreeUptoRow.func = some 3 by kernel_rfl).symm.trans hf) |>.symm
 obtain rfl:fn = Tryz.f3:=(Option.some.inj (Tryz.func3.symm.trans hfn)).symm
 refine ⟨by kernel_rfl,fun j t ht=>?_⟩
 rw [Tryz.params3] at ht
 have hm:=Array.mem_of_getElem? ht
 have hm2:t = 31∨t = 35∨t = 32∨t = 27:=by simpa using hm
 rcases hm2 with rfl | rfl | rfl | rfl
 ·exact (show Tryz.prog.wantsStandIn 31 = false by kernel_rfl)
 ·exact (show Tryz.prog.wantsStandIn 35 = false by kernel_rfl)
 ·exact (show Tryz.prog.wantsStandIn 32 = false by kernel_rfl)
 ·exact (show Tryz.prog.wantsStandIn 27 = false by kernel_rfl)
theorem cardUpto:Rows.TopTreeUptoCardSaid :=
 Claim7.holds_tied_plain_at .later [] _ _ _ _ aI7 (fun _ h=>by cases h) (by kernel_rfl) (fun _ h=>by cases h) topTreeUpto_row_tie rfl ⟨rfl,rfl⟩ (by kernel_rfl) rfl plain (by kernel_rfl)
end Go.Proofs.YtnokmjmefipplaaGreatDoor.topTreeP
namespace Go.Proofs.YtnokmjmefipplaaGreatDoor
theorem topTree_upto:Rows.TopTreeUptoCardSaid:=topTreeP.cardUpto
end Go.Proofs.YtnokmjmefipplaaGreatDoor
