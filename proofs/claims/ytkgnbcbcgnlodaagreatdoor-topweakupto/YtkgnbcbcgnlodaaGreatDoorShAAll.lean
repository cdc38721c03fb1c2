import Derived.Test.YtkgnbcbcgnlodaaGreatDoorPrEAll
import Derived.Test.YtkgnbcbcgnlodaaGreatDoorPqGAll
import Derived.Test.YtkgnbcbcgnlodaaGreatDoorGuardS
namespace Go.Proofs.YtkgnbcbcgnlodaaGreatDoor

end Go.Proofs.YtkgnbcbcgnlodaaGreatDoor

namespace Go.Proofs.YtkgnbcbcgnlodaaGreatDoor
open Go.RowKit

end Go.Proofs.YtkgnbcbcgnlodaaGreatDoor

namespace Go.Proofs.YtkgnbcbcgnlodaaGreatDoor
open Go.RowKit

/-- f is a function with a body. -/
def FnE (f : FuncId) : Prop := ∀ args w, (callFunc f args).run Tryz.prog w = .ok (.enter f args) w
theorem wp_callV {o : Oper} {a : Act} {w : World} {K : Act → World → Prop} {Q : Exit → Act → World → Prop} (x : Operand) (xs : Array Operand) (ats : Array TypeId) (f : FuncId) (caps : Array Value) (ho : o.op = .call { callee := .value x, args := xs, argTypes := ats }) (hx : a.eval x = .func (.func f) #[] caps) (hf : FnE f)
    {Post : Ending → World → Prop} (hC : Calls Tryz.prog f (xs.map a.eval ++ caps) w Post) (hP : ∀ e w', Post e w' → ∃ v, e = .returned v ∧ K (a.put o.dst v) w') : Oper.wp Tryz.prog o a w K Q := by
  obtain ⟨dst, op, ty, pos, after, guard⟩ := o
  simp only at ho
  subst ho
  have e : execOp a.eval { dst, op := .call { callee := .value x, args := xs, argTypes := ats }, type := ty, pos, after, guard } = callFunc f (xs.map a.eval ++ caps) := by
    show (Deferred.ofValue (a.eval x) (xs.map a.eval) >>= _) = _
    rw [hx]
    show callFunc f ((#[] ++ xs.map a.eval) ++ caps) = _
    rw [Array.empty_append]
  unfold Oper.wp
  rw [e, hf]
  rw [Oper.upon_enter]
  exact hC.mono fun e w' h => by obtain ⟨v, rfl, hk⟩ := hP e w' h; exact hk
theorem fe9 : FnE 28 := fun _ _ => by kernel_rfl
theorem fe10 : FnE 31 := fun _ _ => by kernel_rfl
end Go.Proofs.YtkgnbcbcgnlodaaGreatDoor
