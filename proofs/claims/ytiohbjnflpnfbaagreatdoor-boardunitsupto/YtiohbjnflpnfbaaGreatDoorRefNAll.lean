import Derived.Test.YtiohbjnflpnfbaaGreatDoorRefAll
import Derived.Laws.AppendOwnNone
import Derived.Test.YtiohbjnflpnfbaaGreatDoorGcdAll
namespace Go.Proofs.YtiohbjnflpnfbaaGreatDoor
open Go.RowKit
theorem rofGot (v:Int) (w:World) (h0:0≤v) (h1:v < 18446744073709551616) :
  Calls Tryz.prog 106 #[.int .u64 v] w fun e w'=>∃ c n cc,e = .returned (.slice c n cc)∧Got w' w.heap.size (.slice c n cc) v 1∧Below w.heap.size w w':=by
 refine (rof_any v w h0 h1).mono ?_
 rintro e w' ⟨c,cc,rfl,ho,hb⟩
 have t1:tlen [v]≤1:=tl_le _ _
 have ev:val [v] = v:=by simp [val,vS,lm,pw]
 exact ⟨c,_,cc,rfl,⟨trimL [v],ho,NF.trimL (fun x hx=>by simp at hx;subst hx;exact ⟨h0,h1⟩),by rw [val_trimL];exact ev,by rw [length_trimL];exact t1⟩,hb⟩
end Go.Proofs.YtiohbjnflpnfbaaGreatDoor
