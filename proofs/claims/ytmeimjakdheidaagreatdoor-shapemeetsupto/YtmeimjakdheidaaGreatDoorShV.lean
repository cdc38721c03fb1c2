import Derived.Test.YtmeimjakdheidaaGreatDoorShV0All
namespace Go.Proofs.YtmeimjakdheidaaGreatDoor
open Go.RowKit
theorem RL.mono1 {w:World} {B:Nat} {v:Value} {n:Nat} {X:Nat→Rat} {S:Nat} (h:RL w B v n X S):RL w 0 v n X S:=by
 obtain ⟨vs,⟨h1,h1'⟩,h2⟩:=h
 refine ⟨vs,⟨h1,?_⟩,fun i hi=>?_⟩
 ·rcases h1' with e|⟨g,cap,cur,e1,_,rest⟩
  ·exact .inl e
  ·exact .inr ⟨g,cap,cur,e1,Nat.zero_le _,rest⟩
 ·obtain ⟨p,a,na,ca,d,nd,cd,g1,g2,g3,g4⟩:=h2 i hi
  exact ⟨p,a,na,ca,d,nd,cd,g1,g2,g3,g4.mono (Nat.zero_le _)⟩
end Go.Proofs.YtmeimjakdheidaaGreatDoor
