import Derived.Test.YtjapbhdoemfgkaaGreatDoorCbC
namespace Go.Proofs.YtjapbhdoemfgkaaGreatDoor
open Go.RowKit
theorem TX.off2 {w w':World} {A B g:Nat} {v:Value} {n:Nat} {X:Nat→Rat} {Z:Nat→Nat} (h:TX w A B v n X Z) (o:Off g w w') (hA:A≤g) (hne:v.ownBlock ≠ some g):TX w' A B v n X Z:=by
 obtain ⟨vs,h1,h2⟩:=h
 refine ⟨vs,⟨h1.1,?_⟩,fun i hi=>?_⟩
 ·rcases h1.2 with hn | ⟨g',cap,cur,e1,e2,hgb,rest⟩
  ·exact .inl hn
  ·exact .inr ⟨g',cap,cur,e1,e2,(o.block g' (fun e=>hne (by rw [e1,e];rfl))).trans hgb,rest⟩
 ·obtain ⟨p,a,na,ca,d,nd,cd,g1,g2,g3,g4⟩:=h2 i hi
  exact ⟨p,a,na,ca,d,nd,cd,g1,g2,g3,fun w2 k=>g4 w2 ((o.below hA).trans k)⟩
theorem Got.neR {w:World} {B:Nat} {v:Value} {x:Int} {S:Nat} (h:Got w B v x S) {g:Nat} {cs:Array Value} (hg:Rw 28 w g cs):v.ownBlock ≠ some g:=by
 obtain ⟨xs,h1,h2⟩:=h
 intro e
 rcases h1.2 with ⟨e1,_⟩ | ⟨g1,c1,cur1,e1,_,f1,_⟩
 ·subst e1;simp [Value.ownBlock] at e
 ·subst e1
  simp [Value.ownBlock] at e
  subst e
  unfold Rw at hg
  rw [f1] at hg
  simp at hg
theorem RL.off2 {w w':World} {B g:Nat} {v:Value} {n:Nat} {X:Nat→Rat} {S:Nat} (h:RL w B v n X S) (o:Off g w w') {cs:Array Value} (hg:Rw 28 w g cs) (hne:v.ownBlock ≠ some g):RL w' B v n X S:=by
 obtain ⟨vs,h1,h2⟩:=h
 refine ⟨vs,⟨h1.1,?_⟩,fun i hi=>?_⟩
 ·rcases h1.2 with hn | ⟨g',cap,cur,e1,e2,hgb,rest⟩
  ·exact .inl hn
  ·exact .inr ⟨g',cap,cur,e1,e2,(o.block g' (fun e=>hne (by rw [e1,e];rfl))).trans hgb,rest⟩
 ·obtain ⟨p,a,na,ca,d,nd,cd,g1,g2,g3,g4⟩:=h2 i hi
  exact ⟨p,a,na,ca,d,nd,cd,g1,g2,g3,(GX.off ⟨g4,g4.1.got.neR hg,g4.2.neR hg⟩ o).1⟩
structure BI (mx:Bool) (V:Nat→PV) (ZV:Nat→Nat) (n:Nat) (w w1:World) (prb:List Value) (j:Nat) (sX sZ:Value) (wr:World):Prop where
 le:j≤n
 rc:Rw 35 wr (w1.heap.size + 1) #[.int .i64 (vdj mx V j),.bool false,.slice none 0 0,.slice none 0 0,sX,.slice none 0 0,sZ]
 tx:TX wr w1.heap.size (w1.heap.size + 2) sX j (fun i=>bx mx (V i)) ZV
 rl:RL wr (w1.heap.size + 2) sZ j (fun i=>((bz mx (V i):Int):Rat)) 1
 ne:NE sX sZ
 pb:BoxC wr w1.heap.size prb
 bel:Below w.heap.size w wr
 sz:w1.heap.size + 2≤wr.heap.size
 nc:∀ i,i < j→¬ crv (V i)
def BS (mx:Bool) (V:Nat→PV) (ZV:Nat→Nat) (n:Nat) (w w1:World) (prb:List Value) (j:Nat) (wr:World):Prop:=∃ sX sZ,BI mx V ZV n w w1 prb j sX sZ wr
theorem rat_p1 (r:Rat):r ≠ r + ((1:Int):Rat):=by rw [q1];grind
theorem rat3 (r:Rat):r < 0∨r = 0∨0 < r:=by grind
theorem rat_nn {r:Rat} (h:r = 0∨0 < r):¬ r < 0:=by grind
theorem rat_np {r:Rat} (h:r < 0∨r = 0):¬ 0 < r:=by grind
section
variable {mx:Bool} {v:PV}
theorem bx_hi1 (h1:true = v.hhi) (h:msn mx v.obj < 0):bx mx v = v.hi:=by unfold bx;rw [← h1,if_pos ⟨rfl,.inl h⟩]
theorem bx_hi2 (h1:true = v.hhi) (h2:false = v.hlo):bx mx v = v.hi:=by unfold bx;rw [← h1,← h2,if_pos ⟨rfl,.inr (by decide)⟩]
theorem bx_lo1 (h1:false = v.hhi) (h2:true = v.hlo):bx mx v = v.lo:=by unfold bx;rw [← h1,← h2,if_neg (fun h=>absurd h.1 (by decide)),if_pos rfl]
theorem bx_lo2 (h1:true = v.hhi) (h2:true = v.hlo) (h:¬ msn mx v.obj < 0):bx mx v = v.lo:=by unfold bx;rw [← h1,← h2,if_neg (fun k=>by rcases k.2 with k | k;exact h k;exact k rfl),if_pos rfl]
theorem bx_0 (h1:false = v.hhi) (h2:false = v.hlo):bx mx v = 0:=by unfold bx;rw [← h1,← h2,if_neg (fun h=>absurd h.1 (by decide)),if_neg (by decide)]
theorem bz_p (h1:false = v.hhi) (h:msn mx v.obj < 0):bz mx v = 1:=by unfold bz;rw [← h1,if_pos ⟨h,by decide⟩]
theorem bz_m (h2:false = v.hlo) (h:0 < msn mx v.obj):bz mx v = -1:=by unfold bz;rw [← h2,if_neg (fun k=>rat_np (.inl k.1) h),if_pos ⟨h,by decide⟩]
theorem bz_01 (h1:true = v.hhi) (h2:true = v.hlo):bz mx v = 0:=by unfold bz;rw [← h1,← h2,if_neg (fun k=>k.2 rfl),if_neg (fun k=>k.2 rfl)]
theorem bz_0m (h:msn mx v.obj = 0):bz mx v = 0:=by unfold bz;rw [if_neg (fun k=>rat_nn (.inl h) k.1),if_neg (fun k=>rat_np (.inr h) k.1)]
theorem bz_0n (h1:true = v.hhi) (h:msn mx v.obj < 0):bz mx v = 0:=by unfold bz;rw [← h1,if_neg (fun k=>k.2 rfl),if_neg (fun k=>rat_np (.inl h) k.1)]
theorem bz_0p (h2:true = v.hlo) (h:0 < msn mx v.obj):bz mx v = 0:=by unfold bz;rw [← h2,if_neg (fun k=>rat_nn (.inr h) k.1),if_neg (fun k=>k.2 rfl)]
end
theorem vdj_succ (mx:Bool) (V:Nat→PV) (j:Nat):vdj mx V (j + 1) = if bz mx (V j) = 0 then vdj mx V j else 3:=rfl
theorem msn_sgn {mx:Bool} {r:Rat} {s:Int} (h:s = (msn mx r).num.sign):r.num.sign = if mx = true then -s else s:=by
 subst h
 unfold msn
 cases mx
 ·rfl
 ·rw [if_pos rfl,if_pos rfl,Rat.neg_num,Int.sign_neg,Int.neg_neg]
end Go.Proofs.YtjapbhdoemfgkaaGreatDoor
