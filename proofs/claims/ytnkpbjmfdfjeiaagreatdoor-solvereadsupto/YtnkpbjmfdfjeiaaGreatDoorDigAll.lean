import Derived.Test.YtnkpbjmfdfjeiaaGreatDoorNumAll
import Derived.Test.YtnkpbjmfdfjeiaaGreatDoorSumAll
import Derived.RangeFuncNested
import Derived.RangeFuncBound
import Derived.RangeFuncCalls
import Derived.RangeFuncLeaves
import Derived.Shelf.Abstract
import Derived.Shelf.RegionOpen
import Derived.WalkKit
import Derived.OwnWalkIn
import Derived.TacticsInMore
import Derived.LoopNIn
import Derived.LoopIn
import Derived.Maps.AppendAt
import Derived.Shelf.RegionOpenPlain
import Derived.Laws.BytesArg
namespace Go.Proofs.YtnkpbjmfdfjeiaaGreatDoor
open Go.RowKit
def decsF:Nat→Nat→List Int
 | 0,_=>[]
 | f + 1,v=>if v = 0 then [] else ((v % 10:Nat):Int) :: decsF f (v / 10)
theorem decsF_eq (f:Nat):∀ (g v:Nat),v≤f→v≤g→decsF f v = decsF g v:=by
 induction f with
 | zero =>
  intro g v h1 h2
  have h0:v = 0:=by omega
  subst h0
  cases g <;> simp [decsF]
 | succ f ih =>
  intro g v h1 h2
  by_cases hv:v = 0
  ·subst hv
   cases g <;> simp [decsF]
  ·cases g with
   | zero=>omega
   | succ g =>
    simp only [decsF,if_neg hv]
    rw [ih g (v / 10) (by omega) (by omega)]
def decs (v:Nat):List Int:=decsF v v
theorem decs_zero:decs 0 = []:=rfl
theorem decs_pos {v:Nat} (h:v ≠ 0):decs v = ((v % 10:Nat):Int) :: decs (v / 10):=by
 obtain ⟨u,rfl⟩:∃ u,v = u + 1:=⟨v - 1,by omega⟩
 unfold decs
 simp only [decsF,if_neg h]
 rw [decsF_eq u ((u + 1) / 10) ((u + 1) / 10) (by omega) (Nat.le_refl _)]
def padD:Nat→Nat→List Int
 | 0,_=>[]
 | k + 1,v=>((v % 10:Nat):Int) :: padD k (v / 10)
theorem decs_split (k v:Nat) (h:v / 10 ^ k ≠ 0):decs v = padD k v ++ decs (v / 10 ^ k):=by
 induction k generalizing v with
 | zero=>simp [padD]
 | succ k ih =>
  have e:v / 10 ^ (k + 1) = v / 10 / 10 ^ k:=by rw [Nat.pow_succ,Nat.mul_comm,Nat.div_div_eq_div_mul]
  rw [e] at h ⊢
  have hv:v ≠ 0:=by rintro rfl;simp at h
  rw [decs_pos hv,padD,ih _ h];rfl
theorem padD_mod (k v:Nat):padD k (v % 10 ^ k) = padD k v:=by
 induction k generalizing v with
 | zero=>rfl
 | succ k ih =>
  have e1:v % 10 ^ (k + 1) % 10 = v % 10:=by rw [Nat.pow_succ];exact Nat.mod_mul_left_mod v (10 ^ k) 10
  have e2:v % 10 ^ (k + 1) / 10 = v / 10 % 10 ^ k:=by rw [Nat.pow_succ,Nat.mul_comm];exact Nat.mod_mul_right_div_self v 10 (10 ^ k)
  simp only [padD];rw [e1,e2,ih]
theorem decs_le (k v:Nat) (h:v < 10 ^ k):(decs v).length≤k:=by
 induction k generalizing v with
 | zero =>
  have:v = 0:=by simp at h;exact h
  subst this;simp [decs_zero]
 | succ k ih =>
  by_cases hv:v = 0
  ·subst hv;simp [decs_zero]
  ·rw [decs_pos hv]
   have:=ih (v / 10) (by rw [Nat.pow_succ] at h;omega)
   simp only [List.length_cons];omega
theorem pw_ten (L:Nat):pw L≤((10 ^ (20 * L):Nat):Int):=by
 induction L with
 | zero=>decide
 | succ L ih =>
  have e:(10:Nat) ^ (20 * (L + 1)) = 10 ^ (20 * L) * 100000000000000000000:=by rw [show 20 * (L + 1) = 20 * L + 20 from rfl,Nat.pow_add]
  rw [e,pw_succ,Int.natCast_mul]
  have:=pw_pos L
  generalize ((10 ^ (20 * L):Nat):Int) = T at *
  generalize pw L = Q at *
  have e2:((100000000000000000000:Nat):Int) = 100000000000000000000:=rfl
  rw [e2];omega
theorem decs_val {xs:List Int} (h:AllW xs):(decs (val xs).toNat).length≤20 * xs.length:=by
 refine decs_le _ _ ?_
 have h1:=val_lt h
 have h2:=pw_ten xs.length
 generalize 10 ^ (20 * xs.length) = T at *
 generalize pw xs.length = Q at *
 have:=val_nn h
 omega
theorem decs_bd (v:Nat):∀ d ∈ decs v,0≤d∧d≤9:=by
 induction v using Nat.strongRecOn with
 | ind v ih =>
  by_cases hv:v = 0
  ·subst hv;simp [decs_zero]
  ·rw [decs_pos hv]
   intro d hd
   rcases List.mem_cons.1 hd with rfl | hd
   ·omega
   ·exact ih (v / 10) (by omega) d hd
theorem decs_nil {v:Nat} (h:decs v = []):v = 0:=by
 by_cases hv:v = 0
 ·exact hv
 ·rw [decs_pos hv] at h;cases h
def restD (whole:Bool) (k p:Nat):List Int:=if whole = true then padD k p else decs p
theorem restD_end {whole:Bool} {k:Nat} (h:whole = false∨k = 0):restD whole k 0 = []:=by
 unfold restD
 cases whole with
 | false=>simp [decs_zero]
 | true =>
  rcases h with h | h
  ·cases h
  ·subst h;rfl
theorem restD_next {whole:Bool} {k p:Nat} (hp:p < 10 ^ k) (h:p ≠ 0∨(whole = true∧k ≠ 0)):∃ k',k = k' + 1∧p / 10 < 10 ^ k'∧restD whole k p = ((p % 10:Nat):Int) :: restD whole k' (p / 10):=by
 have hk:k ≠ 0:=by
  rintro rfl
  simp at hp
  rcases h with h | h
  ·exact h hp
  ·exact h.2 rfl
 obtain ⟨k',rfl⟩:=Nat.exists_eq_succ_of_ne_zero hk
 refine ⟨k',rfl,by rw [Nat.pow_succ] at hp;omega,?_⟩
 unfold restD
 cases whole with
 | true=>rfl
 | false =>
  have:p ≠ 0:=by
   rcases h with h | h
   ·exact h
   ·cases h.1
  simp [decs_pos this]
theorem decs_piece (v:Nat):decs v = restD (decide (v / 10 ^ 19 ≠ 0)) 19 (v % 10 ^ 19) ++ decs (v / 10 ^ 19):=by
 by_cases h:v / 10 ^ 19 = 0
 ·have hl:v < 10 ^ 19:=(Nat.div_eq_zero_iff_lt (by decide)).1 h
  rw [h,decs_zero,List.append_nil,Nat.mod_eq_of_lt hl]
  simp [restD]
 ·rw [decs_split 19 v h]
  have e:=padD_mod 19 v
  unfold restD
  rw [if_pos (by simpa using h),e]
end Go.Proofs.YtnkpbjmfdfjeiaaGreatDoor
namespace Go.Proofs.YtnkpbjmfdfjeiaaGreatDoor
open Go.RowKit Go.Shelf
def isWd:Obj→Bool
 | .cells _ t _=>t == 107
 | _=>false
structure Turns (p:Obj→Bool) (B:Nat) (W W':World):Prop where
 os:W'.os = W.os
 tape:W'.tape = W.tape
 output:W'.output = W.output
 size:W.heap.size≤W'.heap.size
 block:∀ (k:Nat) (o:Obj),W.heap[k]? = some o→(k < B∨p o = false)→W'.heap[k]? = some o
theorem Turns.below {p:Obj→Bool} {B:Nat} {W W':World} (h:Turns p B W W') {B':Nat} (hB:B'≤B) (hs:B'≤W.heap.size):Below B' W W' :=
 ⟨h.os,h.tape,h.output,h.size,fun k hk=>by
  have:k < W.heap.size:=by omega
  rw [h.block k _ (Array.getElem?_eq_getElem this) (.inl (by omega)),Array.getElem?_eq_getElem this]⟩
theorem Turns.of_below {p:Obj→Bool} {B:Nat} {W W':World} (h:Below W.heap.size W W'):Turns p B W W' :=
 ⟨h.os,h.tape,h.output,h.size,fun k _ hk _=>(h.block k (Array.getElem?_eq_some_iff.1 hk).1).trans hk⟩
theorem Turns.of_off {p:Obj→Bool} {B g:Nat} {W W':World} (h:Off g W W') (hg:B≤g) (hp:∀ o,W.heap[g]? = some o→p o = true):Turns p B W W' :=
 ⟨h.os,h.tape,h.output,by have:=h.size;omega,fun k o hk hc=>by
  by_cases e:k = g
  ·subst e
   rcases hc with hc | hc
   ·omega
   ·rw [hp o hk] at hc;cases hc
  ·exact (h.block k e).trans hk⟩
theorem Turns.imp {p q:Obj→Bool} {B B':Nat} {W W':World} (h:Turns p B W W') (hpq:∀ o,p o = true→q o = true) (hB:B'≤B):Turns q B' W W' :=
 ⟨h.os,h.tape,h.output,h.size,fun k o hk hc=>h.block k o hk (by
  rcases hc with hc | hc
  ·exact .inl (by omega)
  ·right
   cases e:p o with
   | false=>rfl
   | true=>rw [hpq o e] at hc;cases hc)⟩
theorem Turns.putObj {p:Obj→Bool} {B l:Nat} {W:World} {o:Obj} (o':Obj) (hl:W.heap[l]? = some o) (hp:p o = true) (hB:B≤l):Turns p B W (W.putObj l o') :=
 ⟨rfl,rfl,rfl,by simp,fun k o2 hk hc=>by
  by_cases e:k = l
  ·subst e
   rw [hl] at hk;cases hk
   rcases hc with hc | hc
   ·omega
   ·rw [hp] at hc;cases hc
  ·exact (World.putObj_heap_other e).trans hk⟩
theorem Turns.alloc (p:Obj→Bool) (B:Nat) (W:World) (o:Obj):Turns p B W (W.alloc o) :=
 ⟨rfl,rfl,rfl,by simp,fun k o' hk _=>(Below.heap_alloc W o k (Array.getElem?_eq_some_iff.1 hk).1).trans hk⟩
def AbW {β:Type} (B:Nat) (J:β→World→Prop):Prop:=∀ s W W',J s W→Turns isWd B W W'→J s W'
def isMine (o:Obj):Bool:=isWd o || !o.isCells
def OwnW {β:Type} (B:Nat) (I:β→World→Prop):Prop:=∀ s W W',I s W→Turns isMine B W W'→I s W'
structure KeptW (W W':World):Prop where
 size:W.heap.size≤W'.heap.size
 same:∀ (k:Nat) (o:Obj),W.heap[k]? = some o→isWd o = true→W'.heap[k]? = some o
theorem KeptW.refl (W:World):KeptW W W:=⟨Nat.le_refl _,fun _ _ h _=>h⟩
theorem KeptW.trans {A B C:World} (h:KeptW A B) (k:KeptW B C):KeptW A C:=⟨Nat.le_trans h.size k.size,fun i o hi ho=>k.same i o (h.same i o hi ho) ho⟩
theorem KeptW.of_below {W W':World} (h:Below W.heap.size W W'):KeptW W W':=⟨h.size,fun k _ hk _=>(h.block k (Array.getElem?_eq_some_iff.1 hk).1).trans hk⟩
theorem KeptW.putObj {W:World} {l:Nat} {o:Obj} (o':Obj) (h:W.heap[l]? = some o) (hc:isWd o = false):KeptW W (W.putObj l o'):=by
 refine ⟨by simp,fun k o2 hk ho=>?_⟩
 have e:k ≠ l:=by
  rintro rfl
  rw [h] at hk;cases hk;rw [ho] at hc;cases hc
 rw [World.putObj_heap_other e];exact hk
theorem Blk.wd {w:World} {g:Nat} {us:List Int} (h:Blk w g us):∀ o,w.heap[g]? = some o→isWd o = true:=by
 intro o ho
 have:w.heap[g]? = _:=h
 rw [this] at ho;cases ho;simp [isWd]
theorem Blk.keptW {w w':World} {g:Nat} {us:List Int} (h:Blk w g us) (k:KeptW w w'):Blk w' g us:=k.same g _ h (h.wd _ h)
theorem OwnW.alloc {β:Type} {B:Nat} {I:β→World→Prop} (h:OwnW B I) {s:β} {W:World} (o:Obj) (hs:I s W):I s (W.alloc o):=h s W _ hs (Turns.alloc _ _ _ _)
theorem OwnW.putObj {β:Type} {B:Nat} {I:β→World→Prop} (h:OwnW B I) {s:β} {W:World} {l:Nat} {o:Obj} (o':Obj) (hs:I s W) (hB:B≤l) (hl:W.heap[l]? = some o) (ho:o.isCells = false):I s (W.putObj l o') :=
 h s W _ hs (Turns.putObj o' hl (by simp [isMine,ho]) hB)
theorem OwnW.and {β:Type} {B:Nat} {I K:β→World→Prop} (h:OwnW B I) (k:OwnW B K):OwnW B (fun s W=>I s W∧K s W):=fun s W W' hs ht=>⟨h s W W' hs.1 ht,k s W W' hs.2 ht⟩
theorem ownW_below {β:Type} {B n:Nat} {w:World} (hn:n≤B) (hw:n≤w.heap.size):OwnW B (fun (_:β) W=>Below n w W) :=
 fun _ _ _ hs ht=>hs.trans (ht.below hn (Nat.le_trans hw hs.size))
def SeqW (F:Fence) (P:Program) (g:Nat) (lb:Array Value) (S Sp:List Int→Prop) (N:Nat) (w:World):Prop :=
 ∀ (n l:Nat) (J Jx:List Int→World→Prop) (W:World),Below w.heap.size w W→AbW W.heap.size J→AbW W.heap.size Jx →
  (∀ (m:Nat) pre x W1,J pre W1→0≤x→x≤9→pre.length < N→YieldAt F m P l #[.int .i64 x] W1 fun e W' =>
   (e = .returned (.bool true)∧J (pre ++ [x]) W'∧KeptW W1 W')∨(e = .returned (.bool false)∧Jx (pre ++ [x]) W')) →
  J [] W →
  CallsIn F n P g (#[.func (.yield l) #[] #[]] ++ lb) W fun e W'=>(∃ v,e = .returned v)∧((∃ xs,S xs∧J xs W')∨(∃ pre,Sp pre∧Jx pre W'))
variable {F:Fence} {n:Nat} {P:Program}
def Left (B:Nat) (I:List Int→World→Prop) (Ix:Code→List Int→World→Prop) (xs:List Int) (W:World):Exit→Act→World→Prop
 | .normal,_,W'=>KeepsFrom B W W'∧KeptW W W'∧I xs W'
 | .ret,_,W'=>KeepsFrom B W W'∧Ix .ret xs W'
 | .exit id,_,W'=>KeepsFrom B W W'∧Ix (.exit id) xs W'
 | .goto t,_,W'=>KeepsFrom B W W'∧Ix (.goto t) xs W'
 | _,_,_=>False
section loop
variable {g:Operand} {ps:Array Tmp} {assign body:Code} {a:Act} {gf:Nat} {lb:Array Value} {S Sp:List Int→Prop} {N B l dl:Nat} {w0 W1:World} {fn:FuncId}
 {I:List Int→World→Prop} {Ix:Code→List Int→World→Prop} {a₁:Int→Act}
def recd (fn:FuncId) (tmps:Array Value) (ps:Array Tmp) (assign body:Code) (dl:Nat) (st:LoopState) (pe:Option Code):Obj :=
 .loop { state:=st,pending:=pe,fn,tmps,params:=ps,assign,body,defers:=dl }
theorem rounds (hseq:SeqW F P gf lb S Sp N w0) (hfn:F.fn fn) (hps:ps.size = 1) (hw:Below w0.heap.size w0 W1) (hB:B≤l)
  (hl:W1.heap[l]? = some (recd fn a.tmps ps assign body dl .ready none)) (hI:OwnW l I) (hIx:∀ c,OwnW l (Ix c)) (h0:I [] W1)
  (hassign:∀ (m:Nat) (x:Int) (W:World) (K:Act→World→Prop),K (a₁ x) W →
   assign.wpIn (F.inRound l) m P (Exit.then K (fun _ _ _=>False)) { tmps:=(ps.zip #[Value.int .i64 x]).foldl (fun t (p,v)=>t.setIfInBounds p v) a.tmps,defers:=[] } W)
  (hbody:∀ (m:Nat) (pre:List Int) (x:Int) (W:World),(∃ r,W.heap[l]? = some (.loop r))→I pre W→0≤x→x≤9→pre.length < N→body.wpIn (F.inRound l) m P (Left B I Ix (pre ++ [x]) W) (a₁ x) W) :
  CallsIn F n P gf (#[.func (.yield l) #[] #[]] ++ lb) W1 fun e W2=>(∃ v,e = .returned v) ∧
   ((∃ xs,S xs∧I xs W2∧W2.heap[l]? = some (recd fn a.tmps ps assign body dl .ready none)) ∨
    (∃ c pre,Sp pre∧Ix c pre W2∧W2.heap[l]? = some (recd fn a.tmps ps assign body dl .done (some c)))):=by
 have hlt1:l < W1.heap.size:=(Array.getElem?_eq_some_iff.1 hl).1
 have mine:∀ {A C:World},Turns isWd W1.heap.size A C→Turns isMine l A C:=fun t=>t.imp (fun o ho=>by simp [isMine,ho]) (by omega)
 have still:∀ {A C:World} {st pe},Turns isWd W1.heap.size A C→A.heap[l]? = some (recd fn a.tmps ps assign body dl st pe)→C.heap[l]? = some (recd fn a.tmps ps assign body dl st pe) :=
  fun t h=>t.block l _ h (.inr rfl)
 refine (hseq n l (fun pre W=>I pre W∧W.heap[l]? = some (recd fn a.tmps ps assign body dl .ready none))
  (fun pre W=>∃ c,Ix c pre W∧W.heap[l]? = some (recd fn a.tmps ps assign body dl .done (some c))) W1 hw
  (fun s A C h t=>⟨hI s A C h.1 (mine t),still t h.2⟩) (fun s A C ⟨c,h1,h2⟩ t=>⟨c,hIx c s A C h1 (mine t),still t h2⟩) ?_ ⟨h0,hl⟩).mono ?_
 ·rintro m pre x W ⟨hi,hr⟩ x0 x9 hlen
  have busy:(W.putObj l (recd fn a.tmps ps assign body dl .busy none)).heap[l]? = some (recd fn a.tmps ps assign body dl .busy none):=World.putObj_heap_same (Array.getElem?_eq_some_iff.1 hr).1
  have hy:=run_yield (P:=P) (args:=#[Value.int .i64 x]) hr (by simp [hps])
  refine ⟨fn,_,assign,body,hy,roundIn_of_wpIn hfn (hassign m x W _ ⟨_,run_beginRound hr rfl,?_⟩)⟩
  have hk0:KeptW W (W.putObj l (recd fn a.tmps ps assign body dl .busy none)):=KeptW.putObj _ hr rfl
  refine wpIn_mono (hbody m pre x (W.putObj l (recd fn a.tmps ps assign body dl .busy none)) ⟨_,busy⟩ (hI.putObj _ hi (Nat.le_refl _) hr rfl) x0 x9 hlen) ?_
  -- how the record lies behind the body,and behind the round
  have after:∀ {W3:World} (j:Option Code),KeepsFrom B (W.putObj l (recd fn a.tmps ps assign body dl .busy none)) W3 →
    W3.heap[l]? = some (recd fn a.tmps ps assign body dl .busy none) ∧
    (Instr.endRound l j).run P W3 = .ok (.bool j.isNone) (W3.putObj l (recd fn a.tmps ps assign body dl (if j.isNone then .ready else .done) j)) ∧
    (W3.putObj l (recd fn a.tmps ps assign body dl (if j.isNone then .ready else .done) j)).heap[l]? = some (recd fn a.tmps ps assign body dl (if j.isNone then .ready else .done) j):=by
   intro W3 j hk
   have h3:=hk.same l _ hB busy rfl
   exact ⟨h3,run_endRound j h3,World.putObj_heap_same (Array.getElem?_eq_some_iff.1 h3).1⟩
  intro e a3 W3 hp
  have away:∀ c,KeepsFrom B (W.putObj l (recd fn a.tmps ps assign body dl .busy none)) W3∧Ix c (pre ++ [x]) W3 →
    ∃ v w',(Instr.endRound l (some c)).run P W3 = .ok v w'∧((Ending.returned v = .returned (.bool true)∧(I (pre ++ [x]) w'∧w'.heap[l]? = some (recd fn a.tmps ps assign body dl .ready none))∧KeptW W w') ∨
     (Ending.returned v = .returned (.bool false)∧∃ c,Ix c (pre ++ [x]) w'∧w'.heap[l]? = some (recd fn a.tmps ps assign body dl .done (some c)))):=by
   rintro c ⟨h1,h2⟩
   obtain ⟨p1,p2,p3⟩:=after (some c) h1
   exact ⟨_,_,p2,.inr ⟨rfl,c,(hIx c).putObj _ h2 (Nat.le_refl _) p1 rfl,p3⟩⟩
  cases e with
  | normal =>
   obtain ⟨h1,h2,h3⟩:=hp
   obtain ⟨p1,p2,p3⟩:=after none h1
   exact ⟨_,_,p2,.inl ⟨rfl,⟨hI.putObj _ h3 (Nat.le_refl _) p1 rfl,p3⟩,(hk0.trans h2).trans (KeptW.putObj _ p1 rfl)⟩⟩
  | ret=>exact away _ hp
  | exit id=>exact away _ hp
  | goto t=>exact away _ hp
  | panic ch=>exact hp.elim
  | outgrown=>exact hp.elim
 ·rintro e W2 ⟨hv,⟨xs,h1,h2,h3⟩ | ⟨pre,h1,c,h2,h3⟩⟩
  ·exact ⟨hv,.inl ⟨xs,h1,h2,h3⟩⟩
  ·exact ⟨hv,.inr ⟨c,pre,h1,h2,h3⟩⟩
set_option maxHeartbeats 100000 in
theorem range_out {Q:Exit→Act→World→Prop} {w:World} (hro:F.round = none) (hd:F.depth = none) (hg:a.eval g = .func (.func gf) #[] lb) (hFg:F.fn gf) (eg:∀ args w,(callFunc gf args).run P w = .ok (.enter gf args) w)
  (hseq:SeqW F P gf lb S Sp N w0) (hw:Below w0.heap.size w0 w) (hps:ps.size = 1)
  (I:List Int→World→Prop) (Ix:Code→List Int→World→Prop) (hI:OwnW w.heap.size I) (hIx:∀ c,OwnW w.heap.size (Ix c)) (h0:I [] w) (a₁:Int→Act)
  (hassign:∀ (l m:Nat) (x:Int) (W:World) (K:Act→World→Prop),K (a₁ x) W →
   assign.wpIn (F.inRound l) m P (Exit.then K (fun _ _ _=>False)) { tmps:=(ps.zip #[Value.int .i64 x]).foldl (fun t (p,v)=>t.setIfInBounds p v) a.tmps,defers:=[] } W)
  (hbody:∀ (l m:Nat) (pre:List Int) (x:Int) (W:World),(∃ r,W.heap[l]? = some (.loop r))→w.heap.size≤l→I pre W→0≤x→x≤9→pre.length < N→body.wpIn (F.inRound l) m P (Left w.heap.size I Ix (pre ++ [x]) W) (a₁ x) W)
  (hdone:∀ (D:Nat) (xs:List Int) (W:World),w.heap.size≤D→S xs→I xs W→W.heap[D]? = some (.deferred (some []))→Q .normal { a with defers:={ target:=.collected D,args:=#[] } :: a.defers } W)
  (hstop:∀ (D:Nat) (c:Code) (pre:List Int) (W:World),w.heap.size≤D→Sp pre→Ix c pre W→W.heap[D]? = some (.deferred (some []))→c.wpIn F n P Q { a with defers:={ target:=.collected D,args:=#[] } :: a.defers } W) :
  (Code.rangeFunc g ps assign body).wpIn F n P Q a w:=by
 refine wpIn_rangeFunc fun fn hfn=>?_
 obtain ⟨W1,hW1⟩:∃ W1,(w.alloc (.deferred (some []))).alloc (recd fn a.tmps ps assign body w.heap.size .ready none) = W1:=⟨_,rfl⟩
 have hWd:W1.heap[w.heap.size]? = some (.deferred (some [])):=by
  rw [← hW1];exact (Below.heap_alloc _ _ _ (by simp)).trans (World.alloc_heap_new w _)
 have hWl:W1.heap[w.heap.size + 1]? = some (recd fn a.tmps ps assign body w.heap.size .ready none):=by
  rw [← hW1]
  have:=World.alloc_heap_new (w.alloc (.deferred (some []))) (recd fn a.tmps ps assign body w.heap.size .ready none)
  rwa [World.size_alloc] at this
 have up:∀ {J:List Int→World→Prop},OwnW w.heap.size J→OwnW (w.heap.size + 1) (fun pre W=>J pre W∧W.heap[w.heap.size]? = some (.deferred (some []))) :=
  fun h s A C k t=>⟨h s A C k.1 (t.imp (fun _ ho=>ho) (by omega)),t.block _ _ k.2 (.inl (by omega))⟩
 have hdef:∀ {A C:World},KeepsFrom w.heap.size A C→A.heap[w.heap.size]? = some (.deferred (some []))→C.heap[w.heap.size]? = some (.deferred (some [])):=fun k h=>k.same _ _ (Nat.le_refl _) h rfl
 have hWI:I [] W1:=by rw [← hW1];exact hI.alloc _ (hI.alloc _ h0)
 have hWb:Below w0.heap.size w0 W1:=by
  rw [← hW1];exact hw.trans ((((Below.refl _ w).alloc (Nat.le_refl _) _).alloc (by simp) _).mono hw.size)
 have hcall:=rounds (a:=a) (n:=n - 1) (B:=w.heap.size) (I:=fun pre W=>I pre W∧W.heap[w.heap.size]? = some (.deferred (some []))) (Ix:=fun c pre W=>Ix c pre W∧W.heap[w.heap.size]? = some (.deferred (some []))) (a₁:=a₁) hseq hfn hps
  hWb (by omega) hWl (up hI) (fun c=>up (hIx c)) ⟨hWI,hWd⟩ (hassign _)
  (fun m pre x W hr hi x0 x9 hlen=>wpIn_mono (hbody _ m pre x W hr (by omega) hi.1 x0 x9 hlen) (fun e a3 W3 hp=>by
   cases e with
   | normal=>exact ⟨hp.1,hp.2.1,hp.2.2,hdef hp.1 hi.2⟩
   | ret=>exact ⟨hp.1,hp.2,hdef hp.1 hi.2⟩
   | exit id=>exact ⟨hp.1,hp.2,hdef hp.1 hi.2⟩
   | goto t=>exact ⟨hp.1,hp.2,hdef hp.1 hi.2⟩
   | panic ch=>exact hp.elim
   | outgrown=>exact hp.elim))
 refine ⟨w.heap.size + 1,[{ target:=.collected w.heap.size,args:=#[] }],W1,{ target:=.fn (.func gf) lb,args:=#[.func (.yield (w.heap.size + 1)) #[] #[]] },W1,gf,#[.func (.yield (w.heap.size + 1)) #[] #[]] ++ lb,W1,?_,?_,?_,?_,?_,?_⟩
 ·rw [hro,← hW1];exact run_enterLoop_outer _ _ _ _ _
 ·simp only [resolve,hg]
  simp [go_sem]
 ·intro f' hf'
  simp [Target.leads] at hf';subst hf';exact hFg
 ·simp [invoke,go_sem,eg]
 ·intro h
  rw [hd] at h;cases h
 refine hcall.mono ?_
 rintro e W2 ⟨⟨v,rfl⟩,⟨xs,hS,hi,hl⟩ | ⟨c,pre,hS,hi,hl⟩⟩
 ·have h1:=run_endLoop (P:=P) hl (by simp)
  exact ⟨none,_,h1,hdone _ xs _ (Nat.le_refl _) hS (hI.putObj _ hi.1 (by omega) hl rfl) ((World.putObj_heap_other (by omega)).trans hi.2)⟩
 ·have h1:=run_endLoop (P:=P) hl (by simp)
  exact ⟨some c,_,h1,hstop _ c pre _ (Nat.le_refl _) hS ((hIx c).putObj _ hi.1 (by omega) hl rfl) ((World.putObj_heap_other (by omega)).trans hi.2)⟩
end loop
end Go.Proofs.YtnkpbjmfdfjeiaaGreatDoor
namespace Go.Proofs.YtnkpbjmfdfjeiaaGreatDoor
open Go.RowKit Go.Shelf
attribute [local go_sem] Oper.semAt_some
set_option maxRecDepth 100000 in
set_option maxHeartbeats 1000000 in
theorem tell_in {F:Fence} (hd:F.depth = none) (hro:F.round = none) (hf:F.fn 117) (l N:Nat) (J Jx:List Int→World→Prop)
  (hY:∀ (m:Nat) pre x W1,J pre W1→0≤x→x≤9→pre.length < N→YieldAt F m Tryz.prog l #[.int .i64 x] W1 fun e W' =>
   (e = .returned (.bool true)∧J (pre ++ [x]) W'∧KeptW W1 W')∨(e = .returned (.bool false)∧Jx (pre ++ [x]) W'))
  (n v:Nat) (whole:Bool) (hv:v < 10 ^ 19) (pre:List Int) (W:World) (hJ:J pre W) (hN:pre.length + (restD whole 19 v).length≤N) :
  CallsIn F n Tryz.prog 117 #[.int .u64 v,.bool whole,.func (.yield l) #[] #[]] W fun e W' =>
   (e = .returned (.bool true)∧J (pre ++ restD whole 19 v) W'∧KeptW W W')∨(e = .returned (.bool false)∧∃ q,q <+: restD whole 19 v∧Jx (pre ++ q) W'):=by
 have hdd:∀ k:Nat,(F.depth.isSome = true→1≤k):=fun k h=>by rw [hd] at h;cases h
 refine callsIn_of_wp Tryz.func117 rfl hf ?_ hro
 simp only [Tryz.ntmps117,List.size_toArray,List.length_cons,List.length_nil,Nat.reduceAdd,Nat.reduceSub,Array.replicate_succ,Array.replicate_zero,List.push_toArray,List.append_toArray,List.nil_append,List.cons_append]
 gi_wp2
 gi_loopw [0,7] (fun p i wr=>∃ (k pn:Nat) (sent:List Int),p = .int .u64 pn∧i = .int .i64 (19 - (k:Int))∧k≤19∧pn < 10 ^ k∧restD whole 19 v = sent ++ restD whole k pn∧J (pre ++ sent) wr∧KeptW W wr) (fun _ i _=>(19 - intOf i).toNat)
 case atStart=>exact ⟨19,v,[],rfl,by go_num,Nat.le_refl _,hv,rfl,by simpa using hJ,KeptW.refl _⟩
 case round =>
  obtain ⟨k,pn,sent,rfl,rfl,hk,hpn,hsp,hJs,hks⟩:=hrel
  have hlt:(pn:Int) < 10000000000000000000:=by
   have:(10:Nat) ^ k≤10 ^ 19:=Nat.pow_le_pow_right (by decide) hk
   have e:(10:Nat) ^ 19 = 10000000000000000000:=by decide
   omega
  by_cases hend:pn = 0∧(whole = false∨k = 0)
  ·obtain ⟨rfl,hend⟩:=hend
   rw [restD_end hend,List.append_nil] at hsp
   have HS:Hid (restD whole 19 v = sent):=hsp
   clear hsp hN hpn
   rcases hend with rfl | rfl
   ·gi_wp2
    go_ret
    exact .inl ⟨rfl,by rw [HS.out];exact hJs,hks⟩
   ·cases whole with
    | false =>
     gi_wp2
     go_ret
     exact .inl ⟨rfl,by rw [HS.out];exact hJs,hks⟩
    | true =>
     gi_wp2
     go_ret
     exact .inl ⟨rfl,by rw [HS.out];exact hJs,hks⟩
  ·obtain ⟨k',rfl,hpn',hnx⟩:=restD_next (whole:=whole) hpn (by
    by_cases h0:pn = 0
    ·right
     refine ⟨?_,fun h=>hend ⟨h0,.inr h⟩⟩
     cases whole with
     | true=>rfl
     | false=>exact absurd ⟨h0,.inl rfl⟩ hend
    ·exact .inl h0)
   rw [hnx] at hsp
   have hlen:(pre ++ sent).length < N:=by
    rw [hsp] at hN
    simp only [List.length_append,List.length_cons] at hN ⊢;omega
   obtain ⟨fn,tmps,assign,body,hy,hR⟩:=hY (n - 1) (pre ++ sent) ((pn % 10:Nat):Int) wr hJs (by omega) (by omega) hlen
   have hm:(pn:Int) % 10 = ((pn % 10:Nat):Int):=by omega
   have HQ:Hid ((pn:Int) / 10 = ((pn / 10:Nat):Int)):=by show (pn:Int) / 10 = _;omega
   have H1:Hid (¬(pn = 0∧(whole = false∨k' + 1 = 0))):=hend
   have HS:Hid (restD whole 19 v = sent ++ ((pn % 10:Nat):Int) :: restD whole k' (pn / 10)):=hsp
   have hx9:((pn % 10:Nat):Int)≤9:=by omega
   generalize hX:((pn % 10:Nat):Int) = X at *
   have HX:Hid (((pn % 10:Nat):Int) = X):=hX
   have fin:∀ {e:Ending} {W3:World},(e = .returned (.bool true)∧J (pre ++ sent ++ [X]) W3∧KeptW wr W3)∨(e = .returned (.bool false)∧Jx (pre ++ sent ++ [X]) W3) →
     (e = .returned (.bool true)∧J (pre ++ (sent ++ [X])) W3∧KeptW W W3)∨(e = .returned (.bool false)∧∃ q,q <+: restD whole 19 v∧Jx (pre ++ q) W3):=by
    rintro e W3 (⟨h1,h2,h3⟩ | ⟨h1,h2⟩)
    ·exact .inl ⟨h1,by simpa using h2,hks.trans h3⟩
    ·exact .inr ⟨h1,sent ++ [X],by rw [HS.out];exact ⟨restD whole k' (pn / 10),by simp⟩,by simpa using h2⟩
   replace hR:=hR.mono (fun e W3 h=>fin h)
   clear hX hsp hN hnx hlen hJs hend hY hd fin
   have hi:(19:Int) - ((k' + 1:Nat):Int) < 19:=by omega
   by_cases h0:pn = 0
   ·obtain rfl:whole = true:=by
     cases whole with
     | true=>rfl
     | false=>exact absurd ⟨h0,.inl rfl⟩ H1.out
    subst h0
    obtain rfl:X = 0:=by have:=HX.out;omega
    gi_wp2
    refine ⟨hdd _,?_⟩
    refine hR.mono ?_
    rintro e W3 (⟨rfl,hJ3,hk3⟩ | ⟨rfl,hx3⟩)
    ·gi_wp2
     go_roundw
     case rel=>exact ⟨k',0 / 10,sent ++ [0],by simp,by go_num,by omega,hpn',by rw [HS.out];simp,hJ3,hk3⟩
     case measure=>simp [intOf];omega
    ·gi_wp2
     go_ret
     exact .inr ⟨rfl,hx3⟩
   ·have h0':(0:Int) < pn:=by omega
    gi_wp2
    refine ⟨hdd _,?_⟩
    refine hR.mono ?_
    rintro e W3 (⟨rfl,hJ3,hk3⟩ | ⟨rfl,hx3⟩)
    ·gi_wp2
     go_roundw
     case rel=>exact ⟨k',pn / 10,sent ++ [X],by rw [HQ.out],by go_num,by omega,hpn',by rw [HS.out];simp,hJ3,hk3⟩
     case measure=>simp [intOf];omega
    ·gi_wp2
     go_ret
     exact .inr ⟨rfl,hx3⟩
end Go.Proofs.YtnkpbjmfdfjeiaaGreatDoor
namespace Go.Proofs.YtnkpbjmfdfjeiaaGreatDoor
open Go.RowKit
theorem cutR_low (us:List Int) (n:Nat) (d:Int) (j i:Nat) (h:i + j < n):lm (cutR us n d j).1 i = lm us i:=by
 induction j with
 | zero=>rfl
 | succ j ih=>simp only [cutR];rw [lm_set,if_neg (by omega),ih (by omega)]
theorem div_mul (t d P:Int):t / d * P * d + t % d * P = t * P:=by
 have h:t = t / d * d + t % d:=by rw [Int.mul_comm];exact (Int.mul_ediv_add_emod t d).symm
 have e:t / d * P * d = t / d * d * P:=Int.mul_right_comm _ _ _
 rw [e,← Int.add_mul,← h]
theorem cutR_val {us:List Int} {d:Int} (n:Nat) (hu:AllW us) (hd:0 < d) (hn:n≤us.length) (j:Nat) (hj:j≤n) :
  (vS (cutR us n d j).1 n - vS us (n - j)) * d + (cutR us n d j).2 * pw (n - j) = vS us n - vS us (n - j):=by
 induction j with
 | zero=>simp [cutR]
 | succ j ih =>
  have ih:=ih (by omega)
  obtain ⟨h1,h2,h3,h4⟩:=cutR_ok (us:=us) n hu hd j
  have hl:=cutR_low us n d j (n - 1 - j) (by omega)
  simp only [cutR]
  generalize (cutR us n d j).1 = U at *
  generalize (cutR us n d j).2 = C at *
  rw [vS_set _ (by omega) (by omega),hl]
  obtain ⟨m,hm⟩:∃ m,n - j = m + 1:=⟨n - j - 1,by omega⟩
  have em:n - (j + 1) = m:=by omega
  have em2:n - 1 - j = m:=by omega
  rw [hm] at ih
  rw [em,em2]
  simp only [vS] at ih
  rw [pw_succ] at ih
  have e1:=div_mul (C * 18446744073709551616 + lm us m) d (pw m)
  rw [Int.add_mul (C * 18446744073709551616)] at e1
  have e2:C * (pw m * 18446744073709551616) = C * 18446744073709551616 * pw m:=by rw [Int.mul_comm (pw m),Int.mul_assoc]
  rw [e2] at ih
  have e3:(vS U n + ((C * 18446744073709551616 + lm us m) / d - lm us m) * pw m - vS us m) * d = (vS U n - (vS us m + lm us m * pw m)) * d + (C * 18446744073709551616 + lm us m) / d * pw m * d:=by
   rw [← Int.add_mul]
   congr 1
   rw [Int.sub_mul]
   omega
  rw [e3]
  generalize (vS U n - (vS us m + lm us m * pw m)) * d = A at *
  omega
theorem cutR_end {us:List Int} {d:Int} (hu:AllW us) (hd:0 < d):AllW (cutR us us.length d us.length).1∧(cutR us us.length d us.length).1.length = us.length∧val (cutR us us.length d us.length).1 = val us / d∧(cutR us us.length d us.length).2 = val us % d:=by
 obtain ⟨h1,h2,h3,h4⟩:=cutR_ok (us:=us) us.length hu hd us.length
 have hv:=cutR_val us.length hu hd (Nat.le_refl _) us.length (Nat.le_refl _)
 rw [Nat.sub_self,pw_zero] at hv
 simp only [vS] at hv
 have e1:vS (cutR us us.length d us.length).1 us.length = val (cutR us us.length d us.length).1:=vS_long (by omega)
 have e2:vS us us.length = val us:=rfl
 rw [e1,e2] at hv
 obtain ⟨u1,u2⟩:=div_unique (x:=val us) (y:=d) (q:=val (cutR us us.length d us.length).1) (r:=(cutR us us.length d us.length).2) (by simp at hv;omega) h3 h4
 exact ⟨h1,h2,u1.symm,u2.symm⟩
end Go.Proofs.YtnkpbjmfdfjeiaaGreatDoor
namespace Go.Proofs.YtnkpbjmfdfjeiaaGreatDoor
open Go.RowKit Go.Shelf
attribute [local go_sem] Oper.semAt_some
def cellD (w:World) (g i:Nat):Int:=match w.cell? ⟨g,i,none⟩ with | some (.int _ z)=>z | _=>0
def vC (w:World) (g:Nat):Nat→Int
 | 0=>0
 | n + 1=>vC w g n + cellD w g n * pw n
theorem vC_blk {w:World} {g:Nat} {us:List Int} (h:Blk w g us) (n:Nat) (hn:n≤us.length):vC w g n = vS us n:=by
 induction n with
 | zero=>rfl
 | succ n ih =>
  have e:cellD w g n = lm us n:=by unfold cellD;rw [h.cell (by omega)]
  simp only [vC,vS];rw [ih (by omega),e]
def leftW (wr:World) (r:Value):Nat:=match r with | .slice (some p) n _=>(vC wr p.block n).toNat | _=>0
theorem leftW_blk {w:World} {g:Nat} {us:List Int} (h:Blk w g us) (n cap:Nat) (hn:n≤us.length):leftW w (.slice (some ⟨g,0,none⟩) n cap) = (vS us n).toNat:=by
 show (vC w g n).toNat = _
 rw [vC_blk h n hn]
theorem cut_piece {us:List Int} (n:Nat) (hu:AllW us) (hn:n≤us.length) :
  (cutR us n 10000000000000000000 n).2.toNat = (vS us n).toNat % 10 ^ 19∧(vS (cutR us n 10000000000000000000 n).1 n).toNat = (vS us n).toNat / 10 ^ 19∧0≤(cutR us n 10000000000000000000 n).2∧(cutR us n 10000000000000000000 n).2 < 10000000000000000000:=by
 have h:=cutR_val (d:=10000000000000000000) n hu (by decide) hn n (Nat.le_refl _)
 obtain ⟨h1,h2,h3,h4⟩:=cutR_ok (us:=us) n (d:=10000000000000000000) hu (by decide) n
 rw [Nat.sub_self] at h
 simp only [vS,pw_zero] at h
 have v0:=(vS_nn hu n).1
 have v1:=(vS_nn h1 n).1
 generalize (cutR us n 10000000000000000000 n).1 = U at *
 generalize (cutR us n 10000000000000000000 n).2 = C at *
 generalize vS U n = q at *
 generalize vS us n = v at *
 have e:(10:Nat) ^ 19 = 10000000000000000000:=by decide
 rw [e]
 omega
set_option maxRecDepth 100000 in
set_option maxHeartbeats 1000000 in
theorem digits1_in (l:Nat) (J Jx:List Int→World→Prop) (Bx:Nat) (a:Option Addr) (n c:Nat) (xs:List Int) (W:World) (hJ:AbW W.heap.size J)
  (hY:∀ (m:Nat) pre x W1,J pre W1→0≤x→x≤9→pre.length < (decs (val xs).toNat).length→YieldAt Fence.wide m Tryz.prog l #[.int .i64 x] W1 fun e W' =>
   (e = .returned (.bool true)∧J (pre ++ [x]) W'∧KeptW W1 W')∨(e = .returned (.bool false)∧Jx (pre ++ [x]) W'))
  (hbox:W.cell? ⟨Bx,0,none⟩ = some (.slice a n c)) (hn:n = xs.length) (hl:n≤c) (hm:n≤1000000000000) (hr:Reads W a xs) (hx:AllW xs) (h0:J [] W) (k:Nat) :
  CallsIn Fence.wide k Tryz.prog 113 #[.func (.yield l) #[] #[],.pointer (some ⟨Bx,0,none⟩)] W fun e W'=>(∃ v,e = .returned v) ∧
   ((∃ ys,ys = decs (val xs).toNat∧J ys W')∨(∃ pre,pre <+: decs (val xs).toNat∧Jx pre W')):=by
 have Hn:Hid (n = xs.length):=hn
 have ta:tlen xs≤xs.length:=tl_le _ _
 have hnorm:=norm_any a n c xs W hn hl (by omega) hr
 have HL:Hid ((trimL xs).length = tlen xs):=length_trimL xs
 have hv0:vS (trimL xs) (tlen xs) = val xs:=by rw [← val_trimL xs,← HL.out];exact vS_long (Nat.le_refl _)
 have HV:Hid (vS (trimL xs) (tlen xs) = val xs):=hv0
 have hT:tlen xs≤1000000000000:=by omega
 have HZ:Hid (tlen xs = 0↔vS (trimL xs) (tlen xs) = 0):=by show _↔_;rw [hv0];exact tlen_zero hx
 have haw:=hx.trim
 generalize hU:trimL xs = us0 at *
 generalize hT0:tlen xs = t0 at *
 generalize hD:decs (val xs).toNat = D at *
 have HD:Hid (decs (val xs).toNat = D):=hD
 clear hn hU hT0 hD hv0 ta
 refine callsIn_of_wp Tryz.func113 rfl trivial ?_ rfl
 simp only [Tryz.ntmps113,List.size_toArray,List.length_cons,List.length_nil,Nat.reduceAdd,Nat.reduceSub,Array.replicate_succ,Array.replicate_zero,List.push_toArray,List.append_toArray,List.nil_append,List.cons_append]
 gi_wp2
 refine ⟨trivial,fun h=>(by cases h),?_⟩
 refine (callsIn_wide.2 hnorm).mono ?_
 rintro e W1 ⟨g,rfl,hg,hB1,hbel⟩
 have hJ1:J [] W1:=hJ [] W W1 h0 (Turns.of_below hbel)
 clear hnorm hbox hr hbel h0 hx
 gi_wp2
 gi_loopw [3] (fun r wr=>∃ (t:Nat) (us pre:List Int),r = .slice (some ⟨g,0,none⟩) t t0∧t≤t0∧us.length = t0∧AllW us∧Blk wr g us∧(t = 0↔vS us t = 0)∧D = pre ++ decs (vS us t).toNat∧J pre wr) (fun r wr=>leftW wr r)
 case atStart =>
  refine ⟨t0,us0,[],rfl,Nat.le_refl _,HL.out,haw,hB1,?_,by rw [HV.out,HD.out];rfl,hJ1⟩
  exact HZ.out
 case round =>
  obtain ⟨t,us,pre,rfl,ht,hul,hau,hB,htz,hdd,hJs⟩:=hrel
  by_cases h0:t = 0
  ·have hv:vS us t = 0:=htz.1 h0
   rw [hv] at hdd
   subst h0
   have HDD:Hid (D = pre):=by show D = pre;rw [hdd];simp [decs_zero]
   clear hdd hv
   gi_wp2
   go_end0
   exact ⟨⟨_,rfl⟩,.inl (by rw [HDD.out];exact hJs)⟩
  ·have hV:vS us t ≠ 0:=fun h=>h0 (htz.2 h)
   obtain ⟨e1,e2,e3,e4⟩:=cut_piece t hau (by omega)
   obtain ⟨o1,o2,-,-⟩:=cutR_ok (us:=us) t (d:=10000000000000000000) hau (by decide) t
   have hcut:=cut_any g t t0 us 10000000000000000000 wr hB (by omega) (by omega) hau (by decide) (by decide)
   have v0:=(vS_nn hau t).1
   have v1:=(vS_nn o1 t).1
   generalize (cutR us t 10000000000000000000 t).1 = U at *
   generalize (cutR us t 10000000000000000000 t).2 = C at *
   obtain ⟨p,rfl⟩:∃ p:Nat,C = p:=⟨C.toNat,by omega⟩
   rw [Int.toNat_natCast] at e1
   have hp:=decs_piece (vS us t).toNat
   rw [← e1,← e2] at hp
   have hq:(vS U t).toNat < (vS us t).toNat:=by rw [e2];exact Nat.div_lt_self (by omega) (by decide)
   have HM:Hid ((vS U t).toNat < (vS us t).toNat):=hq
   have HP:Hid (D = pre ++ (restD (decide ((vS U t).toNat ≠ 0)) 19 p ++ decs (vS U t).toNat)):=by show D = _;rw [hdd,hp]
   have HK:Hid ((vS us t).toNat = leftW wr (.slice (some ⟨g,0,none⟩) t t0)):=by show _ = _;rw [leftW_blk hB t t0 (by omega)]
   have hpl:p < 10 ^ 19:=by rw [e1];exact Nat.mod_lt _ (by decide)
   -- what trim leaves
   have tk:∀ j,j≤t→vS (U.take t) j = vS U j:=fun j hj=>vS_congr (fun i hi=>lm_take (by omega))
   have tl1:(U.take t).length = t:=by rw [List.length_take];omega
   have tv:val (U.take t) = vS U t:=by rw [← vS_long (us:=U.take t) (n:=t) (by omega),tk t (Nat.le_refl _)]
   have tn:tlen (U.take t)≤t:=by have:=tl_le (U.take t) (U.take t).length;unfold tlen;omega
   have te:vS U (tlen (U.take t)) = vS U t:=by rw [← tk _ tn,vS_trim,tv]
   have tz:tlen (U.take t) = 0↔vS U t = 0:=by rw [tlen_zero (o1.take t),tv]
   have TL1:Hid (t = (U.take t).length):=tl1.symm
   generalize hT':tlen (U.take t) = t' at *
   have HT:Hid (tlen (U.take t) = t'):=hT'
   have TE:Hid (vS U t' = vS U t):=te
   have TZ:Hid (t' = 0↔vS U t = 0):=tz
   clear hT' hp hdd e1 e2 e3 e4 hV tk tl1 tv hq htz te tz
   have ht0:(0:Int) < t:=by omega
   have tt:(0:Int) < t'∨t' = 0:=by omega
   have HUL:Hid (U.length = t0):=by show _ = _;omega
   clear hul o2
   gi_wp2
   refine ⟨trivial,fun h=>(by cases h),?_⟩
   refine (callsIn_wide.2 hcut).mono ?_
   rintro e w1 ⟨rfl,hB2,hoff⟩
   have hJ1':J pre w1:=hJ pre wr w1 hJs (Turns.of_off hoff hg hB.wd)
   have htr:=trim_any (some ⟨g,0,none⟩) t t0 (U.take t) w1 TL1.out ht (by omega) (hB2.reads t)
   rw [HT.out] at htr
   clear hcut hJs hB hoff hJ1
   gi_wp2
   refine ⟨trivial,fun h=>(by cases h),?_⟩
   refine (callsIn_wide.2 htr).mono ?_
   rintro e w1' ⟨rfl,rfl⟩
   clear htr
   have hb:decide ((vS U t).toNat ≠ 0) = decide (0 < t'):=by
    rcases tt with tt | tt
    ·have h1:=mt TZ.out.2 (by omega)
     rw [decide_eq_true (show 0 < t' by omega)]
     simp only [decide_eq_true_eq];omega
    ·have h1:=TZ.out.1 tt
     rw [decide_eq_false (show ¬ 0 < t' by omega)]
     simp only [decide_eq_false_iff_not];omega
   have HPD:D = pre ++ restD (decide (0 < t')) 19 p ++ decs (vS U t').toNat:=by rw [TE.out,List.append_assoc,← hb];exact HP.out
   have HNB:pre.length + (restD (decide (0 < t')) 19 p).length≤D.length:=by rw [HPD];simp only [List.length_append];omega
   have HPX:Hid (D = pre ++ restD (decide (0 < t')) 19 p ++ decs (vS U t').toNat):=HPD
   have HNX:Hid (pre.length + (restD (decide (0 < t')) 19 p).length≤D.length):=HNB
   have TN:Hid (t'≤t):=tn
   clear HPD HNB hb tt tn
   gi_wp2
   refine ⟨trivial,fun h=>(by cases h),?_⟩
   refine (tell_in rfl rfl trivial l D.length J Jx hY (k - 1) p (decide (0 < t')) hpl pre w1 hJ1' HNX.out).mono ?_
   rintro e W3 (⟨rfl,hJ3,hk3⟩ | ⟨rfl,q,hq3,hx3⟩)
   ·have hB3:=hB2.keptW hk3
    gi_wp2
    go_roundw
    case rel=>exact ⟨t',U,pre ++ restD (decide (0 < t')) 19 p,rfl,by have:=TN.out;omega,HUL.out,o1,hB3,by rw [TE.out];exact TZ.out,HPX.out,hJ3⟩
    case measure=>rw [leftW_blk hB3 _ t0 (by have:=HUL.out;have:=TN.out;omega),← HK.out,TE.out];exact HM.out
   ·gi_wp2
    refine bodyPost_ret (results_none rfl _ _ _) rfl ?_
    exact ⟨⟨_,rfl⟩,.inr ⟨pre ++ q,by rw [HPX.out,List.append_assoc];exact (List.prefix_append_right_inj pre).2 (hq3.trans (List.prefix_append _ _)),hx3⟩⟩
end Go.Proofs.YtnkpbjmfdfjeiaaGreatDoor
namespace Go.Proofs.YtnkpbjmfdfjeiaaGreatDoor
open Go.RowKit Go.Shelf
theorem adr_ne {g i k:Nat} (h:i ≠ k):(⟨g,i,none⟩:Addr) ≠ ⟨g,k,none⟩:=by
 intro e
 injection e with _ e2
 exact h e2
def revF (f:Nat→Int) (L i k:Nat):Int:=if k < i∨L≤k + i then f (L - 1 - k) else f k
set_option maxHeartbeats 1000000 in
theorem reverse_bytes (g L cap:Nat) (f:Nat→Int) (w:World) (hL:L≤1000000000000000) (hc:∀ i,i < L→w.cell? ⟨g,i,none⟩ = some (.int .u8 (f i))) (hf:∀ i,i < L→w.frozen? ⟨g,i,none⟩ = false) :
  Calls Tryz.prog 97 #[.slice (some ⟨g,0,none⟩) L cap] w fun e w'=>(∃ v,e = .returned v)∧(∀ i,i < L→w'.cell? ⟨g,i,none⟩ = some (.int .u8 (f (L - 1 - i))))∧Off g w w':=by
 go_enter Tryz.func97,Tryz.ntmps97
 go_wp2
 have mixed:Tryz.prog.follows .mixedOrders = true:=by kernel_rfl
 go_loopw [2,3] (fun s2 s3 wr=>∃ i:Nat,s2 = .int .i64 i∧s3 = .int .i64 ((L:Int) - 1 - i)∧2 * i≤L∧(∀ k,k < L→wr.cell? ⟨g,k,none⟩ = some (.int .u8 (revF f L i k)))∧(∀ k,k < L→wr.frozen? ⟨g,k,none⟩ = false)∧Off g w wr) (fun i j _=>(intOf j - intOf i + 1).toNat)
 case atStart=>exact ⟨0,by go_num,by go_num,by omega,fun k hk=>by rw [hc k hk];simp [revF];omega,hf,Off.refl _ _⟩
 case round =>
  obtain ⟨i,rfl,rfl,hi,hck,hfk,hoff⟩:=hrel
  by_cases hlt:(i:Int) < (L:Int) - 1 - i
  ·obtain ⟨j,hj⟩:∃ j:Nat,(L:Int) - 1 - i = j:=⟨L - 1 - i,by omega⟩
   have HJ:Hid ((L:Int) - 1 - i = j):=hj
   have ci:=hck i (by omega)
   have cj:=hck j (by omega)
   have fi:=hfk i (by omega)
   have fj:=hfk j (by omega)
   have ei:revF f L i i = f i:=by unfold revF;rw [if_neg (by omega)]
   have ej:revF f L i j = f j:=by unfold revF;rw [if_neg (by omega)]
   rw [ei] at ci
   rw [ej] at cj
   have hij:(i:Int) < j:=by omega
   have hjL:(j:Int) < L:=by omega
   have HIJ:Hid (i ≠ j):=by show i ≠ j;omega
   have HC:Hid (∀ k,k < L→wr.cell? ⟨g,k,none⟩ = some (.int .u8 (revF f L i k))):=hck
   have HF:Hid (∀ k,k < L→wr.frozen? ⟨g,k,none⟩ = false):=hfk
   rw [hj]
   clear hck hfk ei ej hc hf hj hlt
   go_wp2_with fail
   go_region
   go_wp2
   refine ⟨⟨i + 1,by go_num,by have:=HJ.out;go_num,by have:=HJ.out;omega,fun k hk=>?_,fun k hk=>?_,((hoff.set i _).set j _).drew⟩,by simp [intOf];omega⟩
   ·show ((wr.setCell ⟨g,i,none⟩ (.int .u8 (f j))).setCell ⟨g,j,none⟩ (.int .u8 (f i))).cell? ⟨g,k,none⟩ = _
    have hJ:=HJ.out
    by_cases e1:k = j
    ·subst e1
     have cj':(wr.setCell ⟨g,i,none⟩ (.int .u8 (f k))).cell? ⟨g,k,none⟩ = some (.int .u8 (f k)):=by
      rw [World.cell?_setCell_other _ _ _ _ (adr_ne HIJ.out)];exact cj
     rw [World.cell?_setCell_same _ _ _ cj']
     unfold revF
     rw [if_pos (by omega),show L - 1 - k = i by omega]
    ·rw [World.cell?_setCell_other _ _ _ _ (adr_ne (Ne.symm e1))]
     by_cases e2:k = i
     ·subst e2
      rw [World.cell?_setCell_same _ _ _ ci]
      unfold revF
      rw [if_pos (by omega),show L - 1 - k = j by omega]
     ·rw [World.cell?_setCell_other _ _ _ _ (adr_ne (Ne.symm e2)),HC.out k hk]
      unfold revF
      by_cases e3:k < i∨L≤k + i
      ·rw [if_pos e3,if_pos (by omega)]
      ·rw [if_neg e3,if_neg (by omega)]
   ·show ((wr.setCell ⟨g,i,none⟩ (.int .u8 (f j))).setCell ⟨g,j,none⟩ (.int .u8 (f i))).frozen? ⟨g,k,none⟩ = _
    rw [World.frozen?_setCell,World.frozen?_setCell]
    exact HF.out k hk
  ·go_wp2
   go_end0
   refine ⟨⟨_,rfl⟩,fun k hk=>?_,hoff⟩
   rw [hck k hk]
   unfold revF
   split
   ·rfl
   ·have:k = L - 1 - k:=by omega
    rw [← this]
end Go.Proofs.YtnkpbjmfdfjeiaaGreatDoor
namespace Go.Proofs.YtnkpbjmfdfjeiaaGreatDoor
open Go.RowKit Go.Shelf
attribute [local go_sem] Oper.semAt_some
theorem digits_in (a:Option Addr) (n c k:Nat) (w:World) :
  CallsIn Fence.wide k Tryz.prog 96 #[.slice a n c] w fun e w'=>e = .returned (.func (.func 113) #[] #[.pointer (some ⟨w.heap.size,0,none⟩)])∧w' = w.alloc (.cells #[.slice a n c] 23):=by
 refine callsIn_of_wp Tryz.func96 rfl trivial ?_ rfl
 simp only [Tryz.ntmps96,List.size_toArray,List.length_cons,List.length_nil,Nat.reduceAdd,Nat.reduceSub,Array.replicate_succ,Array.replicate_zero,List.push_toArray,List.append_toArray,List.nil_append,List.cons_append]
 gi_wp2
 go_ret
 exact ⟨rfl,rfl⟩
theorem digits_seq {a:Option Addr} {n c:Nat} {x:Int} {S:Nat} {w:World} (Bx:Nat) (hB:Bx < w.heap.size) (hc:w.cell? ⟨Bx,0,none⟩ = some (.slice a n c)) (hx:Num w a n c x S) (hS:S≤1000000000000) :
  SeqW Fence.wide Tryz.prog 113 #[.pointer (some ⟨Bx,0,none⟩)] (fun xs=>xs = decs x.toNat) (fun pre=>pre <+: decs x.toNat) (decs x.toNat).length w:=by
 intro k l J Jx W hW hJ _ hY h0
 obtain ⟨xs,h1,h2,h3,h4,rfl,h6⟩:=hx.below hW
 exact digits1_in l J Jx Bx a n c xs W hJ hY ((hW.cell (p:=⟨Bx,0,none⟩) hB).trans hc) h1 h2 (by omega) h3 h4 h0 k
theorem KeptW.grown {W W':World} {row:Option Nat} (hg:W.grownBy W' row) (hr:∀ (j:Nat) (o:Obj),row = some j→W.heap[j]? = some o→isWd o = false):KeptW W W' :=
 ⟨hg.size,fun k o hk ho=>(hg.block k (Array.getElem?_eq_some_iff.1 hk).1 (fun e=>by rw [hr k o e.symm hk] at ho;cases ho)).trans hk⟩
theorem keptW_appended {W w1:World} {n₀ B:Nat} {t e:TypeId} {v v':Value} {k:Nat} {xs:List Value} {tmp:Obj} (hv:Boxed w1 B t v) (ht:t ≠ 107) (he:e ≠ 107)
  (hrow:W.ownsRow n₀ e 1 v k xs) (hgrow:(W.alloc tmp).grownBy w1 v.ownBlock):KeptW W (w1.setCell ⟨B,0,none⟩ v'):=by
 refine ((KeptW.of_below ((Below.refl _ _).alloc (Nat.le_refl _) tmp)).trans (KeptW.grown hgrow fun j o ej hj=>?_)).trans (KeptW.grown (grownBy_setCell' w1 B v') fun j o ej hj=>?_)
 ·rcases (hrow.alloc tmp).2 with ⟨rfl,_⟩ | ⟨g,cap,cur,rfl,_,hgb,_⟩
  ·simp [Value.ownBlock] at ej
  ·obtain rfl:g = j:=by simpa [Value.ownBlock] using ej
   rw [hgb] at hj;cases hj;simpa [isWd] using he
 ·cases ej
  rw [show w1.heap[B]? = _ from hv] at hj;cases hj;simpa [isWd] using ht
theorem ownW_row {β:Type} {n₀ B D:Nat} {t e:TypeId} (he:e ≠ 107) (hB:B < D) (k:β→Nat) (f:β→List Value) (G:β→Value→Prop):OwnW D (fun s W=>∃ v,Boxed W B t v∧W.ownsRow n₀ e 1 v (k s) (f s)∧G s v):=by
 rintro s X Y ⟨v,hv,hr,hG⟩ ht
 refine ⟨v,ht.block B _ hv (.inl hB),⟨hr.1,?_⟩,hG⟩
 rcases hr.2 with hn | ⟨g,cap,cur,e1,e2,hgb,rest⟩
 ·exact .inl hn
 ·exact .inr ⟨g,cap,cur,e1,e2,ht.block g _ hgb (.inr (by simpa [isMine,isWd,Obj.isCells] using he)),rest⟩
def txt (v:Nat):ByteArray:=if v = 0 then strOfNums [48] else strOfNums ((decs v).map (48 + ·)).reverse
theorem Tryz.infoU8:(Tryz.prog.info? 5).map (fun i=>(i.zero,i.size,i.bytes)) = some (some (.int .u8 0),1,1):=by kernel_rfl
set_option maxRecDepth 100000 in
set_option maxHeartbeats 1000000 in
theorem text_any {a:Option Addr} {n c:Nat} {x:Int} {S:Nat} (w:World) (hx:Num w a n c x S) (hS:S≤1000000000000) :
  Calls Tryz.prog 77 #[.slice a n c] w fun e w'=>e = .returned (.string (txt x.toNat))∧Below w.heap.size w w':=by
 refine (callsIn_wide (n:=3)).1 ?_
 obtain ⟨i0,hi,hz0,hz1,hz2⟩:=info_parts Tryz.infoU8
 refine callsIn_of_wp_marks Tryz.func77 rfl trivial ?_ rfl
 simp only [Tryz.ntmps77,List.size_toArray,List.length_cons,List.length_nil,Nat.reduceAdd,Nat.reduceSub,Array.replicate_succ,Array.replicate_zero,List.push_toArray,List.append_toArray,List.nil_append,List.cons_append]
 gi_wp2
 refine ⟨trivial,?_⟩
 refine (digits_in a n c 2 _).mono ?_
 rintro e w' ⟨rfl,rfl⟩
 gi_wp2
 have bO:=Boxed.new w 38 (.slice none 0 0)
 have bN:=Boxed.new (w.alloc (.cells #[.slice none 0 0] 38)) 23 (.slice a n c)
 rw [World.size_alloc] at bN
 have hB0:Below w.heap.size w ((w.alloc (.cells #[.slice none 0 0] 38)).alloc (.cells #[.slice a n c] 23)):=((Below.refl _ w).alloc (Nat.le_refl _) _).alloc (by simp) _
 have hseq:=digits_seq (w.heap.size + 1) bN.lt bN.cell (hx.below hB0) hS
 have hlen:(decs x.toNat).length≤30000000000000:=by
  obtain ⟨xs,h1,_,_,h4,h5,h6⟩:=hx
  have:=decs_val h4
  rw [h5] at this;omega
 have bO':=bO.alloc (.cells #[.slice a n c] 23)
 have hsz:((w.alloc (.cells #[.slice none 0 0] 38)).alloc (.cells #[.slice a n c] 23)).heap.size = w.heap.size + 2:=by simp
 generalize ((w.alloc (.cells #[.slice none 0 0] 38)).alloc (.cells #[.slice a n c] 23)) = W0 at *
 clear bN bO
 refine range_out (gf:=113) (lb:=#[.pointer (some ⟨w.heap.size + 1,0,none⟩)]) rfl rfl rfl trivial (enters_of Tryz.func113 (by kernel_rfl) rfl) hseq (Below.refl _ _) rfl
  (fun pre W=>(∃ v,Boxed W w.heap.size 38 v∧W.ownsRow w.heap.size 5 1 v pre.length (pre.map fun d=>.int .u8 (48 + d))∧(v = .slice none 0 0↔pre = []))∧Below w.heap.size w W)
  (fun _ _ _=>False) ?own (fun _ _ _ _ h _=>h) ?start
  (fun x=>{ tmps:=#[.slice a n c,undef,.string ⟨#[]⟩,.pointer (some ⟨w.heap.size,0,none⟩),.int .i64 x,.slice a n c,.func (.func 113) #[] #[.pointer (some ⟨w.heap.size + 1,0,none⟩)],.int .i64 x,undef,undef,undef,undef,undef,undef,undef,undef,undef,undef,undef,undef,undef],defers:=[] }) ?assign ?body ?done ?stop
 case own=>exact OwnW.and (ownW_row (by decide) (by omega) (fun pre:List Int=>pre.length) (fun pre=>pre.map fun d=>.int .u8 (48 + d)) (fun pre v=>v = .slice none 0 0↔pre = [])) (ownW_below (by omega) (Nat.le_refl _))
 case start=>exact ⟨⟨_,bO',World.ownsRow_nil _ _ _ _,by simp⟩,hB0⟩
 case assign =>
  intro l m x W K hK
  gi_wp2
  exact hK
 case stop =>
  rintro D c pre W _ _ h _
  exact h.elim
 case body =>
  rintro l m pre x W _ _ ⟨⟨v,hv,hrow,hnil⟩,hB⟩ x0 x9 hlt
  have hc:=hv.cell
  have hpl:pre.length + 1≤30000000000000:=by omega
  have hm:(30000000000000:Nat)≤maxLen:=by decide
  gi_wp2_with (gi_at_builtin;refine wpListIn_append_own _ rfl _ _ 38 rfl w.heap.size 5 i0 (.int .u8 0) 1 1 Tryz.underlying38 hi hz0 hz1 hz2 rfl (by decide) _ _ _ rfl (hrow.alloc _) ⟨W.heap.size,0,none⟩ 1 1 [.int .u8 (48 + x)] rfl rfl (cell_one_new _ _ _) (by simp [Value.oneCell']) (by omega) (by omega) (by have:=hB.size;simp;omega) ?_;intro v' w1 hown' hgrow _;obtain ⟨g',cap',rfl⟩:=ownsRow_succ hown';obtain ⟨hv1,hv2,hr2,hk2,hb2⟩:=hv.appended (by decide) hrow hB.size (Nat.le_refl _) hown' hgrow;have hkw:=keptW_appended (v':=.slice (some ⟨g',0,none⟩) (pre.length + 1) cap') hv1 (by decide) (by decide) hrow hgrow;have hc1:=hv1.cell;have hf1:=hv1.frozen)
  exact ⟨hk2.from _,hkw,⟨_,hv2,by simpa using hr2,by simp⟩,hB.trans hb2⟩
 case done =>
  rintro D ys W hD rfl ⟨⟨v,hv,hrow,hnil⟩,hB⟩ hK
  have hc:=hv.cell
  rcases hrow.2 with ⟨rfl,hn0⟩ | ⟨g,cap,cur,rfl,hg,hgb,hcap,hmx,hcs,htk⟩
  ·have hx0:x.toNat = 0:=decs_nil (hnil.1 rfl)
   gi_wp2
   refine ⟨by simp,.inl ⟨_,_,rfl,run_takeDeferred hK,?_⟩⟩
   refine ⟨_,results_tmp rfl _ _ _,?_,hB.trans (belowK_b (w:=w) (Nat.le_refl _) W D _ _ (by omega) hK rfl rfl)⟩
   rfl
  ·have hne:decs x.toNat ≠ []:=fun h=>(by have:=hnil.2 h;cases this)
   have hpos:0 < (decs x.toNat).length:=List.length_pos_iff.2 hne
   have hx0:x.toNat ≠ 0:=fun h=>hne (by rw [h,decs_zero])
   have hcl:∀ i,i < (decs x.toNat).length→W.cell? ⟨g,i,none⟩ = some (.int .u8 (48 + (decs x.toNat).getD i 0)):=by
    intro i hi
    have h1:(cur.toList.take ((decs x.toNat).length * 1))[i]? = cur.toList[i]?:=List.getElem?_take_of_lt (by omega)
    rw [htk,List.getElem?_map,List.getElem?_eq_getElem hi] at h1
    have h2:cur[i]? = some (.int .u8 (48 + (decs x.toNat)[i])):=by rw [← Array.getElem?_toList,← h1];rfl
    simp only [List.getD,List.getElem?_eq_getElem hi,Option.getD_some]
    simp [World.cell?,hgb,h2]
   have hfr:∀ i,i < (decs x.toNat).length→W.frozen? ⟨g,i,none⟩ = false:=fun i _=>by simp [World.frozen?,hgb]
   gi_wp2
   refine ⟨trivial,?_⟩
   refine (callsIn_wide.2 (reverse_bytes g _ cap (fun i=>48 + (decs x.toNat).getD i 0) W (by omega) hcl hfr)).mono ?_
   rintro e W3 ⟨⟨v,rfl⟩,hcl3,hoff⟩
   have hv3:Boxed W3 w.heap.size 38 (.slice (some ⟨g,0,none⟩) (decs x.toNat).length cap):=(hoff.block _ (fun e=>by rw [e] at hv;have:=(show W.heap[g]? = _ from hv).symm.trans hgb;simp at this)).trans hv
   have hc3:=hv3.cell
   have hK3:W3.heap[D]? = some (.deferred (some [])):=(hoff.block _ (fun e=>by rw [e,hgb] at hK;cases hK)).trans hK
   have hB3:Below w.heap.size w W3:=hB.trans (hoff.below hg)
   have hrl:(((decs x.toNat).map (48 + ·)).reverse).length = (decs x.toNat).length:=by simp
   have hcv:=run_convert_bytes_arg (P:=Tryz.prog) W3 38 5 Tryz.underlying38 Tryz.underlying5 g 0 (decs x.toNat).length cap (((decs x.toNat).map (48 + ·)).reverse) hrl (fun i hi=>by
    rw [Nat.zero_add,hcl3 i hi]
    rw [← List.map_reverse]
    simp only [List.getD,List.getElem?_map,List.getElem?_reverse hi]
    rw [List.getElem?_eq_getElem (by omega)];rfl) 9 Tryz.underlying9
   have htx:txt x.toNat = strOfNums ((decs x.toNat).map (48 + ·)).reverse:=by unfold txt;rw [if_neg hx0]
   have HT:Hid (txt x.toNat = strOfNums ((decs x.toNat).map (48 + ·)).reverse):=htx
   clear hc hcl hfr hrow htk hgb hK hB htx
   gi_wp2
   refine ⟨by simp,.inl ⟨_,_,rfl,run_takeDeferred hK3,?_⟩⟩
   exact ⟨_,results_tmp rfl _ _ _,by rw [HT.out];rfl,hB3.trans (belowK_b (w:=w) (Nat.le_refl _) W3 D _ _ (by omega) hK3 rfl rfl)⟩
end Go.Proofs.YtnkpbjmfdfjeiaaGreatDoor
