import Derived.Test.YtgdilnljjgdinaaGreatDoorLaF
import Derived.RangeFuncNested
import Derived.Test.YtgdilnljjgdinaaGreatDoorLyAAll
import Derived.LaidEql
import Derived.Stop.Asserts
import Derived.RowKitTokens
import Derived.Test.YtgdilnljjgdinaaGreatDoorLaL
import Derived.Test.YtgdilnljjgdinaaGreatDoorLyNAll
namespace Go.Proofs.YtgdilnljjgdinaaGreatDoor
open Go.RowKit Go.Shelf
variable {F:Fence} {n:Nat} {P:Program}
section loop
variable {g:Operand} {ps:Array Tmp} {assign body:Code} {a:Act} {gf:Nat} {lb:Array Value} {S Sp:List (Array Value)→Prop} {Ok:List (Array Value)→Nat→Array Value→World→Prop} {Pre:World→Prop} {B l dl:Nat} {w0 W1:World} {fn:FuncId}
 {I:List (Array Value) × Nat→World→Prop} {Ix:Code→List (Array Value)→World→Prop} {a₁:Array Value→Act}
theorem rounds0 (hseq:SeqT F P gf lb S Sp Ok Pre w0) (hOk:∀ pre b x (B:Nat) W W',Turns isMineT B W W'→Ok pre b x W→Ok pre b x W') (hfn:F.fn fn) (hps:ps.size=1) (hw:Below w0.heap.size w0 W1) (hpre:Pre W1) (hB:B≤l) (hlw:w0.heap.size≤l)
  (hl:W1.heap[l]? = some (recT fn a.tmps ps assign body dl .ready none)) (hI:OwnT l I) (hIx:∀ c,OwnT l (Ix c)) (h0:I ([],W1.heap.size) W1)
  (hassign:∀ (m:Nat) (x:Array Value) (W:World) (K:Act→World→Prop),(∃ pre b W,Ok pre b x W)→K (a₁ x) W →
   assign.wpIn (F.inRound l) m P (Exit.then K (fun _ _ _=>False)) { tmps:=(ps.zip #[Value.agg x]).foldl (fun t (p,v)=>t.setIfInBounds p v) a.tmps,defers:=[] } W)
  (hbody:∀ (m:Nat) (pre:List (Array Value)) (b:Nat) (x:Array Value) (W:World),(∃ r,W.heap[l]? = some (.loop r))→I (pre,b) W→W1.heap.size≤b→b≤W.heap.size→Below w0.heap.size w0 W→Ok pre b x W→body.wpIn (F.inRound l) m P (LeftT B W1.heap.size b w0.heap.size w0 I Ix (pre++[x]) W) (a₁ x) W) :
  CallsIn F n P gf (#[.func (.yield l) #[] #[]]++lb) W1 fun e W2=>(∃ v,e = .returned v) ∧
   ((∃ xs b,S xs∧I (xs,b) W2∧Below w0.heap.size w0 W2∧W2.heap[l]? = some (recT fn a.tmps ps assign body dl .ready none)) ∨
    (∃ c pre,Sp pre∧Ix c pre W2∧W2.heap[l]? = some (recT fn a.tmps ps assign body dl .done (some c)))):=by
 have hlt1:l<W1.heap.size:=(Array.getElem?_eq_some_iff.1 hl).1
 have mine:∀ {A C:World},Turns isPl W1.heap.size A C→Turns isMineT l A C:=fun t=>t.imp (fun o ho=>by simp [isMineT,ho]) (by omega)
 have still:∀ {A C:World} {st pe},Turns isPl W1.heap.size A C→A.heap[l]? = some (recT fn a.tmps ps assign body dl st pe)→C.heap[l]? = some (recT fn a.tmps ps assign body dl st pe) :=
  fun t h=>t.block l _ h (.inr rfl)
 refine (hseq n l (fun s W=>I s W∧W.heap[l]? = some (recT fn a.tmps ps assign body dl .ready none))
  (fun pre W=>∃ c,Ix c pre W∧W.heap[l]? = some (recT fn a.tmps ps assign body dl .done (some c))) W1 hw hpre
  (fun s A C h t=>⟨hI s A C h.1 (mine t),still t h.2⟩) (fun s A C ⟨c,h1,h2⟩ t=>⟨c,hIx c s A C h1 (mine t),still t h2⟩) ?_ ⟨h0,hl⟩).mono ?_
 ·rintro m pre b x W ⟨hi,hr⟩ hWb hbW hbel hok
  have hlb:l<b:=by omega
  have belP:∀ {V:World} (o o':Obj),V.heap[l]? = some o→Below w0.heap.size w0 V→Below w0.heap.size w0 (V.putObj l o'):=fun o o' h hb=>⟨hb.os,hb.tape,hb.output,by simpa using hb.size,fun k hk=>(World.putObj_heap_other (by omega)).trans (hb.block k hk)⟩
  have hy:=run_yield (P:=P) (args:=#[Value.agg x]) hr (by simp [hps])
  have hOw:OwnT l (fun (_:Unit) V=>Ok pre b x V):=fun _ A C h q=>hOk pre b x l A C q h
  obtain ⟨X,hX⟩:∃ X,X=W:=⟨_,rfl⟩
  refine ⟨fn,_,assign,body,hy,roundIn_of_wpIn hfn (hassign m x W _ ⟨pre,b,W,hok⟩ ?_)⟩
  refine ⟨_,run_beginRound hr rfl,?_⟩
  clear hy
  have busy:(W.putObj l (recT fn a.tmps ps assign body dl .busy none)).heap[l]? = some (recT fn a.tmps ps assign body dl .busy none):=World.putObj_heap_same (Array.getElem?_eq_some_iff.1 hr).1
  have hk0:KeptT W1.heap.size b W (W.putObj l (recT fn a.tmps ps assign body dl .busy none)):=KeptT.putObj _ hr rfl hlb
  refine wpIn_mono (hbody m pre b x (W.putObj l (recT fn a.tmps ps assign body dl .busy none)) ⟨_,busy⟩ (hI.putObj _ hi (Nat.le_refl _) hr rfl) hWb (by simpa using hbW) (belP _ _ hr hbel) (hOw.putObj (s:=()) _ hok (Nat.le_refl _) hr rfl)) ?_
  -- how the record lies behind the body,and behind the round
  have after:∀ {W3:World} (j:Option Code),KeepsFrom B (W.putObj l (recT fn a.tmps ps assign body dl .busy none)) W3 →
    W3.heap[l]? = some (recT fn a.tmps ps assign body dl .busy none) ∧
    (Instr.endRound l j).run P W3 = .ok (.bool j.isNone) (W3.putObj l (recT fn a.tmps ps assign body dl (if j.isNone then .ready else .done) j)) ∧
    (W3.putObj l (recT fn a.tmps ps assign body dl (if j.isNone then .ready else .done) j)).heap[l]? = some (recT fn a.tmps ps assign body dl (if j.isNone then .ready else .done) j):=by
   intro W3 j hk
   have h3:=hk.same l _ hB busy rfl
   exact ⟨h3,run_endRound j h3,World.putObj_heap_same (Array.getElem?_eq_some_iff.1 h3).1⟩
  intro e a3 W3 hp
  have away:∀ c,KeepsFrom B (W.putObj l (recT fn a.tmps ps assign body dl .busy none)) W3∧Ix c (pre++[x]) W3 →
    ∃ v w',(Instr.endRound l (some c)).run P W3 = .ok v w'∧((Ending.returned v = .returned (.bool true)∧(I (pre++[x],w'.heap.size) w'∧w'.heap[l]? = some (recT fn a.tmps ps assign body dl .ready none))∧KeptT W1.heap.size b W w'∧Below w0.heap.size w0 w') ∨
     (Ending.returned v = .returned (.bool false)∧∃ c,Ix c (pre++[x]) w'∧w'.heap[l]? = some (recT fn a.tmps ps assign body dl .done (some c)))):=by
   rintro c ⟨h1,h2⟩
   obtain ⟨p1,p2,p3⟩:=after (some c) h1
   exact ⟨_,_,p2,.inr ⟨rfl,c,(hIx c).putObj _ h2 (Nat.le_refl _) p1 rfl,p3⟩⟩
  cases e with
  | normal =>
   obtain ⟨h1,h2,h4,h3⟩:=hp
   obtain ⟨p1,p2,p3⟩:=after none h1
   have hq:∀ o,(W3.putObj l o).heap.size=W3.heap.size:=fun o=>by simp
   exact ⟨_,_,p2,.inl ⟨rfl,⟨by rw [hq];exact hI.putObj _ h3 (Nat.le_refl _) p1 rfl,p3⟩,(hk0.trans h2).trans (KeptT.putObj _ p1 rfl hlb),belP _ _ p1 h4⟩⟩
  | ret=>exact away _ hp
  | exit id=>exact away _ hp
  | goto t=>exact away _ hp
  | panic ch=>exact hp.elim
  | outgrown=>exact hp.elim
 ·rintro e W2 ⟨hv,⟨xs,b,h1,⟨h2,h3⟩,h4⟩|⟨pre,h1,c,h2,h3⟩⟩
  ·exact ⟨hv,.inl ⟨xs,b,h1,h2,h4,h3⟩⟩
  ·exact ⟨hv,.inr ⟨c,pre,h1,h2,h3⟩⟩
set_option maxHeartbeats 100000 in
theorem range_out0 {Q:Exit→Act→World→Prop} {w:World} (hro:F.round=none) (hd:F.depth=none) (hg:a.eval g = .func (.func gf) #[] lb) (hFg:F.fn gf) (eg:∀ args w,(callFunc gf args).run P w = .ok (.enter gf args) w)
  (hseq:SeqT F P gf lb S Sp Ok Pre w0) (hOk:∀ pre b x (B:Nat) W W',Turns isMineT B W W'→Ok pre b x W→Ok pre b x W') (hw:Below w0.heap.size w0 w) (hpre:∀ W,Below w.heap.size w W→Pre W) (hps:ps.size=1)
  (I:List (Array Value) × Nat→World→Prop) (Ix:Code→List (Array Value)→World→Prop) (hI:OwnT w.heap.size I) (hIx:∀ c,OwnT w.heap.size (Ix c)) (h0:I ([],w.heap.size+2) w) (hww:w0.heap.size≤w.heap.size) (a₁:Array Value→Act)
  (hassign:∀ (l m:Nat) (x:Array Value) (W:World) (K:Act→World→Prop),(∃ pre b W,Ok pre b x W)→K (a₁ x) W →
   assign.wpIn (F.inRound l) m P (Exit.then K (fun _ _ _=>False)) { tmps:=(ps.zip #[Value.agg x]).foldl (fun t (p,v)=>t.setIfInBounds p v) a.tmps,defers:=[] } W)
  (hbody:∀ (l m:Nat) (pre:List (Array Value)) (b:Nat) (x:Array Value) (W:World),(∃ r,W.heap[l]? = some (.loop r))→w.heap.size≤l→I (pre,b) W→w.heap.size+2≤b→b≤W.heap.size→Below w0.heap.size w0 W→Ok pre b x W→body.wpIn (F.inRound l) m P (LeftT w.heap.size (w.heap.size+2) b w0.heap.size w0 I Ix (pre++[x]) W) (a₁ x) W)
  (hdone:∀ (D:Nat) (xs:List (Array Value)) (W:World),w.heap.size≤D→S xs→(∃ b,I (xs,b) W)→Below w0.heap.size w0 W→W.heap[D]? = some (.deferred (some []))→Q .normal { a with defers:={ target:=.collected D,args:=#[] } :: a.defers } W)
  (hstop:∀ (D:Nat) (c:Code) (pre:List (Array Value)) (W:World),w.heap.size≤D→Sp pre→Ix c pre W→W.heap[D]? = some (.deferred (some []))→c.wpIn F n P Q { a with defers:={ target:=.collected D,args:=#[] } :: a.defers } W) :
  (Code.rangeFunc g ps assign body).wpIn F n P Q a w:=by
 refine wpIn_rangeFunc fun fn hfn=>?_
 obtain ⟨W1,hW1⟩:∃ W1,(w.alloc (.deferred (some []))).alloc (recT fn a.tmps ps assign body w.heap.size .ready none)=W1:=⟨_,rfl⟩
 have hWd:W1.heap[w.heap.size]? = some (.deferred (some [])):=by
  rw [← hW1];exact (Below.heap_alloc _ _ _ (by simp)).trans (World.alloc_heap_new w _)
 have hWl:W1.heap[w.heap.size+1]? = some (recT fn a.tmps ps assign body w.heap.size .ready none):=by
  rw [← hW1]
  have:=World.alloc_heap_new (w.alloc (.deferred (some []))) (recT fn a.tmps ps assign body w.heap.size .ready none)
  rwa [World.size_alloc] at this
 have hsz1:W1.heap.size=w.heap.size+2:=by rw [← hW1];simp
 have up:∀ {β:Type} {J:β→World→Prop},OwnT w.heap.size J→OwnT (w.heap.size+1) (fun pre W=>J pre W∧W.heap[w.heap.size]? = some (.deferred (some []))) :=
  fun h s A C k t=>⟨h s A C k.1 (t.imp (fun _ ho=>ho) (by omega)),t.block _ _ k.2 (.inl (by omega))⟩
 have hdef:∀ {A C:World},KeepsFrom w.heap.size A C→A.heap[w.heap.size]? = some (.deferred (some []))→C.heap[w.heap.size]? = some (.deferred (some [])):=fun k h=>k.same _ _ (Nat.le_refl _) h rfl
 have hWI:I ([],W1.heap.size) W1:=by rw [hsz1,← hW1];exact hI.alloc _ (hI.alloc _ h0)
 have hWb:Below w0.heap.size w0 W1:=by
  rw [← hW1];exact hw.trans ((((Below.refl _ w).alloc (Nat.le_refl _) _).alloc (by simp) _).mono hw.size)
 have hcall:=rounds0 (a:=a) (n:=n-1) (B:=w.heap.size) (I:=fun s W=>I s W∧W.heap[w.heap.size]? = some (.deferred (some []))) (Ix:=fun c pre W=>Ix c pre W∧W.heap[w.heap.size]? = some (.deferred (some []))) (a₁:=a₁) hseq hOk hfn hps
  hWb (hpre _ (by rw [← hW1];exact ((Below.refl _ w).alloc (Nat.le_refl _) _).alloc (by simp) _)) (by omega) (by omega) hWl (up hI) (fun c=>up (hIx c)) ⟨hWI,hWd⟩ (hassign _)
  (fun m pre b x W hr hi x0 x1 x9 hlen=>wpIn_mono (hbody _ m pre b x W hr (by omega) hi.1 (by omega) x1 x9 hlen) (fun e a3 W3 hp=>by
   cases e with
   | normal=>exact ⟨hp.1,hp.2.1.up (by omega),hp.2.2.1,hp.2.2.2,hdef hp.1 hi.2⟩
   | ret=>exact ⟨hp.1,hp.2,hdef hp.1 hi.2⟩
   | exit id=>exact ⟨hp.1,hp.2,hdef hp.1 hi.2⟩
   | goto t=>exact ⟨hp.1,hp.2,hdef hp.1 hi.2⟩
   | panic ch=>exact hp.elim
   | outgrown=>exact hp.elim))
 refine ⟨w.heap.size+1,[{ target:=.collected w.heap.size,args:=#[] }],W1,{ target:=.fn (.func gf) lb,args:=#[.func (.yield (w.heap.size+1)) #[] #[]] },W1,gf,#[.func (.yield (w.heap.size+1)) #[] #[]]++lb,W1,?_,?_,?_,?_,?_,?_⟩
 ·rw [hro,← hW1];exact run_enterLoop_outer _ _ _ _ _
 ·simp only [resolve,hg]
  simp [go_sem]
 ·intro f' hf'
  simp [Target.leads] at hf';subst hf';exact hFg
 ·simp [invoke,go_sem,eg]
 ·intro h
  rw [hd] at h;cases h
 refine hcall.mono ?_
 rintro e W2 ⟨⟨v,rfl⟩,⟨xs,b,hS,hi,hbe,hl⟩|⟨c,pre,hS,hi,hl⟩⟩
 ·have h1:=run_endLoop (P:=P) hl (by simp)
  exact ⟨none,_,h1,hdone _ xs _ (Nat.le_refl _) hS ⟨b,hI.putObj _ hi.1 (by omega) hl rfl⟩ ⟨hbe.os,hbe.tape,hbe.output,by simpa using hbe.size,fun k hk=>(World.putObj_heap_other (by omega)).trans (hbe.block k hk)⟩ ((World.putObj_heap_other (by omega)).trans hi.2)⟩
 ·have h1:=run_endLoop (P:=P) hl (by simp)
  exact ⟨some c,_,h1,hstop _ c pre _ (Nat.le_refl _) hS ((hIx c).putObj _ hi.1 (by omega) hl rfl) ((World.putObj_heap_other (by omega)).trans hi.2)⟩
set_option maxHeartbeats 100000 in
theorem range_in0 {Q:Exit→Act→World→Prop} {w:World} {l₀:Nat} {r₀:Loop} (hro:F.round=some l₀) (hl₀:w.heap[l₀]? = some (.loop r₀)) (hd:F.depth=none) (hg:a.eval g = .func (.func gf) #[] lb) (hFg:F.fn gf) (eg:∀ args w,(callFunc gf args).run P w = .ok (.enter gf args) w)
  (hseq:SeqT F P gf lb S Sp Ok Pre w0) (hOk:∀ pre b x (B:Nat) W W',Turns isMineT B W W'→Ok pre b x W→Ok pre b x W') (hw:Below w0.heap.size w0 w) (hpre:∀ W,Below w.heap.size w W→Pre W) (hps:ps.size=1)
  (I:List (Array Value) × Nat→World→Prop) (Ix:Code→List (Array Value)→World→Prop) (hI:OwnT w.heap.size I) (hIx:∀ c,OwnT w.heap.size (Ix c)) (h0:I ([],w.heap.size+1) w) (hww:w0.heap.size≤w.heap.size) (a₁:Array Value→Act)
  (hassign:∀ (l m:Nat) (x:Array Value) (W:World) (K:Act→World→Prop),(∃ pre b W,Ok pre b x W)→K (a₁ x) W →
   assign.wpIn (F.inRound l) m P (Exit.then K (fun _ _ _=>False)) { tmps:=(ps.zip #[Value.agg x]).foldl (fun t (p,v)=>t.setIfInBounds p v) a.tmps,defers:=[] } W)
  (hbody:∀ (l m:Nat) (pre:List (Array Value)) (b:Nat) (x:Array Value) (W:World),(∃ r,W.heap[l]? = some (.loop r))→w.heap.size≤l→I (pre,b) W→w.heap.size+1≤b→b≤W.heap.size→Below w0.heap.size w0 W→Ok pre b x W→body.wpIn (F.inRound l) m P (LeftT w.heap.size (w.heap.size+1) b w0.heap.size w0 I Ix (pre++[x]) W) (a₁ x) W)
  (hdone:∀ (xs:List (Array Value)) (W:World),S xs→(∃ b,I (xs,b) W)→Below w0.heap.size w0 W→Q .normal a W)
  (hstop:∀ (c:Code) (pre:List (Array Value)) (W:World),Sp pre→Ix c pre W→c.wpIn F n P Q a W) :
  (Code.rangeFunc g ps assign body).wpIn F n P Q a w:=by
 refine wpIn_rangeFunc fun fn hfn=>?_
 obtain ⟨W1,hW1⟩:∃ W1,w.alloc (recT fn a.tmps ps assign body r₀.defers .ready none)=W1:=⟨_,rfl⟩
 have hWl:W1.heap[w.heap.size]? = some (recT fn a.tmps ps assign body r₀.defers .ready none):=by
  rw [← hW1];exact World.alloc_heap_new w _
 have hsz1:W1.heap.size=w.heap.size+1:=by rw [← hW1];simp
 have hWI:I ([],W1.heap.size) W1:=by rw [hsz1,← hW1];exact hI.alloc _ h0
 have hWb:Below w0.heap.size w0 W1:=by
  rw [← hW1];exact hw.trans (((Below.refl _ w).alloc (Nat.le_refl _) _).mono hw.size)
 have hcall:=rounds0 (a:=a) (n:=n-1) (B:=w.heap.size) (I:=I) (Ix:=Ix) (a₁:=a₁) hseq hOk hfn hps
  hWb (hpre _ (by rw [← hW1];exact (Below.refl _ w).alloc (Nat.le_refl _) _)) (Nat.le_refl _) hww hWl hI hIx hWI (hassign _)
  (fun m pre b x W hr hi x0 x1 x9 hlen=>wpIn_mono (hbody _ m pre b x W hr (Nat.le_refl _) hi (by omega) x1 x9 hlen) (fun e a3 W3 hp=>by
   rw [hsz1]
   exact hp))
 refine ⟨w.heap.size,[],W1,{ target:=.fn (.func gf) lb,args:=#[.func (.yield w.heap.size) #[] #[]] },W1,gf,#[.func (.yield w.heap.size) #[] #[]]++lb,W1,?_,?_,?_,?_,?_,?_⟩
 ·rw [hro,← hW1];exact run_enterLoop_inner hl₀ _ _ _ _ _
 ·simp only [resolve,hg]
  simp [go_sem]
 ·intro f' hf'
  simp [Target.leads] at hf';subst hf';exact hFg
 ·simp [invoke,go_sem,eg]
 ·intro h
  rw [hd] at h;cases h
 refine hcall.mono ?_
 rintro e W2 ⟨⟨v,rfl⟩,⟨xs,b,hS,hi,hbe,hl⟩|⟨c,pre,hS,hi,hl⟩⟩
 ·have h1:=run_endLoop (P:=P) hl (by simp)
  exact ⟨none,_,h1,hdone xs _ hS ⟨b,hI.putObj _ hi (Nat.le_refl _) hl rfl⟩ ⟨hbe.os,hbe.tape,hbe.output,by simpa using hbe.size,fun k hk=>(World.putObj_heap_other (by omega)).trans (hbe.block k hk)⟩⟩
 ·have h1:=run_endLoop (P:=P) hl (by simp)
  exact ⟨some c,_,h1,hstop c pre _ hS ((hIx c).putObj _ hi (Nat.le_refl _) hl rfl)⟩
theorem range_outZ {Q:Exit→Act→World→Prop} {w:World} (hro:F.round=none) (hd:F.depth=none) (hg:a.eval g = .func (.func gf) #[] lb) (hFg:F.fn gf) (eg:∀ args w,(callFunc gf args).run P w = .ok (.enter gf args) w)
  (hseq:SeqT F P gf lb S Sp Ok Pre w0) (hOk:∀ pre b x (B:Nat) W W',Turns isMineT B W W'→Ok pre b x W→Ok pre b x W') (hw:Below w0.heap.size w0 w) (hpre:∀ W,Below w.heap.size w W→Pre W) (hps:ps.size=1)
  (I:List (Array Value) × Nat→World→Prop) (Ix:Code→List (Array Value)→World→Prop) (hI:OwnT w.heap.size I) (hIx:∀ c,OwnT w.heap.size (Ix c)) (h0:I ([],w.heap.size+2) w) (hww:w0.heap.size≤w.heap.size)
  (hbody:∀ (l m:Nat) (pre:List (Array Value)) (b:Nat) (x:Array Value) (W:World),(∃ r,W.heap[l]? = some (.loop r))→w.heap.size≤l→I (pre,b) W→w.heap.size+2≤b→b≤W.heap.size→Below w0.heap.size w0 W→Ok pre b x W→body.wpIn (F.inRound l) m P (LeftT w.heap.size (w.heap.size+2) b w0.heap.size w0 I Ix (pre++[x]) W) { tmps:=(ps.zip #[Value.agg x]).foldl (fun t (p,v)=>t.setIfInBounds p v) a.tmps,defers:=[] } W)
  (hdone:∀ (D:Nat) (xs:List (Array Value)) (W:World),w.heap.size≤D→S xs→(∃ b,I (xs,b) W)→Below w0.heap.size w0 W→W.heap[D]? = some (.deferred (some []))→Q .normal { a with defers:={ target:=.collected D,args:=#[] } :: a.defers } W)
  (hstop:∀ (D:Nat) (c:Code) (pre:List (Array Value)) (W:World),w.heap.size≤D→Sp pre→Ix c pre W→W.heap[D]? = some (.deferred (some []))→c.wpIn F n P Q { a with defers:={ target:=.collected D,args:=#[] } :: a.defers } W) :
  (Code.rangeFunc g ps Code.skip body).wpIn F n P Q a w :=
 range_out0 hro hd hg hFg eg hseq hOk hw hpre hps I Ix hI hIx h0 hww (fun x=>{ tmps:=(ps.zip #[Value.agg x]).foldl (fun t (p,v)=>t.setIfInBounds p v) a.tmps,defers:=[] }) (fun _ _ _ _ _ _ hK=>wpIn_skip hK) hbody hdone hstop
theorem range_inZ {Q:Exit→Act→World→Prop} {w:World} {l₀:Nat} {r₀:Loop} (hro:F.round=some l₀) (hl₀:w.heap[l₀]? = some (.loop r₀)) (hd:F.depth=none) (hg:a.eval g = .func (.func gf) #[] lb) (hFg:F.fn gf) (eg:∀ args w,(callFunc gf args).run P w = .ok (.enter gf args) w)
  (hseq:SeqT F P gf lb S Sp Ok Pre w0) (hOk:∀ pre b x (B:Nat) W W',Turns isMineT B W W'→Ok pre b x W→Ok pre b x W') (hw:Below w0.heap.size w0 w) (hpre:∀ W,Below w.heap.size w W→Pre W) (hps:ps.size=1)
  (I:List (Array Value) × Nat→World→Prop) (Ix:Code→List (Array Value)→World→Prop) (hI:OwnT w.heap.size I) (hIx:∀ c,OwnT w.heap.size (Ix c)) (h0:I ([],w.heap.size+1) w) (hww:w0.heap.size≤w.heap.size)
  (hbody:∀ (l m:Nat) (pre:List (Array Value)) (b:Nat) (x:Array Value) (W:World),(∃ r,W.heap[l]? = some (.loop r))→w.heap.size≤l→I (pre,b) W→w.heap.size+1≤b→b≤W.heap.size→Below w0.heap.size w0 W→Ok pre b x W→body.wpIn (F.inRound l) m P (LeftT w.heap.size (w.heap.size+1) b w0.heap.size w0 I Ix (pre++[x]) W) { tmps:=(ps.zip #[Value.agg x]).foldl (fun t (p,v)=>t.setIfInBounds p v) a.tmps,defers:=[] } W)
  (hdone:∀ (xs:List (Array Value)) (W:World),S xs→(∃ b,I (xs,b) W)→Below w0.heap.size w0 W→Q .normal a W)
  (hstop:∀ (c:Code) (pre:List (Array Value)) (W:World),Sp pre→Ix c pre W→c.wpIn F n P Q a W) :
  (Code.rangeFunc g ps Code.skip body).wpIn F n P Q a w :=
 range_in0 hro hl₀ hd hg hFg eg hseq hOk hw hpre hps I Ix hI hIx h0 hww (fun x=>{ tmps:=(ps.zip #[Value.agg x]).foldl (fun t (p,v)=>t.setIfInBounds p v) a.tmps,defers:=[] }) (fun _ _ _ _ _ _ hK=>wpIn_skip hK) hbody hdone hstop
end loop
end Go.Proofs.YtgdilnljjgdinaaGreatDoor
namespace Go.Proofs.YtgdilnljjgdinaaGreatDoor
open Go.RowKit Go.Shelf Go.Extern.Stop Go.Stop Go.Extern
-- the entries of reflectlite that answer alike in every world
theorem rV56 (p:Addr) (w:World):(ReflectliteValue.unpack (.iface 66 (.pointer (some p)))).run Tryz.prog w = .ok (.agg #[.pointer (some ⟨16,66,none⟩),.pointer (some ⟨w.heap.size,0,none⟩),.int .u64 150]) (w.alloc (.cells #[.pointer (some p)] 66)):=by kernel_rfl
theorem rV54 (p:Addr) (w:World):(ReflectliteValue.unpack (.iface 64 (.pointer (some p)))).run Tryz.prog w = .ok (.agg #[.pointer (some ⟨16,64,none⟩),.pointer (some ⟨w.heap.size,0,none⟩),.int .u64 150]) (w.alloc (.cells #[.pointer (some p)] 64)):=by kernel_rfl
theorem rT56 (p : Addr) (w : World) : (ReflectliteValue.methodAny (ReflectliteValue.valueError "reflectlite.Value.Type" 0) (fun t _ _ _ => ReflectliteType.toType t) #[.agg #[.pointer (some ⟨16, 66, none⟩), .pointer (some p), .int .u64 150]]).run Tryz.prog w = .ok (.iface 115 (.agg #[.pointer (some ⟨16, 66, none⟩)])) w := by kernel_rfl
theorem rM (v : Value) (w : World) : (Go.method 378 115 (.agg #[v]) "Kind").run Tryz.prog w = .ok (209, v) w ∧ (Go.method 378 115 (.agg #[v]) "Elem").run Tryz.prog w = .ok (220, .agg #[v]) w ∧ (Go.method 378 115 (.agg #[v]) "Implements").run Tryz.prog w = .ok (221, .agg #[v]) w ∧ (Go.method 378 115 (.agg #[v]) "AssignableTo").run Tryz.prog w = .ok (218, .agg #[v]) w :=
 ⟨by kernel_rfl,by kernel_rfl,by kernel_rfl,by kernel_rfl⟩
theorem rK (w:World):((ReflectliteType.abiMethod fun t=>Functor.map (fun a:Nat=>Value.int IntKind.u8 (a:Int)) (Rtype.kind t)) #[.pointer (some ⟨16,66,none⟩)]).run Tryz.prog w = .ok (.int .u8 22) w∧((ReflectliteType.abiMethod fun t=>Functor.map (fun a:Nat=>Value.int IntKind.u8 (a:Int)) (Rtype.kind t)) #[.pointer (some ⟨16,64,none⟩)]).run Tryz.prog w = .ok (.int .u8 22) w:=⟨by kernel_rfl,by kernel_rfl⟩
theorem rE (w:World):(ReflectliteType.method ReflectliteType.elem #[.agg #[.pointer (some ⟨16,66,none⟩)]]).run Tryz.prog w = .ok (.iface 115 (.agg #[.pointer (some ⟨16,64,none⟩)])) w:=by kernel_rfl
theorem rI (w : World) : (ReflectliteType.relation "Implements" ReflectliteType.implements_ #[.agg #[.pointer (some ⟨16, 64, none⟩)], .iface 115 (.agg #[.pointer (some ⟨16, 34, none⟩)])]).run Tryz.prog w = .ok (.bool true) w := by kernel_rfl
theorem rO (v:Value) (w:World):(ReflectliteType.typeOf #[.iface 64 v]).run Tryz.prog w = .ok (.iface 115 (.agg #[.pointer (some ⟨16,64,none⟩)])) w:=by kernel_rfl
theorem rA (w : World) : (ReflectliteType.relation "AssignableTo" ReflectliteType.assignableTo #[.agg #[.pointer (some ⟨16, 64, none⟩)], .iface 115 (.agg #[.pointer (some ⟨16, 64, none⟩)])]).run Tryz.prog w = .ok (.bool true) w := by kernel_rfl
theorem rPa (p:Addr) (w:World):(ReflectliteValue.parts (.agg #[.pointer (some ⟨16,66,none⟩),.pointer (some p),.int .u64 150])).run Tryz.prog w = .ok (some (66,p,150)) w:=by kernel_rfl
theorem rPb (p:Addr) (w:World):(ReflectliteValue.parts (.agg #[.pointer (some ⟨16,64,none⟩),.pointer (some p),.int .u64 406])).run Tryz.prog w = .ok (some (64,p,406)) w:=by kernel_rfl
theorem rPc (p:Addr) (w:World):(ReflectliteValue.parts (.agg #[.pointer (some ⟨16,64,none⟩),.pointer (some p),.int .u64 150])).run Tryz.prog w = .ok (some (64,p,150)) w:=by kernel_rfl
theorem rEl (w:World):(Rtype.elem? 66).run Tryz.prog w = .ok (some 64) w:=by kernel_rfl
theorem rMk (p:Addr) (w:World):(ReflectliteValue.mk 64 p ReflectliteValue.flagAddr).run Tryz.prog w = .ok (.agg #[.pointer (some ⟨16,64,none⟩),.pointer (some p),.int .u64 406]) w:=by kernel_rfl
theorem rDi (w:World):(Rtype.directlyAssignable 64 64).run Tryz.prog w = .ok true w:=by kernel_rfl
end Go.Proofs.YtgdilnljjgdinaaGreatDoor
namespace Go.Proofs.YtgdilnljjgdinaaGreatDoor
open Go.RowKit Go.Shelf Go.Extern.Stop Go.Stop Go.Extern
theorem mth (z:Sem Value) (f:TypeId→Addr→Nat→Nat→Sem Value) (v:Value):ReflectliteValue.method z f #[v]=(do match ← ReflectliteValue.parts v with|none=>z|some (t,a,fl)=>f t a fl (fl%32)):=rfl
theorem rNil (a p : Addr) (W : World) (ha : W.cell? a = some (.pointer (some p))) : (ReflectliteValue.method (ReflectliteValue.valueError "reflectlite.Value.IsNil" 0) ReflectliteValue.isNil #[.agg #[.pointer (some ⟨16, 66, none⟩), .pointer (some a), .int .u64 150]]).run Tryz.prog W = .ok (.bool false) W := by
 rw [mth]
 simp only [Sem.run_bind,rPa,Result.andThen]
 simp [ReflectliteValue.isNil,loadVar,isAgg,underlying,Tryz.underlying66,ha,Result.andThen]
theorem rElem (a p : Addr) (W : World) (ha : W.cell? a = some (.pointer (some p))) : (ReflectliteValue.method (ReflectliteValue.valueError "reflectlite.Value.Elem" 0) ReflectliteValue.elem #[.agg #[.pointer (some ⟨16, 66, none⟩), .pointer (some a), .int .u64 150]]).run Tryz.prog W = .ok (.agg #[.pointer (some ⟨16, 64, none⟩), .pointer (some p), .int .u64 406]) W := by
 rw [mth]
 simp only [Sem.run_bind,rPa,Result.andThen]
 simp [ReflectliteValue.elem,loadVar,isAgg,underlying,Tryz.underlying66,ha,Result.andThen,rEl,rMk]
theorem rSet (p b e:Addr) (old:Value) (W:World) (hb:W.cell? b=some (.pointer (some e))) (ht:W.cell? p=some old) (hf:W.frozen? p=false) :
  (ReflectliteValue.set #[.agg #[.pointer (some ⟨16,64,none⟩),.pointer (some p),.int .u64 406],.agg #[.pointer (some ⟨16,64,none⟩),.pointer (some b),.int .u64 150]]).run Tryz.prog W = .ok (.tuple #[]) (W.setCell p (.pointer (some e))):=by
 have ok2:∀ {α β:Type} (x:Sem α) (f:α→Sem β) (v:α) (w':World),x.run Tryz.prog W = .ok v w'→(x >>= f).run Tryz.prog W=(f v).run Tryz.prog w':=fun x f v w' h=>by rw [Sem.run_bind,h];rfl
 have hld:(loadVar 64 b).run Tryz.prog W = .ok (.pointer (some e)) W:=by simp [loadVar,isAgg,underlying,Tryz.underlying64,hb,Result.andThen]
 have hst:(storeVar 64 p (.pointer (some e))).run Tryz.prog W = .ok () (W.setCell p (.pointer (some e))):=by
  simp [storeVar,Value.cells,storeCells,Addr.add,Result.andThen]
  rw [run_store Tryz.prog W p _ _ (by rfl)]
  simp [ht,hf]
 refine (ok2 (ReflectliteValue.parts _) _ _ _ (rPb p W)).trans ?_
 refine (ok2 (ReflectliteValue.parts _) _ _ _ (rPc b W)).trans ?_
 refine (ok2 (loadVar 64 b) _ _ _ hld).trans ?_
 refine (ok2 (Rtype.directlyAssignable 64 64) _ _ _ (rDi W)).trans ?_
 refine (ok2 (storeVar 64 p _) _ _ _ hst).trans ?_
 rfl
set_option maxRecDepth 100000 in
set_option maxHeartbeats 4000000 in
theorem asQ (e p:Addr) (old:Value) (w:World) (hg:w.cell? ⟨1,0,none⟩=some (.iface 115 (.agg #[.pointer (some ⟨16,34,none⟩)]))) (hp:w.cell? p=some old) (hf:w.frozen? p=false) :
  Calls Tryz.prog 24 #[.iface 64 (.pointer (some e)),.iface 66 (.pointer (some p))] w fun v w'=>v = .returned (.bool true)∧∃ W,Below w.heap.size w W∧w'=W.setCell p (.pointer (some e)):=by
 obtain ⟨W1,hW1⟩:∃ W1,W1=(w.alloc (.cells #[.pointer (some p)] 66)):=⟨_,rfl⟩
 have x0:=@run_callFunc_extern Tryz.prog 44 _ (fun args=>ReflectliteValue.unpack (args.getD 0 (.tuple #[]))) Tryz.func44 (by kernel_rfl) (by kernel_rfl) (by kernel_rfl) (by kernel_rfl)
 have x1 := @run_callFunc_extern Tryz.prog 45 _ (ReflectliteValue.methodAny (ReflectliteValue.valueError "reflectlite.Value.Type" 0) (fun t _ _ _ => ReflectliteType.toType t)) Tryz.func45 (by kernel_rfl) (by kernel_rfl) (by kernel_rfl) (by kernel_rfl)
 have x2 := @run_callFunc_extern Tryz.prog 46 _ (ReflectliteValue.method (ReflectliteValue.valueError "reflectlite.Value.IsNil" 0) ReflectliteValue.isNil) Tryz.func46 (by kernel_rfl) (by kernel_rfl) (by kernel_rfl) (by kernel_rfl)
 have x3:=@run_callFunc_extern Tryz.prog 209 _ (ReflectliteType.abiMethod fun t=>do pure (.int .u8 (← Rtype.kind t))) Tryz.func209 (by kernel_rfl) (by kernel_rfl) (by kernel_rfl) (by kernel_rfl)
 have x4:=@run_callFunc_extern Tryz.prog 220 _ (ReflectliteType.method ReflectliteType.elem) Tryz.func220 (by kernel_rfl) (by kernel_rfl) (by kernel_rfl) (by kernel_rfl)
 have x5 := @run_callFunc_extern Tryz.prog 221 _ (ReflectliteType.relation "Implements" ReflectliteType.implements_) Tryz.func221 (by kernel_rfl) (by kernel_rfl) (by kernel_rfl) (by kernel_rfl)
 have x6:=@run_callFunc_extern Tryz.prog 74 _ ReflectliteType.typeOf Tryz.func74 (by kernel_rfl) (by kernel_rfl) (by kernel_rfl) (by kernel_rfl)
 have x7 := @run_callFunc_extern Tryz.prog 218 _ (ReflectliteType.relation "AssignableTo" ReflectliteType.assignableTo) Tryz.func218 (by kernel_rfl) (by kernel_rfl) (by kernel_rfl) (by kernel_rfl)
 have x8 := @run_callFunc_extern Tryz.prog 75 _ (ReflectliteValue.method (ReflectliteValue.valueError "reflectlite.Value.Elem" 0) ReflectliteValue.elem) Tryz.func75 (by kernel_rfl) (by kernel_rfl) (by kernel_rfl) (by kernel_rfl)
 have x9:=@run_callFunc_extern Tryz.prog 76 _ ReflectliteValue.set Tryz.func76 (by kernel_rfl) (by kernel_rfl) (by kernel_rfl) (by kernel_rfl)
 have mK:=fun v u=>(rM v u).1
 have mE:=fun v u=>(rM v u).2.1
 have mI:=fun v u=>(rM v u).2.2.1
 have mA:=fun v u=>(rM v u).2.2.2
 have k1:=fun u=>(rK u).1
 have k2:=fun u=>(rK u).2
 have v1:=rV56
 have v2:=rV54
 have t1:=rT56
 have e1:=rE
 have i1:=rI
 have o1:=rO
 have a1:=rA
 have hgl:=World.block_lt_of_cell? _ _ hg
 have hpl:=World.block_lt_of_cell? _ _ hp
 have n1:=rNil ⟨w.heap.size,0,none⟩ p ((w.alloc (.cells #[.pointer (some p)] 66)).alloc (.cells #[.pointer (some ⟨16,66,none⟩),.pointer (some ⟨w.heap.size,0,none⟩),.int .u64 150] 86)) (by simp)
 have hg2:((w.alloc (.cells #[.pointer (some p)] 66)).alloc (.cells #[.pointer (some ⟨16,66,none⟩),.pointer (some ⟨w.heap.size,0,none⟩),.int .u64 150] 86)).cell? ⟨1,0,none⟩=some (.iface 115 (.agg #[.pointer (some ⟨16,34,none⟩)])):=by
  rw [World.cell?_alloc_lt _ _ _ (by rw [World.size_alloc];exact Nat.lt_succ_of_lt hgl),World.cell?_alloc_lt _ _ _ hgl];exact hg
 clear hW1 W1
 go_enter Tryz.func24,Tryz.ntmps24
 go_wp2
 refine wp_loop_rounds 1 ?_
 rw [rounds_succ]
 have el:=rElem ⟨w.heap.size,0,none⟩ p (((w.alloc (.cells #[.pointer (some p)] 66)).alloc (.cells #[.pointer (some ⟨16,66,none⟩),.pointer (some ⟨w.heap.size,0,none⟩),.int .u64 150] 86)).alloc (.cells #[.pointer (some ⟨16,66,none⟩),.pointer (some ⟨w.heap.size,0,none⟩),.int .u64 150] 86)) (by rw [World.cell?_alloc_lt _ _ ⟨w.heap.size,0,none⟩ (by simp;omega)];simp)
 have st:=rSet p ⟨w.heap.size+1+1+1,0,none⟩ e old ((((w.alloc (.cells #[.pointer (some p)] 66)).alloc (.cells #[.pointer (some ⟨16,66,none⟩),.pointer (some ⟨w.heap.size,0,none⟩),.int .u64 150] 86)).alloc (.cells #[.pointer (some ⟨16,66,none⟩),.pointer (some ⟨w.heap.size,0,none⟩),.int .u64 150] 86)).alloc (.cells #[.pointer (some e)] 64)) (by rw [World.cell?_alloc_at _ _ _ _ (by simp)];rfl)
  (by rw [World.cell?_alloc_lt _ _ p (by simp;omega),World.cell?_alloc_lt _ _ p (by simp;omega),World.cell?_alloc_lt _ _ p (by simp;omega),World.cell?_alloc_lt _ _ p hpl];exact hp)
  (by rw [World.frozen?_alloc_old _ _ p (by simp;omega),World.frozen?_alloc_old _ _ p (by simp;omega),World.frozen?_alloc_old _ _ p (by simp;omega),World.frozen?_alloc_old _ _ p (Nat.ne_of_lt hpl)];exact hf)
 go_wp2
 go_ret
 exact ⟨rfl,_,(((((Below.refl _ w).alloc (Nat.le_refl _) _).alloc (by simp) _).alloc (by simp;omega) _).alloc (by simp;omega) _),rfl⟩
end Go.Proofs.YtgdilnljjgdinaaGreatDoor
namespace Go.Proofs.YtgdilnljjgdinaaGreatDoor
open Go.RowKit Go.Shelf
set_option maxRecDepth 100000 in
set_option maxHeartbeats 4000000 in
theorem placeQ (F:Nat) (l c:Int) (q:Addr) (w:World) (hF:Rw 68 w F #[.int .i64 l,.int .i64 c,.iface 249 (.pointer (some q))]) (hg:w.cell? ⟨1,0,none⟩=some (.iface 115 (.agg #[.pointer (some ⟨16,34,none⟩)]))) :
  Calls Tryz.prog 12 #[.iface 64 (.pointer (some ⟨F,0,none⟩))] w fun e w'=>e = .returned (.tuple #[.int .i64 l,.int .i64 c,.iface 249 (.pointer (some q))])∧Below w.heap.size w w':=by
 have B0:=Rw.new 64 w #[.pointer none]
 have hb0:=bel_d0 w (.cells #[.pointer none] 64)
 have hF1:=hF.alloc (.cells #[.pointer none] 64)
 have hFw:=hF.lt
 have hgl:=World.block_lt_of_cell? _ _ hg
 have hg1:(w.alloc (.cells #[.pointer none] 64)).cell? ⟨1,0,none⟩=some (.iface 115 (.agg #[.pointer (some ⟨16,34,none⟩)])):=by
  rw [World.cell?_alloc_lt _ _ _ hgl];exact hg
 have HA:=asQ ⟨F,0,none⟩ ⟨w.heap.size,0,none⟩ (.pointer none) _ hg1 (B0.cell 0) (B0.frozen 0)
 clear hg hg1 hF
 go_enter Tryz.func12,Tryz.ntmps12
 go_wp2_with fail
 generalize w.alloc (.cells #[.pointer none] 64)=W0 at *
 refine HA.mono ?_
 rintro e w1 ⟨rfl,W,hbW,rfl⟩
 have B1:=B0.below hbW
 have hF2:=hF1.below hbW
 obtain ⟨B2,O⟩:=B1.cellset 0 (.pointer (some ⟨F,0,none⟩))
 have hF3:=hF2.off O (by omega)
 have hb3:=(bel_tr hb0 hbW).trans (O.below (B:=w.heap.size) (Nat.le_refl _))
 have B3:Rw 64 (W.setCell ⟨w.heap.size,0,none⟩ (.pointer (some ⟨F,0,none⟩))) w.heap.size #[.pointer (some ⟨F,0,none⟩)]:=B2
 clear HA B0 B1 B2 hF1 hF2 hbW hb0 O
 generalize W.setCell ⟨w.heap.size,0,none⟩ (.pointer (some ⟨F,0,none⟩))=W1 at *
 have c0:W1.cell? ⟨w.heap.size,0,none⟩=some (.pointer (some ⟨F,0,none⟩)):=B3.cell 0
 have f0:W1.cell? ⟨F,0,none⟩=some (.int .i64 l):=hF3.cell 0
 have f1:W1.cell? ⟨F,1,none⟩=some (.int .i64 c):=hF3.cell 1
 have f2:W1.cell? ⟨F,2,none⟩=some (.iface 249 (.pointer (some q))):=hF3.cell 2
 clear B3 hF3
 go_wp2_with fail
 go_region_held3 (fun w'=>w'.cell? ⟨w.heap.size,0,none⟩=some (.pointer (some ⟨F,0,none⟩))∧w'.cell? ⟨F,0,none⟩=some (.int .i64 l)∧w'.cell? ⟨F,1,none⟩=some (.int .i64 c)∧w'.cell? ⟨F,2,none⟩=some (.iface 249 (.pointer (some q))))
  (first|exact ⟨c0,f0,f1,f2⟩|(refine ⟨?_,?_,?_,?_⟩ <;> simpa using (by assumption)))
  (fail)
 go_wp2
 go_ret3
 exact ⟨by simp,belN hb3 1⟩
end Go.Proofs.YtgdilnljjgdinaaGreatDoor
namespace Go.Proofs.YtgdilnljjgdinaaGreatDoor
open Go.RowKit Go.Shelf
theorem Tryz.errComp5:(Tryz.prog.info? 249).map (·.comparable)=some true:=by kernel_rfl
theorem Tryz.errSize5:(Tryz.prog.info? 267).map (·.size)=some 1:=by kernel_rfl
set_option maxRecDepth 100000 in
set_option maxHeartbeats 4000000 in
theorem awake5 (w:World) (hT:Tabs w) {ev:Value} (E:Errs w 0 ev) (hg:w.cell? ⟨1,0,none⟩=some (.iface 115 (.agg #[.pointer (some ⟨16,34,none⟩)]))) :
  Calls Tryz.prog 4 #[] w fun e w'=>e = .returned (.bool true)∧Below w.heap.size w w':=by
 have H1:=scanQ ⟨#[77,97,120,32,51,120,32,61,62,32,115,46,116,46]⟩ ⟨#[77,97,120,32,51,120,32,61,62,32,115,46,116,46]⟩ ⟨#[]⟩ 0 1 1 1 15 _ w (by decide) (by decide +kernel) (by decide +kernel) (by decide +kernel) (by decide +kernel) chn1 (by decide) rfl hT
 have H2:=fun (u:World) (hu:Tabs u) (Eu:Errs u 0 ev)=>scanE ⟨#[97,10,32,49,47,48,48]⟩ ⟨#[97,10,32,49,47,48,48]⟩ ⟨#[49,47,48,48]⟩ 0 1 1 2 2 _ u (by decide) (by decide +kernel) (by decide +kernel) (by decide +kernel) (by decide +kernel) chn2 (by decide) (by decide) no100 Eu hu
 have H3:=fun (u:World) (hu:Wds u)=>LegalQ ⟨#[120,49]⟩ u (by decide) hu
 have H4:=fun (u:World) (hu:Wds u)=>WordQ ⟨#[77,105,110,105,109,105,115,101]⟩ u (by decide) hu
 rw [show legalL (⟨#[120,49]⟩:ByteArray).data.toList=true by decide +kernel] at H3
 rw [show wordL (⟨#[77,105,110,105,109,105,115,101]⟩:ByteArray).data.toList=2 by decide +kernel] at H4
 have hgl:=World.block_lt_of_cell? _ _ hg
 go_enter Tryz.func4,Tryz.ntmps4
 go_wp2_with fail
 refine H1.mono ?_
 rintro e w1 ⟨⟨v,rfl,-,hts⟩,hb1⟩
 obtain ⟨g,cap,rfl,hgw,HT⟩:=hts (List.cons_ne_nil _ _)
 have z0:w1.cell? ⟨g,0,none⟩=some (.int .i64 9):=(HT 0 _ rfl).1
 have z1:w1.cell? ⟨g,5,none⟩=some (.int .i64 1):=(HT 0 _ rfl).2.2.1
 have z2:w1.cell? ⟨g,8,none⟩=some (.int .i64 2):=(HT 1 _ rfl).1
 have z3:w1.cell? ⟨g,17,none⟩=some (.string ⟨#[120]⟩):=(HT 2 _ rfl).2.1
 have z4:w1.cell? ⟨g,24,none⟩=some (.int .i64 7):=(HT 3 _ rfl).1
 have z5:w1.cell? ⟨g,37,none⟩=some (.int .i64 3):=(HT 4 _ rfl).2.2.1
 have hgl1:g<w1.heap.size:=World.block_lt_of_cell? _ _ z0
 replace hT:=hT.below hb1
 replace E:=E.below hb1
 replace hg:w1.cell? ⟨1,0,none⟩=_:=(hb1.cell hgl).trans hg
 clear H1 HT
 go_wp2_with fail
 refine (H2 _ hT E).mono ?_
 rintro e w2 ⟨⟨F,rfl,hF,-⟩,HB⟩
 replace z0:=kept_c HB z0
 replace z1:=kept_c HB z1
 replace z2:=kept_c HB z2
 replace z3:=kept_c HB z3
 replace z4:=kept_c HB z4
 replace z5:=kept_c HB z5
 replace hT:=hT.below HB
 replace E:=E.below HB
 replace hg:=(HB.cell (World.block_lt_of_cell? _ _ hg)).trans hg
 replace hb1:=bel_tr hb1 HB
 obtain ⟨ec,q,rfl⟩:=E
 clear H2 HB
 go_wp2_with fail
 refine (placeQ F 2 2 q _ hF hg).mono ?_
 rintro e w3 ⟨rfl,HB⟩
 replace z0:=kept_c HB z0
 replace z1:=kept_c HB z1
 replace z2:=kept_c HB z2
 replace z3:=kept_c HB z3
 replace z4:=kept_c HB z4
 replace z5:=kept_c HB z5
 replace hT:=hT.below HB
 replace ec:=kept_c HB ec
 replace hb1:=bel_tr hb1 HB
 clear hF hg HB
 obtain ⟨i5,hi5,hcmp⟩:=Option.map_eq_some_iff.1 Tryz.errComp5
 obtain ⟨j5,hj5,_⟩:=Option.map_eq_some_iff.1 Tryz.errSize5
 have heq:=fun u=>run_eql_iface_ptr_same (P:=Tryz.prog) u q Tryz.underlying34 Tryz.underlying249 hi5 hcmp hj5
 go_wp2_with fail
 refine (H3 _ hT.W).mono ?_
 rintro e w4 ⟨rfl,HB⟩
 replace hT:=hT.below HB
 replace hb1:=bel_tr hb1 HB
 clear H3 HB
 go_wp2_with fail
 refine (H4 _ hT.W).mono ?_
 rintro e w5 ⟨rfl,HB⟩
 replace hb1:=bel_tr hb1 HB
 clear H4 HB
 go_wp2
 go_ret
 exact ⟨rfl,hb1⟩
end Go.Proofs.YtgdilnljjgdinaaGreatDoor
namespace Go.Proofs.YtgdilnljjgdinaaGreatDoor
open Go.RowKit
theorem longO (s:ByteArray) (w:World):Calls Tryz.prog 5 #[.string s,.string s] w fun e w'=>e = .returned (.bool (decide (262144≤s.size)))∧w'=w:=by
 by_cases h:262144≤s.size
 ·have hI:(262144:Int)≤(s.size:Int):=by omega
  rw [decide_eq_true h]
  go_enter Tryz.func5,Tryz.ntmps5
  go_wp2
  go_ret
  exact ⟨rfl,rfl⟩
 ·have hI:¬ (262144:Int)≤(s.size:Int):=by omega
  rw [decide_eq_false h]
  go_enter Tryz.func5,Tryz.ntmps5
  go_wp2
  go_ret
  exact ⟨rfl,rfl⟩
theorem same_two {W1 W2 w:World} {B1 B2:Nat} {va vb:Option Addr} {n vc vd:Nat} {ts tz:List Tok} (h1:OutP W1 B1 (.slice va n vc) tz) (h2:OutD W2 B2 (.slice vb ts.length vd) ts) (hz:tz=ts.take n) (hn:n≤ts.length) (hs:ts.length≤1000000000) (b1:Below W1.heap.size W1 w) (b2:Below W2.heap.size W2 w) :
  Calls Tryz.prog 9 #[.slice va n vc,.slice vb n vd] w fun e w'=>e = .returned (.bool true)∧Below w.heap.size w w':=by
 have hl:tz.length=n:=by rw [hz,List.length_take];omega
 obtain ⟨E1,s1,lo,hi,t1,-⟩:=h1
 obtain ⟨E2,s2,t2⟩:=h2
 rw [hl] at s1 t1
 refine sameToksD (ts:=tz) (E:=E1) (E':=E2) w hl (by omega) (s1.below b1).cell (CL.le (s2.below b2).cell hn) (fun i t e=>?_) (fun i t e=>?_)
 ·have hi':i<n:=by rw [← hl];exact (List.getElem?_eq_some_iff.1 e).1
  exact ⟨_,_,(t1 i t hi' e).2.2.ku (Ku.of_below b1)⟩
 ·have hi':i<n:=by rw [← hl];exact (List.getElem?_eq_some_iff.1 e).1
  rw [hz,List.getElem?_take,if_pos hi'] at e
  exact ⟨_,(t2 i t e).ku (Ku.of_below b2)⟩
theorem TkB.len {W:World} {a b:Nat} {v:List Value} {t:Tok} (h:TkB W a b v t):v.length=8:=by
 obtain ⟨f,a1,n1,k1,a2,n2,k2,rfl,_⟩:=h
 rfl
theorem own_two {W1 W2 w:World} {B1 B2:Nat} {va vb:Option Addr} {n vc vd:Nat} {ts:List Tok} (h1:OutP W1 B1 (.slice va n vc) ts) (h2:OutP W2 B2 (.slice vb n vd) ts) (hn:ts.length=n) (hs:n≤400000) (h12:W1.heap.size≤B2) (hB1:B1≤W1.heap.size) (hB2:B2≤W2.heap.size) (b1:Below W1.heap.size W1 w) (b2:Below W2.heap.size W2 w) :
  Calls Tryz.prog 10 #[.slice va n vc,.slice vb n vd] w fun e w'=>e = .returned (.bool true)∧BelO B1 w w':=by
 obtain ⟨E1,s1,lo1,hi1,t1,o1⟩:=h1
 obtain ⟨E2,s2,lo2,hi2,t2,o2⟩:=h2
 rw [hn] at s1 t1 o1 s2 t2 o2
 have hts:∀ i,i<n→∃ t,ts[i]? = some t:=fun i hi=>⟨_,List.getElem?_eq_getElem (by omega)⟩
 refine ownedD (lo:=fun k=>if k<n then lo1 k else lo2 (k-n)) (hi:=fun k=>if k<n then hi1 k else hi2 (k-n)) w (s1.below b1) (s2.below b2) (fun i hi=>?_) (fun i hi=>?_) (fun i hi=>?_) (fun i j hij hj=>?_) (fun p q e1 e2=>?_) (Nat.le_trans hB1 h12) (Nat.le_trans hB2 b2.size) hs hs
 ·obtain ⟨t,e⟩:=hts i hi
  exact (t1 i t hi e).2.2.len
 ·obtain ⟨t,e⟩:=hts i hi
  exact (t2 i t hi e).2.2.len
 ·by_cases h:i<n
  ·obtain ⟨t,e⟩:=hts i h
   simp only [if_pos h]
   exact ⟨(t1 i t h e).1,((t1 i t h e).2.2.ku (Ku.of_below b1)).nmx⟩
  ·obtain ⟨t,e⟩:=hts (i-n) (by omega)
   simp only [if_neg h]
   exact ⟨by have:=(t2 (i-n) t (by omega) e).1;omega,((t2 (i-n) t (by omega) e).2.2.ku (Ku.of_below b2)).nmx⟩
 ·by_cases hi':i<n
  ·simp only [if_pos hi']
   by_cases hj':j<n
   ·simp only [if_pos hj']
    exact o1 i j hij hj'
   ·simp only [if_neg hj']
    obtain ⟨t,e⟩:=hts i hi'
    obtain ⟨t',e'⟩:=hts (j-n) (by omega)
    have q1:=(t1 i t hi' e).2.1
    have q2:=(t2 (j-n) t' (by omega) e').1
    omega
  ·have hj':¬ j<n:=by omega
   simp only [if_neg hi',if_neg hj']
   exact o2 (i-n) (j-n) (by omega) (by omega)
 ·have q1:=(s1.ad p e1).2
  have q2:=(s2.ad q e2).1
  omega
end Go.Proofs.YtgdilnljjgdinaaGreatDoor
