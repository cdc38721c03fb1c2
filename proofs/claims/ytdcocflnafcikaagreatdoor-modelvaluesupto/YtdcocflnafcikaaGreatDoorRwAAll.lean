import Derived.Test.YtdcocflnafcikaaGreatDoorRatAll
import Derived.Test.YtdcocflnafcikaaGreatDoorNumAll
import Derived.Shelf.Strconv.Clone
import Derived.Test.YtdcocflnafcikaaGreatDoorPrD
import Derived.Test.YtdcocflnafcikaaGreatDoorWhEAll
import Derived.Test.YtdcocflnafcikaaGreatDoorPqCAll
import Derived.Test.YtdcocflnafcikaaGreatDoorDivAll
import Derived.StringKeys
namespace Go.Proofs.YtdcocflnafcikaaGreatDoor
open Go.RowKit
def Rw (t:TypeId) (w:World) (R:Nat) (cs:Array Value):Prop:=w.heap[R]? = some (.cells cs t (0,0))
theorem Rw.lt {t:TypeId} {w:World} {R:Nat} {cs:Array Value} (h:Rw t w R cs):R<w.heap.size:=(Array.getElem?_eq_some_iff.1 h).1
theorem Rw.new (t:TypeId) (w:World) (cs:Array Value):Rw t (w.alloc (.cells cs t)) w.heap.size cs:=heap_alloc_new _ _
theorem Rw.below {t:TypeId} {w w':World} {R:Nat} {cs:Array Value} (h:Rw t w R cs) (hb:Below w.heap.size w w'):Rw t w' R cs:=(hb.block R h.lt).trans h
theorem Rw.off {t:TypeId} {w w':World} {R g:Nat} {cs:Array Value} (h:Rw t w R cs) (o:Off g w w') (hg:R≠g):Rw t w' R cs:=(o.block R hg).trans h
theorem Rw.alloc {t:TypeId} {w:World} {R:Nat} {cs:Array Value} (h:Rw t w R cs) (o:Obj):Rw t (w.alloc o) R cs:=h.below ((Below.refl _ _).alloc (Nat.le_refl _) _)
theorem Rw.cell {t:TypeId} {w:World} {R:Nat} {cs:Array Value} (h:Rw t w R cs) (j:Nat):w.cell? ⟨R,j,none⟩=cs[j]?:=cell_of_row w R j cs t _ h
theorem Rw.frozen {t:TypeId} {w:World} {R:Nat} {cs:Array Value} (h:Rw t w R cs) (j:Nat):w.frozen? ⟨R,j,none⟩=false:=frozen_of_row w R j cs t h
theorem Rw.row {t:TypeId} {w:World} {R:Nat} {cs:Array Value} (h:Rw t w R cs) (cs':Array Value):Rw t (w.setRow R cs') R cs'∧Off R w (w.setRow R cs') :=
 ⟨setRow_heap w R cs cs' t _ h,⟨rfl,rfl,rfl,by simp,fun k hk=>setRow_other w R k cs' hk⟩⟩
theorem Rw.put {t:TypeId} {w:World} {R:Nat} {old:Array Value} (h:Rw t w R old) (cs:Array Value) {ops:Array Oper} {rest:List Oper} {o:Oper} {a:Act} {Q:Exit→Act→World→Prop} (hgd:o.guard=none) (x y:Operand) (ho:o.op = .store t x y)
  (hx:a.eval x = .pointer (some ⟨R,0,none⟩)) (hy:a.eval y = .agg cs) (hi:(Tryz.prog.info? t).map (·.size)=some cs.size) (hold:old.size=cs.size) (h1:cs.all (·.oneCell')=true)
  (hK:∀ w',Rw t w' R cs→Off R w w'→wpList Tryz.prog ops Q rest (a.put o.dst undef) w'):wpList Tryz.prog ops Q (o::rest) a w :=
 wpList_store_row hgd t x y ho R cs hx hy t old h hi hold h1 (hK _ (h.row cs).1 (h.row cs).2)
theorem Rw.get {t:TypeId} {w:World} {R:Nat} {cs:Array Value} (h:Rw t w R cs) {ops:Array Oper} {rest:List Oper} {o:Oper} {a:Act} {Q:Exit→Act→World→Prop} (hgd:o.guard=none) (x:Operand) (ho:o.op = .load t x)
  (hx:a.eval x = .pointer (some ⟨R,0,none⟩)) {fs} (hu:Tryz.prog.underlying t=some (.struct fs)) (hi:(Tryz.prog.info? t).map (·.size)=some cs.size)
  (hK:wpList Tryz.prog ops Q rest (a.put o.dst (.agg cs)) w):wpList Tryz.prog ops Q (o::rest) a w :=
 wpList_load_row hgd t x ho R hx t cs _ (.struct fs) h hu rfl hi hK
theorem Rw.ret2 {fn:Func} {p q:Tmp} {ty:TypeId} (h:fn.results = #[.cell p ty,.tmp q]) (tmps:Array Value) {w:World} {g:Nat} {cs:Array Value} (hr:Rw ty w g cs)
  (hp:tmps.getD p undef = .pointer (some ⟨g,0,none⟩)) {fs} (hu:Tryz.prog.underlying ty=some (.struct fs)) (hi:(Tryz.prog.info? ty).map (·.size)=some cs.size) :
  (results fn tmps).run Tryz.prog w = .ok (.tuple #[.agg cs,tmps.getD q undef]) w:=by
 have hp':tmps[p]?.getD undef = .pointer (some ⟨g,0,none⟩):=by simpa using hp
 simp [results,h,hp',asAddr,run_loadVar_row w g ty ty cs _ (.struct fs) hr hu rfl hi]
theorem Rw.ret1 {fn:Func} {p:Tmp} {ty:TypeId} (h:fn.results = #[.cell p ty]) (tmps:Array Value) {w:World} {g:Nat} {cs:Array Value} (hr:Rw ty w g cs)
  (hp:tmps.getD p undef = .pointer (some ⟨g,0,none⟩)) {fs} (hu:Tryz.prog.underlying ty=some (.struct fs)) (hi:(Tryz.prog.info? ty).map (·.size)=some cs.size) :
  (results fn tmps).run Tryz.prog w = .ok (.agg cs) w:=results_cell_row h tmps w g ty cs _ (.struct fs) hp hr hu rfl hi
end Go.Proofs.YtdcocflnafcikaaGreatDoor
namespace Go.Proofs.YtdcocflnafcikaaGreatDoor
open Go.RowKit Go.Shelf
def cloneRen:Ren:=⟨fun|316=>61|n=>n,fun|5=>5|9=>9|3=>3|4=>4|37=>157|127=>158|n=>n,fun n=>n⟩
theorem lays316:LaysM.n316 Tryz.prog cloneRen:={
 mixed:=by kernel_rfl
 f316:=Tryz.func61.trans (congrArg some (by kernel_rfl))
 t0:=Tryz.underlying0
 a0:=Tryz.isAgg0
 z0:=Tryz.sizeOf0
 v0:=Tryz.zeroValue0
 t3:=Tryz.underlying3
 a3:=Tryz.isAgg3
 z3:=Tryz.sizeOf3
 v3:=Tryz.zeroValue3
 t4:=Tryz.underlying4
 a4:=Tryz.isAgg4
 z4:=Tryz.sizeOf4
 v4:=Tryz.zeroValue4
 t5:=Tryz.underlying5
 a5:=Tryz.isAgg5
 z5:=Tryz.sizeOf5
 v5:=Tryz.zeroValue5
 t9:=Tryz.underlying9
 a9:=Tryz.isAgg9
 z9:=Tryz.sizeOf9
 v9:=Tryz.zeroValue9
 t37:=Tryz.underlying157
 a37:=Tryz.isAgg157
 z37:=Tryz.sizeOf157
 v37:=Tryz.zeroValue157
 t127:=Tryz.underlying158
 a127:=Tryz.isAgg158
 z127:=Tryz.sizeOf158
 v127:=Tryz.zeroValue158
 i0:=by kernel_rfl
 i3:=by kernel_rfl
 i4:=by kernel_rfl
 i5:=by kernel_rfl
 i9:=by kernel_rfl
 i37:=by kernel_rfl
 i127:=by kernel_rfl }
theorem cloneQ (s:ByteArray) (w:World) (hs:s.size≤1000000000):Calls Tryz.prog 29 #[.string s] w fun e w'=>e = .returned (.string s)∧Below w.heap.size w w':=by
 have HC:=fun u=>Any.stringslite_Clone lays316 s u (by omega)
 change ∀ u,Calls Tryz.prog 61 _ u _ at HC
 go_enter Tryz.func29,Tryz.ntmps29
 go_wp2_with fail
 refine (HC _).mono ?_
 rintro e w1 ⟨rfl,hb⟩
 go_wp2
 go_ret
 exact ⟨rfl,hb⟩
end Go.Proofs.YtdcocflnafcikaaGreatDoor
namespace Go.Proofs.YtdcocflnafcikaaGreatDoor
open Go.RowKit
theorem Rw.set {t:TypeId} {w:World} {R:Nat} {cs:Array Value} (h:Rw t w R cs) (i:Nat) (v:Value):Rw t (w.setCell ⟨R,i,none⟩ v) R (cs.setIfInBounds i v)∧Off R w (w.setCell ⟨R,i,none⟩ v):=by
 refine ⟨?_,(Off.refl _ _).set i v⟩
 unfold Rw at *
 simp [World.setCell,Array.getElem?_modify,h]
def bat (h:Bool) (r:Rat):Rat:=if h then r else 0
theorem bndI:(Tryz.prog.info? 55).map (·.size)=some 4:=by kernel_rfl
set_option maxRecDepth 100000 in
set_option maxHeartbeats 4000000 in
theorem tidyBoundQ {h p:Bool} {a:Option Addr} {na ca:Nat} {d:Option Addr} {nd cd:Nat} {r:Rat} {S:Nat} (w:World) (hr:TR w p a na ca d nd cd r S) (hS:S≤7000000) (hS1:1≤S) (hT:TB w) :
  Calls Tryz.prog 31 #[.agg #[.bool h,.bool p,.slice a na ca,.slice d nd cd]] w fun e w'=>∃ f c n k c' n' k',e = .returned (.agg #[.bool h,.bool f,.slice c n k,.slice c' n' k'])∧GR w' w.heap.size f c n k c' n' k' (bat h r) S∧Below w.heap.size w w':=by
 have N:=box_new w #[.bool h,.bool p,.slice a na ca,.slice d nd cd] 55
 have hz:=bel_d0 w (.cells #[.bool h,.bool p,.slice a na ca,.slice d nd cd] 55)
 have hs:(w.alloc (.cells #[.bool h,.bool p,.slice a na ca,.slice d nd cd] 55)).heap.size=w.heap.size+1:=by simp
 have R0:=Rw.new 55 (w.alloc (.cells #[.bool h,.bool p,.slice a na ca,.slice d nd cd] 55)) #[.bool false,.bool false,.slice none 0 0,.slice none 0 0]
 rw [hs] at R0
 replace N:=N.below (bel_d0 (w.alloc (.cells #[.bool h,.bool p,.slice a na ca,.slice d nd cd] 55)) (.cells #[.bool false,.bool false,.slice none 0 0,.slice none 0 0] 55))
 replace hz:=bel_tr hz (bel_d0 (w.alloc (.cells #[.bool h,.bool p,.slice a na ca,.slice d nd cd] 55)) (.cells #[.bool false,.bool false,.slice none 0 0,.slice none 0 0] 55))
 clear hs
 have n0:=N 0 _ rfl
 have n1:=N 1 _ rfl
 have n2:=N 2 _ rfl
 have n3:=N 3 _ rfl
 clear N
 have hr1:=hr.below hz
 have hT1:=hT.below hz
 go_enter Tryz.func31,Tryz.ntmps31
 cases h with
 | false =>
  go_wp2_with fail
  refine (ofQ 0 _ (by decide) (by decide)).mono ?_
  rintro e w2 ⟨f,c,n,k,c',n',k',rfl,G,hb⟩
  have R1:=R0.below hb
  go_wp2_with (refine R1.put #[.bool false,.bool f,.slice c n k,.slice c' n' k'] rfl _ _ rfl rfl rfl bndI rfl (by simp [Value.oneCell']) ?_)
  intro w3 R2 O2
  go_wp2
  have hs1:=hz.size
  have hs2:=hb.size
  have hs3:=R0.lt
  have G2:=G.off O2 (by omega)
  have hb3:Below w.heap.size w w3:=(bel_tr hz hb).trans (O2.below (by omega))
  have e0:((0:Int):Rat)=bat false r:=rfl
  exact bodyPost_ret (R2.ret1 Tryz.results31 _ rfl Tryz.underlying55 bndI) rfl ⟨f,c,n,k,c',n',k',rfl,((G2.mono (by omega)).le hS1).val e0,hb3⟩
 | true =>
  go_wp2_with fail
  refine (normR _ hr1 hS hS1 hT1).mono ?_
  rintro e w2 ⟨f,c,n,k,c',n',k',rfl,G,hb⟩
  have R1:=R0.below hb
  go_wp2_with (refine R1.put #[.bool true,.bool f,.slice c n k,.slice c' n' k'] rfl _ _ rfl rfl rfl bndI rfl (by simp [Value.oneCell']) ?_)
  intro w3 R2 O2
  go_wp2
  have hs1:=hz.size
  have hs2:=hb.size
  have hs3:=R0.lt
  have G2:=G.off O2 (by omega)
  have hb3:Below w.heap.size w w3:=(bel_tr hz hb).trans (O2.below (by omega))
  exact bodyPost_ret (R2.ret1 Tryz.results31 _ rfl Tryz.underlying55 bndI) rfl ⟨f,c,n,k,c',n',k',rfl,G2.mono (by omega),hb3⟩
theorem Off.grown {R:Nat} {w w':World} (h:Off R w w'):w.grownBy w' (some R):=⟨h.os,h.tape,h.output,Nat.le_of_eq h.size.symm,fun k _ hk=>h.block k fun e=>hk (by rw [e])⟩
def NoW (w:World) (row:Option Nat):Prop:=∀ g,row=some g→∃ cur T,w.heap[g]? = some (.cells cur T (0,0))∧T≠63
theorem Rw.noW {t:TypeId} {w:World} {R:Nat} {cs:Array Value} (h:Rw t w R cs) (ht:t≠63):NoW w (some R):=fun g e=>by cases e;exact ⟨cs,t,h,ht⟩
theorem SL.noW {w:World} {B:Nat} {T:TypeId} {c:Nat} {v:Value} {n:Nat} {E:Nat→List Value} (h:SL w B T c v n E) (ht:T≠63):NoW w v.ownBlock:=by
 intro g e
 obtain ⟨vs,h1,_⟩:=h
 rcases h1.2 with ⟨rfl,_⟩|⟨g',cap,cur,e1,_,f1,_⟩
 ·cases e
 ·subst e1
  simp [Value.ownBlock] at e
  subst e
  exact ⟨cur,T,f1,ht⟩
theorem Got.keep {w w':World} {B:Nat} {v:Value} {x:Int} {S:Nat} (h:Got w B v x S) {row:Option Nat} (hn:NoW w row) (hg:w.grownBy w' row):Got w' B v x S:=by
 obtain ⟨xs,h1,h2⟩:=h
 refine ⟨xs,World.ownsRow.kept h1 hg ?_,h2⟩
 rcases h1.2 with ⟨e1,_⟩|⟨g1,c1,cur1,e1,_,f1,_⟩
 ·subst e1;exact .inl rfl
 ·refine .inr fun e=>?_
  subst e1
  obtain ⟨cur,T,f2,hT⟩:=hn g1 (by rw [← e];rfl)
  rw [f1] at f2
  simp only [Option.some.injEq,Obj.cells.injEq] at f2
  exact hT f2.2.1.symm
theorem GR.keep {w w':World} {B:Nat} {f:Bool} {c:Option Addr} {n k:Nat} {c':Option Addr} {n' k':Nat} {r:Rat} {S:Nat} (h:GR w B f c n k c' n' k' r S) {row:Option Nat} (hn:NoW w row) (hg:w.grownBy w' row):GR w' B f c n k c' n' k' r S:=by
 refine ⟨?_,h.2.keep hn hg,h.3⟩
 obtain ⟨a,n2,c2,h1,h2⟩:=h.1
 exact ⟨a,n2,c2,h1,h2.keep hn hg⟩
theorem Rw.kept {t:TypeId} {w w':World} {R:Nat} {cs:Array Value} (h:Rw t w R cs) {row:Option Nat} (hg:w.grownBy w' row) (hne:row≠some R):Rw t w' R cs:=(hg.block R h.lt (fun e=>hne e.symm)).trans h
theorem SL.neR {w:World} {B:Nat} {T t:TypeId} {c:Nat} {v:Value} {n:Nat} {E:Nat→List Value} (h:SL w B T c v n E) {R:Nat} {cs:Array Value} (hr:Rw t w R cs) (ht:T≠t):v.ownBlock≠some R:=by
 intro e
 obtain ⟨vs,h1,_⟩:=h
 rcases h1.2 with ⟨rfl,_⟩|⟨g',cap,cur,e1,_,f1,_⟩
 ·cases e
 ·subst e1
  simp [Value.ownBlock] at e
  subst e
  unfold Rw at hr
  rw [f1] at hr
  simp only [Option.some.injEq,Obj.cells.injEq] at hr
  exact ht hr.2.1
theorem Near.grown {g:Nat} {a b c:World} (h:Near g a b) {row:Option Nat} (hg:b.grownBy c row) (hr:∀ k,row=some k→a.heap.size≤k):Near g a c :=
 ⟨hg.os.trans h.os,hg.tape.trans h.tape,hg.output.trans h.output,Nat.le_trans h.size hg.size,fun k hk hne=>(hg.block k (Nat.lt_of_lt_of_le hk h.size) (fun e=>by have:=hr k e.symm;omega)).trans (h.block k hk hne)⟩
theorem Near.grow {g:Nat} {a b:World} (h:Near g a b):a.grownBy b (some g):=⟨h.os,h.tape,h.output,h.size,fun k hk hne=>h.block k hk (fun e=>hne (by rw [e]))⟩
theorem Near.box {g:Nat} {a b:World} (h:Near g a b) {R:Nat} {cs:List Value} (hB:BoxC a R cs) (hR:R<a.heap.size) (hne:R≠g):BoxC b R cs:=fun i u hu=>(World.cell?_of_block (w:=a) (h.block R hR hne)).trans (hB i u hu)
theorem Near.rw {g:Nat} {a b:World} (h:Near g a b) {t:TypeId} {R:Nat} {cs:Array Value} (hB:Rw t a R cs) (hne:R≠g):Rw t b R cs:=(h.block R hB.lt hne).trans hB
theorem wp_appendS (w:World) {o:Oper} {a:Act} {K:Act→World→Prop} {Q:Exit→Act→World→Prop} (s x:Operand) (L T:TypeId) (c y:Nat)
  (ho:o.op = .call { callee:=.builtin .append,args:=#[s,x],argTypes:=#[L,L] }) (hL:Tryz.prog.underlying L=some (.slice T)) (hI:Inf T c y) (hc0:0<c) (hy:y≤1000)
  (B:Nat) (v:Value) (n:Nat) (E:Nat→List Value) (hs:a.eval s=v) (hown:SL w B T c v n E) (h k:Nat) (hx:a.eval x = .slice (some ⟨h,0,none⟩) 1 k)
  (cs:List Value) (hcs:cs.length=c) (h1:∀ u ∈ cs,u.oneCell'=true) (hbox:BoxC w h cs)
  (hlen:n≤1000000000) (hB:B≤w.heap.size) (H:Nat) (hH:w.heap.size=H)
  (hK:∀ g cap w',SL w' B T c (.slice (some ⟨g,0,none⟩) (n+1) cap) (n+1) (fun i=>if i<n then E i else cs)→w.grownBy w' v.ownBlock→(v.ownBlock=some g∨g=H)→g<w'.heap.size→K (a.put o.dst (.slice (some ⟨g,0,none⟩) (n+1) cap)) w') :
  Oper.wp Tryz.prog o a w K Q:=by
 obtain ⟨vs,g1,g2⟩:=hown
 obtain ⟨i0,z,hi,hz,hs3,hb56,hz3⟩:=hI
 have hyn:(n+1)*y≤1000000001*1000:=Nat.mul_le_mul (by omega) hy
 refine wp_append_lies w s x L ho B T i0 z c y hL hi hz hs3 hb56 hz3 hc0 v n vs hs g1 ⟨h,0,none⟩ 1 k cs hx (by omega) ?_ h1 (by decide) (by unfold maxLen;omega) (by omega) hB H hH ?_
 ·intro j u hj
  have:=hbox j u hj
  by_cases e:j=0
  ·subst e;simpa [Addr.add] using this
  ·simpa [Addr.add,e] using this
 ·intro g cap w' r1 r2 r3 r4
  exact hK g cap w' ⟨_,r1,sl_app g1.1 hcs g2⟩ r2 r3 r4
theorem Rw.set7 {t:TypeId} {w:World} {R:Nat} {a0 a1 a2 a3 a4 a5 a6:Value} (h:Rw t w R #[a0,a1,a2,a3,a4,a5,a6]) (b0 b1 b2 b3 b4 b5 b6:Value) :
  Rw t (((((((w.setCell ⟨R,0,none⟩ b0).setCell ⟨R,1,none⟩ b1).setCell ⟨R,2,none⟩ b2).setCell ⟨R,3,none⟩ b3).setCell ⟨R,4,none⟩ b4).setCell ⟨R,5,none⟩ b5).setCell ⟨R,6,none⟩ b6) R #[b0,b1,b2,b3,b4,b5,b6] ∧
  Off R w (((((((w.setCell ⟨R,0,none⟩ b0).setCell ⟨R,1,none⟩ b1).setCell ⟨R,2,none⟩ b2).setCell ⟨R,3,none⟩ b3).setCell ⟨R,4,none⟩ b4).setCell ⟨R,5,none⟩ b5).setCell ⟨R,6,none⟩ b6):=by
 refine ⟨?_,((((((Off.refl _ _).set 0 b0).set 1 b1).set 2 b2).set 3 b3).set 4 b4).set 5 b5 |>.set 6 b6⟩
 have:=(((((((h.set 0 b0).1.set 1 b1).1.set 2 b2).1.set 3 b3).1.set 4 b4).1.set 5 b5).1.set 6 b6).1
 simpa using this
theorem prbI:(Tryz.prog.info? 31).map (·.size)=some 7:=by kernel_rfl
def VC (w:World) (B:Nat) (cs:List Value) (v:PV) (Y:Nat):Prop :=
 ∃ p1 a1 n1 k1 d1 m1 l1 p2 a2 n2 k2 d2 m2 l2 p3 a3 n3 k3 d3 m3 l3,cs=[.string v.nm,.bool p1,.slice a1 n1 k1,.slice d1 m1 l1,.bool v.hlo,.bool p2,.slice a2 n2 k2,.slice d2 m2 l2,.bool v.hhi,.bool p3,.slice a3 n3 k3,.slice d3 m3 l3,.bool v.whole] ∧
  GR w B p1 a1 n1 k1 d1 m1 l1 v.obj Y∧GR w B p2 a2 n2 k2 d2 m2 l2 (bat v.hlo v.lo) Y∧GR w B p3 a3 n3 k3 d3 m3 l3 (bat v.hhi v.hi) Y
theorem VC.below {w w':World} {B:Nat} {cs:List Value} {v:PV} {Y:Nat} (h:VC w B cs v Y) (hb:Below w.heap.size w w'):VC w' B cs v Y:=by
 obtain ⟨p1,a1,n1,k1,d1,m1,l1,p2,a2,n2,k2,d2,m2,l2,p3,a3,n3,k3,d3,m3,l3,e,g1,g2,g3⟩:=h
 exact ⟨p1,a1,n1,k1,d1,m1,l1,p2,a2,n2,k2,d2,m2,l2,p3,a3,n3,k3,d3,m3,l3,e,g1.below hb,g2.below hb,g3.below hb⟩
theorem VC.keep {w w':World} {B:Nat} {cs:List Value} {v:PV} {Y:Nat} (h:VC w B cs v Y) {row:Option Nat} (hn:NoW w row) (hg:w.grownBy w' row):VC w' B cs v Y:=by
 obtain ⟨p1,a1,n1,k1,d1,m1,l1,p2,a2,n2,k2,d2,m2,l2,p3,a3,n3,k3,d3,m3,l3,e,g1,g2,g3⟩:=h
 exact ⟨p1,a1,n1,k1,d1,m1,l1,p2,a2,n2,k2,d2,m2,l2,p3,a3,n3,k3,d3,m3,l3,e,g1.keep hn hg,g2.keep hn hg,g3.keep hn hg⟩
theorem TC.keep {w w':World} {B:Nat} {cs:List Value} {t:PT} {Y:Nat} (h:TC w B cs t Y) {row:Option Nat} (hn:NoW w row) (hg:w.grownBy w' row):TC w' B cs t Y:=by
 obtain ⟨p,a,na,ca,d,nd,cd,e,g⟩:=h
 exact ⟨p,a,na,ca,d,nd,cd,e,g.keep hn hg⟩
theorem TL.below {w w':World} {B:Nat} {v:Value} {m:Nat} {u:Nat→PT} {Y:Nat→Nat} (h:TL w B v m u Y) (hb:Below w.heap.size w w'):TL w' B v m u Y:=by
 obtain ⟨E,h1,h2⟩:=h
 exact ⟨E,h1.below hb,fun i hi=>(h2 i hi).below hb⟩
theorem TL.keep {w w':World} {B:Nat} {v:Value} {m:Nat} {u:Nat→PT} {Y:Nat→Nat} (h:TL w B v m u Y) {row:Option Nat} (hn:NoW w row) (hne:∀ g,v.ownBlock=some g→row≠some g) (hg:w.grownBy w' row):TL w' B v m u Y:=by
 obtain ⟨E,h1,h2⟩:=h
 exact ⟨E,h1.kept hg hne,fun i hi=>(h2 i hi).keep hn hg⟩
theorem TL.mono {w:World} {B B':Nat} {v:Value} {m:Nat} {u:Nat→PT} {Y:Nat→Nat} (h:TL w B v m u Y) (hB:B'≤B):TL w B' v m u Y:=by
 obtain ⟨E,h1,h2⟩:=h
 exact ⟨E,h1.mono hB,fun i hi=>(h2 i hi).mono hB⟩
theorem TL.form {w:World} {B:Nat} {v:Value} {m:Nat} {u:Nat→PT} {Y:Nat→Nat} (h:TL w B v m u Y):∃ a cap,v = .slice a m cap∧m≤cap:=by
 obtain ⟨E,h1,h2⟩:=h
 exact h1.form
def RC (w:World) (B:Nat) (cs:List Value) (r:PW) (n:Nat) (Y:Nat):Prop :=
 ∃ v m u Z p2 a2 n2 k2 d2 m2 l2 p3 a3 n3 k3 d3 m3 l3,cs=[.string r.nm,v,.bool r.hlo,.bool p2,.slice a2 n2 k2,.slice d2 m2 l2,.bool r.hhi,.bool p3,.slice a3 n3 k3,.slice d3 m3 l3] ∧
  Gath r.t r.nt n u m∧(∀ q,q<r.nt→SzR (r.t q).coef (Z q)∧1≤Z q)∧tot Z r.nt≤Y∧TL w B v m u (fun i=>zs r.t Z (u i).var r.nt-1)∧GR w B p2 a2 n2 k2 d2 m2 l2 (bat r.hlo r.lo) Y∧GR w B p3 a3 n3 k3 d3 m3 l3 (bat r.hhi r.hi) Y
theorem RC.below {w w':World} {B:Nat} {cs:List Value} {r:PW} {n Y:Nat} (h:RC w B cs r n Y) (hb:Below w.heap.size w w'):RC w' B cs r n Y:=by
 obtain ⟨v,m,u,Z,p2,a2,n2,k2,d2,m2,l2,p3,a3,n3,k3,d3,m3,l3,e,g1,z1,z2,t1,g2,g3⟩:=h
 exact ⟨v,m,u,Z,p2,a2,n2,k2,d2,m2,l2,p3,a3,n3,k3,d3,m3,l3,e,g1,z1,z2,t1.below hb,g2.below hb,g3.below hb⟩
theorem RC.keep {w w':World} {B:Nat} {cs:List Value} {r:PW} {n Y:Nat} (h:RC w B cs r n Y) {row:Option Nat} (hn:NoW w row) (hne:∀ g,row=some g→∃ cur T,w.heap[g]? = some (.cells cur T (0,0))∧T≠62) (hg:w.grownBy w' row):RC w' B cs r n Y:=by
 obtain ⟨v,m,u,Z,p2,a2,n2,k2,d2,m2,l2,p3,a3,n3,k3,d3,m3,l3,e,g1,z1,z2,t1,g2,g3⟩:=h
 refine ⟨v,m,u,Z,p2,a2,n2,k2,d2,m2,l2,p3,a3,n3,k3,d3,m3,l3,e,g1,z1,z2,t1.keep hn ?_ hg,g2.keep hn hg,g3.keep hn hg⟩
 intro g e1 e2
 obtain ⟨cur,T,f2,hT⟩:=hne g e2
 obtain ⟨E,⟨vs,h1,_⟩,_⟩:=t1
 rcases h1.2 with ⟨rfl,_⟩|⟨g',cap,cur',e3,_,f1,_⟩
 ·cases e1
 ·subst e3
  simp [Value.ownBlock] at e1
  subst e1
  rw [f1] at f2
  simp only [Option.some.injEq,Obj.cells.injEq] at f2
  exact hT f2.2.1.symm
theorem VC.mono {w:World} {B B':Nat} {cs:List Value} {v:PV} {Y:Nat} (h:VC w B cs v Y) (hB:B'≤B):VC w B' cs v Y:=by
 obtain ⟨p1,a1,n1,k1,d1,m1,l1,p2,a2,n2,k2,d2,m2,l2,p3,a3,n3,k3,d3,m3,l3,e,g1,g2,g3⟩:=h
 exact ⟨p1,a1,n1,k1,d1,m1,l1,p2,a2,n2,k2,d2,m2,l2,p3,a3,n3,k3,d3,m3,l3,e,g1.mono hB,g2.mono hB,g3.mono hB⟩
theorem RC.mono {w:World} {B B':Nat} {cs:List Value} {r:PW} {n Y:Nat} (h:RC w B cs r n Y) (hB:B'≤B):RC w B' cs r n Y:=by
 obtain ⟨v,m,u,Z,p2,a2,n2,k2,d2,m2,l2,p3,a3,n3,k3,d3,m3,l3,e,g1,z1,z2,t1,g2,g3⟩:=h
 exact ⟨v,m,u,Z,p2,a2,n2,k2,d2,m2,l2,p3,a3,n3,k3,d3,m3,l3,e,g1,z1,z2,t1.mono hB,g2.mono hB,g3.mono hB⟩
def NoT (w:World) (row:Option Nat):Prop:=∀ g,row=some g→∃ cur T,w.heap[g]? = some (.cells cur T (0,0))∧T≠62
theorem Rw.noT {t:TypeId} {w:World} {R:Nat} {cs:Array Value} (h:Rw t w R cs) (ht:t≠62):NoT w (some R):=fun g e=>by cases e;exact ⟨cs,t,h,ht⟩
theorem SL.noT {w:World} {B:Nat} {T:TypeId} {c:Nat} {v:Value} {n:Nat} {E:Nat→List Value} (h:SL w B T c v n E) (ht:T≠62):NoT w v.ownBlock:=by
 intro g e
 obtain ⟨vs,h1,_⟩:=h
 rcases h1.2 with ⟨rfl,_⟩|⟨g',cap,cur,e1,_,f1,_⟩
 ·cases e
 ·subst e1
  simp [Value.ownBlock] at e
  subst e
  exact ⟨cur,T,f1,ht⟩
theorem ne_of_noT {w:World} {B:Nat} {v:Value} {m:Nat} {u:Nat→PT} {Y:Nat→Nat} (h:TL w B v m u Y) {row:Option Nat} (hn:NoT w row):∀ g,v.ownBlock=some g→row≠some g:=by
 intro g e1 e2
 obtain ⟨cur,T,f2,hT⟩:=hn g e2
 obtain ⟨E,⟨vs,h1,_⟩,_⟩:=h
 rcases h1.2 with ⟨rfl,_⟩|⟨g',cap,cur',e3,_,f1,_⟩
 ·cases e1
 ·subst e3
  simp [Value.ownBlock] at e1
  subst e1
  rw [f1] at f2
  simp only [Option.some.injEq,Obj.cells.injEq] at f2
  exact hT f2.2.1.symm
def TO (w:World) (B:Nat) (P:Prob) (v:Value):Prop :=
 ∃ f c n k c' n' k' va vc ra rc E F,v = .agg #[.bool P.mx,.string P.nm,.bool f,.slice c n k,.slice c' n' k',.slice va P.vn vc,.slice ra P.rn rc]∧GR w B f c n k c' n' k' P.k P.S ∧
  SL w B 57 13 (.slice va P.vn vc) P.vn E∧(∀ q,q<P.vn→VC w B (E q) (P.V q) (P.ZV q))∧SL w B 60 10 (.slice ra P.rn rc) P.rn F∧(∀ q,q<P.rn→RC w B (F q) (P.R q) P.vn (P.ZR q))
end Go.Proofs.YtdcocflnafcikaaGreatDoor
namespace Go.Proofs.YtdcocflnafcikaaGreatDoor
open Go.RowKit Go.Maps
def kS (s:ByteArray):Lit:=.string s.data.toList
theorem kS_inj {s t:ByteArray} (h:kS s=kS t):s=t:=by
 simp only [kS,Lit.string.injEq] at h
 exact ByteArray.ext (Array.toList_inj.1 h)
theorem key_str (s:ByteArray):WideAt.IsKeyLit (kS s):=trivial
theorem keyS {s:ByteArray} (h:s.size≤1000000000):keyOf Tryz.prog 9 (.string s)=some (kS s):=Go.WideMaps.keyOf_string_mk Tryz.underlying9 (by unfold maxLen;omega)
def stq (ns:List ByteArray) (s:ByteArray):List ByteArray:=if s.data.toList=[]∨s.data.toList ∈ ns.map (·.data.toList) then ns else ns++[s]
theorem mem_data {ns:List ByteArray} {s:ByteArray}:s.data.toList ∈ ns.map (·.data.toList)↔s ∈ ns:=by
 rw [List.mem_map]
 constructor
 ·rintro ⟨t,h1,h2⟩
  have:t=s:=kS_inj (by unfold kS;rw [h2])
  rw [← this];exact h1
 ·intro h;exact ⟨s,h,rfl⟩
structure Pl (w:World) (B p q b:Nat) (D:DataW Value) (ns:List ByteArray):Prop where
 cp:Rw 107 w p #[.map (some b)]
 nm:∃ v E,Rw 108 w q #[v]∧SL w B 9 1 v ns.length E∧∀ (i:Nat) s,ns[i]? = some s→E i=[.string s]
 own:w.ownsMap Tryz.prog 9 rawR b ns.length D
 idx:∀ (j:Nat) s,ns[j]? = some s→D.atKey (kS s) (.held (.int .i64 0)) = .held (.int .i64 (j:Int))
 has:∀ s,Maps.has D (kS s)=true↔s ∈ ns
 bp:B≤p
 bq:B≤q
 bb:B≤b
 bs:B≤w.heap.size
structure FK (q b:Nat) (w w':World):Prop where
 os:w'.os=w.os
 tape:w'.tape=w.tape
 output:w'.output=w.output
 size:w.heap.size≤w'.heap.size
 block:∀ k,k<w.heap.size→k≠q→k≠b→(∀ cur,w.heap[k]? ≠ some (.cells cur 9 (0,0)))→w'.heap[k]? = w.heap[k]?
theorem FK.refl (q b:Nat) (w:World):FK q b w w:=⟨rfl,rfl,rfl,Nat.le_refl _,fun _ _ _ _ _=>rfl⟩
theorem FK.trans {q b:Nat} {w w1 w2:World} (h:FK q b w w1) (k:FK q b w1 w2):FK q b w w2 :=
 ⟨k.os.trans h.os,k.tape.trans h.tape,k.output.trans h.output,Nat.le_trans h.size k.size,fun i hi h1 h2 h3=>(k.block i (Nat.lt_of_lt_of_le hi h.size) h1 h2 (fun cur e=>h3 cur ((h.block i hi h1 h2 h3).symm.trans e))).trans (h.block i hi h1 h2 h3)⟩
theorem FK.of_below {q b:Nat} {w w':World} (h:Below w.heap.size w w'):FK q b w w':=⟨h.os,h.tape,h.output,h.size,fun k hk _ _ _=>h.block k hk⟩
theorem FK.rw {q b:Nat} {w w':World} (h:FK q b w w') {t:TypeId} {R:Nat} {cs:Array Value} (hr:Rw t w R cs) (h1:R≠q) (h2:R≠b) (ht:t≠9):Rw t w' R cs :=
 (h.block R hr.lt h1 h2 (fun cur e=>by unfold Rw at hr;rw [hr] at e;simp only [Option.some.injEq,Obj.cells.injEq] at e;exact ht e.2.1)).trans hr
theorem FK.of_grown {q b:Nat} {w w':World} {row:Option Nat} (hg:w.grownBy w' row) (hr:∀ k,row=some k→k=q∨k=b∨∃ cur,w.heap[k]? = some (.cells cur 9 (0,0))):FK q b w w' :=
 ⟨hg.os,hg.tape,hg.output,hg.size,fun k hk h1 h2 h3=>hg.block k hk fun e=>by
  rcases hr k e.symm with e|e|⟨cur,e⟩
  ·exact h1 e
  ·exact h2 e
  ·exact h3 cur e⟩
theorem SL.cells {w:World} {B:Nat} {T:TypeId} {c:Nat} {v:Value} {n:Nat} {E:Nat→List Value} (h:SL w B T c v n E):∀ g,v.ownBlock=some g→∃ cur,w.heap[g]? = some (.cells cur T (0,0)):=by
 intro g e
 obtain ⟨vs,h1,_⟩:=h
 rcases h1.2 with ⟨rfl,_⟩|⟨g',cap,cur,e1,_,f1,_⟩
 ·cases e
 ·subst e1
  simp [Value.ownBlock] at e
  subst e
  exact ⟨cur,f1⟩
theorem infStr:Inf 9 1 16:=inf_of (by kernel_rfl)
theorem Pl.below {w w':World} {B p q b:Nat} {D:DataW Value} {ns:List ByteArray} (h:Pl w B p q b D ns) (hb:Below w.heap.size w w'):Pl w' B p q b D ns:=by
 obtain ⟨v,E,h1,h2,h3⟩:=h.nm
 refine ⟨h.cp.below hb,⟨v,E,h1.below hb,h2.below hb,h3⟩,?_,h.idx,h.has,h.bp,h.bq,h.bb,Nat.le_trans h.bs hb.size⟩
 have hl:=h.own.lt
 obtain ⟨es,c,e1,e2⟩:=h.own
 exact ⟨es,c,(hb.block b hl).trans e1,e2⟩
theorem Pl.step {w w1 w2:World} {B p q b:Nat} {D:DataW Value} {ns:List ByteArray} {s:ByteArray} (h:Pl w B p q b D ns) (hs:s ∉ ns) (ho:w1.ownsMap Tryz.prog 9 rawR b (ns.length+1) (D.put (kS s) (.held (.int .i64 (ns.length:Int))))) (hg:w.grownBy w1 (some b))
  {v v':Value} {E:Nat→List Value} (hq:Rw 108 w q #[v]) (hE:∀ (i:Nat) s,ns[i]? = some s→E i=[.string s]) (hS:SL w2 B 9 1 v' (ns.length+1) (fun i=>if i<ns.length then E i else [.string s])) (hg2:w1.grownBy w2 v.ownBlock)
  (hv:v.ownBlock≠some p∧v.ownBlock≠some q∧v.ownBlock≠some b) (hb:∀ k,v'.ownBlock=some k→k≠q) (hpq:p≠q∧p≠b∧q≠b):Pl (w2.setCell ⟨q,0,none⟩ v') B p q b (D.put (kS s) (.held (.int .i64 (ns.length:Int)))) (ns++[s]):=by
 have hM:=h.own.isMap
 have hq2:Rw 108 w2 q #[v]:=(hq.kept hg (fun e=>hpq.2.2 (by cases e;rfl))).kept hg2 hv.2.1
 obtain ⟨hq3,O⟩:=hq2.set 0 v'
 have hS3:=hS.kept O.grown (fun g e e2=>hb g e (by cases e2;rfl))
 refine ⟨?_,⟨v',_,by simpa using hq3,by simpa using hS3,?_⟩,?_,?_,?_,h.bp,h.bq,h.bb,?_⟩
 ·exact (((h.cp.kept hg (fun e=>hpq.2.1 (by cases e;rfl))).kept hg2 hv.1).off O hpq.1)
 ·intro i u hu
  by_cases hi:i<ns.length
  ·rw [List.getElem?_append_left hi] at hu
   rw [if_pos hi]
   exact hE i u hu
  ·rw [List.getElem?_append_right (by omega)] at hu
   rw [if_neg hi]
   have h1:i-ns.length=0:=by
    have:=(List.getElem?_eq_some_iff.1 hu).1
    simp at this
    omega
   rw [h1] at hu
   simp at hu
   rw [hu]
 ·rw [List.length_append]
  refine (ho.kept hg2 (fun e=>hv.2.2 e.symm)).kept O.grown (fun e=>hpq.2.2 (by cases e;rfl))
 ·intro j u hu
  by_cases hj:j<ns.length
  ·rw [List.getElem?_append_left hj] at hu
   rw [atKey_put_other (fun e=>hs (by rw [← kS_inj e];exact List.mem_of_getElem? hu))]
   exact h.idx j u hu
  ·rw [List.getElem?_append_right (by omega)] at hu
   have h1:j-ns.length=0:=by
    have:=(List.getElem?_eq_some_iff.1 hu).1
    simp at this
    omega
   rw [h1] at hu
   simp at hu
   obtain rfl:j=ns.length:=by omega
   rw [← hu,atKey_put_same hM (key_str _)]
 ·intro u
  rw [List.mem_append,List.mem_singleton]
  by_cases e:u=s
  ·subst e
   rw [has_put_same hM (key_str _)]
   simp
  ·rw [has_put_other (fun e2=>e (kS_inj e2)),h.has u]
   simp [e]
 ·have:=hg.size;have:=hg2.size;have:=O.size;have:=h.bs;omega
end Go.Proofs.YtdcocflnafcikaaGreatDoor
namespace Go.Proofs.YtdcocflnafcikaaGreatDoor
open Go.RowKit Go.Maps
set_option maxRecDepth 100000 in
set_option maxHeartbeats 4000000 in
theorem standQ {w:World} {B p q b:Nat} {D:DataW Value} {ns:List ByteArray} (s:ByteArray) (h:Pl w B p q b D ns) (hs:s.size≤1000000000) (hl:ns.length≤1000000000) (hpq:p≠q∧p≠b∧q≠b) :
  Calls Tryz.prog 80 #[.string s,.pointer (some ⟨p,0,none⟩),.pointer (some ⟨q,0,none⟩)] w fun e w'=>e = .returned (.tuple #[])∧∃ D',Pl w' B p q b D' (stq ns s)∧FK q b w w'∧Below B w w':=by
 obtain ⟨v,E,hq,hS,hE⟩:=h.nm
 obtain ⟨na,nc,rfl,hnc⟩:=hS.form
 have c0:=(h.cp.cell 0).trans (show _=some (.map (some b)) from rfl)
 have q0:=(hq.cell 0).trans (show _=some (.slice na ns.length nc) from rfl)
 have q1:=hq.frozen 0
 obtain ⟨x,y,hrun,hx⟩:=h.own.look_ok (string_keyed Tryz.underlying9) (t:=107) (e:=3) Tryz.underlying107 (z:=.int .i64 0) (Tryz.zeroValue3 w) (zd:=.held (.int .i64 0)) (zp:=[]) rfl (keyS hs)
 by_cases he:s.data.toList=[]
 ·have he2:s.toList=[]:=by rw [ByteArray.toList_eq];exact he
  have e1:stq ns s=ns:=by unfold stq;rw [if_pos (.inl he)]
  rw [e1]
  go_enter Tryz.func80,Tryz.ntmps80
  go_wp2
  go_end0
  exact ⟨rfl,D,h,FK.refl _ _ _,Below.refl _ _⟩
 have he2:¬ s.toList=[]:=by rw [ByteArray.toList_eq];exact he
 have he3:s.toList.isEmpty=false:=by simpa using he2
 by_cases hin:s ∈ ns
 ·have hh:Maps.has D (kS s)=true:=(h.has s).2 hin
  rw [hh] at hrun
  have e1:stq ns s=ns:=by unfold stq;rw [if_pos (.inr (mem_data.2 hin))]
  rw [e1]
  go_enter Tryz.func80,Tryz.ntmps80
  go_wp2
  go_end0
  exact ⟨rfl,D,h,FK.refl _ _ _,Below.refl _ _⟩
 ·have hh:Maps.has D (kS s)=false:=by
   cases e:Maps.has D (kS s)
   ·rfl
   ·exact absurd ((h.has s).1 e) hin
  rw [hh] at hrun
  have e1:stq ns s=ns++[s]:=by unfold stq;rw [if_neg (fun h=>h.elim he (fun h=>hin (mem_data.1 h)))]
  rw [e1]
  obtain ⟨w1,hrun1,ho,hg⟩:=h.own.update (string_keyed Tryz.underlying9) Tryz.underlying107 (by unfold maxLen;omega) (keyS hs) (val:=.int .i64 (ns.length:Int)) (d:=.held (.int .i64 (ns.length:Int))) (ps:=[]) rfl
  have hs1:=hg.size
  have hbs:=h.bs
  have hmap:∃ es c,w.heap[b]? = some (.map es c):=by obtain ⟨es,c,e,_⟩:=h.own;exact ⟨es,c,e⟩
  have hvb:(Value.slice na ns.length nc).ownBlock≠some b:=by
   obtain ⟨vs,r,_⟩:=hS
   rcases row_map r hmap with e|e
   ·rw [e];intro e2;cases e2
   ·exact e
  have hvq:=hS.neR hq (by decide)
  have hvp:=hS.neR h.cp (by decide)
  have hS1:=hS.kept hg (fun g e e2=>hvb (e.trans e2.symm))
  have hq1:=hq.kept hg (fun e=>hpq.2.2 (by cases e;rfl))
  have r0:=(hq1.cell 0).trans (show _=some (.slice na ns.length nc) from rfl)
  have r1:=hq1.frozen 0
  have hB1:B≤w1.heap.size:=by omega
  have HSS:=hS1.below (bel_d0 w1 (.cells #[.string s] 9))
  have HPL:Hid (Pl w B p q b D ns):=h
  clear h
  go_enter Tryz.func80,Tryz.ntmps80
  go_wp2_with (at_builtin;refine wpList_appendS _ rfl _ _ 108 9 1 16 rfl Tryz.underlying108 infStr (by decide) (by decide) B (.slice na ns.length nc) ns.length E rfl HSS w1.heap.size _ rfl [.string s] rfl (fun u hu=>by simp at hu;rw [hu];rfl) (box_new w1 #[.string s] 9) (by omega) (by simp;omega) (w1.heap.size+1) (by simp) ?_)
  intro g cap w2 SN hgrow hat _
  have hq2:=(hq1.below (bel_d0 w1 (.cells #[.string s] 9))).kept hgrow hvq
  have s0:=(hq2.cell 0).trans (show _=some (.slice na ns.length nc) from rfl)
  have s1:=hq2.frozen 0
  have hg2:w1.grownBy w2 (Value.slice na ns.length nc).ownBlock:=(World.grownBy_alloc w1 (.cells #[.string s] 9) _).trans hgrow
  have hne:=SN.neR hq2 (by decide)
  have PN:=HPL.out.step hin ho hg hq hE SN hg2 ⟨hvp,hvq,hvb⟩ (fun k e e2=>hne (by rw [e,e2])) hpq
  have hO:=((Off.refl q w2).set 0 (.slice (some ⟨g,0,none⟩) (ns.length+1) cap)).grown
  have FN:FK q b w _:=((FK.of_grown hg (fun k e=>.inr (.inl (by cases e;rfl)))).trans (FK.of_grown hg2 (fun k e=>.inr (.inr (hS1.cells k e))))).trans (FK.of_grown hO (fun k e=>.inl (by cases e;rfl)))
  have hs2:=hg2.size
  have BN:Below B w _:=((grown_below hg hbs (fun k e=>by cases e;exact HPL.out.bb)).trans (grown_below hg2 hB1 (fun k e=>(hS1.lt k e).1))).trans (grown_below hO (by omega) (fun k e=>by cases e;exact HPL.out.bq))
  clear HSS hS1 hq1 r0 r1 hg hgrow hg2 hO hat SN HPL hq2
  go_wp2
  go_end0
  exact ⟨rfl,_,PN,FN,BN⟩
end Go.Proofs.YtdcocflnafcikaaGreatDoor
namespace Go.Proofs.YtdcocflnafcikaaGreatDoor
open Go.RowKit Go.Maps
structure PI where
 coef:Rat
 nm:ByteArray
 ln:Int
 cl:Int
structure ItemAt (w:World) (b o:Nat) (t:PI) (S:Nat):Prop where
 coef:C3 w b o t.coef S
 nm:w.cell? ⟨b,o+3,none⟩=some (.string t.nm)
 ln:w.cell? ⟨b,o+4,none⟩=some (.int .i64 t.ln)
 cl:w.cell? ⟨b,o+5,none⟩=some (.int .i64 t.cl)
 s1:1≤S
 sz:SzR t.coef S
 snm:t.nm.size≤S
theorem ItemAt.below {w w':World} {b o:Nat} {t:PI} {S:Nat} (h:ItemAt w b o t S) (hb:Below w.heap.size w w'):ItemAt w' b o t S:=⟨h.coef.below hb,kept_c hb h.nm,kept_c hb h.ln,kept_c hb h.cl,h.s1,h.sz,h.snm⟩
def LI (w:World) (a:Option Addr) (n:Nat) (I:Nat→PI) (Z:Nat→Nat):Prop:=n=0∨∃ b o,a=some ⟨b,o,none⟩∧∀ i,i<n→ItemAt w b (o+i*6) (I i) (Z i)
theorem LI.below {w w':World} {a:Option Addr} {n:Nat} {I:Nat→PI} {Z:Nat→Nat} (h:LI w a n I Z) (hb:Below w.heap.size w w'):LI w' a n I Z:=by
 rcases h with h|⟨b,o,rfl,h⟩
 ·exact .inl h
 ·exact .inr ⟨b,o,rfl,fun i hi=>(h i hi).below hb⟩
def fol (ns:List ByteArray) (I:Nat→PI):Nat→List ByteArray
 | 0=>ns
 | j+1=>stq (fol ns I j) (I j).nm
theorem stq_len (ns:List ByteArray) (s:ByteArray):(stq ns s).length≤ns.length+1:=by
 unfold stq
 split
 ·omega
 ·rw [List.length_append];exact Nat.le_refl _
theorem fol_len (ns:List ByteArray) (I:Nat→PI):∀ j,(fol ns I j).length≤ns.length+j
 | 0=>Nat.le_refl _
 | j+1=>by have:=fol_len ns I j;have:=stq_len (fol ns I j) (I j).nm;show (stq _ _).length≤_;omega
set_option maxRecDepth 100000 in
set_option maxHeartbeats 4000000 in
theorem itemsQ {w:World} {B p q b r:Nat} {D:DataW Value} {ns:List ByteArray} {ia:Option Addr} {n ic:Nat} {I:Nat→PI} {Z:Nat→Nat} (h:Pl w B p q b D ns) (hI:∀ w',Below B w w'→LI w' ia n I Z) (hz:∀ i,i<n→(I i).nm.size≤1000000000) (hl:ns.length+n≤1000000000) (hpq:p≠q∧p≠b∧q≠b)
  (hr:Rw 145 w r #[.func (.func 80) #[] #[.pointer (some ⟨p,0,none⟩),.pointer (some ⟨q,0,none⟩)]]) (hrq:r≠q∧r≠b) :
  Calls Tryz.prog 81 #[.slice ia n ic,.pointer (some ⟨r,0,none⟩)] w fun e w'=>e = .returned (.tuple #[])∧∃ D',Pl w' B p q b D' (fol ns I n)∧FK q b w w'∧Below B w w':=by
 have HI:Hid (∀ w',Below B w w'→LI w' ia n I Z):=hI
 have HZ:Hid (∀ i,i<n→(I i).nm.size≤1000000000):=hz
 clear hI hz
 go_enter Tryz.func81,Tryz.ntmps81
 go_wp2
 go_loopw [7] (fun s7 wr=>∃ (j:Nat) (D:DataW Value),j≤n∧s7 = .int .i64 j∧Pl wr B p q b D (fol ns I j)∧FK q b w wr∧Below B w wr) (fun s7 _=>n-(intOf s7).toNat)
 case atStart=>exact ⟨0,D,Nat.zero_le _,rfl,h,FK.refl _ _ _,Below.refl _ _⟩
 case round =>
  clear h
  obtain ⟨j,D,hj,rfl,h,hF,hB⟩:=hrel
  by_cases hlt:j<n
  ·have hkI:(j:Int)<(n:Int):=by omega
   have hkI2:(j:Int)*6=((j*6:Nat):Int):=by omega
   have hz:=HZ.out j hlt
   rcases HI.out wr hB with h0|⟨tb,to,eia,hel⟩
   ·omega
   have hT:=hel j hlt
   obtain ⟨pC,aC,nC,cC,dC,mC,lC,x0,x1,x2,_⟩:=hT.coef
   obtain ⟨nm,enm⟩:∃ x,x=(I j).nm:=⟨_,rfl⟩
   obtain ⟨ln,eln⟩:∃ x,x=(I j).ln:=⟨_,rfl⟩
   obtain ⟨cl,ecl⟩:∃ x,x=(I j).cl:=⟨_,rfl⟩
   have x3:=hT.nm
   have x4:=hT.ln
   have x5:=hT.cl
   rw [← enm] at x3 hz
   rw [← eln] at x4
   rw [← ecl] at x5
   have EN:Hid (nm=(I j).nm):=enm
   clear hel hT enm eln ecl
   rw [eia]
   have hrr:=hF.rw hr hrq.1 hrq.2 (by decide)
   have y0:=((hrr.below (bel_d0 wr (.cells #[.bool pC,.slice aC nC cC,.slice dC mC lC,.string nm,.int .i64 ln,.int .i64 cl] 65))).cell 0).trans (show _=some (.func (.func 80) #[] #[.pointer (some ⟨p,0,none⟩),.pointer (some ⟨q,0,none⟩)]) from rfl)
   have hz0:=bel_d0 wr (.cells #[.bool pC,.slice aC nC cC,.slice dC mC lC,.string nm,.int .i64 ln,.int .i64 cl] 65)
   have h4:=h.below hz0
   have hfl:=fol_len ns I j
   go_wp2_with fail
   refine (standQ nm h4 hz (by omega) hpq).mono ?_
   rintro e w5 ⟨rfl,D',h5,hF5,hB5⟩
   have PN:Pl w5 B p q b D' (fol ns I (j+1)):=by show Pl w5 B p q b D' (stq _ _);rw [← EN.out];exact h5
   have FN:FK q b w w5:=(hF.trans (FK.of_below hz0)).trans hF5
   have BN:Below B w w5:=(hB.trans (hz0.mono h.bs)).trans hB5
   clear h h4 h5 hF hB hF5 hB5 y0 hz0 x0 x1 x2 x3 x4 x5
   rw [← eia]
   go_wp2
   go_roundw
   case rel=>first|exact ⟨j+1,by omega,by go_num,D',PN,FN,BN⟩|exact ⟨j+1,D',by omega,by go_num,PN,FN,BN⟩
   case measure=>simp [intOf];omega
  ·have hkI:¬ (j:Int)<(n:Int):=by omega
   obtain rfl:j=n:=by omega
   go_wp2
   go_end0
   exact ⟨rfl,⟨D,h⟩,hF,hB⟩
end Go.Proofs.YtdcocflnafcikaaGreatDoor
