import Derived.Test.YtceigfafmalfgaaGreatDoorRows
import Derived.WalkKit
import Derived.WalkSpells
import Derived.WalkLawsBesides
import Derived.Outline
import Derived.Deep.QuietTactic
import Derived.BigQuiet
import Derived.Deep.RegionWith
import Derived.Deep.RegionHeld3
import Derived.Handy
import Derived.Laws.CopyOwn
import Derived.Laws.Externs
import Derived.Shelf.Spec.BitsCarry
import Derived.Laws.OwnMore
import Derived.Shelf.Bits.Mul64
import Derived.Shelf.Strconv.Itoa0
import Derived.Laws.Bits64b
namespace Go.Proofs.YtceigfafmalfgaaGreatDoor
open Go.RowKit
def Word (x:Int):Prop:=0≤x∧x<18446744073709551616
def lm (xs:List Int) (i:Nat):Int:=xs.getD i 0
def Reads (w:World) (a:Option Addr) (xs:List Int):Prop :=
 xs=[]∨∃ b o,a=some ⟨b,o,none⟩∧∀ i,i<xs.length→w.cell? ⟨b,o+i,none⟩=some (.int .u64 (lm xs i))
def tl (xs:List Int):Nat→Nat
 | 0=>0
 | n+1=>if lm xs n=0 then tl xs n else n+1
theorem tl_le (xs:List Int) (n:Nat):tl xs n≤n:=by
 induction n with
 | zero=>simp [tl]
 | succ n ih=>unfold tl;split <;> omega
def tlen (xs:List Int):Nat:=tl xs xs.length
def trimL (xs:List Int):List Int:=xs.take (tlen xs)
theorem ret_slice {a:Option Addr} {n m c:Nat} (h:n=m):Ending.returned (.slice a n c) = .returned (.slice a m c):=by rw [h]
theorem ret_int {k:IntKind} {a b:Int} (h:a=b):Ending.returned (.int k a) = .returned (.int k b):=by rw [h]
def ordI (b:Bool):Int:=if b then -1 else 1
theorem order_any (b:Bool) (w:World):Calls Tryz.prog 114 #[.bool b] w fun e w'=>e = .returned (.int .i64 (ordI b))∧w=w':=by
 cases b
 all_goals
  go_enter Tryz.func114,Tryz.ntmps114
  go_wp2
  go_ret
  exact ⟨rfl,rfl⟩
set_option maxHeartbeats 400000 in
theorem trim_none (a:Option Addr) (cap:Nat) (w:World):Calls Tryz.prog 74 #[.slice a 0 cap] w fun e w'=>e = .returned (.slice a 0 cap)∧w=w':=by
 go_enter Tryz.func74,Tryz.ntmps74
 go_wp2
 go_loop [3] (fun i=>i = .int .i64 0) (fun _=>0)
 case atStart=>rfl
 case round =>
  subst hrel
  go_wp2
  go_ret
  exact ⟨by simp,rfl⟩
set_option maxHeartbeats 400000 in
theorem trim_some (b o cap:Nat) (xs:List Int) (w:World) (hl:xs.length≤cap) (hm:xs.length≤1099511627776) (hc:∀ i,i<xs.length→w.cell? ⟨b,o+i,none⟩=some (.int .u64 (lm xs i))) :
  Calls Tryz.prog 74 #[.slice (some ⟨b,o,none⟩) xs.length cap] w fun e w'=>e = .returned (.slice (some ⟨b,o,none⟩) (tlen xs) cap)∧w=w':=by
 go_enter Tryz.func74,Tryz.ntmps74
 go_wp2
 go_loop [3] (fun i=>∃ k:Nat,k≤xs.length∧i = .int .i64 k∧tl xs k=tlen xs) (fun i=>(intOf i).toNat)
 case atStart=>exact ⟨_,Nat.le_refl _,rfl,rfl⟩
 case round =>
  obtain ⟨k,hk,rfl,ht⟩:=hrel
  have HT:Hid (tl xs k=tlen xs):=ht
  clear ht
  by_cases hk0:k=0
  ·subst hk0
   go_wp2
   go_ret
   exact ⟨ret_slice HT.out,rfl⟩
  ·obtain ⟨j,rfl⟩:∃ j,k=j+1:=⟨k-1,by omega⟩
   have hcj:=hc j (by omega)
   by_cases hz:lm xs j=0
   ·have HT2:Hid (tl xs j=tlen xs):=by have:=HT.out;unfold tl at this;rw [if_pos hz] at this;exact this
    rw [hz] at hcj
    clear hz
    go_wp2
    go_round
    case rel=>exact ⟨j,by omega,by go_num,HT2.out⟩
    case measure=>simp [intOf]
   ·have HT2:Hid (j+1=tlen xs):=by have:=HT.out;unfold tl at this;rw [if_neg hz] at this;exact this
    have hzb:(lm xs j == 0)=false:=by simpa using hz
    clear hz
    go_wp2
    go_ret
    exact ⟨ret_slice HT2.out,rfl⟩
theorem trim_any (a:Option Addr) (n cap:Nat) (xs:List Int) (w:World) (hn:n=xs.length) (hl:n≤cap) (hm:n≤1099511627776) (hr:Reads w a xs) :
  Calls Tryz.prog 74 #[.slice a n cap] w fun e w'=>e = .returned (.slice a (tlen xs) cap)∧w=w':=by
 subst hn
 rcases hr with rfl|⟨b,o,rfl,hc⟩
 ·exact trim_none a cap w
 ·exact trim_some b o cap xs w hl hm hc
def Blk (w:World) (g:Nat) (us:List Int):Prop:=w.heap[g]? = some (.cells (us.map (Value.int .u64)).toArray 57 (0,0))
structure Off (g:Nat) (w w':World):Prop where
 os:w'.os=w.os
 tape:w'.tape=w.tape
 output:w'.output=w.output
 size:w'.heap.size=w.heap.size
 block:∀ k,k≠g→w'.heap[k]? = w.heap[k]?
theorem lm_lt {us:List Int} {i:Nat} (h:i<us.length):us[i]? = some (lm us i):=by simp [lm,List.getElem?_eq_getElem h]
theorem lm_ge {us:List Int} {i:Nat} (h:us.length≤i):lm us i=0:=by simp [lm,List.getElem?_eq_none h]
theorem lm_set (us:List Int) (i j:Nat) (z:Int):lm (us.set i z) j=if i=j∧j<us.length then z else lm us j:=by
 unfold lm
 simp only [List.getD_eq_getElem?_getD,List.getElem?_set]
 by_cases h:i=j
 ·subst h
  by_cases h2:i<us.length <;> simp [h2]
 ·simp [h]
theorem lm_take {us:List Int} {n i:Nat} (h:i<n):lm (us.take n) i=lm us i:=by simp [lm,List.getElem?_take_of_lt h]
theorem lm_append_left {us vs:List Int} {i:Nat} (h:i<us.length):lm (us++vs) i=lm us i:=by simp [lm,List.getElem?_append_left h]
theorem lm_append_right {us vs:List Int} {i:Nat} (h:us.length≤i):lm (us++vs) i=lm vs (i-us.length):=by simp [lm,List.getElem?_append_right h]
theorem lm_drop (us:List Int) (n i:Nat):lm (us.drop n) i=lm us (n+i):=by simp [lm]
theorem lm_replicate (n i:Nat):lm (List.replicate n 0) i=0:=by
 by_cases h:i<n <;> simp [lm,h]
theorem Blk.cell {w:World} {g:Nat} {us:List Int} (h:Blk w g us) {i:Nat} (hi:i<us.length):w.cell? ⟨g,i,none⟩=some (.int .u64 (lm us i)):=by
 unfold Blk at h
 simp [World.cell?,h,lm_lt hi]
theorem Blk.frozen {w:World} {g:Nat} {us:List Int} (h:Blk w g us) (i:Nat):w.frozen? ⟨g,i,none⟩=false:=by
 unfold Blk at h
 simp [World.frozen?,h]
theorem Blk.lt {w:World} {g:Nat} {us:List Int} (h:Blk w g us):g<w.heap.size:=(Array.getElem?_eq_some_iff.1 h).1
theorem Blk.set {w:World} {g:Nat} {us:List Int} (h:Blk w g us) (i:Nat) (z:Int):Blk (w.setCell ⟨g,i,none⟩ (.int .u64 z)) g (us.set i z):=by
 unfold Blk at *
 simp [World.setCell,Array.getElem?_modify,h,List.map_set]
theorem Blk.drew {w:World} {g:Nat} {us:List Int} (h:Blk w g us):Blk w.drew g us:=h
theorem Blk.drewN {w:World} {g:Nat} {us:List Int} (h:Blk w g us) (n:Nat):Blk (w.drewN n) g us:=h
theorem Blk.off {w w':World} {g k:Nat} {us:List Int} (h:Blk w g us) (ho:Off k w w') (hk:g≠k):Blk w' g us:=by
 unfold Blk;rw [ho.block g hk];exact h
theorem Blk.below {w w':World} {g B:Nat} {us:List Int} (h:Blk w g us) (ho:Below B w w') (hk:g<B):Blk w' g us:=by
 unfold Blk;rw [ho.block g hk];exact h
theorem Off.refl (g:Nat) (w:World):Off g w w:=⟨rfl,rfl,rfl,rfl,fun _ _=>rfl⟩
theorem Off.trans {g:Nat} {a b c:World} (h:Off g a b) (k:Off g b c):Off g a c :=
 ⟨k.os.trans h.os,k.tape.trans h.tape,k.output.trans h.output,k.size.trans h.size,fun i hi=>(k.block i hi).trans (h.block i hi)⟩
theorem Off.set {g:Nat} {a w:World} (h:Off g a w) (i:Nat) (u:Value):Off g a (w.setCell ⟨g,i,none⟩ u) :=
 h.trans ⟨rfl,rfl,rfl,by simp [World.setCell],fun k hk=>Below.heap_setCell _ _ _ _ (by simpa using hk)⟩
theorem Off.drew {g:Nat} {a w:World} (h:Off g a w):Off g a w.drew:=h.trans ⟨rfl,rfl,rfl,rfl,fun _ _=>rfl⟩
theorem Off.drewN {g:Nat} {a w:World} (h:Off g a w) (n:Nat):Off g a (w.drewN n):=h.trans ⟨rfl,rfl,rfl,rfl,fun _ _=>rfl⟩
theorem Off.below {g B:Nat} {w w':World} (h:Off g w w') (hB:B≤g):Below B w w':=⟨h.os,h.tape,h.output,by have:=h.size;omega,fun k hk=>h.block k (by omega)⟩
theorem Off.cell {g:Nat} {w w':World} (h:Off g w w') {p:Addr} (hp:p.block≠g):w'.cell? p=w.cell? p:=World.cell?_of_block (w:=w) (h.block p.block hp)
theorem belN {B:Nat} {a w:World} (h:Below B a w) (n:Nat):Below B a (w.drewN n):=⟨h.os,h.tape,h.output,h.size,h.block⟩
def Away (a:Option Addr) (g:Nat):Prop:=∀ p,a=some p→p.block≠g
theorem Reads.off {w w':World} {a:Option Addr} {xs:List Int} {g:Nat} (h:Reads w a xs) (ho:Off g w w') (ha:Away a g):Reads w' a xs:=by
 rcases h with h|⟨b,o,h,hc⟩
 ·exact .inl h
 ·exact .inr ⟨b,o,h,fun i hi=>by rw [ho.cell (p:=⟨b,o+i,none⟩) (by exact ha ⟨b,o,none⟩ h)];exact hc i hi⟩
theorem Reads.below {w w':World} {a:Option Addr} {xs:List Int} (h:Reads w a xs) (ho:Below w.heap.size w w'):Reads w' a xs:=by
 rcases h with h|⟨b,o,h,hc⟩
 ·exact .inl h
 ·refine .inr ⟨b,o,h,fun i hi=>?_⟩
  have:=World.block_lt_of_cell? _ _ (hc i hi)
  rw [ho.cell (by simpa using this)]
  exact hc i hi
theorem Reads.lt {w:World} {a:Option Addr} {xs:List Int} (h:Reads w a xs) (hx:xs≠[]):∀ p,a=some p→p.block<w.heap.size:=by
 rcases h with h|⟨b,o,h,hc⟩
 ·exact absurd h hx
 ·intro p hp
  have hl:0<xs.length:=List.length_pos_iff.2 hx
  have:=World.block_lt_of_cell? _ _ (hc 0 hl)
  rw [h] at hp
  cases hp
  simpa using this
theorem Reads.take {w:World} {a:Option Addr} {xs:List Int} (h:Reads w a xs) (n:Nat):Reads w a (xs.take n):=by
 rcases h with h|⟨b,o,h,hc⟩
 ·exact .inl (by simp [h])
 ·refine .inr ⟨b,o,h,fun i hi=>?_⟩
  simp only [List.length_take] at hi
  rw [lm_take (by omega)]
  exact hc i (by omega)
theorem Blk.reads {w:World} {g:Nat} {us:List Int} (h:Blk w g us) (n:Nat):Reads w (some ⟨g,0,none⟩) (us.take n):=by
 refine .inr ⟨g,0,rfl,fun i hi=>?_⟩
 simp only [List.length_take] at hi
 rw [lm_take (by omega),Nat.zero_add]
 exact h.cell (by omega)
theorem Tryz.infoU64:(Tryz.prog.info? 57).map (fun i=>(i.zero,i.size,i.bytes))=some (some (.int .u64 0),1,8):=by kernel_rfl
theorem Tryz.sizeU64:(Tryz.prog.info? 57).map (·.size)=some 1:=by kernel_rfl
theorem wpList_makeB (w:World) {ops:Array Oper} {rest:List Oper} {o:Oper} {a:Act} {Q:Exit→Act→World→Prop}
  (hg:o.guard=none) (l c:Operand) (hop:o.op=Op.makeSlice 23 l c)
  (L C:Int) (n:Nat) (hl:a.eval l = .int .i64 L) (hc:a.eval c = .int .i64 C) (hL:L=(n:Int)) (hC:C=(n:Int)) (b2:n≤1099511627776)
  (hK:∀ w',Blk w' w.heap.size (List.replicate n 0)→Below w.heap.size w w'→wpList Tryz.prog ops Q rest (a.put o.dst (.slice (some ⟨w.heap.size,0,none⟩) n n)) w') :
  wpList Tryz.prog ops Q (o::rest) a w:=by
 obtain ⟨i0,hi,hz0,hz1,hz2⟩:=info_parts Tryz.infoU64
 refine wpList_make_full w hg l c 23 hop w.heap.size 57 i0 (.int .u64 0) 1 Tryz.underlying23 hi hz0 hz1 .i64 .i64 L C n hl hc hL hC (by rw [hz2];omega) (by unfold maxLen;omega) (Nat.le_refl _) ?_
 intro w' hown hgrow
 refine hK w' ?_ ((Below.refl _ _).grown hgrow (Nat.le_refl _) (fun k h=>by cases h))
 obtain ⟨_,h2⟩:=hown
 rcases h2 with ⟨h2,_⟩|⟨g,cap,cur,hv,_,hh,_,_,hs,ht⟩
 ·cases h2
 ·simp only [Value.slice.injEq,Option.some.injEq,Addr.mk.injEq] at hv
  obtain ⟨⟨rfl,_,_⟩,_,rfl⟩:=hv
  unfold Blk
  rw [hh]
  have e:cur.toList=List.replicate n (Value.int .u64 0):=by
   have h3:cur.toList.take (n*1)=cur.toList:=List.take_of_length_le (by simp [hs])
   rw [← h3,ht]
   simp only [Nat.mul_one]
   apply List.ext_getElem
   ·simp [size_madeCells]
   ·intro i h1 h2;simp [madeCells,Value.cells,Nat.mod_one]
  have:cur=(List.map (Value.int .u64) (List.replicate n 0)).toArray:=by
   rw [List.map_replicate,← e]
  rw [this]
theorem wpList_copyB {w:World} {ops:Array Oper} {rest:List Oper} {o:Oper} {a:Act} {Q:Exit→Act→World→Prop} (hgd:o.guard=none) (d s:Operand)
  (ho:o.op = .call { callee:=.builtin .copy,args:=#[d,s],argTypes:=#[23,23] })
  (g:Nat) (dLen dCap sLen sCap:Nat) (sp:Option Addr) (hd:a.eval d = .slice (some ⟨g,0,none⟩) dLen dCap) (hs:a.eval s = .slice sp sLen sCap)
  (us xs:List Int) (hb:Blk w g us) (hr:Reads w sp xs) (hx:sLen=xs.length) (h1:xs.length≤dLen) (h2:dLen≤us.length) (B:Nat) (w0:World) (hbel:Below B w0 w) (hBg:B≤g)
  (h:∀ w',Blk w' g (xs++us.drop xs.length)→Below B w0 w'→wpList Tryz.prog ops Q rest (a.put o.dst (goInt (xs.length:Nat))) w') :
  wpList Tryz.prog ops Q (o::rest) a w:=by
 refine wpList_copy_splice hgd d s 23 23 ho 57 Tryz.underlying23 Tryz.sizeU64 _ sp dLen dCap sLen sCap hd hs g 0 (us.map (Value.int .u64)) 57 hb (xs.map (Value.int .u64)) ?_ ?_ ?_ ?_ B w0 hbel hBg ?_
 ·simp only [List.length_map,hx];exact (Nat.min_eq_left h1).symm
 ·intro hp
  simp only [List.length_map] at hp
  obtain ⟨b,oo,rfl,hc⟩:=hr.elim (fun e=>by simp [e] at hp) id
  refine ⟨rfl,_,rfl,fun j v hv=>?_⟩
  simp only [List.getElem?_map,Option.map_eq_some_iff] at hv
  obtain ⟨x,hx',rfl⟩:=hv
  have hj:j<xs.length:=(List.getElem?_eq_some_iff.1 hx').1
  have:=hc j hj
  rw [lm_lt hj] at hx'
  cases hx'
  by_cases h0:j=0
  ·subst h0;simpa [Addr.add] using this
  ·simpa [Addr.add,h0] using this
 ·simp only [List.length_map];omega
 ·intro v hv
  simp only [List.mem_map] at hv
  obtain ⟨x,_,rfl⟩:=hv
  rfl
 ·intro w' hh hbl
  have:=h w' (by unfold Blk;rw [hh.out];simp [splice]) hbl
  simpa using this
/-! ### math/bits.Add64,Sub64,over Int -/
theorem add64 (x y c:Int) (hx:0≤x) (hy:0≤y) (hc0:0≤c) (hc:c≤1) (w:World):(callFunc 143 #[.int .u64 x,.int .u64 y,.int .u64 c]).run Tryz.prog w =
  .ok (.value (.tuple #[.int .u64 ((x+y+c)%18446744073709551616),.int .u64 ((x+y+c)/18446744073709551616)])) w:=by
 rw [run_callFunc_extern Tryz.func143 (by kernel_rfl) (by kernel_rfl) (by kernel_rfl) (e:=add64Entry) (by kernel_rfl),run_add64 x y c hx hy hc0 hc]
 rfl
theorem add64_0 (x y:Int) (hx:0≤x) (hy:0≤y) (w:World):(callFunc 143 #[.int .u64 x,.int .u64 y,.int .u64 0]).run Tryz.prog w =
  .ok (.value (.tuple #[.int .u64 ((x+y)%18446744073709551616),.int .u64 ((x+y)/18446744073709551616)])) w:=by
 simpa using add64 x y 0 hx hy (Int.le_refl 0) (by decide) w
theorem add64_c (x c:Int) (hx:0≤x) (hc0:0≤c) (hc:c≤1) (w:World):(callFunc 143 #[.int .u64 x,.int .u64 0,.int .u64 c]).run Tryz.prog w =
  .ok (.value (.tuple #[.int .u64 ((x+c)%18446744073709551616),.int .u64 ((x+c)/18446744073709551616)])) w:=by
 simpa using add64 x 0 c hx (Int.le_refl 0) hc0 hc w
def bor (x y:Int):Int:=if x<y then 1 else 0
theorem bor_01 (x y:Int):0≤bor x y∧bor x y≤1:=by unfold bor;split <;> omega
theorem sub64 (x y b:Int) (hx:0≤x) (hy:0≤y) (hy':y<18446744073709551616) (hb0:0≤b) (hb:b≤1) (w:World):(callFunc 144 #[.int .u64 x,.int .u64 y,.int .u64 b]).run Tryz.prog w =
  .ok (.value (.tuple #[.int .u64 ((x-y-b)%18446744073709551616),.int .u64 (bor x (y+b))])) w:=by
 obtain ⟨x,rfl⟩:=Int.eq_ofNat_of_zero_le hx
 obtain ⟨y,rfl⟩:=Int.eq_ofNat_of_zero_le hy
 obtain ⟨b,rfl⟩:=Int.eq_ofNat_of_zero_le hb0
 have e1:(((x+18446744073709551616-y-b)%18446744073709551616:Nat):Int)=((x:Int)-y-b)%18446744073709551616:=by omega
 have e2:((if x<y+b then 1 else 0:Nat):Int)=bor x (y+b):=by unfold bor;split <;> split <;> omega
 rw [← e1,← e2,run_callFunc_extern Tryz.func144 (by kernel_rfl) (by kernel_rfl) (by kernel_rfl) (e:=sub64Entry) (by kernel_rfl),run_sub64 x y b (by omega)]
 rfl
theorem sub64_0 (x y:Int) (hx:0≤x) (hy:0≤y) (hy':y<18446744073709551616) (w:World):(callFunc 144 #[.int .u64 x,.int .u64 y,.int .u64 0]).run Tryz.prog w =
  .ok (.value (.tuple #[.int .u64 ((x-y)%18446744073709551616),.int .u64 (bor x y)])) w:=by
 simpa using sub64 x y 0 hx hy hy' (Int.le_refl 0) (by decide) w
theorem sub64_c (x b:Int) (hx:0≤x) (hb0:0≤b) (hb:b≤1) (w:World):(callFunc 144 #[.int .u64 x,.int .u64 0,.int .u64 b]).run Tryz.prog w =
  .ok (.value (.tuple #[.int .u64 ((x-b)%18446744073709551616),.int .u64 (bor x b)])) w:=by
 simpa using sub64 x 0 b hx (Int.le_refl 0) (by decide) hb0 hb w
def cmpTo (xs ys:List Int):Nat→Int
 | 0=>0
 | k+1=>if lm xs k=lm ys k then cmpTo xs ys k else ordI (decide (lm xs k<lm ys k))
def cmpL (xs ys:List Int):Int :=
 if tlen xs=tlen ys then cmpTo xs ys (tlen xs) else ordI (decide (tlen xs<tlen ys))
theorem cmpTo_eq {xs ys:List Int} {j:Nat} (h:lm xs j=lm ys j):cmpTo xs ys (j+1)=cmpTo xs ys j:=by simp [cmpTo,h]
theorem cmpTo_ne {xs ys:List Int} {j:Nat} (h:¬ lm xs j=lm ys j):cmpTo xs ys (j+1)=ordI (decide (lm xs j<lm ys j)):=by simp [cmpTo,h]
theorem Reads.at {w:World} {a:Option Addr} {xs:List Int} (h:Reads w a xs) (hp:0<xs.length):∃ b o,a=some ⟨b,o,none⟩∧∀ i,i<xs.length→w.cell? ⟨b,o+i,none⟩=some (.int .u64 (lm xs i)):=by
 rcases h with rfl|h
 ·simp at hp
 ·exact h
theorem Reads.drewN {w:World} {a:Option Addr} {xs:List Int} (h:Reads w a xs) (n:Nat):Reads (w.drewN n) a xs:=by
 rcases h with h|⟨b,o,h,hc⟩
 ·exact .inl h
 ·exact .inr ⟨b,o,h,fun i hi=>by simpa using hc i hi⟩
set_option maxHeartbeats 1000000 in
theorem cmp_any (a b:Option Addr) (na nb ca cb:Nat) (xs ys:List Int) (w:World) (hna:na=xs.length) (hnb:nb=ys.length) (hla:na≤ca) (hlb:nb≤cb)
  (hma:na≤1099511627776) (hmb:nb≤1099511627776) (hra:Reads w a xs) (hrb:Reads w b ys) :
  Calls Tryz.prog 82 #[.slice a na ca,.slice b nb cb] w fun e w'=>e = .returned (.int .i64 (cmpL xs ys))∧∃ n,w'=w.drewN n:=by
 have ta:tlen xs≤xs.length:=tl_le _ _
 have tb:tlen ys≤ys.length:=tl_le _ _
 subst hna hnb
 go_enter Tryz.func82,Tryz.ntmps82
 go_wp2_with fail
 refine (trim_any a _ ca xs _ rfl hla hma hra).mono ?_
 rintro e w1 ⟨rfl,rfl⟩
 go_wp2_with fail
 refine (trim_any b _ cb ys _ rfl hlb hmb hrb).mono ?_
 rintro e w1 ⟨rfl,rfl⟩
 by_cases hne:tlen xs=tlen ys
 ·have HN:Hid (tlen xs=tlen ys):=hne
  have hb:((tlen xs:Int) != (tlen ys:Int))=false:=by simp [hne]
  have ta':tlen ys≤xs.length:=by omega
  go_wp2_with fail
  go_loopw [5] (fun i wr=>∃ k m:Nat,k≤tlen ys∧i = .int .i64 ((k:Int)-1)∧cmpTo xs ys k=cmpTo xs ys (tlen ys)∧wr=w.drewN m) (fun i _=>(intOf i+1).toNat)
  case atStart=>exact ⟨_,0,Nat.le_refl _,rfl,rfl,rfl⟩
  case round =>
   obtain ⟨k,m,hk,rfl,ht,rfl⟩:=hrel
   have HT:Hid (cmpTo xs ys k=cmpTo xs ys (tlen ys)):=ht
   clear ht hb hne
   by_cases hk0:k=0
   ·subst hk0
    go_wp2
    go_ret
    refine ⟨ret_int ?_,m,rfl⟩
    unfold cmpL;rw [if_pos HN.out,HN.out];exact HT.out
   ·obtain ⟨j,rfl⟩:∃ j,k=j+1:=⟨k-1,by omega⟩
    obtain ⟨b1,o1,rfl,hc1⟩:=hra.at (by omega)
    obtain ⟨b2,o2,rfl,hc2⟩:=hrb.at (by omega)
    have h1:=hc1 j (by omega)
    have h2:=hc2 j (by omega)
    have hj:(j:Int)<(tlen ys:Int):=by omega
    clear hc1 hc2
    by_cases hz:lm xs j=lm ys j
    ·have HT2:Hid (cmpTo xs ys j=cmpTo xs ys (tlen ys)):=(cmpTo_eq hz).symm.trans HT.out
     rw [hz] at h1
     clear hz
     go_wp2
     go_quiet (fail)
     go_wp2
     go_roundw
     case rel=>exact ⟨j,m+nq,by omega,by go_num,HT2.out,rfl⟩
     case measure=>simp [intOf]
    ·have hzb:(lm xs j != lm ys j)=true:=by simpa using hz
     go_wp2
     go_quiet (fail)
     obtain ⟨W2,hW2⟩:∃ W2,W2=(w.drewN m).drewN nq:=⟨_,rfl⟩
     have g1:W2.cell? ⟨b1,o1+j,none⟩=some (.int .u64 (lm xs j)):=by rw [hW2];simpa using h1
     have g2:W2.cell? ⟨b2,o2+j,none⟩=some (.int .u64 (lm ys j)):=by rw [hW2];simpa using h2
     rw [← hW2]
     have HW2:Hid (∃ q,W2=w.drewN q):=⟨m+nq,by rw [hW2];simp⟩
     clear hW2 h1 h2 hz
     go_wp2
     go_quiet ((go_at_call 114;exact Calls.quiet_of_same ((order_any _ _).mono (fun _ _ h=>⟨h.1,h.2.symm⟩))))
     go_wp2
     go_ret
     obtain ⟨q,hq⟩:=HW2.out
     refine ⟨ret_int ?_,q+nq,?_⟩
     ·unfold cmpL;rw [if_pos HN.out,HN.out,← HT.out,cmpTo_ne (by simpa using hzb)]
     ·rw [hq];simp
 ·have hb:((tlen xs:Int) != (tlen ys:Int))=true:=by simp;omega
  go_wp2_with fail
  refine (order_any _ _).mono ?_
  rintro e w1 ⟨rfl,rfl⟩
  go_wp2
  go_ret
  refine ⟨ret_int ?_,0,rfl⟩
  unfold cmpL;rw [if_neg hne]
  first|done|simp
theorem length_trimL (xs:List Int):(trimL xs).length=tlen xs:=by
 have:tlen xs≤xs.length:=tl_le _ _
 simp [trimL];omega
theorem tl_spec (xs:List Int) (n:Nat):(∀ i,tl xs n≤i→i<n→lm xs i=0)∧(0<tl xs n→lm xs (tl xs n-1)≠0):=by
 induction n with
 | zero=>simp [tl]
 | succ n ih =>
  unfold tl
  split
  ·rename_i h
   refine ⟨fun i h1 h2=>?_,ih.2⟩
   rcases Nat.lt_or_ge i n with h3|h3
   ·exact ih.1 i h1 h3
   ·obtain rfl:i=n:=by omega
    exact h
  ·rename_i h
   exact ⟨fun i h1 h2=>by omega,fun _=>h⟩
theorem tl_unique (xs:List Int) (n k:Nat) (hk:k≤n) (h1:∀ i,k≤i→i<n→lm xs i=0) (h2:0<k→lm xs (k-1)≠0):tl xs n=k:=by
 obtain ⟨a,b⟩:=tl_spec xs n
 have hle:=tl_le xs n
 rcases Nat.lt_trichotomy (tl xs n) k with h|h|h
 ·exact absurd (a (k-1) (by omega) (by omega)) (h2 (by omega))
 ·exact h
 ·exact absurd (h1 (tl xs n-1) (by omega) (by omega)) (b (by omega))
theorem tlen_trimL (xs:List Int):tlen (trimL xs)=tlen xs:=by
 have hle:tlen xs≤xs.length:=tl_le _ _
 obtain ⟨a,b⟩:=tl_spec xs xs.length
 unfold tlen
 rw [length_trimL]
 refine tl_unique _ _ _ (Nat.le_refl _) (fun i h1 h2=>by unfold tlen at h2;omega) (fun h=>?_)
 unfold trimL
 rw [lm_take (by unfold tlen;omega)]
 exact b h
theorem trimL_trimL (xs:List Int):trimL (trimL xs)=trimL xs:=by
 have:tlen (trimL xs)=(trimL xs).length:=by rw [tlen_trimL,length_trimL]
 show (trimL xs).take (tlen (trimL xs))=trimL xs
 rw [this,List.take_length]
set_option maxHeartbeats 1000000 in
theorem norm_any (a:Option Addr) (n cap:Nat) (xs:List Int) (w:World) (hn:n=xs.length) (hl:n≤cap) (hm:n≤1099511627776) (hr:Reads w a xs) :
  Calls Tryz.prog 95 #[.slice a n cap] w fun e w'=>∃ g,e = .returned (.slice (some ⟨g,0,none⟩) (tlen xs) (tlen xs))∧w.heap.size≤g∧Blk w' g (trimL xs)∧Below w.heap.size w w':=by
 have ta:tlen xs≤xs.length:=tl_le _ _
 subst hn
 have hlen:=length_trimL xs
 have HL:Hid ((trimL xs).length=tlen xs):=hlen
 clear hlen
 go_enter Tryz.func95,Tryz.ntmps95
 go_wp2_with fail
 refine (trim_any a _ cap xs _ rfl hl hm hr).mono ?_
 rintro e w1 ⟨rfl,rfl⟩
 go_wp2_with (at_make;refine wpList_makeB _ rfl _ _ rfl _ _ (tlen xs) rfl rfl rfl rfl (by omega) ?_)
 intro w1 hb1 hbel1
 go_wp2_with (refine wpList_copyB rfl _ _ rfl w.heap.size _ _ _ _ a rfl rfl (List.replicate (tlen xs) 0) (trimL xs) hb1 ((hr.below hbel1).take _) HL.out.symm (by rw [HL.out];exact Nat.le_refl _) (by simp) w.heap.size w hbel1 (Nat.le_refl _) ?_)
 intro w2 hb2 hbel2
 go_wp2
 go_ret
 refine ⟨_,rfl,Nat.le_refl _,?_,hbel2⟩
 rw [HL.out] at hb2
 simpa using hb2
def AllW (xs:List Int):Prop:=∀ x ∈ xs,Word x
theorem AllW.at {xs:List Int} (h:AllW xs) (i:Nat):0≤lm xs i∧lm xs i<18446744073709551616:=by
 by_cases hi:i<xs.length
 ·have:=h (lm xs i) (List.mem_of_getElem? (lm_lt hi))
  exact this
 ·rw [lm_ge (by omega)];omega
theorem AllW.set {xs:List Int} (h:AllW xs) (i:Nat) (z:Int) (hz:Word z):AllW (xs.set i z):=by
 intro x hx
 rcases List.mem_or_eq_of_mem_set hx with h1|rfl
 ·exact h x h1
 ·exact hz
theorem AllW.take {xs:List Int} (h:AllW xs) (n:Nat):AllW (xs.take n):=fun x hx=>h x (List.mem_of_mem_take hx)
theorem AllW.append {xs ys:List Int} (h:AllW xs) (k:AllW ys):AllW (xs++ys):=fun x hx=>(List.mem_append.1 hx).elim (h x) (k x)
theorem AllW.nil:AllW []:=fun x hx=>by cases hx
theorem AllW.replicate (n:Nat):AllW (List.replicate n 0):=fun x hx=>by rw [List.eq_of_mem_replicate hx];unfold Word;omega
theorem word_mod (x:Int):Word (x%18446744073709551616):=⟨by omega,by omega⟩
def addR (us:List Int) (o:Nat) (ys:List Int):Nat→List Int × Int
 | 0=>(us,0)
 | k+1=>((addR us o ys k).1.set (o+k) ((lm (addR us o ys k).1 (o+k)+lm ys k+(addR us o ys k).2)%18446744073709551616),(lm (addR us o ys k).1 (o+k)+lm ys k+(addR us o ys k).2)/18446744073709551616)
theorem addR_ok {us ys:List Int} (o:Nat) (hu:AllW us) (hy:AllW ys) (k:Nat):AllW (addR us o ys k).1∧(addR us o ys k).1.length=us.length∧0≤(addR us o ys k).2∧(addR us o ys k).2≤1:=by
 induction k with
 | zero=>simp [addR,hu]
 | succ k ih =>
  obtain ⟨h1,h2,h3,h4⟩:=ih
  have a:=h1.at (o+k)
  have b:=hy.at k
  refine ⟨h1.set _ _ (word_mod _),by simp [addR,h2],?_,?_⟩ <;> simp only [addR] <;> omega
def rip (o n:Nat):Nat→List Int→Int→List Int
 | 0,u,_=>u
 | f+1,u,c=>if 0<c then rip o n f (u.set (o+(n-(f+1))) ((lm u (o+(n-(f+1)))+c)%18446744073709551616)) ((lm u (o+(n-(f+1)))+c)/18446744073709551616) else u
def addF (us:List Int) (o n:Nat) (ys:List Int):List Int:=rip o n (n-ys.length) (addR us o ys ys.length).1 (addR us o ys ys.length).2
theorem rip_stop {o n i:Nat} {u:List Int} {c:Int} (h:n≤i∨¬ 0<c):rip o n (n-i) u c=u:=by
 rcases h with h|h
 ·rw [show n-i=0 by omega];rfl
 ·cases e:n-i with
  | zero=>rfl
  | succ f=>simp [rip,h]
theorem rip_step {o n i:Nat} {u:List Int} {c:Int} (h:i<n) (hc:0<c):rip o n (n-i) u c=rip o n (n-(i+1)) (u.set (o+i) ((lm u (o+i)+c)%18446744073709551616)) ((lm u (o+i)+c)/18446744073709551616):=by
 rw [show n-i=(n-(i+1))+1 by omega]
 simp only [rip,if_pos hc]
 rw [show n-(n-(i+1)+1)=i by omega]
set_option maxHeartbeats 1000000 in
theorem addTo_any (g o n cap:Nat) (us:List Int) (b:Option Addr) (nb cb:Nat) (ys:List Int) (w:World) (hb:Blk w g us) (hfit:o+n≤us.length) (hm:us.length≤1099511627776) (hu:AllW us)
  (hnb:nb=ys.length) (hle:nb≤n) (hr:Reads w b ys) (haw:ys≠[]→Away b g) (hy:AllW ys) :
  Calls Tryz.prog 113 #[.slice (some ⟨g,o,none⟩) n cap,.slice b nb cb] w fun e w'=>e = .returned (.tuple #[])∧Blk w' g (addF us o n ys)∧Off g w w':=by
 subst hnb
 go_enter Tryz.func113,Tryz.ntmps113
 go_wp2
 go_loopw [4,10] (fun c i wr=>∃ k:Nat,k≤ys.length∧i = .int .i64 k∧c = .int .u64 (addR us o ys k).2∧Blk wr g (addR us o ys k).1∧Off g w wr) (fun _ i _=>ys.length-(intOf i).toNat)
 case atStart=>exact ⟨0,Nat.zero_le _,rfl,rfl,hb,Off.refl _ _⟩
 case round =>
  obtain ⟨k,hk,rfl,rfl,hbr,hoff⟩:=hrel
  obtain ⟨ok1,ok2,ok3,ok4⟩:=addR_ok o hu hy k
  by_cases hlt:k<ys.length
  ·obtain ⟨b2,o2,rfl,hc2⟩:=hr.at (by omega)
   have HN:Hid (addR us o ys (k+1)=((addR us o ys k).1.set (o+k) ((lm (addR us o ys k).1 (o+k)+lm ys k+(addR us o ys k).2)%18446744073709551616),(lm (addR us o ys k).1 (o+k)+lm ys k+(addR us o ys k).2)/18446744073709551616)):=rfl
   generalize hU:(addR us o ys k).1=U at *
   generalize hC:(addR us o ys k).2=C at *
   clear hU hC
   have HC2:wr.cell? ⟨b2,o2+k,none⟩=some (.int .u64 (lm ys k)):=by rw [hoff.cell (p:=⟨b2,o2+k,none⟩) (by exact haw (List.length_pos_iff.1 (by omega)) ⟨b2,o2,none⟩ rfl)];exact hc2 k hlt
   have hcg:=hbr.cell (i:=o+k) (by omega)
   have hfg:=hbr.frozen (o+k)
   have a1:=ok1.at (o+k)
   have a2:=hy.at k
   have HB:=hbr.set (o+k) ((lm U (o+k)+lm ys k+C)%18446744073709551616)
   have HO:=hoff.set (o+k) (.int .u64 ((lm U (o+k)+lm ys k+C)%18446744073709551616))
   obtain ⟨a10,a11⟩:=a1
   obtain ⟨a20,a21⟩:=a2
   have hkn:(k:Int)<(n:Int):=by omega
   clear hc2 hb hr haw hbr hoff
   go_wp2_with (simp only [add64 (lm U (o+k)) (lm ys k) C a10 a20 ok3 ok4])
   go_roundw
   case rel=>exact ⟨k+1,by omega,by go_num,by rw [HN.out],by rw [HN.out];exact HB,HO⟩
   case measure=>simp [intOf];omega
  ·obtain rfl:k=ys.length:=by omega
   clear hlt
   have HF:Hid (addF us o n ys=rip o n (n-ys.length) (addR us o ys ys.length).1 (addR us o ys ys.length).2):=rfl
   generalize hU:(addR us o ys ys.length).1=U at *
   generalize hC:(addR us o ys ys.length).2=C at *
   clear hU hC
   clear hb
   go_wp2
   go_loopw [4,7] (fun c i wr=>∃ (q:Nat) (V:List Int) (D:Int),i = .int .i64 q∧ys.length≤q∧q≤n∧c = .int .u64 D∧Blk wr g V∧Off g w wr∧rip o n (n-q) V D=addF us o n ys∧AllW V∧V.length=us.length∧0≤D∧D≤1) (fun _ i _=>n-(intOf i).toNat)
   case atStart=>exact ⟨_,U,C,rfl,Nat.le_refl _,hle,rfl,hbr,hoff,HF.out.symm,ok1,ok2,ok3,ok4⟩
   case round =>
    obtain ⟨q,V,D,rfl,hq1,hq2,rfl,hbv,hov,hrip,v1,v2,v3,v4⟩:=hrel
    have HR:Hid (rip o n (n-q) V D=addF us o n ys):=hrip
    clear hrip hbr hoff ok1 ok2 ok3 ok4
    by_cases hD:0<D
    ·by_cases hqn:q<n
     ·have hcg:=hbv.cell (i:=o+q) (by omega)
      have hfg:=hbv.frozen (o+q)
      obtain ⟨a10,a11⟩:=v1.at (o+q)
      have HB:=hbv.set (o+q) ((lm V (o+q)+D)%18446744073709551616)
      have HO:=hov.set (o+q) (.int .u64 ((lm V (o+q)+D)%18446744073709551616))
      have HR2:Hid (rip o n (n-(q+1)) (V.set (o+q) ((lm V (o+q)+D)%18446744073709551616)) ((lm V (o+q)+D)/18446744073709551616)=addF us o n ys):=(rip_step hqn hD).symm.trans HR.out
      clear hbv hov HR
      go_wp2_with (simp only [add64_c (lm V (o+q)) D a10 v3 v4])
      go_roundw
      case rel=>exact ⟨q+1,_,_,by go_num,by omega,by omega,rfl,HB,HO,HR2.out,v1.set _ _ (word_mod _),by simp [v2],by omega,by omega⟩
      case measure=>simp [intOf];omega
     ·have HR2:Hid (V=addF us o n ys):=(rip_stop (.inl (by omega))).symm.trans HR.out
      go_wp2
      go_end0
      exact ⟨rfl,HR2.out ▸ hbv,hov⟩
    ·have HR2:Hid (V=addF us o n ys):=(rip_stop (.inr hD)).symm.trans HR.out
     have hDb:decide (0<D)=false:=by simpa using hD
     go_wp2
     go_end0
     exact ⟨rfl,HR2.out ▸ hbv,hov⟩
def addL (xs ys:List Int):List Int:=if tlen xs<tlen ys then addF (trimL ys++[0]) 0 (tlen ys+1) (trimL xs) else addF (trimL xs++[0]) 0 (tlen xs+1) (trimL ys)
theorem length_rip (o n:Nat):∀ (f:Nat) (u:List Int) (c:Int),(rip o n f u c).length=u.length
 | 0,u,c=>rfl
 | f+1,u,c=>by
  unfold rip
  split
  ·rw [length_rip];simp
  ·rfl
theorem length_addR (us:List Int) (o:Nat) (ys:List Int) (k:Nat):(addR us o ys k).1.length=us.length:=by
 induction k with
 | zero=>rfl
 | succ k ih=>simp [addR,ih]
theorem length_addF (us:List Int) (o n:Nat) (ys:List Int):(addF us o n ys).length=us.length:=by
 unfold addF;rw [length_rip,length_addR]
theorem Blk.reads' {w:World} {g:Nat} {us:List Int} (h:Blk w g us):Reads w (some ⟨g,0,none⟩) us:=by
 have:=h.reads us.length
 rwa [List.take_length] at this
def Res (w w':World) (e:Ending) (us:List Int):Prop :=
 ∃ g,e = .returned (.slice (some ⟨g,0,none⟩) (tlen us) us.length)∧w.heap.size≤g∧Blk w' g us∧Below w.heap.size w w'
theorem rep_one (n:Nat):List.replicate (n+1-n) (0:Int)=[0]:=by
 rw [show n+1-n=1 by omega];rfl
theorem ret_slice2 {a:Option Addr} {n m c d:Nat} (h:n=m) (k:c=d):Ending.returned (.slice a n c) = .returned (.slice a m d):=by rw [h,k]
set_option maxHeartbeats 600000 in
theorem add_any (a b:Option Addr) (na nb ca cb:Nat) (xs ys:List Int) (w:World) (hna:na=xs.length) (hnb:nb=ys.length) (hla:na≤ca) (hlb:nb≤cb)
  (hma:na≤1000000000000) (hmb:nb≤1000000000000) (hra:Reads w a xs) (hrb:Reads w b ys) (hx:AllW xs) (hy:AllW ys) :
  Calls Tryz.prog 81 #[.slice a na ca,.slice b nb cb] w fun e w'=>Res w w' e (addL xs ys):=by
 have ta:tlen xs≤xs.length:=tl_le _ _
 have tb:tlen ys≤ys.length:=tl_le _ _
 subst hna hnb
 go_enter Tryz.func81,Tryz.ntmps81
 go_wp2_with fail
 refine (trim_any a _ ca xs _ rfl hla (by omega) hra).mono ?_
 rintro e w1 ⟨rfl,rfl⟩
 go_wp2_with fail
 refine (trim_any b _ cb ys _ rfl hlb (by omega) hrb).mono ?_
 rintro e w1 ⟨rfl,rfl⟩
 by_cases hlt:tlen xs<tlen ys
 ·have hlt':(tlen xs:Int)<(tlen ys:Int):=by omega
  have HL:Hid ((trimL ys).length=tlen ys):=length_trimL ys
  have HS:Hid (addL xs ys=addF (trimL ys++[0]) 0 (tlen ys+1) (trimL xs)):=by show _=_;unfold addL;rw [if_pos hlt]
  go_wp2_with (at_make;refine wpList_makeB _ rfl _ _ rfl _ _ (tlen ys+1) rfl rfl (by omega) (by omega) (by omega) ?_)
  intro w1 hb1 hbel1
  go_wp2_with (refine wpList_copyB rfl _ _ rfl w.heap.size _ _ _ _ b rfl rfl (List.replicate (tlen ys+1) 0) (trimL ys) hb1 ((hrb.below hbel1).take _) HL.out.symm (by rw [HL.out];omega) (by simp) w.heap.size w hbel1 (Nat.le_refl _) ?_)
  intro w2 hb2 hbel2
  have hb2':Blk w2 w.heap.size (trimL ys++[0]):=by
   rw [HL.out,rep_one] at hb2;exact hb2
  clear hb2 hb1
  go_wp2_with fail
  refine (addTo_any w.heap.size 0 (tlen ys+1) _ (trimL ys++[0]) a (tlen xs) ca (trimL xs) w2 hb2' (by simp [HL.out]) (by simp [HL.out];omega) ((hy.take _).append (AllW.replicate 1)) (length_trimL xs).symm (by omega) ((hra.below hbel2).take _) (fun hne p hp=>?haw) (hx.take _)).mono ?_
  case haw=>have:=(hra.take (tlen xs)).lt hne p hp;omega
  rintro e w3 ⟨rfl,hb3,hoff⟩
  have hbel3:Below w.heap.size w w3:=hbel2.trans (hoff.below (Nat.le_refl _))
  rw [← HS.out] at hb3
  have HL2:Hid ((addL xs ys).length=tlen ys+1):=(congrArg List.length HS.out).trans (by rw [length_addF,List.length_append,HL.out];rfl)
  clear hoff hb2' hbel2 hbel1
  go_wp2_with fail
  refine (trim_any (some ⟨w.heap.size,0,none⟩) (tlen ys+1) (tlen ys+1) (addL xs ys) w3 HL2.out.symm (Nat.le_refl _) (by omega) hb3.reads').mono ?_
  rintro e w4 ⟨rfl,rfl⟩
  go_wp2
  go_ret
  exact ⟨w.heap.size,ret_slice2 rfl HL2.out.symm,Nat.le_refl _,hb3,hbel3⟩
 ·have hlt':¬ (tlen xs:Int)<(tlen ys:Int):=by omega
  have HL:Hid ((trimL xs).length=tlen xs):=length_trimL xs
  have HS:Hid (addL xs ys=addF (trimL xs++[0]) 0 (tlen xs+1) (trimL ys)):=by show _=_;unfold addL;rw [if_neg hlt]
  go_wp2_with (at_make;refine wpList_makeB _ rfl _ _ rfl _ _ (tlen xs+1) rfl rfl (by omega) (by omega) (by omega) ?_)
  intro w1 hb1 hbel1
  go_wp2_with (refine wpList_copyB rfl _ _ rfl w.heap.size _ _ _ _ a rfl rfl (List.replicate (tlen xs+1) 0) (trimL xs) hb1 ((hra.below hbel1).take _) HL.out.symm (by rw [HL.out];omega) (by simp) w.heap.size w hbel1 (Nat.le_refl _) ?_)
  intro w2 hb2 hbel2
  have hb2':Blk w2 w.heap.size (trimL xs++[0]):=by
   rw [HL.out,rep_one] at hb2;exact hb2
  clear hb2 hb1
  go_wp2_with fail
  refine (addTo_any w.heap.size 0 (tlen xs+1) _ (trimL xs++[0]) b (tlen ys) cb (trimL ys) w2 hb2' (by simp [HL.out]) (by simp [HL.out];omega) ((hx.take _).append (AllW.replicate 1)) (length_trimL ys).symm (by omega) ((hrb.below hbel2).take _) (fun hne p hp=>?haw) (hy.take _)).mono ?_
  case haw=>have:=(hrb.take (tlen ys)).lt hne p hp;omega
  rintro e w3 ⟨rfl,hb3,hoff⟩
  have hbel3:Below w.heap.size w w3:=hbel2.trans (hoff.below (Nat.le_refl _))
  rw [← HS.out] at hb3
  have HL2:Hid ((addL xs ys).length=tlen xs+1):=(congrArg List.length HS.out).trans (by rw [length_addF,List.length_append,HL.out];rfl)
  clear hoff hb2' hbel2 hbel1
  go_wp2_with fail
  refine (trim_any (some ⟨w.heap.size,0,none⟩) (tlen xs+1) (tlen xs+1) (addL xs ys) w3 HL2.out.symm (Nat.le_refl _) (by omega) hb3.reads').mono ?_
  rintro e w4 ⟨rfl,rfl⟩
  go_wp2
  go_ret
  exact ⟨w.heap.size,ret_slice2 rfl HL2.out.symm,Nat.le_refl _,hb3,hbel3⟩
def subR (us:List Int) (o:Nat) (ys:List Int):Nat→List Int × Int
 | 0=>(us,0)
 | k+1=>((subR us o ys k).1.set (o+k) ((lm (subR us o ys k).1 (o+k)-lm ys k-(subR us o ys k).2)%18446744073709551616),bor (lm (subR us o ys k).1 (o+k)) (lm ys k+(subR us o ys k).2))
theorem subR_ok {us ys:List Int} (o:Nat) (hu:AllW us) (k:Nat):AllW (subR us o ys k).1∧(subR us o ys k).1.length=us.length∧0≤(subR us o ys k).2∧(subR us o ys k).2≤1:=by
 induction k with
 | zero=>simp [subR,hu]
 | succ k ih =>
  obtain ⟨h1,h2,h3,h4⟩:=ih
  exact ⟨h1.set _ _ (word_mod _),by simp [subR,h2],(bor_01 _ _).1,(bor_01 _ _).2⟩
def sip (o n:Nat):Nat→List Int→Int→List Int × Int
 | 0,u,c=>(u,c)
 | f+1,u,c=>if 0<c then sip o n f (u.set (o+(n-(f+1))) ((lm u (o+(n-(f+1)))-c)%18446744073709551616)) (bor (lm u (o+(n-(f+1)))) c) else (u,c)
def subF (us:List Int) (o n:Nat) (ys:List Int):List Int × Int:=sip o n (n-ys.length) (subR us o ys ys.length).1 (subR us o ys ys.length).2
theorem sip_stop {o n i:Nat} {u:List Int} {c:Int} (h:¬ 0<c):sip o n (n-i) u c=(u,c):=by
 cases e:n-i with
 | zero=>rfl
 | succ f=>simp [sip,h]
theorem sip_step {o n i:Nat} {u:List Int} {c:Int} (h:i<n) (hc:0<c):sip o n (n-i) u c=sip o n (n-(i+1)) (u.set (o+i) ((lm u (o+i)-c)%18446744073709551616)) (bor (lm u (o+i)) c):=by
 rw [show n-i=(n-(i+1))+1 by omega]
 simp only [sip,if_pos hc]
 rw [show n-(n-(i+1)+1)=i by omega]
theorem sip_end {o n i:Nat} {u:List Int} {c:Int} (h:n≤i):sip o n (n-i) u c=(u,c):=by
 rw [show n-i=0 by omega];rfl
theorem length_sip (o n:Nat):∀ (f:Nat) (u:List Int) (c:Int),(sip o n f u c).1.length=u.length
 | 0,u,c=>rfl
 | f+1,u,c=>by
  unfold sip
  split
  ·rw [length_sip];simp
  ·rfl
theorem length_subR (us:List Int) (o:Nat) (ys:List Int) (k:Nat):(subR us o ys k).1.length=us.length:=by
 induction k with
 | zero=>rfl
 | succ k ih=>simp [subR,ih]
theorem length_subF (us:List Int) (o n:Nat) (ys:List Int):(subF us o n ys).1.length=us.length:=by
 unfold subF;rw [length_sip,length_subR]
set_option maxHeartbeats 1000000 in
theorem takeFrom_any (g o n cap:Nat) (us:List Int) (b:Option Addr) (nb cb:Nat) (ys:List Int) (w:World) (hb:Blk w g us) (hfit:o+n≤us.length) (hm:us.length≤1099511627776) (hu:AllW us)
  (hnb:nb=ys.length) (hle:nb≤n) (hr:Reads w b ys) (haw:ys≠[]→Away b g) (hy:AllW ys) (hlast:(subF us o n ys).2=0) :
  Calls Tryz.prog 115 #[.slice (some ⟨g,o,none⟩) n cap,.slice b nb cb] w fun e w'=>e = .returned (.tuple #[])∧Blk w' g (subF us o n ys).1∧Off g w w':=by
 subst hnb
 have HLAST:Hid ((subF us o n ys).2=0):=hlast
 clear hlast
 go_enter Tryz.func115,Tryz.ntmps115
 go_wp2
 go_loopw [4,10] (fun c i wr=>∃ k:Nat,k≤ys.length∧i = .int .i64 k∧c = .int .u64 (subR us o ys k).2∧Blk wr g (subR us o ys k).1∧Off g w wr) (fun _ i _=>ys.length-(intOf i).toNat)
 case atStart=>exact ⟨0,Nat.zero_le _,rfl,rfl,hb,Off.refl _ _⟩
 case round =>
  obtain ⟨k,hk,rfl,rfl,hbr,hoff⟩:=hrel
  obtain ⟨ok1,ok2,ok3,ok4⟩:=subR_ok (ys:=ys) o hu k
  by_cases hlt:k<ys.length
  ·obtain ⟨b2,o2,rfl,hc2⟩:=hr.at (by omega)
   have HN:Hid (subR us o ys (k+1)=((subR us o ys k).1.set (o+k) ((lm (subR us o ys k).1 (o+k)-lm ys k-(subR us o ys k).2)%18446744073709551616),bor (lm (subR us o ys k).1 (o+k)) (lm ys k+(subR us o ys k).2))):=rfl
   generalize hU:(subR us o ys k).1=U at *
   generalize hC:(subR us o ys k).2=C at *
   clear hU hC
   have HC2:wr.cell? ⟨b2,o2+k,none⟩=some (.int .u64 (lm ys k)):=by rw [hoff.cell (p:=⟨b2,o2+k,none⟩) (by exact haw (List.length_pos_iff.1 (by omega)) ⟨b2,o2,none⟩ rfl)];exact hc2 k hlt
   have hcg:=hbr.cell (i:=o+k) (by omega)
   have hfg:=hbr.frozen (o+k)
   have a1:=ok1.at (o+k)
   have a2:=hy.at k
   have HB:=hbr.set (o+k) ((lm U (o+k)-lm ys k-C)%18446744073709551616)
   have HO:=hoff.set (o+k) (.int .u64 ((lm U (o+k)-lm ys k-C)%18446744073709551616))
   obtain ⟨a10,a11⟩:=a1
   obtain ⟨a20,a21⟩:=a2
   have hkn:(k:Int)<(n:Int):=by omega
   clear hc2 hb hr haw hbr hoff
   go_wp2_with (simp only [sub64 (lm U (o+k)) (lm ys k) C a10 a20 a21 ok3 ok4])
   go_roundw
   case rel=>exact ⟨k+1,by omega,by go_num,by rw [HN.out],by rw [HN.out];exact HB,HO⟩
   case measure=>simp [intOf];omega
  ·obtain rfl:k=ys.length:=by omega
   clear hlt
   have HF:Hid (subF us o n ys=sip o n (n-ys.length) (subR us o ys ys.length).1 (subR us o ys ys.length).2):=rfl
   generalize hU:(subR us o ys ys.length).1=U at *
   generalize hC:(subR us o ys ys.length).2=C at *
   clear hU hC
   clear hb
   go_wp2
   go_loopw [4,7] (fun c i wr=>∃ (q:Nat) (V:List Int) (D:Int),i = .int .i64 q∧ys.length≤q∧q≤n∧c = .int .u64 D∧Blk wr g V∧Off g w wr∧sip o n (n-q) V D=subF us o n ys∧AllW V∧V.length=us.length∧0≤D∧D≤1) (fun _ i _=>n-(intOf i).toNat)
   case atStart=>exact ⟨_,U,C,rfl,Nat.le_refl _,hle,rfl,hbr,hoff,HF.out.symm,ok1,ok2,ok3,ok4⟩
   case round =>
    obtain ⟨q,V,D,rfl,hq1,hq2,rfl,hbv,hov,hrip,v1,v2,v3,v4⟩:=hrel
    have HR:Hid (sip o n (n-q) V D=subF us o n ys):=hrip
    clear hrip hbr hoff ok1 ok2 ok3 ok4
    by_cases hD:0<D
    ·have hqn:q<n:=by
      rcases Nat.lt_or_ge q n with h|h
      ·exact h
      ·have:=HR.out
       rw [sip_end h] at this
       have h0:=HLAST.out
       rw [← this] at h0
       simp only at h0
       omega
     have hcg:=hbv.cell (i:=o+q) (by omega)
     have hfg:=hbv.frozen (o+q)
     obtain ⟨a10,a11⟩:=v1.at (o+q)
     have hbo:=bor_01 (lm V (o+q)) D
     have HB:=hbv.set (o+q) ((lm V (o+q)-D)%18446744073709551616)
     have HO:=hov.set (o+q) (.int .u64 ((lm V (o+q)-D)%18446744073709551616))
     have HR2:Hid (sip o n (n-(q+1)) (V.set (o+q) ((lm V (o+q)-D)%18446744073709551616)) (bor (lm V (o+q)) D)=subF us o n ys):=(sip_step hqn hD).symm.trans HR.out
     clear hbv hov HR
     go_wp2_with (simp only [sub64_c (lm V (o+q)) D a10 v3 v4])
     go_roundw
     case rel=>exact ⟨q+1,_,_,by go_num,by omega,by omega,rfl,HB,HO,HR2.out,v1.set _ _ (word_mod _),by simp [v2],hbo.1,hbo.2⟩
     case measure=>simp [intOf];omega
    ·have HR2:Hid (V=(subF us o n ys).1):=by show _=_;rw [← HR.out,sip_stop hD]
     have hDb:decide (0<D)=false:=by simpa using hD
     go_wp2
     go_end0
     exact ⟨rfl,HR2.out ▸ hbv,hov⟩
def subL (xs ys:List Int):List Int:=(subF (trimL xs) 0 (tlen xs) (trimL ys)).1
end Go.Proofs.YtceigfafmalfgaaGreatDoor
namespace Go.Proofs.YtceigfafmalfgaaGreatDoor
open Go.RowKit Go.Shelf
/-! ### The shelf's contracts,laid at this program -/
def renM:Ren:=⟨fun|264=>145|n=>n,fun|46=>139|53=>57|n=>n,fun n=>n⟩
theorem laysM:Lays.n264 Tryz.prog renM :=
 { mixed:=by kernel_rfl,f264:=by kernel_rfl,t46:=by kernel_rfl,a46:=fun _=>by kernel_rfl,z46:=fun _=>by kernel_rfl,v46:=fun _=>by kernel_rfl,t53:=by kernel_rfl,a53:=fun _=>by kernel_rfl,z53:=fun _=>by kernel_rfl,v53:=fun _=>by kernel_rfl }
def renL:Ren:=⟨fun|129=>75|n=>n,fun|3=>3|4=>4|5=>5|9=>9|46=>139|53=>57|n=>n,fun n=>n⟩
theorem laysL:Lays.n129 Tryz.prog renL :=
 { mixed:=by kernel_rfl,f129:=by kernel_rfl,t3:=by kernel_rfl,a3:=fun _=>by kernel_rfl,z3:=fun _=>by kernel_rfl,v3:=fun _=>by kernel_rfl,t4:=by kernel_rfl,a4:=fun _=>by kernel_rfl,z4:=fun _=>by kernel_rfl,v4:=fun _=>by kernel_rfl,t5:=by kernel_rfl,a5:=fun _=>by kernel_rfl,z5:=fun _=>by kernel_rfl,v5:=fun _=>by kernel_rfl,t9:=by kernel_rfl,a9:=fun _=>by kernel_rfl,z9:=fun _=>by kernel_rfl,v9:=fun _=>by kernel_rfl,t46:=by kernel_rfl,a46:=fun _=>by kernel_rfl,z46:=fun _=>by kernel_rfl,v46:=fun _=>by kernel_rfl,t53:=by kernel_rfl,a53:=fun _=>by kernel_rfl,z53:=fun _=>by kernel_rfl,v53:=fun _=>by kernel_rfl }
theorem mul64_nat (x y:Nat) (hx:x<18446744073709551616) (hy:y<18446744073709551616) (w:World) :
  Calls Tryz.prog 145 #[.int .u64 x,.int .u64 y] w fun e w'=>e = .returned (.tuple #[.int .u64 ((x*y/18446744073709551616:Nat):Int),.int .u64 ((x*y%18446744073709551616:Nat):Int)])∧w'=w :=
 Any.bits_Mul64 laysM x y hx hy w
theorem len64_any (x:Int) (w:World) (h0:0≤x) (h1:x<18446744073709551616) :
  Calls Tryz.prog 75 #[.int .u64 x] w fun e w'=>e = .returned (.int .i64 (Lib.bitLen x.toNat))∧w'=w :=
 Any.bits_Len64 laysL x w h0 (by omega)
end Go.Proofs.YtceigfafmalfgaaGreatDoor
namespace Go.Proofs.YtceigfafmalfgaaGreatDoor
open Go.RowKit
set_option maxHeartbeats 400000 in
theorem lead64_any (x:Int) (w:World) (h0:0≤x) (h1:x<18446744073709551616) (n:Nat) (hn:Lib.bitLen x.toNat=n) (hn2:n≤64) :
  Calls Tryz.prog 135 #[.int .u64 x] w fun e w'=>e = .returned (.int .i64 (64-(n:Int)))∧w=w':=by
 have HN:Hid (Lib.bitLen x.toNat=n):=hn
 clear hn
 go_enter Tryz.func135,Tryz.ntmps135
 go_wp2_with fail
 refine (len64_any x _ h0 h1).mono ?_
 rintro e w1 ⟨rfl,rfl⟩
 rw [HN.out]
 go_wp2
 go_ret
 exact ⟨rfl,rfl⟩
/-! ### the plain arithmetic of one digit: b=2^32 -/
theorem dg_lt {U L Y Q R:Int} (hd:U*4294967296+L=Q*Y+R) (hL:L<4294967296) (hR:0≤R) (hU:U<Y) (hY:0<Y):Q<4294967296:=by
 have h:Q*Y<4294967296*Y:=by omega
 exact Int.lt_of_mul_lt_mul_right h (by omega)
theorem dg_nn {U L Y Q R:Int} (hd:U*4294967296+L=Q*Y+R) (hL:0≤L) (hU:0≤U) (hR:R<Y) (hY:0<Y):0≤Q:=by
 have h:(-1)*Y<Q*Y:=by omega
 have:=Int.lt_of_mul_lt_mul_right h (by omega)
 omega
theorem dg_split {q Y Y1 Y0 r U p:Int} (hY:Y=Y1*4294967296+Y0) (hi:q*Y1+r=U) (hp:q*Y0=p):q*Y=(U-r)*4294967296+p:=by
 have h1:q*Y1=U-r:=by omega
 rw [hY,Int.mul_add,← Int.mul_assoc,h1,hp]
theorem dg_gt {q Y Y1 Y0 r U L Q R p:Int} (hY:Y=Y1*4294967296+Y0) (hi:q*Y1+r=U) (hp:q*Y0=p) (hd:U*4294967296+L=Q*Y+R) (hR:0≤R) (hY':0<Y) (h:4294967296*r+L<p):Q<q:=by
 have e:=dg_split hY hi hp
 have h2:Q*Y<q*Y:=by omega
 exact Int.lt_of_mul_lt_mul_right h2 (by omega)
theorem dg_le {q Y Y1 Y0 r U L Q R p:Int} (hY:Y=Y1*4294967296+Y0) (hi:q*Y1+r=U) (hp:q*Y0=p) (hd:U*4294967296+L=Q*Y+R) (hR:R<Y) (hY':0<Y) (h:p≤4294967296*r+L):q≤Q:=by
 have e:=dg_split hY hi hp
 have h2:q*Y<(Q+1)*Y:=by rw [Int.add_mul];omega
 have:=Int.lt_of_mul_lt_mul_right h2 (by omega)
 omega
theorem dg_break {q Y Y1 Y0 r U L Q R:Int} (hY:Y=Y1*4294967296+Y0) (hi:q*Y1+r=U) (hd:U*4294967296+L=Q*Y+R) (hR:R<Y) (hY':0<Y) (hU:U<Y) (hL:0≤L) (h1:0≤Y1) (h0:0≤Y0) (h0':Y0<4294967296) (hr:4294967296≤r):q≤Q:=by
 have hqb:q≤4294967295:=by
  rcases Int.lt_or_le 4294967295 q with h|h
  ·have:=Int.mul_le_mul_of_nonneg_right (a:=4294967296) (b:=q) (c:=Y1) (by omega) h1
   omega
  ·exact h
 have hp:=Int.mul_le_mul (a:=q) (b:=Y0) (c:=4294967295) (d:=4294967295) hqb (by omega) h0 (by omega)
 exact dg_le hY hi rfl hd hR hY' (by omega)
theorem dg_start {U L Y Y1 Y0 Q R:Int} (hY:Y=Y1*4294967296+Y0) (y1a:2147483648≤Y1) (y1b:Y1<4294967296) (y0a:0≤Y0) (ua:0≤U) (ub:U<Y) (yb:Y<18446744073709551616) (la:0≤L) (hd:U*4294967296+L=Q*Y+R) (hQ:0≤Q) (hR:0≤R) (hL:L<4294967296) :
  ∃ Z V:Int,U/Y1=Z∧Z*Y1=U-V∧Z<8589934592∧Hid (Q≤Z)∧Hid (Z*Y1+V=U)∧Hid (IntKind.u64.wrap (U-IntKind.u64.wrap (U-V))=V)∧(0≤V∧V<4294967296):=by
 obtain ⟨Z,hZ⟩:∃ Z,U/Y1=Z:=⟨_,rfl⟩
 obtain ⟨V,hV⟩:∃ V,U-V=Z*Y1:=⟨U-Z*Y1,by omega⟩
 have hmod:0≤V∧V<Y1:=by
  have:=Int.emod_add_mul_ediv U Y1
  have h3:=Int.emod_nonneg U (show Y1≠0 by omega)
  have h4:=Int.emod_lt_of_pos U (show 0<Y1 by omega)
  rw [hZ,Int.mul_comm] at this
  omega
 have hZ0:0≤Z:=by rw [← hZ];exact Int.ediv_nonneg ua (by omega)
 have hZ1:Z<8589934592:=by
  have:Z*2147483648≤Z*Y1:=Int.mul_le_mul_of_nonneg_left y1a hZ0
  omega
 refine ⟨Z,V,hZ,hV.symm,hZ1,?_,?_,?_,hmod.1,by omega⟩
 ·have e:Z*Y1+V=U:=by omega
  have e2:Q*Y1≤U:=by
   have h5:Q*Y=Q*Y1*4294967296+Q*Y0:=by rw [hY,Int.mul_add,← Int.mul_assoc]
   have h6:0≤Q*Y0:=Int.mul_nonneg hQ y0a
   omega
  have h8:Q*Y1<(Z+1)*Y1:=by rw [Int.add_mul];omega
  have:=Int.lt_of_mul_lt_mul_right h8 (by omega)
  show Q≤Z
  omega
 ·show _=_;omega
 ·show _=_;rw [IntKind.wrap_u64,IntKind.wrap_u64];omega
set_option maxHeartbeats 1000000 in
theorem div64_core (hi lo y:Int) (w:World) (h0:0<hi) (_hl0:0≤lo) (_hl1:lo<18446744073709551616) (hy1:hi<y) (hy2:y<18446744073709551616) (n:Nat) (HN:Hid (Lib.bitLen y.toNat=n)) (hn1:1≤n) (hn2:n≤64)
  (Y Y1 Y0 U Lw L1 L0 Q1 R1 Q2 R2:Int) (eY:IntKind.u64.wrap (y*2^(64-n))=Y) (eY1:Y/4294967296=Y1) (eY0:bits BinOp.and IntKind.u64 Y 4294967295=Y0)
  (eU:bits BinOp.or IntKind.u64 (IntKind.u64.wrap (hi*2^(64-n))) (lo/2^(64-(64-n)))=U) (eL:IntKind.u64.wrap (lo*2^(64-n))=Lw) (eL1:Lw/4294967296=L1) (eL0:bits BinOp.and IntKind.u64 Lw 4294967295=L0)
  (HY:Hid (Y=Y1*4294967296+Y0)) (y1a:2147483648≤Y1) (y1b:Y1<4294967296) (y0a:0≤Y0) (y0b:Y0<4294967296) (ua:0≤U) (ub:U<Y) (yb:Y<18446744073709551616) (l1a:0≤L1) (l1b:L1<4294967296) (l0a:0≤L0) (l0b:L0<4294967296) (_lw0:0≤Lw) (_lw1:Lw<18446744073709551616)
  (H1:Hid (U*4294967296+L1=Q1*Y+R1)) (r1a:0≤R1) (r1b:R1<Y) (H2:Hid (R1*4294967296+L0=Q2*Y+R2)) (r2a:0≤R2) (r2b:R2<Y) :
  Calls Tryz.prog 134 #[.int .u64 hi,.int .u64 lo,.int .u64 y] w fun e w'=>e = .returned (.tuple #[.int .u64 (Q1*4294967296+Q2),.int .u64 (R2/2^(64-n))])∧w=w':=by
 have t1:(y == 0)=false:=by simp;omega
 have t2:(hi == 0)=false:=by simp;omega
 have q1a:0≤Q1:=dg_nn H1.out l1a ua r1b (by omega)
 have q1b:Q1<4294967296:=dg_lt H1.out l1b r1a ub (by omega)
 have q2a:0≤Q2:=dg_nn H2.out l0a r1a r2b (by omega)
 have q2b:Q2<4294967296:=dg_lt H2.out l0b r2a r1b (by omega)
 obtain ⟨Z,V,hZ,eZV,hZ1,HQI,HVI,EV,hmod⟩:=dg_start HY.out y1a y1b y0a ua ub (by omega) l1a H1.out q1a r1a l1b
 obtain ⟨Z2,V2,hZ2,eZV2,hZ21,HQI2,HVI2,EV2,hmod2⟩:=dg_start HY.out y1a y1b y0a r1a r1b (by omega) l0a H2.out q2a r2a l0b
 have E21:IntKind.u64.wrap (IntKind.u64.wrap (IntKind.u64.wrap (U*4294967296)+L1)-IntKind.u64.wrap (Q1*Y))=R1:=by
  simp only [IntKind.wrap_u64];have:=H1.out;omega
 have E22:IntKind.u64.wrap (IntKind.u64.wrap (IntKind.u64.wrap (R1*4294967296)+L0)-IntKind.u64.wrap (Q2*Y))=R2:=by
  simp only [IntKind.wrap_u64];have:=H2.out;omega
 go_enter Tryz.func134,Tryz.ntmps134
 go_wp2_with fail
 refine (lead64_any y _ (by omega) hy2 n HN.out hn2).mono ?_
 rintro e w1 ⟨rfl,rfl⟩
 go_wp2_with fail
 go_loop [15,16] (fun a b=>∃ q r:Int,a = .int .u64 q∧b = .int .u64 r∧q*Y1+r=U∧0≤r∧r<4294967296∧Q1≤q∧q<8589934592) (fun a _=>(intOf a).toNat)
 case atStart=>exact ⟨Z,V,by first|rfl|rw [hZ],by first|rfl|rw [EV.out],HVI.out,hmod.1,hmod.2,HQI.out,hZ1⟩
 case round =>
  obtain ⟨q,r,rfl,rfl,hqr,ra,rb,hq,hq'⟩:=hrel
  have HQR:Hid (q*Y1+r=U):=hqr
  clear hqr hZ HVI HQI EV hmod hZ1 eZV
  by_cases c1:4294967296≤q
  ·have hlt:Q1<q:=by omega
   by_cases c3:4294967296≤r+Y1
   ·have hqe:Q1=q-1:=Int.le_antisymm (by omega) (dg_break (r:=r+Y1) HY.out (by have:=HQR.out;rw [Int.sub_mul];omega) H1.out r1b (by omega) ub l1a (by omega) y0a y0b c3)
    have c4:Q1+1=q:=by omega
    clear hqe hlt
    obtain rfl:=c4
    go_wp2_with fail
    go_loop [18,16] (fun a b=>∃ q r:Int,a = .int .u64 q∧b = .int .u64 r∧q*Y1+r=R1∧0≤r∧r<4294967296∧Q2≤q∧q<8589934592) (fun a _=>(intOf a).toNat)
    case atStart=>exact ⟨Z2,V2,by first|rfl|rw [hZ2],by first|rfl|rw [EV2.out],HVI2.out,hmod2.1,hmod2.2,HQI2.out,hZ21⟩
    case round =>
     obtain ⟨q,r,rfl,rfl,hqr,ra,rb,hq,hq'⟩:=hrel
     have HQR:Hid (q*Y1+r=R1):=hqr
     clear hqr hZ2 HVI2 HQI2 EV2 hmod2 hZ21 eZV2
     by_cases c1:4294967296≤q
     ·have hlt:Q2<q:=by omega
      by_cases c3:4294967296≤r+Y1
      ·have hqe:Q2=q-1:=Int.le_antisymm (by omega) (dg_break (r:=r+Y1) HY.out (by have:=HQR.out;rw [Int.sub_mul];omega) H2.out r2b (by omega) r1b l0a (by omega) y0a y0b c3)
       have c4:Q2+1=q:=by omega
       clear hqe hlt
       obtain rfl:=c4
       go_wp2_with fail
       go_wp2
       go_ret2
       exact ⟨rfl,rfl⟩
      ·go_wp2
       go_round
       case rel=>exact ⟨q-1,r+Y1,rfl,rfl,by have:=HQR.out;rw [Int.sub_mul];omega,by omega,by omega,by omega,by omega⟩
       case measure=>simp [intOf];omega
     ·obtain ⟨p,hp⟩:∃ p,q*Y0=p:=⟨_,rfl⟩
      have HP:Hid (q*Y0=p):=hp
      have pb:0≤p∧p<18446744073709551616:=by
       have a1:=Int.mul_nonneg (show 0≤q by omega) y0a
       have a2:=Int.mul_le_mul (a:=q) (b:=Y0) (c:=4294967295) (d:=4294967295) (by omega) (by omega) y0a (by omega)
       omega
      obtain ⟨pa,pb⟩:=pb
      by_cases c2:4294967296*r+L0<p
      ·have hlt:Q2<q:=dg_gt HY.out HQR.out HP.out H2.out r2a (by omega) c2
       by_cases c3:4294967296≤r+Y1
       ·have hqe:Q2=q-1:=Int.le_antisymm (by omega) (dg_break (r:=r+Y1) HY.out (by have:=HQR.out;rw [Int.sub_mul];omega) H2.out r2b (by omega) r1b l0a (by omega) y0a y0b c3)
        have c4:Q2+1=q:=by omega
        clear hqe hlt
        obtain rfl:=c4
        go_wp2_with fail
        go_wp2
        go_ret2
        exact ⟨rfl,rfl⟩
       ·go_wp2
        go_round
        case rel=>exact ⟨q-1,r+Y1,rfl,rfl,by have:=HQR.out;rw [Int.sub_mul];omega,by omega,by omega,by omega,by omega⟩
        case measure=>simp [intOf];omega
      ·obtain rfl:Q2=q:=Int.le_antisymm hq (dg_le HY.out HQR.out HP.out H2.out r2b (by omega) (by omega))
       clear HP
       go_wp2_with fail
       go_wp2
       go_ret2
       exact ⟨rfl,rfl⟩
   ·go_wp2
    go_round
    case rel=>exact ⟨q-1,r+Y1,rfl,rfl,by have:=HQR.out;rw [Int.sub_mul];omega,by omega,by omega,by omega,by omega⟩
    case measure=>simp [intOf];omega
  ·obtain ⟨p,hp⟩:∃ p,q*Y0=p:=⟨_,rfl⟩
   have HP:Hid (q*Y0=p):=hp
   have pb:0≤p∧p<18446744073709551616:=by
    have a1:=Int.mul_nonneg (show 0≤q by omega) y0a
    have a2:=Int.mul_le_mul (a:=q) (b:=Y0) (c:=4294967295) (d:=4294967295) (by omega) (by omega) y0a (by omega)
    omega
   obtain ⟨pa,pb⟩:=pb
   by_cases c2:4294967296*r+L1<p
   ·have hlt:Q1<q:=dg_gt HY.out HQR.out HP.out H1.out r1a (by omega) c2
    by_cases c3:4294967296≤r+Y1
    ·have hqe:Q1=q-1:=Int.le_antisymm (by omega) (dg_break (r:=r+Y1) HY.out (by have:=HQR.out;rw [Int.sub_mul];omega) H1.out r1b (by omega) ub l1a (by omega) y0a y0b c3)
     have c4:Q1+1=q:=by omega
     clear hqe hlt
     obtain rfl:=c4
     go_wp2_with fail
     go_loop [18,16] (fun a b=>∃ q r:Int,a = .int .u64 q∧b = .int .u64 r∧q*Y1+r=R1∧0≤r∧r<4294967296∧Q2≤q∧q<8589934592) (fun a _=>(intOf a).toNat)
     case atStart=>exact ⟨Z2,V2,by first|rfl|rw [hZ2],by first|rfl|rw [EV2.out],HVI2.out,hmod2.1,hmod2.2,HQI2.out,hZ21⟩
     case round =>
      obtain ⟨q,r,rfl,rfl,hqr,ra,rb,hq,hq'⟩:=hrel
      have HQR:Hid (q*Y1+r=R1):=hqr
      clear hqr hZ2 HVI2 HQI2 EV2 hmod2 hZ21 eZV2
      by_cases c1:4294967296≤q
      ·have hlt:Q2<q:=by omega
       by_cases c3:4294967296≤r+Y1
       ·have hqe:Q2=q-1:=Int.le_antisymm (by omega) (dg_break (r:=r+Y1) HY.out (by have:=HQR.out;rw [Int.sub_mul];omega) H2.out r2b (by omega) r1b l0a (by omega) y0a y0b c3)
        have c4:Q2+1=q:=by omega
        clear hqe hlt
        obtain rfl:=c4
        go_wp2_with fail
        go_wp2
        go_ret2
        exact ⟨rfl,rfl⟩
       ·go_wp2
        go_round
        case rel=>exact ⟨q-1,r+Y1,rfl,rfl,by have:=HQR.out;rw [Int.sub_mul];omega,by omega,by omega,by omega,by omega⟩
        case measure=>simp [intOf];omega
      ·obtain ⟨p,hp⟩:∃ p,q*Y0=p:=⟨_,rfl⟩
       have HP:Hid (q*Y0=p):=hp
       have pb:0≤p∧p<18446744073709551616:=by
        have a1:=Int.mul_nonneg (show 0≤q by omega) y0a
        have a2:=Int.mul_le_mul (a:=q) (b:=Y0) (c:=4294967295) (d:=4294967295) (by omega) (by omega) y0a (by omega)
        omega
       obtain ⟨pa,pb⟩:=pb
       by_cases c2:4294967296*r+L0<p
       ·have hlt:Q2<q:=dg_gt HY.out HQR.out HP.out H2.out r2a (by omega) c2
        by_cases c3:4294967296≤r+Y1
        ·have hqe:Q2=q-1:=Int.le_antisymm (by omega) (dg_break (r:=r+Y1) HY.out (by have:=HQR.out;rw [Int.sub_mul];omega) H2.out r2b (by omega) r1b l0a (by omega) y0a y0b c3)
         have c4:Q2+1=q:=by omega
         clear hqe hlt
         obtain rfl:=c4
         go_wp2_with fail
         go_wp2
         go_ret2
         exact ⟨rfl,rfl⟩
        ·go_wp2
         go_round
         case rel=>exact ⟨q-1,r+Y1,rfl,rfl,by have:=HQR.out;rw [Int.sub_mul];omega,by omega,by omega,by omega,by omega⟩
         case measure=>simp [intOf];omega
       ·obtain rfl:Q2=q:=Int.le_antisymm hq (dg_le HY.out HQR.out HP.out H2.out r2b (by omega) (by omega))
        clear HP
        go_wp2_with fail
        go_wp2
        go_ret2
        exact ⟨rfl,rfl⟩
    ·go_wp2
     go_round
     case rel=>exact ⟨q-1,r+Y1,rfl,rfl,by have:=HQR.out;rw [Int.sub_mul];omega,by omega,by omega,by omega,by omega⟩
     case measure=>simp [intOf];omega
   ·obtain rfl:Q1=q:=Int.le_antisymm hq (dg_le HY.out HQR.out HP.out H1.out r1b (by omega) (by omega))
    clear HP
    go_wp2_with fail
    go_loop [18,16] (fun a b=>∃ q r:Int,a = .int .u64 q∧b = .int .u64 r∧q*Y1+r=R1∧0≤r∧r<4294967296∧Q2≤q∧q<8589934592) (fun a _=>(intOf a).toNat)
    case atStart=>exact ⟨Z2,V2,by first|rfl|rw [hZ2],by first|rfl|rw [EV2.out],HVI2.out,hmod2.1,hmod2.2,HQI2.out,hZ21⟩
    case round =>
     obtain ⟨q,r,rfl,rfl,hqr,ra,rb,hq,hq'⟩:=hrel
     have HQR:Hid (q*Y1+r=R1):=hqr
     clear hqr hZ2 HVI2 HQI2 EV2 hmod2 hZ21 eZV2
     by_cases c1:4294967296≤q
     ·have hlt:Q2<q:=by omega
      by_cases c3:4294967296≤r+Y1
      ·have hqe:Q2=q-1:=Int.le_antisymm (by omega) (dg_break (r:=r+Y1) HY.out (by have:=HQR.out;rw [Int.sub_mul];omega) H2.out r2b (by omega) r1b l0a (by omega) y0a y0b c3)
       have c4:Q2+1=q:=by omega
       clear hqe hlt
       obtain rfl:=c4
       go_wp2_with fail
       go_wp2
       go_ret2
       exact ⟨rfl,rfl⟩
      ·go_wp2
       go_round
       case rel=>exact ⟨q-1,r+Y1,rfl,rfl,by have:=HQR.out;rw [Int.sub_mul];omega,by omega,by omega,by omega,by omega⟩
       case measure=>simp [intOf];omega
     ·obtain ⟨p,hp⟩:∃ p,q*Y0=p:=⟨_,rfl⟩
      have HP:Hid (q*Y0=p):=hp
      have pb:0≤p∧p<18446744073709551616:=by
       have a1:=Int.mul_nonneg (show 0≤q by omega) y0a
       have a2:=Int.mul_le_mul (a:=q) (b:=Y0) (c:=4294967295) (d:=4294967295) (by omega) (by omega) y0a (by omega)
       omega
      obtain ⟨pa,pb⟩:=pb
      by_cases c2:4294967296*r+L0<p
      ·have hlt:Q2<q:=dg_gt HY.out HQR.out HP.out H2.out r2a (by omega) c2
       by_cases c3:4294967296≤r+Y1
       ·have hqe:Q2=q-1:=Int.le_antisymm (by omega) (dg_break (r:=r+Y1) HY.out (by have:=HQR.out;rw [Int.sub_mul];omega) H2.out r2b (by omega) r1b l0a (by omega) y0a y0b c3)
        have c4:Q2+1=q:=by omega
        clear hqe hlt
        obtain rfl:=c4
        go_wp2_with fail
        go_wp2
        go_ret2
        exact ⟨rfl,rfl⟩
       ·go_wp2
        go_round
        case rel=>exact ⟨q-1,r+Y1,rfl,rfl,by have:=HQR.out;rw [Int.sub_mul];omega,by omega,by omega,by omega,by omega⟩
        case measure=>simp [intOf];omega
      ·obtain rfl:Q2=q:=Int.le_antisymm hq (dg_le HY.out HQR.out HP.out H2.out r2b (by omega) (by omega))
       clear HP
       go_wp2_with fail
       go_wp2
       go_ret2
       exact ⟨rfl,rfl⟩
theorem bitLenAux_zero (f:Nat):Lib.bitLenAux f 0=0:=by cases f <;> simp [Lib.bitLenAux]
theorem bitLenAux_spec:∀ (f x:Nat),x<2^f→x<2^Lib.bitLenAux f x∧(0<x→0<Lib.bitLenAux f x∧2^(Lib.bitLenAux f x-1)≤x)
 | 0,x,h=>by simp at h;subst h;simp [Lib.bitLenAux]
 | f+1,x,h=>by
  unfold Lib.bitLenAux
  split
  ·rename_i h0;subst h0;simp
  ·rename_i h0
   by_cases hx:x/2=0
   ·rw [hx,bitLenAux_zero]
    obtain rfl:x=1:=by omega
    simp
   ·have ih:=bitLenAux_spec f (x/2) (by rw [Nat.pow_succ] at h;omega)
    generalize Lib.bitLenAux f (x/2)=m at ih ⊢
    obtain ⟨hm,h2⟩:=ih.2 (by omega)
    have h3:=ih.1
    refine ⟨?_,fun _=>⟨by omega,?_⟩⟩
    ·rw [Nat.add_comm,Nat.pow_succ];omega
    ·rw [show 1+m-1=(m-1)+1 by omega,Nat.pow_succ];omega
theorem bitLen_spec (x:Nat) (h:x<18446744073709551616) (h0:0<x):x<2^Lib.bitLen x∧0<Lib.bitLen x∧2^(Lib.bitLen x-1)≤x∧Lib.bitLen x≤64:=by
 have a:=bitLenAux_spec 64 x h
 exact ⟨a.1,(a.2 h0).1,(a.2 h0).2,Lib.bitLen_le x 64 (Nat.le_refl _) h⟩
theorem and_mask (a:Int) (h0:0≤a) (h1:a<18446744073709551616):bits BinOp.and IntKind.u64 a 4294967295=a%4294967296:=by
 obtain ⟨a,rfl⟩:=Int.eq_ofNat_of_zero_le h0
 have h:=bits_and_u64_nat a 4294967295 (by omega) (by omega)
 have e:a &&& 4294967295=a%4294967296:=Nat.and_two_pow_sub_one_eq_mod a 32
 rw [e] at h
 have h2:((4294967295:Nat):Int)=4294967295:=rfl
 rw [h2] at h
 rw [h];omega
theorem or_low (x c s:Nat) (hc:c<2^s) (h:x*2^s+c<18446744073709551616):bits BinOp.or IntKind.u64 ((x*2^s:Nat):Int) (c:Int)=((x*2^s+c:Nat):Int):=by
 rw [bits_or_u64_nat _ _ (by omega) (by omega)]
 have:=Nat.two_pow_add_eq_or_of_lt hc x
 rw [Nat.mul_comm] at this
 rw [this]
theorem shifted (hi lo y n:Nat) (hl:lo<18446744073709551616) (hy:hi<y) (hn:y<2^n) (hn1:0<n) (hn0:2^(n-1)≤y) (hn2:n≤64) :
  y*2^(64-n)<18446744073709551616∧9223372036854775808≤y*2^(64-n)∧lo/2^n<2^(64-n)∧hi*2^(64-n)+lo/2^n<y*2^(64-n) ∧
  (hi*18446744073709551616+lo)*2^(64-n)=(hi*2^(64-n)+lo/2^n)*18446744073709551616+lo*2^(64-n)%18446744073709551616:=by
 have e:2^n*2^(64-n)=18446744073709551616:=by rw [← Nat.pow_add,show n+(64-n)=64 by omega]
 have e1:2^(n-1)*2^(64-n)=9223372036854775808:=by rw [← Nat.pow_add,show n-1+(64-n)=63 by omega]
 have hS:0<2^(64-n):=Nat.two_pow_pos _
 have hP:0<2^n:=Nat.two_pow_pos _
 generalize 2^(64-n)=S at *
 generalize 2^n=P at *
 have a1:y*S<18446744073709551616:=by rw [← e];exact (Nat.mul_lt_mul_right hS).2 hn
 have a2:9223372036854775808≤y*S:=by rw [← e1];exact Nat.mul_le_mul_right _ hn0
 have a3:lo/P<S:=by rw [Nat.div_lt_iff_lt_mul hP,Nat.mul_comm,e];exact hl
 have a4:hi*S+lo/P<y*S:=by
  have:(hi+1)*S≤y*S:=Nat.mul_le_mul_right _ (by omega)
  rw [Nat.add_mul] at this;omega
 refine ⟨a1,a2,a3,a4,?_⟩
 have b:lo*S/18446744073709551616=lo/P:=by rw [← e];exact Nat.mul_div_mul_right _ _ hS
 have c:=Nat.div_add_mod (lo*S) 18446744073709551616
 rw [b] at c
 rw [Nat.add_mul,Nat.add_mul,Nat.mul_right_comm]
 omega
theorem cast5 (a b S U L K:Nat) (h:(a*K+b)*S=U*K+L):((a:Int)*(K:Int)+b)*(S:Int)=(U:Int)*(K:Int)+L:=by exact_mod_cast h
theorem div_unique {x y q r:Int} (h:x=q*y+r) (h0:0≤r) (h1:r<y):x/y=q∧x%y=r:=by
 have hy:0<y:=by omega
 have e:x=r+y*q:=by rw [h,Int.mul_comm];omega
 exact (Int.ediv_emod_unique hy).2 ⟨e.symm,h0,h1⟩
set_option maxHeartbeats 400000 in
theorem div64_zero (lo y:Int) (w:World) (hl0:0≤lo) (_hl1:lo<18446744073709551616) (hy:0<y) (hy2:y<18446744073709551616) :
  Calls Tryz.prog 134 #[.int .u64 0,.int .u64 lo,.int .u64 y] w fun e w'=>e = .returned (.tuple #[.int .u64 (lo/y),.int .u64 (lo%y)])∧∃ m,w'=w.drewN m:=by
 have t1:(y == 0)=false:=by simp;omega
 have b1:0≤lo/y:=Int.ediv_nonneg hl0 (by omega)
 have b2:lo/y<18446744073709551616:=by
  have:=Int.ediv_le_self y hl0
  omega
 have b3:0≤lo%y:=Int.emod_nonneg _ (by omega)
 have b4:lo%y<y:=Int.emod_lt_of_pos _ hy
 go_enter Tryz.func134,Tryz.ntmps134
 go_wp2_with fail
 go_quiet (fail)
 go_wp2
 go_ret2
 exact ⟨rfl,nq,rfl⟩
theorem div64_any (hi lo y:Int) (w:World) (h0:0≤hi) (hl0:0≤lo) (hl1:lo<18446744073709551616) (hy1:hi<y) (hy2:y<18446744073709551616) :
  Calls Tryz.prog 134 #[.int .u64 hi,.int .u64 lo,.int .u64 y] w fun e w'=>e = .returned (.tuple #[.int .u64 ((hi*18446744073709551616+lo)/y),.int .u64 ((hi*18446744073709551616+lo)%y)])∧∃ m,w'=w.drewN m:=by
 by_cases hz:hi=0
 ·subst hz
  simpa using div64_zero lo y w hl0 hl1 (by omega) hy2
 obtain ⟨a,rfl⟩:=Int.eq_ofNat_of_zero_le h0
 obtain ⟨b,rfl⟩:=Int.eq_ofNat_of_zero_le hl0
 obtain ⟨c,rfl⟩:=Int.eq_ofNat_of_zero_le (show 0≤y by omega)
 obtain ⟨s1,s2,s3,s4⟩:=bitLen_spec c (by omega) (by omega)
 generalize hn:Lib.bitLen c=n at *
 obtain ⟨c1,c2,c3,c4,c5⟩:=shifted a b c n (by omega) (by omega) s1 s2 s3 s4
 have c4':a*2^(64-n)<18446744073709551616:=Nat.lt_of_le_of_lt (Nat.le_add_right _ (b/2^n)) (Nat.lt_trans c4 c1)
 have ew:∀ x:Nat,(x:Int)*2^(64-n)=((x*2^(64-n):Nat):Int):=fun x=>by rw [Int.natCast_mul,Int.natCast_pow];rfl
 have hS:0<2^(64-n):=Nat.two_pow_pos _
 have hn64:64-(64-n)=n:=by omega
 -- the numbers of the walk
 have eY:IntKind.u64.wrap ((c:Int)*2^(64-n))=((c*2^(64-n):Nat):Int):=by rw [ew,IntKind.wrap_u64];omega
 have eH:IntKind.u64.wrap ((a:Int)*2^(64-n))=((a*2^(64-n):Nat):Int):=by rw [ew,IntKind.wrap_u64];omega
 have eL:IntKind.u64.wrap ((b:Int)*2^(64-n))=((b*2^(64-n)%18446744073709551616:Nat):Int):=by rw [ew,IntKind.wrap_u64];omega
 have eD:(b:Int)/2^(64-(64-n))=((b/2^n:Nat):Int):=by rw [hn64,Int.natCast_ediv,Int.natCast_pow];rfl
 have eU:bits BinOp.or IntKind.u64 (IntKind.u64.wrap ((a:Int)*2^(64-n))) ((b:Int)/2^(64-(64-n)))=((a*2^(64-n)+b/2^n:Nat):Int):=by
  rw [eH,eD];exact or_low a (b/2^n) (64-n) c3 (by omega)
 have hdm:∀ x:Int,x=x/4294967296*4294967296+x%4294967296:=fun x=>by omega
 generalize hYn:c*2^(64-n)=Yn at *
 generalize hLn:b*2^(64-n)%18446744073709551616=Ln at *
 generalize hUn:a*2^(64-n)+b/2^n=Un at *
 have hLb:Ln<18446744073709551616:=by rw [← hLn];exact Nat.mod_lt _ (by decide)
 obtain ⟨Q1,R1,d1,d1a,d1b⟩:∃ Q R:Int,(Un:Int)*4294967296+(Ln:Int)/4294967296=Q*(Yn:Int)+R∧0≤R∧R<Yn :=
  ⟨_,_,by rw [Int.mul_comm _ (Yn:Int)];exact (Int.mul_ediv_add_emod _ (Yn:Int)).symm,Int.emod_nonneg _ (by omega),Int.emod_lt_of_pos _ (by omega)⟩
 obtain ⟨Q2,R2,d2,d2a,d2b⟩:∃ Q R:Int,R1*4294967296+(Ln:Int)%4294967296=Q*(Yn:Int)+R∧0≤R∧R<Yn :=
  ⟨_,_,by rw [Int.mul_comm _ (Yn:Int)];exact (Int.mul_ediv_add_emod _ (Yn:Int)).symm,Int.emod_nonneg _ (by omega),Int.emod_lt_of_pos _ (by omega)⟩
 refine (div64_core a b c w (by omega) (by omega) (by omega) hy1 hy2 n (by show _=_;simpa using hn) s2 s4 Yn ((Yn:Int)/4294967296) ((Yn:Int)%4294967296) Un Ln ((Ln:Int)/4294967296) ((Ln:Int)%4294967296) Q1 R1 Q2 R2
  eY rfl (and_mask _ (by omega) (by omega)) eU eL rfl (and_mask _ (by omega) (by omega)) (hdm _) (by omega) (by omega) (by omega) (by omega) (by omega) (by omega) (by omega) (by omega) (by omega) (by omega) (by omega) (by omega) (by omega) d1 d1a d1b d2 d2a d2b).mono ?_
 rintro e w' ⟨rfl,rfl⟩
 -- what they say of the quotient
 have key:((a:Int)*18446744073709551616+b)*((2^(64-n):Nat):Int)=(Q1*4294967296+Q2)*Yn+R2:=by
  have h5:((a:Int)*18446744073709551616+b)*((2^(64-n):Nat):Int)=(Un:Int)*18446744073709551616+Ln:=cast5 a b _ Un Ln 18446744073709551616 c5
  have e6:(Q1*4294967296+Q2)*(Yn:Int)=Q1*Yn*4294967296+Q2*Yn:=by rw [Int.add_mul,Int.mul_right_comm]
  rw [e6]
  refine h5.trans ?_
  generalize Q1*(Yn:Int)=A1 at *
  generalize Q2*(Yn:Int)=A2 at *
  clear h5 e6
  omega
 have hYc:(Yn:Int)=(c:Int)*((2^(64-n):Nat):Int):=by rw [← hYn,Int.natCast_mul]
 have hpow:(2:Int)^(64-n)=((2^(64-n):Nat):Int):=by rw [Int.natCast_pow];rfl
 generalize 2^(64-n)=S at *
 have hSI:(0:Int)<(S:Int):=by omega
 -- the rest is a multiple of S
 have hR:R2=((a:Int)*18446744073709551616+b-(Q1*4294967296+Q2)*c)*S:=by
  rw [Int.sub_mul,key,hYc,Int.mul_assoc];omega
 obtain ⟨r,hr⟩:∃ r:Int,(a:Int)*18446744073709551616+b-(Q1*4294967296+Q2)*c=r:=⟨_,rfl⟩
 rw [hr] at hR
 have r0:0≤r:=by
  rcases Int.lt_or_le r 0 with h|h
  ·have:=Int.mul_neg_of_neg_of_pos h hSI;omega
  ·exact h
 have r1:r<c:=by
  have:r*S<c*S:=by rw [← hR,← hYc];exact d2b
  exact Int.lt_of_mul_lt_mul_right this (by omega)
 obtain ⟨u1,u2⟩:=div_unique (x:=(a:Int)*18446744073709551616+b) (y:=c) (q:=Q1*4294967296+Q2) (r:=r) (by omega) r0 r1
 refine ⟨?_,0,rfl⟩
 rw [u1,u2,hpow,hR,Int.mul_ediv_cancel _ (by omega)]
def cutR (us:List Int) (n:Nat) (d:Int):Nat→List Int × Int
 | 0=>(us,0)
 | j+1=>((cutR us n d j).1.set (n-1-j) (((cutR us n d j).2*18446744073709551616+lm (cutR us n d j).1 (n-1-j))/d),((cutR us n d j).2*18446744073709551616+lm (cutR us n d j).1 (n-1-j))%d)
theorem quo_lt {r x d:Int} (h0:0≤r) (h1:r<d) (x0:0≤x) (x1:x<18446744073709551616):0≤(r*18446744073709551616+x)/d∧(r*18446744073709551616+x)/d<18446744073709551616:=by
 refine ⟨Int.ediv_nonneg (by omega) (by omega),?_⟩
 apply Int.ediv_lt_of_lt_mul (by omega)
 have:(r+1)*18446744073709551616≤d*18446744073709551616:=Int.mul_le_mul_of_nonneg_right (by omega) (by omega)
 omega
theorem cutR_ok {us:List Int} (n:Nat) {d:Int} (hu:AllW us) (hd:0<d) (j:Nat):AllW (cutR us n d j).1∧(cutR us n d j).1.length=us.length∧0≤(cutR us n d j).2∧(cutR us n d j).2<d:=by
 induction j with
 | zero=>simp [cutR,hu,hd]
 | succ j ih =>
  obtain ⟨h1,h2,h3,h4⟩:=ih
  obtain ⟨a,b⟩:=h1.at (n-1-j)
  exact ⟨h1.set _ _ (quo_lt h3 h4 a b),by simp [cutR,h2],Int.emod_nonneg _ (by omega),Int.emod_lt_of_pos _ hd⟩
set_option maxHeartbeats 1000000 in
theorem cut_any (g n cap:Nat) (us:List Int) (d:Int) (w:World) (hb:Blk w g us) (hfit:n≤us.length) (hm:us.length≤1099511627776) (hu:AllW us) (hd0:0<d) (hd1:d<18446744073709551616) :
  Calls Tryz.prog 100 #[.slice (some ⟨g,0,none⟩) n cap,.int .u64 d] w fun e w'=>e = .returned (.int .u64 (cutR us n d n).2)∧Blk w' g (cutR us n d n).1∧Off g w w':=by
 go_enter Tryz.func100,Tryz.ntmps100
 go_wp2
 go_loopw [5,6] (fun c i wr=>∃ j:Nat,j≤n∧i = .int .i64 ((n:Int)-1-j)∧c = .int .u64 (cutR us n d j).2∧Blk wr g (cutR us n d j).1∧Off g w wr) (fun _ i _=>(intOf i+1).toNat)
 case atStart=>exact ⟨0,Nat.zero_le _,by go_num,rfl,hb,Off.refl _ _⟩
 case round =>
  obtain ⟨j,hj,rfl,rfl,hbr,hoff⟩:=hrel
  obtain ⟨ok1,ok2,ok3,ok4⟩:=cutR_ok n hu hd0 j
  by_cases hlt:j<n
  ·have HN:Hid (cutR us n d (j+1)=((cutR us n d j).1.set (n-1-j) (((cutR us n d j).2*18446744073709551616+lm (cutR us n d j).1 (n-1-j))/d),((cutR us n d j).2*18446744073709551616+lm (cutR us n d j).1 (n-1-j))%d)):=rfl
   generalize hU:(cutR us n d j).1=U at *
   generalize hC:(cutR us n d j).2=C at *
   clear hU hC
   obtain ⟨i,hi⟩:∃ i,n-1-j=i:=⟨_,rfl⟩
   rw [hi] at HN
   have hij:(n:Int)-1-j=i:=by omega
   have hcg:=hbr.cell (i:=i) (by omega)
   have hfg:=hbr.frozen i
   obtain ⟨a10,a11⟩:=ok1.at i
   obtain ⟨qa,qb⟩:=quo_lt ok3 ok4 a10 a11
   generalize hX:lm U i=X at *
   have HI:Hid ((n:Int)-1-j=i):=hij
   have hin:(i:Int)<n:=by omega
   have hjn:(j:Int)+1+i=n:=by omega
   rw [hij]
   clear hX hij hb hi
   go_wp2_with fail
   refine (div64_any C X d wr ok3 a10 a11 ok4 hd1).mono ?_
   rintro e w1 ⟨rfl,m,rfl⟩
   have hfg2:(wr.drewN m).frozen? ⟨g,i,none⟩=false:=(hbr.drewN m).frozen i
   have HB:=(hbr.drewN m).set i ((C*18446744073709551616+X)/d)
   have HO:=(hoff.drewN m).set i (.int .u64 ((C*18446744073709551616+X)/d))
   generalize hq:(C*18446744073709551616+X)/d=q at *
   generalize hr:(C*18446744073709551616+X)%d=r at *
   generalize hw2:wr.drewN m=W2 at *
   have hcg2:W2.cell? ⟨g,i,none⟩=some (.int .u64 X):=by rw [← hw2];simpa using hcg
   clear hw2 hq hr hbr hoff hcg hfg
   go_wp2
   go_roundw
   case rel=>exact ⟨j+1,by omega,by go_num,by rw [HN.out],by rw [HN.out];exact HB,HO⟩
   case measure=>simp [intOf]
  ·obtain rfl:j=n:=by omega
   go_wp2
   go_ret
   exact ⟨rfl,hbr,hoff⟩
theorem mul64_any (x y p:Int) (hp:Hid (x*y=p)) (hx:0≤x) (hx':x<18446744073709551616) (hy:0≤y) (hy':y<18446744073709551616) (w:World) :
  Calls Tryz.prog 145 #[.int .u64 x,.int .u64 y] w fun e w'=>e = .returned (.tuple #[.int .u64 (p/18446744073709551616),.int .u64 (p%18446744073709551616)])∧w=w':=by
 obtain ⟨x,rfl⟩:=Int.eq_ofNat_of_zero_le hx
 obtain ⟨y,rfl⟩:=Int.eq_ofNat_of_zero_le hy
 have e:p=((x*y:Nat):Int):=by rw [← hp.out];simp
 refine (mul64_nat x y (by omega) (by omega) w).mono ?_
 rintro e' w' ⟨rfl,rfl⟩
 refine ⟨?_,rfl⟩
 rw [e]
 rfl
theorem mul_bd {x y:Int} (hx:0≤x) (hx':x<18446744073709551616) (hy:0≤y) (hy':y<18446744073709551616):0≤x*y∧x*y≤340282366920938463426481119284349108225:=by
 refine ⟨Int.mul_nonneg hx hy,?_⟩
 have:=Int.mul_le_mul (a:=x) (c:=18446744073709551615) (b:=y) (d:=18446744073709551615) (by omega) (by omega) hy (by omega)
 exact this
def mulR (us:List Int) (o:Nat) (ys:List Int) (l:Int):Nat→List Int × Int
 | 0=>(us,0)
 | k+1=>((mulR us o ys l k).1.set (o+k) ((lm (mulR us o ys l k).1 (o+k)+lm ys k*l+(mulR us o ys l k).2)%18446744073709551616),(lm (mulR us o ys l k).1 (o+k)+lm ys k*l+(mulR us o ys l k).2)/18446744073709551616)
theorem mulR_ok {us ys:List Int} (o:Nat) {l:Int} (hu:AllW us) (hy:AllW ys) (hl:Word l) (k:Nat):AllW (mulR us o ys l k).1∧(mulR us o ys l k).1.length=us.length∧0≤(mulR us o ys l k).2∧(mulR us o ys l k).2<18446744073709551616:=by
 induction k with
 | zero=>simp [mulR,hu]
 | succ k ih =>
  obtain ⟨h1,h2,h3,h4⟩:=ih
  have a:=h1.at (o+k)
  have b:=hy.at k
  have c:=mul_bd b.1 b.2 hl.1 hl.2
  refine ⟨h1.set _ _ (word_mod _),by simp [mulR,h2],?_,?_⟩ <;> simp only [mulR] <;> omega
theorem mt_lo (a p c:Int):(a+(p+c))%18446744073709551616=(a+p+c)%18446744073709551616:=by omega
theorem mt_hi (a p c:Int):p/18446744073709551616+(p%18446744073709551616+c)/18446744073709551616+(a+(p+c)%18446744073709551616)/18446744073709551616=(a+p+c)/18446744073709551616:=by omega
set_option maxHeartbeats 1000000 in
theorem addTimes_any (g o n cap:Nat) (us:List Int) (b:Option Addr) (nb cb:Nat) (ys:List Int) (l:Int) (w:World) (hb:Blk w g us) (hfit:o+n≤us.length) (hm:us.length≤1099511627776) (hu:AllW us)
  (hnb:nb=ys.length) (hle:nb≤n) (hr:Reads w b ys) (haw:ys≠[]→Away b g) (hy:AllW ys) (hl:Word l) :
  Calls Tryz.prog 116 #[.slice (some ⟨g,o,none⟩) n cap,.slice b nb cb,.int .u64 l] w fun e w'=>e = .returned (.int .u64 (mulR us o ys l ys.length).2)∧Blk w' g (mulR us o ys l ys.length).1∧Off g w w':=by
 subst hnb
 obtain ⟨l1,l2⟩:=hl
 go_enter Tryz.func116,Tryz.ntmps116
 go_wp2
 go_loopw [7,15] (fun c i wr=>∃ k:Nat,k≤ys.length∧i = .int .i64 k∧c = .int .u64 (mulR us o ys l k).2∧Blk wr g (mulR us o ys l k).1∧Off g w wr) (fun _ i _=>ys.length-(intOf i).toNat)
 case atStart=>exact ⟨0,Nat.zero_le _,rfl,rfl,hb,Off.refl _ _⟩
 case round =>
  obtain ⟨k,hk,rfl,rfl,hbr,hoff⟩:=hrel
  obtain ⟨ok1,ok2,ok3,ok4⟩:=mulR_ok o hu hy ⟨l1,l2⟩ k
  by_cases hlt:k<ys.length
  ·obtain ⟨b2,o2,rfl,hc2⟩:=hr.at (by omega)
   have HN:Hid (mulR us o ys l (k+1)=((mulR us o ys l k).1.set (o+k) ((lm (mulR us o ys l k).1 (o+k)+lm ys k*l+(mulR us o ys l k).2)%18446744073709551616),(lm (mulR us o ys l k).1 (o+k)+lm ys k*l+(mulR us o ys l k).2)/18446744073709551616)):=rfl
   generalize hU:(mulR us o ys l k).1=U at *
   generalize hC:(mulR us o ys l k).2=C at *
   clear hU hC
   have HC2:wr.cell? ⟨b2,o2+k,none⟩=some (.int .u64 (lm ys k)):=by rw [hoff.cell (p:=⟨b2,o2+k,none⟩) (by exact haw (List.length_pos_iff.1 (by omega)) ⟨b2,o2,none⟩ rfl)];exact hc2 k hlt
   have hcg:=hbr.cell (i:=o+k) (by omega)
   have hfg:=hbr.frozen (o+k)
   obtain ⟨a10,a11⟩:=ok1.at (o+k)
   obtain ⟨a20,a21⟩:=hy.at k
   have hpb:=mul_bd a20 a21 l1 l2
   obtain ⟨p,hp⟩:∃ p,lm ys k*l=p:=⟨_,rfl⟩
   rw [hp] at hpb
   have HP:Hid (lm ys k*l=p):=hp
   have HN2:Hid (mulR us o ys l (k+1)=(U.set (o+k) ((lm U (o+k)+p+C)%18446744073709551616),(lm U (o+k)+p+C)/18446744073709551616)):=by rw [hp] at HN;exact HN
   obtain ⟨p0,p1⟩:=hpb
   have HB:=hbr.set (o+k) ((lm U (o+k)+(p+C))%18446744073709551616)
   have HO:=hoff.set (o+k) (.int .u64 ((lm U (o+k)+(p+C))%18446744073709551616))
   have hkn:(k:Int)<(n:Int):=by omega
   clear hc2 hb hr haw hbr hoff hp HN
   have q0:0≤p%18446744073709551616:=by omega
   have q1:0≤(p+C)%18446744073709551616:=by omega
   go_wp2_with (first|(go_at_call 145;refine (mul64_any _ _ p HP a20 a21 l1 l2 _).mono ?_;rintro e w' ⟨rfl,rfl⟩)|simp only [add64_0 (p%18446744073709551616) C q0 ok3]|simp only [add64_0 (lm U (o+k)) ((p+C)%18446744073709551616) a10 q1])
   go_roundw
   case rel=>exact ⟨k+1,by omega,by go_num,by rw [HN2.out,← mt_hi],by rw [HN2.out,← mt_lo];exact HB,HO⟩
   case measure=>simp [intOf];omega
  ·obtain rfl:k=ys.length:=by omega
   go_wp2
   go_ret
   exact ⟨rfl,hbr,hoff⟩
def mulO (xs ys:List Int) (N:Nat):Nat→List Int
 | 0=>List.replicate N 0
 | k+1=>(mulR (mulO xs ys N k) k ys (lm xs k) ys.length).1.set (k+ys.length) (mulR (mulO xs ys N k) k ys (lm xs k) ys.length).2
theorem mulO_ok {xs ys:List Int} (N:Nat) (hx:AllW xs) (hy:AllW ys) (k:Nat):AllW (mulO xs ys N k)∧(mulO xs ys N k).length=N:=by
 induction k with
 | zero=>exact ⟨AllW.replicate _,by simp [mulO]⟩
 | succ k ih =>
  have h:=mulR_ok (us:=mulO xs ys N k) k ih.1 hy (hx.at k) ys.length
  exact ⟨h.1.set _ _ ⟨h.2.2.1,h.2.2.2⟩,by simp [mulO,h.2.1,ih.2]⟩
def mulL (xs ys:List Int):List Int:=mulO (trimL xs) (trimL ys) (tlen xs+tlen ys) (tlen xs)
set_option maxHeartbeats 1000000 in
theorem mul_any (a b:Option Addr) (na nb ca cb:Nat) (xs ys:List Int) (w:World) (hna:na=xs.length) (hnb:nb=ys.length) (hla:na≤ca) (hlb:nb≤cb)
  (hma:na≤400000000000) (hmb:nb≤400000000000) (hra:Reads w a xs) (hrb:Reads w b ys) (hx:AllW xs) (hy:AllW ys) :
  Calls Tryz.prog 84 #[.slice a na ca,.slice b nb cb] w fun e w'=>Res w w' e (mulL xs ys):=by
 have ta:tlen xs≤xs.length:=tl_le _ _
 have tb:tlen ys≤ys.length:=tl_le _ _
 subst hna hnb
 go_enter Tryz.func84,Tryz.ntmps84
 go_wp2_with fail
 refine (trim_any a _ ca xs _ rfl hla (by omega) hra).mono ?_
 rintro e w1 ⟨rfl,rfl⟩
 go_wp2_with fail
 refine (trim_any b _ cb ys _ rfl hlb (by omega) hrb).mono ?_
 rintro e w1 ⟨rfl,rfl⟩
 have hra':=hra.take (tlen xs)
 have hrb':=hrb.take (tlen ys)
 have HX:Hid ((trimL xs).length=tlen xs):=length_trimL xs
 have HY:Hid ((trimL ys).length=tlen ys):=length_trimL ys
 have hra2:Reads w a (trimL xs):=hra'
 have hrb2:Reads w b (trimL ys):=hrb'
 have hx2:AllW (trimL xs):=hx.take _
 have hy2:AllW (trimL ys):=hy.take _
 have HM:Hid (mulL xs ys=mulO (trimL xs) (trimL ys) (tlen xs+tlen ys) (tlen xs)):=rfl
 clear hra hrb hra' hrb' hx hy
 generalize trimL xs=X at *
 generalize trimL ys=Y at *
 generalize tlen xs=n at *
 generalize tlen ys=m at *
 go_wp2_with (at_make;refine wpList_makeB _ rfl _ _ rfl _ _ (n+m) rfl rfl (by omega) (by omega) (by omega) ?_)
 intro w1 hb1 hbel1
 go_wp2
 go_loopw [20] (fun i wr=>∃ k:Nat,k≤n∧i = .int .i64 k∧Blk wr w.heap.size (mulO X Y (n+m) k)∧Below w.heap.size w wr) (fun i _=>n-(intOf i).toNat)
 case atStart=>exact ⟨0,Nat.zero_le _,rfl,hb1,hbel1⟩
 case round =>
  obtain ⟨k,hk,rfl,hbr,hbel⟩:=hrel
  obtain ⟨ok1,ok2⟩:=mulO_ok (n+m) hx2 hy2 k
  clear hb1 hbel1
  by_cases hlt:k<n
  ·obtain ⟨b2,o2,rfl,hc2⟩:=hra2.at (by rw [HX.out];omega)
   have h2:=hc2 k (by rw [HX.out];omega)
   have hblt:=World.block_lt_of_cell? _ _ h2
   have HC2:wr.cell? ⟨b2,o2+k,none⟩=some (.int .u64 (lm X k)):=by rw [hbel.cell (p:=⟨b2,o2+k,none⟩) (by simpa using hblt)];exact h2
   have hw:=hx2.at k
   have HN:Hid (mulO X Y (n+m) (k+1)=(mulR (mulO X Y (n+m) k) k Y (lm X k) Y.length).1.set (k+Y.length) (mulR (mulO X Y (n+m) k) k Y (lm X k) Y.length).2):=rfl
   have hrok:=mulR_ok (us:=mulO X Y (n+m) k) k ok1 hy2 hw Y.length
   generalize mulO X Y (n+m) k=U at *
   clear hc2 h2
   go_wp2_with fail
   refine (addTimes_any w.heap.size k (n+m-k) (n+m-k) U b m cb Y (lm X k) wr hbr (by omega) (by omega) ok1 HY.out.symm (by omega) (hrb2.below hbel) (fun hne p hp=>?haw) hy2 hw).mono ?_
   case haw=>have:=hrb2.lt hne p hp;omega
   rintro e w2 ⟨rfl,hb2,hoff⟩
   have hbel2:Below w.heap.size w w2:=hbel.trans (hoff.below (Nat.le_refl _))
   obtain ⟨r1,r2,r3,r4⟩:=hrok
   rw [HY.out] at HN r1 r2 r3 r4 hb2
   simp only [HY.out]
   generalize (mulR U k Y (lm X k) m).1=V at *
   generalize (mulR U k Y (lm X k) m).2=D at *
   have hcg:=hb2.cell (i:=k+m) (by omega)
   have hfg:=hb2.frozen (k+m)
   have HB:=hb2.set (k+m) D
   have HO:=hbel2.setCell (p:=⟨w.heap.size,k+m,none⟩) (Nat.le_refl _) (.int .u64 D)
   clear hoff hbr hbel hb2 hbel2
   go_wp2
   go_roundw
   case rel=>exact ⟨k+1,by omega,by go_num,by rw [HN.out];exact HB,HO⟩
   case measure=>simp [intOf];omega
  ·obtain rfl:k=n:=by omega
   rw [← HM.out] at hbr ok2
   have HL:Hid ((mulL xs ys).length=k+m):=ok2
   clear ok2 ok1
   go_wp2_with fail
   refine (trim_any (some ⟨w.heap.size,0,none⟩) (k+m) (k+m) (mulL xs ys) wr HL.out.symm (Nat.le_refl _) (by omega) hbr.reads').mono ?_
   rintro e w4 ⟨rfl,rfl⟩
   go_wp2
   go_ret
   exact ⟨w.heap.size,ret_slice2 rfl HL.out.symm,Nat.le_refl _,hbr,hbel⟩
def bitsL (xs:List Int):Int:=if tlen xs=0 then 0 else ((tlen xs:Int)-1)*64+Lib.bitLen (lm xs (tlen xs-1)).toNat
theorem bitLen_le64 {x:Int} (h1:x<18446744073709551616):Lib.bitLen x.toNat≤64:=Lib.bitLen_le _ 64 (Nat.le_refl _) (by omega)
set_option maxHeartbeats 400000 in
theorem bits_any (a:Option Addr) (n cap:Nat) (xs:List Int) (w:World) (hn:n=xs.length) (hl:n≤cap) (hm:n≤1099511627776) (hr:Reads w a xs) (hx:AllW xs) :
  Calls Tryz.prog 56 #[.slice a n cap] w fun e w'=>e = .returned (.int .i64 (bitsL xs))∧w=w':=by
 have ta:tlen xs≤xs.length:=tl_le _ _
 subst hn
 go_enter Tryz.func56,Tryz.ntmps56
 go_wp2_with fail
 refine (trim_any a _ cap xs _ rfl hl hm hr).mono ?_
 rintro e w1 ⟨rfl,rfl⟩
 have HB:Hid (bitsL xs=if tlen xs=0 then 0 else ((tlen xs:Int)-1)*64+Lib.bitLen (lm xs (tlen xs-1)).toNat):=rfl
 generalize tlen xs=m at *
 by_cases h0:m=0
 ·subst h0
  go_wp2
  go_ret
  exact ⟨ret_int (by rw [HB.out];rfl),rfl⟩
 ·obtain ⟨k,rfl⟩:∃ k,m=k+1:=⟨m-1,by omega⟩
  obtain ⟨b1,o1,rfl,hc1⟩:=hr.at (by omega)
  have h1:=hc1 k (by omega)
  obtain ⟨x0,x1⟩:=hx.at k
  have HB2:Hid (bitsL xs=(k:Int)*64+Lib.bitLen (lm xs k).toNat):=by
   show _=_
   rw [HB.out,if_neg (by omega),show k+1-1=k by omega]
   have:(((k+1:Nat):Int)-1)=k:=by omega
   rw [this]
  have hbl:=bitLen_le64 x1
  clear hc1 HB
  generalize lm xs k=X at *
  go_wp2_with fail
  refine (len64_any X _ x0 x1).mono ?_
  rintro e w1 ⟨rfl,rfl⟩
  generalize Lib.bitLen X.toNat=L at *
  go_wp2
  go_ret
  exact ⟨ret_int HB2.out.symm,rfl⟩
end Go.Proofs.YtceigfafmalfgaaGreatDoor
