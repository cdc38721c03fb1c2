import Derived.Test.YtnokmjmefipplaaGreatDoorPqB
import Derived.Laws.OwnMore
import Derived.Test.YtnokmjmefipplaaGreatDoorRlAll
import Derived.Test.YtnokmjmefipplaaGreatDoorWdAll
import Derived.Test.YtnokmjmefipplaaGreatDoorGuardS
set_option maxRecDepth 100000
set_option maxHeartbeats 16000000
namespace Go.Proofs.YtnokmjmefipplaaGreatDoor
open Go.RowKit
theorem aO5:∃ k,Tryz.prog.underlying 3 = some (.int k):=⟨_,Tryz.underlying3⟩
theorem qP {P:Program} (w:World) (t u ty e:TypeId) (i:TypeInfo) (z:Value) (k:IntKind) (ht:P.underlying t = some (.slice e)) (hu:P.underlying u = some (.int k)) (hi:P.info? e = some i) (hz:i.zero = some z) (hz0:0 < i.size)
 (n:Nat) (h0:0 < n) (h63:n≤1000000000) (h48:i.bytes≤1000) :
 (Builtin.append_ #[t,u] ty #[.slice none 0 0,.int .i64 (n:Int)]).run P w =
  .ok (.slice (some ⟨w.heap.size,0,none⟩) n (grownCap w n 0 e)) (w.drew.alloc (.cells (Builtin.zeroCells z.cells n ++ Builtin.zeroCells z.cells (grownCap w n 0 e - n)) e)):=by
 have hn:n ≠ 0:=by omega
 have h63':¬ (9223372036854775807 < (n:Int)):=by omega
 have hb:n * i.bytes≤1000000000 * 1000:=Nat.mul_le_mul h63 h48
 have h48':¬ (281474976710656 < Builtin.nextslicecap n 0 * i.bytes):=by rw [nextslicecap_zero h0];omega
 have h49:¬ (281474976710656 < (n:Int) * (i.bytes:Int)):=by
  have e:(n:Int) * (i.bytes:Int) = ((n * i.bytes:Nat):Int):=by simp
  rw [e];omega
 have hwr:IntKind.i64.wrap (n:Int) = (n:Int):=by rw [IntKind.wrap_i64];omega
 have hneg:¬ ((n:Int) < 0):=by omega
 simp [Builtin.append_,run_underlying ht,run_underlying hu,sizeOf,typeInfo,zeroValue,hi,hz,hn,h63',h48',h49,hwr,hneg,Question.forced,run_firstCells_none,newRow,grownCap,asInt,asIntOf]
 intro h
 have:=Nat.mul_pos h0 hz0
 omega
theorem nU (w:World) {ops:Array Oper} {rest:List Oper} {o:Oper} {a:Act} {Q:Exit→Act→World→Prop} (hgd:o.guard = none) (s x:Operand)
 (ho:o.op = .call { callee:=.builtin .append,args:=#[s,x],argTypes:=#[32,3] }) (n:Nat) (hs:a.eval s = .slice none 0 0) (hx:a.eval x = .int .i64 (n:Int)) (h0:0 < n) (h63:n≤1000000000)
 (hK:∀ cap w',n≤cap→w'.ownsRow w.heap.size 27 3 (.slice (some ⟨w.heap.size,0,none⟩) 0 cap) 0 []→Below w.heap.size w w'→wpList Tryz.prog ops Q rest (a.put o.dst (.slice (some ⟨w.heap.size,0,none⟩) n cap)) w') :
 wpList Tryz.prog ops Q (o :: rest) a w:=by
 obtain ⟨i0,z,hi,hz,hs3,hb56,hz3⟩:=info3
 obtain ⟨k,hk⟩:=aO5
 have hr:=qP (P:=Tryz.prog) w 32 3 o.type 27 i0 z k Tryz.underlying32 hk hi hz (by omega) n h0 h63 (by omega)
 have hge:=grownCap_ge w n 0 27
 have hcm:=grownCap_le_maxLen w n 0 27 (by unfold maxLen;omega)
 refine wpList_plain hgd fun K hK'=>?_
 unfold Oper.wp execOp
 simp only [ho,resolve,invoke,builtin,Sem.run_bind,Sem.run_pure,Result.andThen_ok,List.map_toArray,List.map_cons,List.map_nil,hs,hx,hr]
 refine hK' _ _ (hK _ _ hge ?_ (dL w _))
 refine ⟨by simp,.inr ⟨w.heap.size,_,_,rfl,Nat.le_refl _,heap_alloc_new w.drew _,Nat.zero_le _,hcm,?_,by simp⟩⟩
 rw [Array.size_append,size_zeroCells,size_zeroCells,hz3,← Nat.add_mul,Nat.add_sub_cancel' hge]
theorem aO6 (n:Nat) (m:Int) (w:World) (hn:n≤1000000000) (hm:m = (n:Int)) :
 Calls Tryz.prog 132 #[.slice none 0 0,.int .i64 m] w fun e w'=>∃ v,e = .returned v∧w'.ownsRow w.heap.size 27 3 v 0 []∧Below w.heap.size w w':=by
 subst hm
 by_cases h0:n = 0
 ·subst h0
  go_enter Tryz.func132,Tryz.ntmps132
  go_wp2
  go_ret
  exact ⟨_,rfl,World.ownsRow_nil _ _ _ _,Below.refl _ _⟩
 ·have hp:(0:Int) < (n:Int):=by omega
  have hn0:¬ ((n:Int) < 0):=by omega
  go_enter Tryz.func132,Tryz.ntmps132
  go_wp2_with (at_builtin;refine nU _ rfl _ _ rfl n rfl rfl (by omega) hn ?_)
  intro cap w' hcap hown hb
  go_wp2
  go_ret
  exact ⟨_,rfl,hown,hb⟩
theorem rJ {P:Program} (w:World) (base:Nat) (t ty e:TypeId) (i:TypeInfo) (size:Nat) (ht:P.underlying t = some (.slice e)) (hi:P.info? e = some i)
 (v:Value) (n:Nat) (xs:List Value) (hown:w.ownsRow base e size v n xs) (c:Nat) :
 (Builtin.append_ #[t,t] ty #[v,.slice none 0 c]).run P w = .ok v w:=by
 rcases hown.2 with ⟨rfl,rfl⟩ | ⟨g,cap,cur,rfl,_,_,hnc,_⟩
 ·simp [Builtin.append_,run_underlying ht,sizeOf,typeInfo,hi,Builtin.lenOf,Builtin.firstCells]
 ·simp [Builtin.append_,run_underlying ht,sizeOf,typeInfo,hi,Builtin.lenOf,Builtin.firstCells,hnc,storeCells]
theorem jZ (w:World) {ops:Array Oper} {rest:List Oper} {o:Oper} {a:Act} {Q:Exit→Act→World→Prop} (hgd:o.guard = none) (s x:Operand)
 (ho:o.op = .call { callee:=.builtin .append,args:=#[s,x],argTypes:=#[32,32] }) (B:Nat) (v:Value) (n:Nat) (xs:List Value) (hs:a.eval s = v) (hown:w.ownsRow B 27 3 v n xs)
 (ya:Option Addr) (m c:Nat) (hx:a.eval x = .slice ya m c) (cs:List Value) (hl:cs.length = m * 3) (hsrc:m = 0∨∃ ad,ya = some ad∧∀ j u,cs[j]? = some u→w.cell? (ad.add j) = some u) (h1:∀ u ∈ cs,u.oneCell' = true) (hlen:n + m≤1000000000) (hB:B≤w.heap.size)
 (hK:∀ v' w',w'.ownsRow B 27 3 v' (n + m) (xs ++ cs)→w.grownBy w' v.ownBlock→wpList Tryz.prog ops Q rest (a.put o.dst v') w') :
 wpList Tryz.prog ops Q (o :: rest) a w:=by
 obtain ⟨i0,z,hi,hz,hs3,hb56,hz3⟩:=info3
 rcases ya with _ | ad
 ·have hm:m = 0:=by
   rcases hsrc with h | ⟨ad,h,_⟩
   ·exact h
   ·cases h
  subst hm
  have hc:cs = []:=List.eq_nil_of_length_eq_zero (by simpa using hl)
  subst hc
  have hr:=rJ (P:=Tryz.prog) w B 32 o.type 27 i0 3 Tryz.underlying32 hi v n xs hown c
  refine wpList_plain hgd fun K hK'=>?_
  unfold Oper.wp execOp
  simp only [ho,resolve,invoke,builtin,Sem.run_bind,Sem.run_pure,Result.andThen_ok,List.map_toArray,List.map_cons,List.map_nil,hs,hx,hr]
  refine hK' _ _ (hK _ _ ?_ ⟨rfl,rfl,rfl,Nat.le_refl _,fun _ _ _=>rfl⟩)
  rw [List.append_nil]
  exact hown
 ·refine wpList_append_own w hgd s x 32 ho B 27 i0 z 3 56 Tryz.underlying32 hi hz hs3 hb56 hz3 (by decide) v n xs hs hown ad m c cs hx hl ?_ h1 (by unfold maxLen;omega) (by omega) hB (fun v' w' r1 r2 _=>hK v' w' r1 r2)
  rcases hsrc with h | ⟨ad',h,hc⟩
  ·subst h
   have hc:cs = []:=List.eq_nil_of_length_eq_zero (by simpa using hl)
   subst hc
   intro j u hj
   cases hj
  ·cases h
   exact hc
theorem Addr.add_mid' (b o j:Nat):(⟨b,o,none⟩:Addr).add j = ⟨b,o + j,none⟩:=by unfold Addr.add;split <;> simp_all
theorem LQ.cells {w:World} {a:Option Addr} {n:Nat} {X:Nat→Rat} {Z:Nat→Nat} (h:LQ w a n X Z):∃ cs:List Value,cs.length = n * 3∧(n = 0∨∃ ad,a = some ad∧ad.block < w.heap.size∧∀ j u,cs[j]? = some u→w.cell? (ad.add j) = some u)∧(∀ u ∈ cs,u.oneCell' = true) ∧
 ∀ i,i < n→∃ p a na ca d nd cd,cs[i * 3]? = some (.bool p)∧cs[i * 3 + 1]? = some (.slice a na ca)∧cs[i * 3 + 2]? = some (.slice d nd cd)∧TR w p a na ca d nd cd (X i) (Z i):=by
 rcases h with rfl | ⟨b,o,rfl,h⟩
 ·exact ⟨[],rfl,.inl rfl,fun u hu=>(by cases hu),fun i hi=>by omega⟩
 ·have H:∀ m,m≤n→∃ cs:List Value,cs.length = m * 3∧(∀ j u,cs[j]? = some u→w.cell? ⟨b,o + j,none⟩ = some u)∧(∀ u ∈ cs,u.oneCell' = true) ∧
   ∀ i,i < m→∃ p a na ca d nd cd,cs[i * 3]? = some (.bool p)∧cs[i * 3 + 1]? = some (.slice a na ca)∧cs[i * 3 + 2]? = some (.slice d nd cd)∧TR w p a na ca d nd cd (X i) (Z i):=by
   intro m
   induction m with
   | zero=>intro _;exact ⟨[],rfl,fun j u hj=>(by cases hj),fun u hu=>(by cases hu),fun i hi=>by omega⟩
   | succ m ih =>
    intro hm
    obtain ⟨cs,e1,e2,e3,e4⟩:=ih (by omega)
    obtain ⟨p,a,na,ca,d,nd,cd,h1,h2,h3,h4⟩:=h m (by omega)
    refine ⟨cs ++ [.bool p,.slice a na ca,.slice d nd cd],by simp [e1];omega,fun j u hj=>?_,fun u hu=>?_,fun i hi=>?_⟩
    ·by_cases hlt:j < cs.length
     ·rw [List.getElem?_append_left hlt] at hj
      exact e2 j u hj
     ·rw [List.getElem?_append_right (by omega)] at hj
      have hjl:j - cs.length < 3:=by simpa using (List.getElem?_eq_some_iff.1 hj).1
      obtain ⟨q,rfl⟩:∃ q,j = cs.length + q:=⟨j - cs.length,by omega⟩
      rw [Nat.add_sub_cancel_left] at hj hjl
      rw [e1]
      match q,hjl with
      | 0,_=>simp at hj;subst hj;exact h1
      | 1,_=>simp at hj;subst hj;exact h2
      | 2,_=>simp at hj;subst hj;exact h3
    ·rw [List.mem_append] at hu
     rcases hu with hu | hu
     ·exact e3 u hu
     ·simp at hu
      rcases hu with rfl | rfl | rfl <;> rfl
    ·rcases (by omega:i < m∨i = m) with hl | rfl
     ·obtain ⟨p',a',na',ca',d',nd',cd',g1,g2,g3,g4⟩:=e4 i hl
      exact ⟨p',a',na',ca',d',nd',cd',by rw [List.getElem?_append_left (by omega)];exact g1,by rw [List.getElem?_append_left (by omega)];exact g2,by rw [List.getElem?_append_left (by omega)];exact g3,g4⟩
     ·obtain ⟨k1,k2,k3⟩:=pK (x:=.bool p) (y:=.slice a na ca) (z:=.slice d nd cd) e1
      exact ⟨p,a,na,ca,d,nd,cd,k1,k2,k3,h4⟩
  obtain ⟨cs,e1,e2,e3,e4⟩:=H n (Nat.le_refl _)
  refine ⟨cs,e1,?_,e3,e4⟩
  rcases Nat.eq_zero_or_pos n with h0 | h0
  ·exact .inl h0
  ·refine .inr ⟨⟨b,o,none⟩,rfl,?_,fun j u hj=>by rw [Addr.add_mid'];exact e2 j u hj⟩
   obtain ⟨p,a,na,ca,d,nd,cd,h1,_⟩:=h 0 h0
   exact World.block_lt_of_cell? _ _ h1
def cz (n m:Nat):Nat→Nat
 | 0=>0
 | 1=>n
 | _=>n + m
def cl (xs ys:List Value):Nat→List Value
 | 0=>[]
 | 1=>xs
 | _=>xs ++ ys
theorem aM8 {w wr:World} {B ny nr:Nat} {v:Value} {xs ys:List Value} {Y X:Nat→Rat} {Zy Zr:Nat→Nat} {S:Nat} (hown:wr.ownsRow B 27 3 v (ny + nr) (xs ++ ys)) (HX1:xs.length = ny * 3)
 (HX:∀ i,i < ny→∃ p a na ca d nd cd,xs[i * 3]? = some (.bool p)∧xs[i * 3 + 1]? = some (.slice a na ca)∧xs[i * 3 + 2]? = some (.slice d nd cd)∧TR w p a na ca d nd cd (Y i) (Zy i))
 (HY:∀ i,i < nr→∃ p a na ca d nd cd,ys[i * 3]? = some (.bool p)∧ys[i * 3 + 1]? = some (.slice a na ca)∧ys[i * 3 + 2]? = some (.slice d nd cd)∧TR w p a na ca d nd cd (X i) (Zr i)) (HZY:∀ i,i < ny→Zy i≤S) (HZR:∀ i,i < nr→Zr i≤S) (hbel:Below w.heap.size w wr) :
 ∃ a cap,v = .slice a (ny + nr) cap∧LQ wr a (ny + nr) (fun i=>if i < ny then Y i else X (i - ny)) (fun _=>S):=by
 rcases hown.2 with ⟨rfl,e0⟩ | ⟨g,cap,cur,rfl,e2,hg,_,_,_,ht⟩
 ·exact ⟨none,0,by rw [e0],.inl e0⟩
 ·refine ⟨_,_,rfl,.inr ⟨g,0,rfl,fun i hi=>?_⟩⟩
  by_cases hlt:i < ny
  ·obtain ⟨p,a,na,ca,d,nd,cd,g1,g2,g3,g4⟩:=HX i hlt
   have hl:=HX1
   refine ⟨p,a,na,ca,d,nd,cd,?_,?_,?_,?_⟩
   ·rw [Nat.zero_add];exact dI hg ht (by rw [List.getElem?_append_left (by omega)];exact g1)
   ·rw [Nat.zero_add];exact dI hg ht (by rw [List.getElem?_append_left (by omega)];exact g2)
   ·rw [Nat.zero_add];exact dI hg ht (by rw [List.getElem?_append_left (by omega)];exact g3)
   ·simp only [hlt,if_true]
    exact (g4.up (HZY i hlt)).below hbel
  ·obtain ⟨p,a,na,ca,d,nd,cd,g1,g2,g3,g4⟩:=HY (i - ny) (by omega)
   have hl:=HX1
   refine ⟨p,a,na,ca,d,nd,cd,?_,?_,?_,?_⟩
   ·rw [Nat.zero_add];exact dI hg ht (by rw [List.getElem?_append_right (by omega),show i * 3 - xs.length = (i - ny) * 3 by omega];exact g1)
   ·rw [Nat.zero_add];exact dI hg ht (by rw [List.getElem?_append_right (by omega),show i * 3 + 1 - xs.length = (i - ny) * 3 + 1 by omega];exact g2)
   ·rw [Nat.zero_add];exact dI hg ht (by rw [List.getElem?_append_right (by omega),show i * 3 + 2 - xs.length = (i - ny) * 3 + 2 by omega];exact g3)
   ·simp only [hlt,if_false]
    exact (g4.up (HZR (i - ny) (by omega))).below hbel
theorem aB5 {g2:Nat} {ya:Option Addr} {ny yc:Nat} {ra:Option Addr} {nr rc:Nat} {Y X:Nat→Rat} {Zy Zr:Nat→Nat} {S:Nat} (w:World) (h0:w.cell? ⟨g2,0,none⟩ = some (.slice ya ny yc)) (h1:w.cell? ⟨g2,1,none⟩ = some (.slice ra nr rc))
 (hy:LQ w ya ny Y Zy) (hr:LQ w ra nr X Zr) (hzy:∀ i,i < ny→Zy i≤S) (hzr:∀ i,i < nr→Zr i≤S) (hn:ny + nr≤100000000) :
 Calls Tryz.prog 116 #[.slice (some ⟨g2,0,none⟩) 2 2] w fun e w'=>∃ a cap,e = .returned (.slice a (ny + nr) cap)∧LQ w' a (ny + nr) (fun i=>if i < ny then Y i else X (i - ny)) (fun _=>S)∧Below w.heap.size w w':=by
 obtain ⟨xs,x1,x2,x3,x4⟩:=hy.cells
 obtain ⟨ys,y1,y2,y3,y4⟩:=hr.cells
 have hw1:IntKind.i64.wrap (ny:Int) = (ny:Int):=by rw [IntKind.wrap_i64];omega
 have hw2:IntKind.i64.wrap ((ny:Int) + (nr:Int)) = (ny:Int) + (nr:Int):=by rw [IntKind.wrap_i64];omega
 have hp1:¬ ((ny:Int) < 0):=by omega
 have hp2:¬ ((ny:Int) + (nr:Int) < 0):=by omega
 have HX:Hid (∀ i,i < ny→∃ p a na ca d nd cd,xs[i * 3]? = some (.bool p)∧xs[i * 3 + 1]? = some (.slice a na ca)∧xs[i * 3 + 2]? = some (.slice d nd cd)∧TR w p a na ca d nd cd (Y i) (Zy i)):=x4
 have HY:Hid (∀ i,i < nr→∃ p a na ca d nd cd,ys[i * 3]? = some (.bool p)∧ys[i * 3 + 1]? = some (.slice a na ca)∧ys[i * 3 + 2]? = some (.slice d nd cd)∧TR w p a na ca d nd cd (X i) (Zr i)):=y4
 have HX1:Hid (xs.length = ny * 3):=x1
 have HY1:Hid (ys.length = nr * 3):=y1
 have HX2:Hid (ny = 0∨∃ ad,ya = some ad∧ad.block < w.heap.size∧∀ j u,xs[j]? = some u→w.cell? (ad.add j) = some u):=x2
 have HY2:Hid (nr = 0∨∃ ad,ra = some ad∧ad.block < w.heap.size∧∀ j u,ys[j]? = some u→w.cell? (ad.add j) = some u):=y2
 have HX3:Hid (∀ u ∈ xs,u.oneCell' = true):=x3
 have HY3:Hid (∀ u ∈ ys,u.oneCell' = true):=y3
 have HZY:Hid (∀ i,i < ny→Zy i≤S):=hzy
 have HZR:Hid (∀ i,i < nr→Zr i≤S):=hzr
 clear x1 x2 x3 x4 y1 y2 y3 y4 hy hr hzy hzr
 go_enter Tryz.func116,Tryz.ntmps116
 go_wp2
 go_loopw [3,11] (fun s3 s11 wr=>∃ (i:Nat),i≤2∧s11 = .int .i64 i∧s3 = .int .i64 (cz ny nr i:Nat)∧Below w.heap.size w wr) (fun _ s11 _=>2 - (intOf s11).toNat)
 case atStart=>exact ⟨0,by omega,rfl,rfl,Below.refl _ _⟩
 case round =>
  obtain ⟨i,hi,rfl,rfl,hbel⟩:=hrel
  have h0':=aF hbel h0
  have h1':=aF hbel h1
  match i,hi with
  | 0,_ =>
   simp only [cz]
   go_wp2
   go_roundw
   case rel=>first | exact ⟨1,by omega,by go_num,by first | rfl | simp [cz,hw1],hbel⟩ | ((repeat apply Exists.intro);refine ⟨?_,rfl⟩;exact ⟨1,by omega,by go_num,by first | rfl | simp [cz,hw1],hbel⟩)
   case measure=>simp [intOf]
  | 1,_ =>
   simp only [cz]
   go_wp2
   go_roundw
   case rel=>first | exact ⟨2,by omega,by go_num,by first | rfl | simp [cz,hw2],hbel⟩ | ((repeat apply Exists.intro);refine ⟨?_,rfl⟩;exact ⟨2,by omega,by go_num,by first | rfl | simp [cz,hw2],hbel⟩)
   case measure=>simp [intOf]
  | 2,_ =>
   simp only [cz]
   clear h0' h1'
   go_wp2_with fail
   refine (aO6 (ny + nr) _ wr (by omega) (by simp)).mono ?_
   rintro e w1 ⟨v,rfl,hown,hb1⟩
   replace hown:w1.ownsRow w.heap.size 27 3 v 0 []:=by
    refine ⟨hown.1,?_⟩
    have hs:=hbel.size
    rcases hown.2 with hn | ⟨g,cap,cur,e1,e2,rest⟩
    ·exact .inl hn
    ·exact .inr ⟨g,cap,cur,e1,by omega,rest⟩
   have hbel1:=aB hbel hb1
   clear hbel hb1
   go_wp2
   go_loopw [6,27] (fun s6 s27 wr=>∃ (i:Nat),i≤2∧s27 = .int .i64 i∧wr.ownsRow w.heap.size 27 3 s6 (cz ny nr i) (cl xs ys i)∧Below w.heap.size w wr) (fun _ s27 _=>2 - (intOf s27).toNat)
   case atStart=>exact ⟨0,by omega,rfl,hown,hbel1⟩
   case round =>
    clear hown hbel1
    obtain ⟨i,hi,rfl,hown,hbel⟩:=hrel
    have h0':=aF hbel h0
    have h1':=aF hbel h1
    have hs:=hbel.size
    match i,hi with
    | 0,_ =>
     simp only [cz,cl] at hown
     go_wp2_with (at_builtin;refine jZ _ rfl _ _ rfl w.heap.size _ 0 [] rfl hown ya ny yc rfl xs HX1.out (HX2.out.imp id (fun ⟨ad,e1,e2,e3⟩=>⟨ad,e1,fun j u hj=>(World.cell?_of_block (hbel.block _ (by unfold Addr.add;split <;> exact e2))).trans (e3 j u hj)⟩)) HX3.out (by omega) hs ?_)
     intro v' w' hown' hgrow
     have hbel':Below w.heap.size w w':=hbel.trans (grown_below hgrow hs (fun k hk=>(World.ownsRow.lt hown k hk).1))
     clear hown hgrow hbel h0' h1'
     go_wp2
     go_roundw
     case rel=>first | exact ⟨1,by omega,by go_num,hown',hbel'⟩ | ((repeat apply Exists.intro);refine ⟨?_,rfl⟩;exact ⟨1,by omega,by go_num,hown',hbel'⟩)
     case measure=>simp [intOf]
    | 1,_ =>
     simp only [cz,cl] at hown
     go_wp2_with (at_builtin;refine jZ _ rfl _ _ rfl w.heap.size _ ny xs rfl hown ra nr rc rfl ys HY1.out (HY2.out.imp id (fun ⟨ad,e1,e2,e3⟩=>⟨ad,e1,fun j u hj=>(World.cell?_of_block (hbel.block _ (by unfold Addr.add;split <;> exact e2))).trans (e3 j u hj)⟩)) HY3.out (by omega) hs ?_)
     intro v' w' hown' hgrow
     have hbel':Below w.heap.size w w':=hbel.trans (grown_below hgrow hs (fun k hk=>(World.ownsRow.lt hown k hk).1))
     clear hown hgrow hbel h0' h1'
     go_wp2
     go_roundw
     case rel=>first | exact ⟨2,by omega,by go_num,hown',hbel'⟩ | ((repeat apply Exists.intro);refine ⟨?_,rfl⟩;exact ⟨2,by omega,by go_num,hown',hbel'⟩)
     case measure=>simp [intOf]
    | 2,_ =>
     simp only [cz,cl] at hown
     clear h0' h1'
     obtain ⟨a,cap,rfl,hL⟩:=aM8 hown HX1.out HX.out HY.out HZY.out HZR.out hbel
     clear hown
     go_wp2
     go_ret
     exact ⟨_,_,rfl,hL,hbel⟩
def EX (w:World) (B g:Nat) (p:Bool) (a:Option Addr) (na ca:Nat) (d:Option Addr) (nd cd:Nat) (r:Rat) (S:Nat):Prop :=
 GX w B g p a na ca d nd cd r S∨∀ w',Below B w w'→TR w' p a na ca d nd cd r S
theorem EX.tr {w:World} {B g:Nat} {p:Bool} {a:Option Addr} {na ca:Nat} {d:Option Addr} {nd cd:Nat} {r:Rat} {S:Nat} (h:EX w B g p a na ca d nd cd r S):TR w p a na ca d nd cd r S:=by
 rcases h with h | h
 ·exact h.1.tr
 ·exact h w (Below.refl _ _)
theorem EX.off {w w':World} {B g:Nat} {p:Bool} {a:Option Addr} {na ca:Nat} {d:Option Addr} {nd cd:Nat} {r:Rat} {S:Nat} (h:EX w B g p a na ca d nd cd r S) (o:Off g w w') (hB:B≤g):EX w' B g p a na ca d nd cd r S:=by
 rcases h with h | h
 ·exact .inl (h.off o)
 ·exact .inr fun w2 h2=>h w2 ((o.below hB).trans h2)
theorem EX.below {w w':World} {B g:Nat} {p:Bool} {a:Option Addr} {na ca:Nat} {d:Option Addr} {nd cd:Nat} {r:Rat} {S:Nat} (h:EX w B g p a na ca d nd cd r S) (hB:B≤w.heap.size) (hb:Below w.heap.size w w'):EX w' B g p a na ca d nd cd r S:=by
 rcases h with h | h
 ·exact .inl (h.below hb)
 ·exact .inr fun w2 h2=>h w2 ((hb.mono hB).trans h2)
structure RV (w:World) (B g N n:Nat) (X:Nat→Rat) (S:Nat):Prop where
 blk:∃ cur,w.heap[g]? = some (.cells cur 27 (0,0))∧cur.size = N * 3
 lo:B≤g
 el:∀ i,i < n→∃ p a na ca d nd cd,w.cell? ⟨g,i * 3,none⟩ = some (.bool p)∧w.cell? ⟨g,i * 3 + 1,none⟩ = some (.slice a na ca)∧w.cell? ⟨g,i * 3 + 2,none⟩ = some (.slice d nd cd)∧EX w B g p a na ca d nd cd (X i) S
theorem RV.lt {w:World} {B g N n:Nat} {X:Nat→Rat} {S:Nat} (h:RV w B g N n X S):g < w.heap.size:=by
 obtain ⟨cur,h1,_⟩:=h.blk
 exact (Array.getElem?_eq_some_iff.1 h1).1
theorem RV.below {w w':World} {B g N n:Nat} {X:Nat→Rat} {S:Nat} (h:RV w B g N n X S) (hb:Below w.heap.size w w'):RV w' B g N n X S:=by
 have hg:=h.lt
 have hlo:=h.lo
 obtain ⟨cur,h1,h2⟩:=h.blk
 refine ⟨⟨cur,(hb.block g hg).trans h1,h2⟩,h.lo,fun i hi=>?_⟩
 obtain ⟨p,a,na,ca,d,nd,cd,e1,e2,e3,e4⟩:=h.el i hi
 exact ⟨p,a,na,ca,d,nd,cd,aF hb e1,aF hb e2,aF hb e3,e4.below (by omega) hb⟩
theorem RV.congr {w:World} {B g N n:Nat} {X Y:Nat→Rat} {S:Nat} (h:RV w B g N n X S) (e:∀ i,i < n→X i = Y i):RV w B g N n Y S :=
 ⟨h.blk,h.lo,fun i hi=>by rw [← e i hi];exact h.el i hi⟩
theorem RV.there {w:World} {B g N n:Nat} {X:Nat→Rat} {S:Nat} (h:RV w B g N n X S) {j:Nat} (hj:j < N * 3):∃ u,w.cell? ⟨g,j,none⟩ = some u:=by
 obtain ⟨cur,h1,h2⟩:=h.blk
 rw [cell_of_row w g j cur _ (0,0) h1]
 exact ⟨_,Array.getElem?_eq_getElem (by omega)⟩
theorem RV.fr {w:World} {B g N n:Nat} {X:Nat→Rat} {S:Nat} (h:RV w B g N n X S) (j:Nat):w.frozen? ⟨g,j,none⟩ = false:=by
 obtain ⟨cur,h1,h2⟩:=h.blk
 exact frozen_of_row w g j cur _ h1
theorem RV.three {w:World} {B g N n:Nat} {X:Nat→Rat} {S:Nat} (h:RV w B g N n X S) {i:Nat} (hi:i < N):∃ u0 u1 u2,w.cell? ⟨g,i * 3,none⟩ = some u0∧w.cell? ⟨g,i * 3 + 1,none⟩ = some u1∧w.cell? ⟨g,i * 3 + 2,none⟩ = some u2∧w.frozen? ⟨g,i * 3,none⟩ = false∧w.frozen? ⟨g,i * 3 + 1,none⟩ = false∧w.frozen? ⟨g,i * 3 + 2,none⟩ = false:=by
 obtain ⟨u0,h0⟩:=h.there (j:=i * 3) (by omega)
 obtain ⟨u1,h1⟩:=h.there (j:=i * 3 + 1) (by omega)
 obtain ⟨u2,h2⟩:=h.there (j:=i * 3 + 2) (by omega)
 exact ⟨u0,u1,u2,h0,h1,h2,h.fr _,h.fr _,h.fr _⟩
theorem RV.put {w:World} {B g N n m:Nat} {X Y:Nat→Rat} {S:Nat} (h:RV w B g N n X S) {i:Nat} (hi:i < N) {p:Bool} {a:Option Addr} {na ca:Nat} {d:Option Addr} {nd cd:Nat} {r:Rat} (he:EX w B g p a na ca d nd cd r S)
 (hm:∀ q,q < m→q = i∧Y q = r∨q ≠ i∧q < n∧Y q = X q) :
 RV (((w.setCell ⟨g,i * 3,none⟩ (.bool p)).setCell ⟨g,i * 3 + 1,none⟩ (.slice a na ca)).setCell ⟨g,i * 3 + 2,none⟩ (.slice d nd cd)) B g N m Y S∧Off g w (((w.setCell ⟨g,i * 3,none⟩ (.bool p)).setCell ⟨g,i * 3 + 1,none⟩ (.slice a na ca)).setCell ⟨g,i * 3 + 2,none⟩ (.slice d nd cd)):=by
 have O:Off g w (((w.setCell ⟨g,i * 3,none⟩ (.bool p)).setCell ⟨g,i * 3 + 1,none⟩ (.slice a na ca)).setCell ⟨g,i * 3 + 2,none⟩ (.slice d nd cd)):=(((Off.refl _ _).set (i * 3) _).set (i * 3 + 1) _).set (i * 3 + 2) _
 obtain ⟨cur,h1,h2⟩:=h.blk
 obtain ⟨u0,u1,u2,c0,c1,c2,_⟩:=h.three hi
 refine ⟨⟨⟨_,heap_setCell_same _ g _ _ _ _ (heap_setCell_same _ g _ _ _ _ (heap_setCell_same w g _ cur _ _ h1)),by simpa using h2⟩,h.lo,fun q hq=>?_⟩,O⟩
 rcases hm q hq with ⟨rfl,e⟩ | ⟨hne,hlt,e⟩
 ·refine ⟨p,a,na,ca,d,nd,cd,?_,?_,?_,by rw [e];exact he.off O h.lo⟩
  ·rw [World.cell?_setCell_other _ _ _ _ (by simp),World.cell?_setCell_other _ _ _ _ (by simp),World.cell?_setCell_same _ _ _ c0]
  ·rw [World.cell?_setCell_other _ _ _ _ (by simp),World.cell?_setCell_same _ _ _ ((World.cell?_setCell_other _ _ _ _ (by simp)).trans c1)]
  ·rw [World.cell?_setCell_same _ _ _ ((World.cell?_setCell_other _ _ _ _ (by simp)).trans ((World.cell?_setCell_other _ _ _ _ (by simp)).trans c2))]
 ·obtain ⟨p',a',na',ca',d',nd',cd',e1,e2,e3,e4⟩:=h.el q hlt
  refine ⟨p',a',na',ca',d',nd',cd',?_,?_,?_,by rw [e];exact e4.off O h.lo⟩
  ·rw [World.cell?_setCell_other _ _ _ _ (by simp <;> omega),World.cell?_setCell_other _ _ _ _ (by simp <;> omega),World.cell?_setCell_other _ _ _ _ (by simp <;> omega)];exact e1
  ·rw [World.cell?_setCell_other _ _ _ _ (by simp <;> omega),World.cell?_setCell_other _ _ _ _ (by simp <;> omega),World.cell?_setCell_other _ _ _ _ (by simp <;> omega)];exact e2
  ·rw [World.cell?_setCell_other _ _ _ _ (by simp <;> omega),World.cell?_setCell_other _ _ _ _ (by simp <;> omega),World.cell?_setCell_other _ _ _ _ (by simp <;> omega)];exact e3
theorem RV.lq {w:World} {B g N n:Nat} {X:Nat→Rat} {S:Nat} (h:RV w B g N n X S):LQ w (some ⟨g,0,none⟩) n X (fun _=>S):=by
 refine .inr ⟨g,0,rfl,fun i hi=>?_⟩
 obtain ⟨p,a,na,ca,d,nd,cd,e1,e2,e3,e4⟩:=h.el i hi
 exact ⟨p,a,na,ca,d,nd,cd,by rw [Nat.zero_add];exact e1,by rw [Nat.zero_add];exact e2,by rw [Nat.zero_add];exact e3,e4.tr⟩
theorem wR (w:World) {ops:Array Oper} {rest:List Oper} {o:Oper} {a:Act} {Q:Exit→Act→World→Prop} (hg:o.guard = none) (l c:Operand) (hop:o.op = Op.makeSlice 32 l c)
 (n:Nat) (hl:a.eval l = .int .i64 (n:Int)) (hc:a.eval c = .int .i64 (n:Int)) (hn:n≤100000000) (S:Nat)
 (h:∀ w',RV w' w.heap.size w.heap.size n 0 (fun _=>0) S→Below w.heap.size w w'→w'.heap.size = w.heap.size + 1→wpList Tryz.prog ops Q rest (a.put o.dst (.slice (some ⟨w.heap.size,0,none⟩) n n)) w'):wpList Tryz.prog ops Q (o :: rest) a w:=by
 obtain ⟨i0,z,hi,hz,hs3,hb56,hz3⟩:=info3
 have hr:=run_make (P:=Tryz.prog) w 32 27 i0 z Tryz.underlying32 hi hz .i64 .i64 (n:Int) (n:Int) (by omega) (Int.le_refl _) (by rw [hb56];omega) (by omega)
 simp only [Int.toNat_natCast] at hr
 refine wpList_plain hg fun K hK'=>?_
 unfold Oper.wp execOp
 simp only [hop,Sem.run_bind,Sem.run_pure,Result.andThen_ok,hl,hc,hr]
 refine hK' _ _ (h _ ⟨⟨_,heap_alloc_new w _,by rw [size_madeCells,hs3]⟩,Nat.le_refl _,fun i hi=>by omega⟩ (aG w _) (by simp))
theorem aO7 (P:Prob) {ya:Option Addr} {yc:Nat} {Y:Nat→Rat} {Zy:Nat→Nat} {Ky T:Nat} (w:World) (hP:PQ w P) (hy:LQ w ya P.rn Y Zy) (hzy:∀ i,i < P.rn→1≤Zy i∧Zy i≤Ky)
 (hsz:∀ j,j < P.vn→∀ i k,(i < P.rn∧k≤(P.R i).nt∨i≤P.rn∧k = 0)→SzR (rst P Y j i k) T) (hKT:P.K≤T) (hT6:T + (P.K + Ky)≤6000000) (hK:P.K≤1048576) (hT:TB w) :
 Calls Tryz.prog 117 #[P.val,.slice ya P.rn yc] w fun e w'=>∃ g,e = .returned (.slice (some ⟨g,0,none⟩) P.vn P.vn)∧LQ w' (some ⟨g,0,none⟩) P.vn (lft P Y) (fun _=>T)∧Below w.heap.size w w':=by
 have HS:Hid (∀ j,j < P.vn→∀ i k,(i < P.rn∧k≤(P.R i).nt∨i≤P.rn∧k = 0)→SzR (rst P Y j i k) T):=hsz
 have HZY:Hid (∀ i,i < P.rn→1≤Zy i∧Zy i≤Ky):=hzy
 have hall:=hP.all
 have hrn:P.rn≤1048576:=by have:=aT P.ZR P.rn;omega
 have hvn:P.vn≤1048576:=by have:=aT P.ZV P.vn;omega
 have hT1:1≤T:=by have:=hP.s1;omega
 clear hsz hzy
 unfold Prob.val
 have Pb:=aJ w #[.bool P.mx,.string P.nm,.bool P.p,.slice P.a P.na P.ca,.slice P.d P.nd P.cd,.slice P.va P.vn P.vc,.slice P.ra P.rn P.rc] 31
 have hb0:=aG w (.cells #[.bool P.mx,.string P.nm,.bool P.p,.slice P.a P.na P.ca,.slice P.d P.nd P.cd,.slice P.va P.vn P.vc,.slice P.ra P.rn P.rc] 31)
 have hsA:(w.alloc (.cells #[.bool P.mx,.string P.nm,.bool P.p,.slice P.a P.na P.ca,.slice P.d P.nd P.cd,.slice P.va P.vn P.vc,.slice P.ra P.rn P.rc] 31)).heap.size = w.heap.size + 1:=by simp
 go_enter Tryz.func117,Tryz.ntmps117
 go_wp2_with (at_make;refine wR _ rfl _ _ rfl P.vn rfl rfl (by omega) T ?_)
 intro w1 V0 hb1 hs1
 replace hb1:Below (w.alloc (.cells #[.bool P.mx,.string P.nm,.bool P.p,.slice P.a P.na P.ca,.slice P.d P.nd P.cd,.slice P.va P.vn P.vc,.slice P.ra P.rn P.rc] 31)).heap.size (w.alloc (.cells #[.bool P.mx,.string P.nm,.bool P.p,.slice P.a P.na P.ca,.slice P.d P.nd P.cd,.slice P.va P.vn P.vc,.slice P.ra P.rn P.rc] 31)) w1:=by rw [hsA];exact hb1
 replace Pb:=Pb.below hb1
 replace hb0:=aB hb0 hb1
 clear hb1
 have p3:=Pb 5 _ rfl
 go_wp2
 clear p3
 go_loopw [19] (fun s wr=>∃ (j:Nat),j≤P.vn∧s = .int .i64 j∧RV wr (w.heap.size + 1) (w.heap.size + 1) P.vn j (fun q=>(P.V q).obj) T∧BoxC wr w.heap.size (#[.bool P.mx,.string P.nm,.bool P.p,.slice P.a P.na P.ca,.slice P.d P.nd P.cd,.slice P.va P.vn P.vc,.slice P.ra P.rn P.rc]).toList∧Below w.heap.size w wr) (fun t _=>P.vn - (intOf t).toNat)
 case atStart=>exact ⟨0,Nat.zero_le _,rfl,V0.congr (fun i hi=>by omega),Pb,hb0⟩
 case round =>
  clear V0 Pb hb0 hs1
  obtain ⟨j,hj,rfl,V,Pb,hbel⟩:=hrel
  by_cases hlt:j < P.vn
  ·have hkI:(j:Int) < (P.vn:Int):=by omega
   rcases hP.v with h0 | ⟨bv,ov,hva,hev⟩
   ·omega
   have hV:=hev j hlt
   have hZi:P.ZV j≤T:=by have:=bI (Z:=P.ZV) hlt;omega
   obtain ⟨nmV,enm⟩:∃ nmV,nmV = (P.V j).nm:=⟨_,rfl⟩
   obtain ⟨hl,ehl⟩:∃ hl,hl = (P.V j).hlo:=⟨_,rfl⟩
   obtain ⟨hh,ehh⟩:∃ hh,hh = (P.V j).hhi:=⟨_,rfl⟩
   obtain ⟨wh,ewh⟩:∃ wh,wh = (P.V j).whole:=⟨_,rfl⟩
   have r0:=hV.nm
   obtain ⟨pO,aO,nO,cO,dO,mO,lO,r1,r2,r3,hO⟩:=hV.obj
   have r4:=hV.hlo
   obtain ⟨pl,al,nl,cl,dl,ml,ll,r5,r6,r7,_⟩:=hV.lo
   have r8:=hV.hhi
   obtain ⟨ph,ah,nh,ch,dh,mh,lh,r9,r10,r11,_⟩:=hV.hi
   have r12:=hV.whole
   rw [← enm] at r0
   rw [← ehl] at r4
   rw [← ehh] at r8
   rw [← ewh] at r12
   replace r0:=aF hbel r0;replace r1:=aF hbel r1;replace r2:=aF hbel r2;replace r3:=aF hbel r3;replace r4:=aF hbel r4;replace r5:=aF hbel r5;replace r6:=aF hbel r6;replace r7:=aF hbel r7;replace r8:=aF hbel r8;replace r9:=aF hbel r9;replace r10:=aF hbel r10;replace r11:=aF hbel r11;replace r12:=aF hbel r12
   have hkI2:(j:Int) * 13 = ((j * 13:Nat):Int):=by omega
   have hkI3:(j:Int) * 3 = ((j * 3:Nat):Int):=by omega
   have hva':P.va = some ⟨bv,ov,none⟩:=hva
   have hz:=aG wr (.cells #[.string nmV,.bool pO,.slice aO nO cO,.slice dO mO lO,.bool hl,.bool pl,.slice al nl cl,.slice dl ml ll,.bool hh,.bool ph,.slice ah nh ch,.slice dh mh lh,.bool wh] 45)
   have hbelz:=aB hbel hz
   have Vz:=V.below hz
   have Pz:=Pb.below hz
   have HN:EX (wr.alloc (.cells #[.string nmV,.bool pO,.slice aO nO cO,.slice dO mO lO,.bool hl,.bool pl,.slice al nl cl,.slice dl ml ll,.bool hh,.bool ph,.slice ah nh ch,.slice dh mh lh,.bool wh] 45)) (w.heap.size + 1) (w.heap.size + 1) pO aO nO cO dO mO lO (P.V j).obj T:=.inr fun w' h'=>(hO.up hZi).below (hbelz.trans (h'.mono (by omega)))
   obtain ⟨u0,u1,u2,c0,c1,c2,c3,c4,c5⟩:=Vz.three hlt
   obtain ⟨V2,O⟩:=Vz.put (m:=j + 1) (Y:=fun q=>(P.V q).obj) hlt HN (fun q hq=>by
    rcases (by omega:q = j∨q < j) with rfl | h
    ·exact .inl ⟨rfl,rfl⟩
    ·exact .inr ⟨by omega,h,rfl⟩)
   have Pb2:BoxC _ w.heap.size (#[.bool P.mx,.string P.nm,.bool P.p,.slice P.a P.na P.ca,.slice P.d P.nd P.cd,.slice P.va P.vn P.vc,.slice P.ra P.rn P.rc]).toList:=fun a u hu=>(World.cell?_of_block (O.block w.heap.size (by omega))).trans (Pz a u hu)
   have hbel2:Below w.heap.size w _:=hbelz.trans (O.below (by omega))
   clear hev hV enm ehl ehh ewh hva O V Pb hO HN hz Vz Pz hbelz
   go_wp2
   clear hbel r0 r1 r2 r3 r4 r5 r6 r7 r8 r9 r10 r11 r12 c0 c1 c2 c3 c4 c5
   try rw [← hva']
   clear hva'
   go_roundw
   case rel=>first | exact ⟨j + 1,by omega,by go_num,V2,Pb2,hbel2⟩ | ((repeat apply Exists.intro);refine ⟨?_,rfl⟩;exact ⟨j + 1,by omega,by go_num,V2,Pb2,hbel2⟩)
   case measure=>simp [intOf];omega
  ·have hkI:¬ (j:Int) < (P.vn:Int):=by omega
   obtain rfl:j = P.vn:=by omega
   have q6:=Pb 6 _ rfl
   replace V:=V.congr (Y:=fun q=>rst P Y q 0 0) (fun i _=>(aF0 P Y i).symm)
   go_wp2
   clear q6 Pb
   go_loopw [33] (fun s wq=>∃ (i:Nat),i≤P.rn∧s = .int .i64 i∧RV wq (w.heap.size + 1) (w.heap.size + 1) P.vn P.vn (fun q=>rst P Y q i 0) T∧Below w.heap.size w wq) (fun t _=>P.rn - (intOf t).toNat)
   case atStart=>exact ⟨0,Nat.zero_le _,rfl,V,hbel⟩
   case round =>
    clear V hbel
    obtain ⟨i,hi,rfl,V,hbel⟩:=hrel
    by_cases hlt:i < P.rn
    ·have hkI:(i:Int) < (P.rn:Int):=by omega
     rcases hP.r with h0 | ⟨rb,ro,hra,hew⟩
     ·omega
     have hR:=hew i hlt
     have hZi:P.ZR i≤P.K:=by have:=bI (Z:=P.ZR) hlt;omega
     obtain ⟨nmR,enm⟩:∃ nmR,nmR = (P.R i).nm:=⟨_,rfl⟩
     obtain ⟨nt,ent⟩:∃ nt,nt = (P.R i).nt:=⟨_,rfl⟩
     obtain ⟨hl,ehl⟩:∃ hl,hl = (P.R i).hlo:=⟨_,rfl⟩
     obtain ⟨hh,ehh⟩:∃ hh,hh = (P.R i).hhi:=⟨_,rfl⟩
     have r0:=hR.nm
     obtain ⟨ta,tc,Zt,r1,hLT,htot,htc⟩:=hR.terms
     have r2:=hR.hlo
     obtain ⟨pl,al,nl,cl,dl,ml,ll,r3,r4,r5,_⟩:=hR.lo
     have r6:=hR.hhi
     obtain ⟨ph,ah,nh,ch,dh,mh,lh,r7,r8,r9,_⟩:=hR.hi
     rw [← enm] at r0
     rw [← ent] at r1 hLT htot htc
     rw [← ehl] at r2
     rw [← ehh] at r6
     replace r0:=aF hbel r0;replace r1:=aF hbel r1;replace r2:=aF hbel r2;replace r3:=aF hbel r3;replace r4:=aF hbel r4;replace r5:=aF hbel r5;replace r6:=aF hbel r6;replace r7:=aF hbel r7;replace r8:=aF hbel r8;replace r9:=aF hbel r9
     have ENT:Hid (nt = (P.R i).nt):=ent
     have hkI2:(i:Int) * 10 = ((i * 10:Nat):Int):=by omega
     have hnt:nt≤1048576:=by have:=aT Zt nt;omega
     have hra':P.ra = some ⟨rb,ro,none⟩:=hra
     clear hew hR enm ent ehl ehh hra
     go_wp2
     have hz:=aG wr (.cells #[.string nmR,.slice ta nt tc,.bool hl,.bool pl,.slice al nl cl,.slice dl ml ll,.bool hh,.bool ph,.slice ah nh ch,.slice dh mh lh] 72)
     have V2:=V.below hz
     have hbel2:=aB hbel hz
     clear r0 r1 r2 r3 r4 r5 r6 r7 r8 r9 hz V hbel hra'
     generalize wr.alloc (.cells #[.string nmR,.slice ta nt tc,.bool hl,.bool pl,.slice al nl cl,.slice dl ml ll,.bool hh,.bool ph,.slice ah nh ch,.slice dh mh lh] 72) = W2 at *
     go_loopw [41] (fun s wq=>∃ (k:Nat),k≤nt∧s = .int .i64 k∧RV wq (w.heap.size + 1) (w.heap.size + 1) P.vn P.vn (fun q=>rst P Y q i k) T∧Below w.heap.size w wq) (fun t _=>nt - (intOf t).toNat)
     case atStart=>exact ⟨0,Nat.zero_le _,rfl,V2,hbel2⟩
     case round =>
      clear V2 hbel2
      obtain ⟨k,hk,rfl,V,hbel⟩:=hrel
      by_cases hlt2:k < nt
      ·have hkJ:(k:Int) < (nt:Int):=by omega
       rcases hLT with h0 | ⟨tb,to,rfl,hel⟩
       ·omega
       obtain ⟨t0,⟨pC,aC,nC,cC,dC,mC,lC,t1,t2,t3,hC⟩,hsC,hszC,hv1,hv2⟩:=hel k hlt2
       obtain ⟨v,ev⟩:∃ v,v = ((P.R i).t k).var:=⟨_,rfl⟩
       rw [← ev] at t0 hv1 hv2
       have EV:Hid (v = ((P.R i).t k).var):=ev
       have hkJ2:(k:Int) * 4 = ((k * 4:Nat):Int):=by omega
       have hZk:Zt k≤P.K:=by have:=bI (Z:=Zt) hlt2;omega
       replace t0:=aF hbel t0
       replace t1:=aF hbel t1
       replace t2:=aF hbel t2
       replace t3:=aF hbel t3
       clear hel ev
       by_cases hv:0≤v∧v < (P.vn:Int)
       ·obtain ⟨hv0,hvm⟩:=hv
        obtain ⟨j,rfl⟩:=Int.eq_ofNat_of_zero_le hv0
        have hjv:j < P.vn:=by omega
        have hz2:=aG wr (.cells #[.int .i64 (j:Int),.bool pC,.slice aC nC cC,.slice dC mC lC] 100)
        rcases hy with h0 | ⟨yb,yo,rfl,hely⟩
        ·omega
        obtain ⟨pA,aA,nA,cA,dA,mA,lA,a0,a1,a2,hA⟩:=hely i hlt
        obtain ⟨hzy1,hzy2⟩:=HZY.out i hlt
        have hkI3:(i:Int) * 3 = ((i * 3:Nat):Int):=by omega
        have hkI4:(j:Int) * 3 = ((j * 3:Nat):Int):=by omega
        clear hely
        go_wp2_with fail
        have N:=aJ wr #[.int .i64 (j:Int),.bool pC,.slice aC nC cC,.slice dC mC lC] 100
        have hsz3:(wr.alloc (.cells #[.int .i64 (j:Int),.bool pC,.slice aC nC cC,.slice dC mC lC] 100)).heap.size = wr.heap.size + 1:=by simp
        have hbel3:=aB hbel hz2
        replace hC:=hC.below hbel3
        replace hA:=hA.below hbel3
        replace a0:=aF hbel3 a0
        replace a1:=aF hbel3 a1
        replace a2:=aF hbel3 a2
        have hVlt:=V.lt
        replace V:=V.below hz2
        have hTw:=hT.below hbel3
        have n0:=N 0 _ rfl
        have n1:=N 1 _ rfl
        have n2:=N 2 _ rfl
        have n3:=N 3 _ rfl
        clear t0 t1 t2 t3 hz2 N hbel
        generalize wr.alloc (.cells #[.int .i64 (j:Int),.bool pC,.slice aC nC cC,.slice dC mC lC] 100) = W3 at *
        obtain ⟨pE,aE,nE,cE,dE,mE,lE,s0,s1,s2,hE0⟩:=V.el j hjv
        have hE:=hE0.tr
        have HS1:Hid (SzR (rst P Y j i k - Y i * ((P.R i).t k).coef) T):=by
         rw [← aB1 P Y j i k EV.out.symm]
         exact HS.out j hjv i (k + 1) (.inl ⟨hlt,by rw [← ENT.out];omega⟩)
        have HBX:∀ w',Below W3.heap.size W3 w'→(w'.cell? ⟨wr.heap.size,0,none⟩ = some (.int .i64 (j:Int))∧w'.cell? ⟨wr.heap.size,1,none⟩ = some (.bool pC)∧w'.cell? ⟨wr.heap.size,2,none⟩ = some (.slice aC nC cC)∧w'.cell? ⟨wr.heap.size,3,none⟩ = some (.slice dC mC lC)∧w'.cell? ⟨w.heap.size + 1,j * 3,none⟩ = some (.bool pE)∧w'.cell? ⟨w.heap.size + 1,j * 3 + 1,none⟩ = some (.slice aE nE cE)∧w'.cell? ⟨w.heap.size + 1,j * 3 + 2,none⟩ = some (.slice dE mE lE)∧w'.cell? ⟨yb,yo + i * 3,none⟩ = some (.bool pA)∧w'.cell? ⟨yb,yo + i * 3 + 1,none⟩ = some (.slice aA nA cA)∧w'.cell? ⟨yb,yo + i * 3 + 2,none⟩ = some (.slice dA mA lA)):=fun w' h=>⟨aF h n0,aF h n1,aF h n2,aF h n3,aF h s0,aF h s1,aF h s2,aF h a0,aF h a1,aF h a2⟩
        refine wp_region_noPanic (aU 17 HBX (by kernel_rfl) ?_)
        have hc0:Below W3.heap.size W3 W3.drew:=aK _
        generalize W3.drew = z0 at *
        refine wpAnyG.tT 0 (v:=.slice (some ⟨w.heap.size + 1,0,none⟩) P.vn P.vn) (by decide) 17 (by kernel_rfl) (by rfl) ?y0 (HBX _ hc0) ?_
        case y0 =>
         rintro w' ⟨q0,q1,q2,q3,q4,q5,q6,q7,q8,q9⟩
         simp only [lgA,lgZ]
         go_simp
        simp only [lgA,lgZ,Act.put,lsA,lsZ,lsS]
        refine wpAnyG.tT 1 (v:=.pointer (some ⟨wr.heap.size,0,none⟩)) (by decide) 17 (by kernel_rfl) (by rfl) ?y1 (HBX _ hc0) ?_
        case y1 =>
         rintro w' ⟨q0,q1,q2,q3,q4,q5,q6,q7,q8,q9⟩
         simp only [lgA,lgZ,lgS]
         go_simp
        simp only [lgA,lgZ,lgS,Act.put,lsA,lsZ,lsS]
        refine wpAnyG.tT 2 (v:=.int .i64 (j:Int)) (by decide) 17 (by kernel_rfl) (by rfl) ?y2 (HBX _ hc0) ?_
        case y2 =>
         rintro w' ⟨q0,q1,q2,q3,q4,q5,q6,q7,q8,q9⟩
         simp only [lgA,lgZ,lgS]
         go_simp
        simp only [lgA,lgZ,lgS,Act.put,lsA,lsZ,lsS]
        refine wpAnyG.tT 3 (v:=.slice (some ⟨w.heap.size + 1,0,none⟩) P.vn P.vn) (by decide) 17 (by kernel_rfl) (by rfl) ?y3 (HBX _ hc0) ?_
        case y3 =>
         rintro w' ⟨q0,q1,q2,q3,q4,q5,q6,q7,q8,q9⟩
         simp only [lgA,lgZ,lgS]
         go_simp
        simp only [lgA,lgZ,lgS,Act.put,lsA,lsZ,lsS]
        refine wpAnyG.tT 4 (v:=.pointer (some ⟨wr.heap.size,0,none⟩)) (by decide) 17 (by kernel_rfl) (by rfl) ?y4 (HBX _ hc0) ?_
        case y4 =>
         rintro w' ⟨q0,q1,q2,q3,q4,q5,q6,q7,q8,q9⟩
         simp only [lgA,lgZ,lgS]
         go_simp
        simp only [lgA,lgZ,lgS,Act.put,lsA,lsZ,lsS]
        refine wpAnyG.tT 5 (v:=.int .i64 (j:Int)) (by decide) 17 (by kernel_rfl) (by rfl) ?y5 (HBX _ hc0) ?_
        case y5 =>
         rintro w' ⟨q0,q1,q2,q3,q4,q5,q6,q7,q8,q9⟩
         simp only [lgA,lgZ,lgS]
         go_simp
        simp only [lgA,lgZ,lgS,Act.put,lsA,lsZ,lsS]
        refine wpAnyG.tT 6 (v:=.pointer (some ⟨w.heap.size + 1,j * 3,none⟩)) (by decide) 17 (by kernel_rfl) (by rfl) ?y6 (HBX _ hc0) ?_
        case y6 =>
         rintro w' ⟨q0,q1,q2,q3,q4,q5,q6,q7,q8,q9⟩
         simp only [lgA,lgZ,lgS]
         go_simp
        simp only [lgA,lgZ,lgS,Act.put,lsA,lsZ,lsS]
        refine wpAnyG.tT 7 (v:=.agg #[.bool pE,.slice aE nE cE,.slice dE mE lE]) (by decide) 17 (by kernel_rfl) (by rfl) ?y7 (HBX _ hc0) ?_
        case y7 =>
         rintro w' ⟨q0,q1,q2,q3,q4,q5,q6,q7,q8,q9⟩
         simp only [lgA,lgZ,lgS]
         go_simp
        simp only [lgA,lgZ,lgS,Act.put,lsA,lsZ,lsS]
        refine wpAnyG.tT 8 (v:=.slice (some ⟨yb,yo,none⟩) P.rn yc) (by decide) 17 (by kernel_rfl) (by rfl) ?y8 (HBX _ hc0) ?_
        case y8 =>
         rintro w' ⟨q0,q1,q2,q3,q4,q5,q6,q7,q8,q9⟩
         simp only [lgA,lgZ,lgS]
         go_simp
        simp only [lgA,lgZ,lgS,Act.put,lsA,lsZ,lsS]
        refine wpAnyG.tT 9 (v:=.int .i64 (i:Int)) (by decide) 17 (by kernel_rfl) (by rfl) ?y9 (HBX _ hc0) ?_
        case y9 =>
         rintro w' ⟨q0,q1,q2,q3,q4,q5,q6,q7,q8,q9⟩
         simp only [lgA,lgZ,lgS]
         go_simp
        simp only [lgA,lgZ,lgS,Act.put,lsA,lsZ,lsS]
        refine wpAnyG.tT 10 (v:=.pointer (some ⟨yb,yo + i * 3,none⟩)) (by decide) 17 (by kernel_rfl) (by rfl) ?y10 (HBX _ hc0) ?_
        case y10 =>
         rintro w' ⟨q0,q1,q2,q3,q4,q5,q6,q7,q8,q9⟩
         simp only [lgA,lgZ,lgS]
         go_simp
        simp only [lgA,lgZ,lgS,Act.put,lsA,lsZ,lsS]
        refine wpAnyG.tT 11 (v:=.agg #[.bool pA,.slice aA nA cA,.slice dA mA lA]) (by decide) 17 (by kernel_rfl) (by rfl) ?y11 (HBX _ hc0) ?_
        case y11 =>
         rintro w' ⟨q0,q1,q2,q3,q4,q5,q6,q7,q8,q9⟩
         simp only [lgA,lgZ,lgS]
         go_simp
        simp only [lgA,lgZ,lgS,Act.put,lsA,lsZ,lsS]
        refine wpAnyG.tT 12 (v:=.pointer (some ⟨wr.heap.size,1,none⟩)) (by decide) 17 (by kernel_rfl) (by rfl) ?y12 (HBX _ hc0) ?_
        case y12 =>
         rintro w' ⟨q0,q1,q2,q3,q4,q5,q6,q7,q8,q9⟩
         simp only [lgA,lgZ,lgS]
         go_simp
        simp only [lgA,lgZ,lgS,Act.put,lsA,lsZ,lsS]
        refine wpAnyG.tT 13 (v:=.agg #[.bool pC,.slice aC nC cC,.slice dC mC lC]) (by decide) 17 (by kernel_rfl) (by rfl) ?y13 (HBX _ hc0) ?_
        case y13 =>
         rintro w' ⟨q0,q1,q2,q3,q4,q5,q6,q7,q8,q9⟩
         simp only [lgA,lgZ,lgS]
         go_simp
        simp only [lgA,lgZ,lgS,Act.put,lsA,lsZ,lsS]
        refine wpAnyG.one 14 (by kernel_rfl) (by decide) (by rfl) (fun K hK=>?_)
        simp only [lgA,lgZ,lgS]
        go_simp
        refine (zZ z0 (hA.below hc0) (hC.below hc0) (by omega) (by omega) (by omega) (hTw.below hc0)).mono ?_
        rintro e z1 ⟨g1,q1,i1,j1,o1,t1,x1,rfl,G1,hk1⟩
        have hc1:Below W3.heap.size W3 z1:=aB hc0 hk1
        dsimp only
        refine hK _ _ ⟨fun _=>HBX _ hc1,fun _=>trivial⟩ ?_
        clear hK K
        refine wpAnyG.one 15 (by kernel_rfl) (by decide) (by rfl) (fun K hK=>?_)
        simp only [lgA,lgZ,lgS]
        go_simp
        refine (subQ z1 (hE.below hc1) G1.tr (by omega) (by omega) (by omega) (hTw.below hc1)).mono ?_
        rintro e z2 ⟨g2,q2,i2,j2,o2,t2,x2,rfl,G2,hk2⟩
        have hc2:Below W3.heap.size W3 z2:=aB hc1 hk2
        dsimp only
        refine hK _ _ ⟨fun _=>HBX _ hc2,fun _=>trivial⟩ ?_
        clear hK K
        refine wpAnyG.tT 16 (v:=.pointer (some ⟨w.heap.size + 1,j * 3,none⟩)) (by decide) 17 (by kernel_rfl) (by rfl) ?y16 (HBX _ hc2) ?_
        case y16 =>
         rintro w' ⟨q0,q1,q2,q3,q4,q5,q6,q7,q8,q9⟩
         simp only [lgA,lgZ,lgS]
         go_simp
        simp only [lgA,lgZ,lgS,Act.put,lsA,lsZ,lsS]
        refine wpAnyG.one 17 (by kernel_rfl) (by decide) (by rfl) (fun K hK=>?_)
        simp only [lgA,lgZ,lgS]
        have VS:=V.below hc2
        obtain ⟨u0,u1,u2,y0,y1,y2,y3,y4,y5⟩:=VS.three hjv
        go_simp
        refine hK _ _ ⟨fun h=>absurd h (by decide),fun _=>trivial⟩ ?_
        clear hK K
        refine wpAnyG.done (by kernel_rfl) (NoPanic.normal ?_)
        have hsz4:=Below.size hc1
        have GN:EX z2 (w.heap.size + 1) (w.heap.size + 1) g2 q2 i2 j2 o2 t2 x2 (rst P Y j i k - Y i * ((P.R i).t k).coef) T:=.inl (((G2.fit HS1.out).gx (R:=w.heap.size + 1) (.inl (by omega))).mono (B':=w.heap.size + 1) (by omega))
        obtain ⟨V',O⟩:=VS.put (m:=P.vn) (Y:=fun q=>rst P Y q i (k + 1)) hjv GN (fun q hq=>by
         by_cases e:q = j
         ·subst e;exact .inl ⟨rfl,aB1 P Y q i k EV.out.symm⟩
         ·exact .inr ⟨e,hq,aF1 P Y q i k (by rw [← EV.out];omega)⟩)
        have hbel':Below w.heap.size w _:=(aB hbel3 hc2).trans (O.below (by omega))
        clear V hbel3 O GN VS HBX G1 G2 hc0 hc1 hc2 hk1 hk2 y0 y1 y2 y3 y4 y5 s0 s1 s2 n0 n1 n2 n3 a0 a1 a2 hC hA hE hE0 hTw
        go_wp2
        go_roundw
        case rel=>first | exact ⟨k + 1,by omega,by go_num,V',hbel'⟩ | ((repeat apply Exists.intro);refine ⟨?_,rfl⟩;exact ⟨k + 1,by omega,by go_num,V',hbel'⟩)
        case measure=>simp [intOf];omega
       ·have V':=V.congr (Y:=fun q=>rst P Y q i (k + 1)) (fun q hq=>(aF1 P Y q i k (by rw [← EV.out];omega)).symm)
        have hz:=aG wr (.cells #[.int .i64 v,.bool pC,.slice aC nC cC,.slice dC mC lC] 100)
        replace V':=V'.below hz
        have hbel':=aB hbel hz
        clear hz V
        by_cases hv0:0≤v
        ·have hvm:¬ v < (P.vn:Int):=fun h=>hv ⟨hv0,h⟩
         go_wp2
         go_roundw
         case rel=>first | exact ⟨k + 1,by omega,by go_num,V',hbel'⟩ | ((repeat apply Exists.intro);refine ⟨?_,rfl⟩;exact ⟨k + 1,by omega,by go_num,V',hbel'⟩)
         case measure=>simp [intOf];omega
        ·go_wp2
         go_roundw
         case rel=>first | exact ⟨k + 1,by omega,by go_num,V',hbel'⟩ | ((repeat apply Exists.intro);refine ⟨?_,rfl⟩;exact ⟨k + 1,by omega,by go_num,V',hbel'⟩)
         case measure=>simp [intOf];omega
      ·have hkJ:¬ (k:Int) < (nt:Int):=by omega
       obtain rfl:k = nt:=by omega
       have V':=V.congr (Y:=fun q=>rst P Y q (i + 1) 0) (fun q _=>by rw [ENT.out];exact aJ0 P Y q i)
       clear V
       go_wp2
       go_roundw
       case rel=>first | exact ⟨i + 1,by omega,by go_num,V',hbel⟩ | ((repeat apply Exists.intro);refine ⟨?_,rfl⟩;exact ⟨i + 1,by omega,by go_num,V',hbel⟩)
       case measure=>simp [intOf];omega
    ·have hkI:¬ (i:Int) < (P.rn:Int):=by omega
     obtain rfl:i = P.rn:=by omega
     have V':=V.congr (Y:=lft P Y) (fun q _=>aB0 P Y q)
     go_wp2
     go_ret
     exact ⟨_,rfl,V'.lq,hbel⟩
end Go.Proofs.YtnokmjmefipplaaGreatDoor
