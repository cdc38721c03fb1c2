import Derived.Test.YtnokmjmefipplaaGreatDoorPvAAll
import Derived.Test.YtnokmjmefipplaaGreatDoorWdAll
import Derived.Test.YtnokmjmefipplaaGreatDoorCsAll
import Derived.Test.YtnokmjmefipplaaGreatDoorGuardS
import Derived.Test.YtnokmjmefipplaaGreatDoorR3M
import Derived.Test.YtnokmjmefipplaaGreatDoorRlAll
import Derived.Test.YtnokmjmefipplaaGreatDoorNumAll
set_option maxRecDepth 100000
set_option maxHeartbeats 16000000
namespace Go.Proofs.YtnokmjmefipplaaGreatDoor
open Go.RowKit
def MX (w:World) (B g:Nat) (v:Value) (n:Nat) (X:Nat→Rat) (S:Nat):Prop :=
 v.ownBlock ≠ some g∧∃ vs:List Value,w.ownsRow B 27 3 v n vs∧∀ i,i < n→∃ p a na ca d nd cd,vs[i * 3]? = some (.bool p)∧vs[i * 3 + 1]? = some (.slice a na ca)∧vs[i * 3 + 2]? = some (.slice d nd cd)∧EX w B g p a na ca d nd cd (X i) S
theorem MX.form {w:World} {B g:Nat} {v:Value} {n:Nat} {X:Nat→Rat} {S:Nat} (h:MX w B g v n X S):∃ a cap,v = .slice a n cap:=by
 obtain ⟨_,vs,h1,h2⟩:=h
 rcases h1.2 with ⟨rfl,rfl⟩ | ⟨g,cap,cur,e1,_⟩
 ·exact ⟨_,_,rfl⟩
 ·exact ⟨_,_,e1⟩
theorem MX.lt {w:World} {B g:Nat} {v:Value} {n:Nat} {X:Nat→Rat} {S:Nat} (h:MX w B g v n X S):∀ k,v.ownBlock = some k→B≤k∧k < w.heap.size:=by
 obtain ⟨_,vs,h1,h2⟩:=h
 exact World.ownsRow.lt h1
theorem MX.below {w w':World} {B g:Nat} {v:Value} {n:Nat} {X:Nat→Rat} {S:Nat} (h:MX w B g v n X S) (hB:B≤w.heap.size) (hb:Below w.heap.size w w'):MX w' B g v n X S:=by
 obtain ⟨hg,vs,h1,h2⟩:=h
 refine ⟨hg,vs,⟨h1.1,?_⟩,fun i hi=>?_⟩
 ·rcases h1.2 with hn | ⟨g,cap,cur,e1,e2,hgb,rest⟩
  ·exact .inl hn
  ·exact .inr ⟨g,cap,cur,e1,e2,(hb.block g (Array.getElem?_eq_some_iff.1 hgb).1).trans hgb,rest⟩
 ·obtain ⟨p,a,na,ca,d,nd,cd,g1,g2,g3,g4⟩:=h2 i hi
  exact ⟨p,a,na,ca,d,nd,cd,g1,g2,g3,g4.below hB hb⟩
theorem MX.off {w w':World} {B g:Nat} {v:Value} {n:Nat} {X:Nat→Rat} {S:Nat} (h:MX w B g v n X S) (o:Off g w w') (hB:B≤g):MX w' B g v n X S:=by
 obtain ⟨hg,vs,h1,h2⟩:=h
 refine ⟨hg,vs,⟨h1.1,?_⟩,fun i hi=>?_⟩
 ·rcases h1.2 with hn | ⟨g',cap,cur,e1,e2,hgb,rest⟩
  ·exact .inl hn
  ·exact .inr ⟨g',cap,cur,e1,e2,(o.block g' (fun e=>hg (by rw [e1,e];rfl))).trans hgb,rest⟩
 ·obtain ⟨p,a,na,ca,d,nd,cd,g1,g2,g3,g4⟩:=h2 i hi
  exact ⟨p,a,na,ca,d,nd,cd,g1,g2,g3,g4.off o hB⟩
theorem MX.lq {w:World} {B g:Nat} {a:Option Addr} {m n cap:Nat} {X:Nat→Rat} {S:Nat} (h:MX w B g (.slice a m cap) n X S):LQ w a n X (fun _=>S):=by
 obtain ⟨_,vs,h1,h2⟩:=h
 rcases h1.2 with ⟨e1,e2⟩ | ⟨g,cap,cur,e1,_,hg,_,_,_,ht⟩
 ·exact .inl e2
 ·simp only [Value.slice.injEq] at e1
  obtain ⟨rfl,_,_⟩:=e1
  refine .inr ⟨g,0,rfl,fun i hi=>?_⟩
  obtain ⟨p,a,na,ca,d,nd,cd,g1,g2,g3,g4⟩:=h2 i hi
  refine ⟨p,a,na,ca,d,nd,cd,?_,?_,?_,g4.tr⟩
  ·rw [Nat.zero_add];exact dI hg ht g1
  ·rw [Nat.zero_add];exact dI hg ht g2
  ·rw [Nat.zero_add];exact dI hg ht g3
theorem EX.grow {w w':World} {B g:Nat} {p:Bool} {a:Option Addr} {na ca:Nat} {d:Option Addr} {nd cd:Nat} {r:Rat} {S:Nat} (h:EX w B g p a na ca d nd cd r S) (hB:B≤w.heap.size) {lv:Value} {n:Nat} {ys:List Value} (k:w.ownsRow B 27 3 lv n ys) (hg:w.grownBy w' lv.ownBlock):EX w' B g p a na ca d nd cd r S:=by
 rcases h with h | h
 ·exact .inl ⟨h.1.grow3 k hg,h.2⟩
 ·exact .inr fun w2 h2=>h w2 ((grown_below hg hB (fun g hg=>(World.ownsRow.lt k g hg).1)).trans h2)
theorem MX.one {w:World} {p:Bool} {a:Option Addr} {na ca:Nat} {d:Option Addr} {nd cd:Nat} {X:Nat→Rat} {S:Nat} (h:TR w p a na ca d nd cd (X 0) S) (o:Obj) :
 MX ((w.alloc (.cells #[.bool p,.slice a na ca,.slice d nd cd] 27)).alloc o) w.heap.size (w.heap.size + 1) (.slice (some ⟨w.heap.size,0,none⟩) 1 1) 1 X S:=by
 have h0:(w.alloc (.cells #[.bool p,.slice a na ca,.slice d nd cd] 27)).heap[w.heap.size]? = some (.cells #[.bool p,.slice a na ca,.slice d nd cd] 27 (0,0)):=heap_alloc_new _ _
 have hb:=aG (w.alloc (.cells #[.bool p,.slice a na ca,.slice d nd cd] 27)) o
 refine ⟨by simp [Value.ownBlock],[.bool p,.slice a na ca,.slice d nd cd],⟨rfl,.inr ⟨_,1,#[.bool p,.slice a na ca,.slice d nd cd],rfl,Nat.le_refl _,(hb.block _ (by simp)).trans h0,Nat.le_refl _,by unfold maxLen;decide,rfl,rfl⟩⟩,fun i hi=>?_⟩
 obtain rfl:i = 0:=by omega
 exact ⟨p,a,na,ca,d,nd,cd,rfl,rfl,rfl,.inr fun w' h'=>h.below ((gK (aG _ _)).trans h')⟩
theorem jD (w:World) {o:Oper} {a:Act} {K:Act→World→Prop} {Q:Exit→Act→World→Prop} (s x:Operand)
 (ho:o.op = .call { callee:=.builtin .append,args:=#[s,x],argTypes:=#[32,32] }) (B g0:Nat) (v:Value) (n:Nat) (X:Nat→Rat) (S:Nat) (hs:a.eval s = v) (hown:MX w B g0 v n X S) (h c:Nat) (hx:a.eval x = .slice (some ⟨h,0,none⟩) 1 c)
 (f:Bool) (c1:Option Addr) (n1 k1:Nat) (c2:Option Addr) (n2 k2:Nat) (r:Rat) (hc:w.cell? ⟨h,0,none⟩ = some (.bool f)∧w.cell? ⟨h,1,none⟩ = some (.slice c1 n1 k1)∧w.cell? ⟨h,2,none⟩ = some (.slice c2 n2 k2)) (hG:EX w B g0 f c1 n1 k1 c2 n2 k2 r S)
 (hlen:n≤1000000000000) (hB:B≤w.heap.size) (H:Nat) (hH:w.heap.size = H) (hg0:g0 < H)
 (hK:∀ g cap w',MX w' B g0 (.slice (some ⟨g,0,none⟩) (n + 1) cap) (n + 1) (fun i=>if i < n then X i else r) S→w.grownBy w' v.ownBlock→(v.ownBlock = some g∨g = H)→g < w'.heap.size→K (a.put o.dst (.slice (some ⟨g,0,none⟩) (n + 1) cap)) w') :
 Oper.wp Tryz.prog o a w K Q:=by
 obtain ⟨hne,vs,h1,h2⟩:=hown
 obtain ⟨i0,z,hi,hz,hs3,hb56,hz3⟩:=info3
 refine wp_append_lies w s x 32 ho B 27 i0 z 3 56 Tryz.underlying32 hi hz hs3 hb56 hz3 (by decide) v n vs hs h1 ⟨h,0,none⟩ 1 c [.bool f,.slice c1 n1 k1,.slice c2 n2 k2] hx rfl ?_ (fun u hu=>by simp at hu;rcases hu with rfl | rfl | rfl <;> rfl) (by decide) (by unfold maxLen;omega) (by omega) hB H hH ?_
 ·intro j u hj
  match j,hj with
  | 0,hj=>simp at hj;subst hj;simpa [Addr.add] using hc.1
  | 1,hj=>simp at hj;subst hj;simpa [Addr.add] using hc.2.1
  | 2,hj=>simp at hj;subst hj;simpa [Addr.add] using hc.2.2
 ·intro g cap w' r1 r2 r3 r4
  refine hK g cap w' ⟨?_,_,r1,fun i hi=>?_⟩ r2 r3 r4
  ·intro e
   have e2:g = g0:=by simpa [Value.ownBlock] using e
   rcases r3 with r3 | r3
   ·exact hne (by rw [r3,e2])
   ·omega
  ·rcases (by omega:i < n∨i = n) with hi | rfl
   ·obtain ⟨p,a,na,ca,d,nd,cd,g1,g2,g3,g4⟩:=h2 i hi
    have e:vs.length = n * 3:=h1.1
    simp only [hi,if_true]
    refine ⟨p,a,na,ca,d,nd,cd,?_,?_,?_,g4.grow hB h1 r2⟩
    ·rw [List.getElem?_append_left (by omega)];exact g1
    ·rw [List.getElem?_append_left (by omega)];exact g2
    ·rw [List.getElem?_append_left (by omega)];exact g3
   ·obtain ⟨e1,e2,e3⟩:=pK (x:=.bool f) (y:=.slice c1 n1 k1) (z:=.slice c2 n2 k2) h1.1
    simp only [Nat.lt_irrefl,if_false]
    exact ⟨f,c1,n1,k1,c2,n2,k2,e1,e2,e3,hG.grow hB h1 r2⟩
def uU (mx:Bool) (m:Rat) (hlo hhi:Bool):Bool:=if m = 0 then true else if asks mx m = true then hlo else hhi
structure LitR (mx:Bool) (m lo hi:Rat) (B bq:Nat) (v:Value) (n:Nat) (X:Nat→Rat) (S:Nat) (w w':World) (v':Value) (n':Nat) (X':Nat→Rat):Prop where
 box:w'.cell? ⟨bq,0,none⟩ = some v'
 fr:w'.frozen? ⟨bq,0,none⟩ = false
 ls:MX w' B bq v' n' X' S
 st:(m = 0∧n' = n∧X' = X)∨(m ≠ 0∧n' = n + 1∧X' = fun i=>if i < n then X i else m * (if asks mx m = true then lo else hi))
 bel:Below B w w'
 kp:∀ k,k < w.heap.size→k ≠ bq→some k ≠ v.ownBlock→w'.heap[k]? = w.heap[k]?
 own:∀ g,v'.ownBlock = some g→v.ownBlock = some g∨w.heap.size≤g
theorem kW {m:Rat} (h:0 < m):(1:Int) = m.num.sign:=by
 have h1:(0:Int) * (m.den:Int) < m.num * ((1:Nat):Int):=(Rat.lt_iff _ _).1 h
 exact (Int.sign_eq_one_of_pos (by omega)).symm
theorem kX {m:Rat} (h:m < 0):(-1:Int) = m.num.sign:=by
 have h1:m.num * ((1:Nat):Int) < (0:Int) * (m.den:Int):=(Rat.lt_iff _ _).1 h
 exact (Int.sign_eq_neg_one_of_neg (by omega)).symm
theorem nK {m:Rat} (h:m = 0):(0:Int) = m.num.sign:=by subst h;rfl
theorem yS {mx:Bool} {bm bp bq B q:Nat} {ma:Option Addr} {nm mc:Nat} {M:Nat→Rat} {Sm R S:Nat} {v:Value} {n:Nat} {X:Nat→Rat} {hlo pl:Bool} {al:Option Addr} {nl cl:Nat} {dl:Option Addr} {ml ll:Nat} {lo:Rat} {hhi ph:Bool} {ah:Option Addr} {nh ch:Nat} {dh:Option Addr} {mh lh:Nat} {hi:Rat} {z:Int} (w:World) (hz0:z = (q:Int))
 (hm:w.cell? ⟨bm,0,none⟩ = some (.slice ma nm mc)) (hM:LQ w ma nm M (fun _=>Sm)) (hq:q < nm) (hp:w.cell? ⟨bp,0,none⟩ = some (.bool mx)) (hv:w.cell? ⟨bq,0,none⟩ = some v) (hvf:w.frozen? ⟨bq,0,none⟩ = false) (hL:MX w B bq v n X S)
 (hBq:B≤bq) (hl:TR w pl al nl cl dl ml ll lo R) (hh:TR w ph ah nh ch dh mh lh hi R) (hSm:1≤Sm) (hR1:1≤R) (hSR:Sm + R≤S) (hS6:S≤6000000) (hn:n≤1000000000) (hT:TB w) :
 Calls Tryz.prog 119 #[.int .i64 z,.agg #[.bool hlo,.bool pl,.slice al nl cl,.slice dl ml ll],.agg #[.bool hhi,.bool ph,.slice ah nh ch,.slice dh mh lh],.pointer (some ⟨bm,0,none⟩),.pointer (some ⟨bp,0,none⟩),.pointer (some ⟨bq,0,none⟩)] w fun e w'=>∃ v' n' X',e = .returned (.bool (uU mx (M q) hlo hhi))∧LitR mx (M q) lo hi B bq v n X S w w' v' n' X':=by
 subst hz0
 have hbq:=World.block_lt_of_cell? _ _ hv
 obtain ⟨o1,k1,rfl⟩:=hL.form
 rcases hM with h0 | ⟨mb,mo,rfl,hel⟩
 ·omega
 obtain ⟨pM,aM,nM,cM,dM,mM,lM,e0,e1,e2,hA⟩:=hel q hq
 have hqI:(q:Int) < (nm:Int):=by omega
 have hqI3:(q:Int) * 3 = ((q * 3:Nat):Int):=by omega
 have A0:=aJ w #[.bool hlo,.bool pl,.slice al nl cl,.slice dl ml ll] 43
 have hb0:=aG w (.cells #[.bool hlo,.bool pl,.slice al nl cl,.slice dl ml ll] 43)
 have hs0:(w.alloc (.cells #[.bool hlo,.bool pl,.slice al nl cl,.slice dl ml ll] 43)).heap.size = w.heap.size + 1:=by simp
 have A1:=aJ (w.alloc (.cells #[.bool hlo,.bool pl,.slice al nl cl,.slice dl ml ll] 43)) #[.bool hhi,.bool ph,.slice ah nh ch,.slice dh mh lh] 43
 have hb1:=aG (w.alloc (.cells #[.bool hlo,.bool pl,.slice al nl cl,.slice dl ml ll] 43)) (.cells #[.bool hhi,.bool ph,.slice ah nh ch,.slice dh mh lh] 43)
 have hs1:((w.alloc (.cells #[.bool hlo,.bool pl,.slice al nl cl,.slice dl ml ll] 43)).alloc (.cells #[.bool hhi,.bool ph,.slice ah nh ch,.slice dh mh lh] 43)).heap.size = w.heap.size + 2:=by simp
 have A2:=aJ ((w.alloc (.cells #[.bool hlo,.bool pl,.slice al nl cl,.slice dl ml ll] 43)).alloc (.cells #[.bool hhi,.bool ph,.slice ah nh ch,.slice dh mh lh] 43)) #[.bool pM,.slice aM nM cM,.slice dM mM lM] 27
 have hb2:=aG ((w.alloc (.cells #[.bool hlo,.bool pl,.slice al nl cl,.slice dl ml ll] 43)).alloc (.cells #[.bool hhi,.bool ph,.slice ah nh ch,.slice dh mh lh] 43)) (.cells #[.bool pM,.slice aM nM cM,.slice dM mM lM] 27)
 have hs2:(((w.alloc (.cells #[.bool hlo,.bool pl,.slice al nl cl,.slice dl ml ll] 43)).alloc (.cells #[.bool hhi,.bool ph,.slice ah nh ch,.slice dh mh lh] 43)).alloc (.cells #[.bool pM,.slice aM nM cM,.slice dM mM lM] 27)).heap.size = w.heap.size + 3:=by simp
 rw [hs0] at A1
 rw [hs1] at A2
 have hbA:=aB hb0 hb1
 have hbB:=aB hbA hb2
 have x0:=aF hbA hm
 have x1:=aF hbA e0
 have x2:=aF hbA e1
 have x3:=aF hbA e2
 replace A0:=(A0.below hb1).below hb2
 replace A1:=A1.below hb2
 clear hel hb0 hb1 hb2 hs0 hs1 hbA
 have m0:=A2 0 _ rfl
 have m1:=A2 1 _ rfl
 have m2:=A2 2 _ rfl
 go_enter Tryz.func119,Tryz.ntmps119
 go_wp2_with fail
 clear x0 x1 x2 x3 m0 m1 m2
 generalize ((w.alloc (.cells #[.bool hlo,.bool pl,.slice al nl cl,.slice dl ml ll] 43)).alloc (.cells #[.bool hhi,.bool ph,.slice ah nh ch,.slice dh mh lh] 43)).alloc (.cells #[.bool pM,.slice aM nM cM,.slice dM mM lM] 27) = W1 at *
 have hA1:=hA.below hbB
 rcases (show M q = 0∨0 < M q∨M q < 0 by grind) with hm0 | hm0 | hm0
 ·refine (fO 0 W1 hA1 (by omega) hSm (nK hm0)).mono ?_
  rintro e w1 ⟨rfl,h1⟩
  replace hbB:=aB hbB h1
  clear h1 A0 A1 A2 hA1 hs2
  go_wp2
  go_ret
  have hL':=hL.below (by omega) hbB
  exact ⟨_,_,_,by simp [uU,hm0],aF hbB hv,(World.frozen?_of_block (hbB.block bq hbq)).trans hvf,hL',.inl ⟨hm0,rfl,rfl⟩,hbB.mono (by omega),fun k hk _ _=>hbB.block k hk,fun g hg=>.inl hg⟩
 focus
  refine (fO (1) W1 hA1 (by omega) hSm (kW hm0)).mono ?_
  rintro e w1 ⟨rfl,h1⟩
  have hs3:=Below.size h1
  replace hbB:=aB hbB h1
  replace A0:=A0.below h1
  replace A1:=A1.below h1
  replace A2:=A2.below h1
  replace hA1:=hA1.below h1
  clear h1
  cases mx
  focus
   have hAs:asks false (M q) = true:=by unfold asks;simp [hm0]
  rotate_left
  focus
   have hAs:asks true (M q) = false:=by unfold asks;simp [hm0]
  rotate_left
 rotate_left
 rotate_left
 focus
  refine (fO (-1) W1 hA1 (by omega) hSm (kX hm0)).mono ?_
  rintro e w1 ⟨rfl,h1⟩
  have hs3:=Below.size h1
  replace hbB:=aB hbB h1
  replace A0:=A0.below h1
  replace A1:=A1.below h1
  replace A2:=A2.below h1
  replace hA1:=hA1.below h1
  clear h1
  cases mx
  focus
   have hAs:asks false (M q) = false:=by unfold asks;simp [show ¬ 0 < M q by grind]
  rotate_left
  focus
   have hAs:asks true (M q) = true:=by unfold asks;simp [show ¬ 0 < M q by grind]
  rotate_left
 rotate_left
 iterate 2
  focus
   have hz:=aG w1 (.cells #[.bool hhi,.bool ph,.slice ah nh ch,.slice dh mh lh] 43)
   have y0:=A0 0 _ rfl
   have y1:=A0 1 _ rfl
   have y2:=A0 2 _ rfl
   have y3:=A0 3 _ rfl
   have y4:=A1 0 _ rfl
   have y5:=A1 1 _ rfl
   have y6:=A1 2 _ rfl
   have y7:=A1 3 _ rfl
   have y8:=aF hbB hp
   have z0:=aF hz y0
   have z1:=aF hz y1
   have z2:=aF hz y2
   have z3:=aF hz y3
   have z8:=aF hz y8
   clear hz
   go_wp2_with fail
   have hz:=aG w1 (.cells #[.bool hlo,.bool pl,.slice al nl cl,.slice dl ml ll] 43)
   have N:=aJ w1 #[.bool hlo,.bool pl,.slice al nl cl,.slice dl ml ll] 43
   have hsN:(w1.alloc (.cells #[.bool hlo,.bool pl,.slice al nl cl,.slice dl ml ll] 43)).heap.size = w1.heap.size + 1:=by simp
   have hbC:=aB hbB hz
   replace A2:=A2.below hz
   replace hA1:=hA1.below hz
   clear y0 y1 y2 y3 y4 y5 y6 y7 y8 z0 z1 z2 z3 z8 hz A0 A1
   generalize w1.alloc (.cells #[.bool hlo,.bool pl,.slice al nl cl,.slice dl ml ll] 43) = W3 at *
   have hX1:=hl.below hbC
   have hTw:=hT.below hbC
   have L3:=hL.below (by omega) hbC
   have m0:=A2 0 _ rfl
   have m1:=A2 1 _ rfl
   have m2:=A2 2 _ rfl
   have n0:=N 0 _ rfl
   have n1:=N 1 _ rfl
   have n2:=N 2 _ rfl
   have n3:=N 3 _ rfl
   have c0:=aF hbC hv
   have hneq:(Value.slice o1 n k1).ownBlock ≠ some bq:=hL.1
   have hrow:∀ g,(Value.slice o1 n k1).ownBlock = some g→B≤g∧g < w.heap.size:=fun g hg=>hL.lt g hg
   have hsB:=hbB.size
   have HBX:∀ w',Below W3.heap.size W3 w'→(w'.cell? ⟨bq,0,none⟩ = some (.slice o1 n k1)∧w'.cell? ⟨w.heap.size + 2,0,none⟩ = some (.bool pM)∧w'.cell? ⟨w.heap.size + 2,1,none⟩ = some (.slice aM nM cM)∧w'.cell? ⟨w.heap.size + 2,2,none⟩ = some (.slice dM mM lM)∧w'.cell? ⟨w1.heap.size,0,none⟩ = some (.bool hlo)∧w'.cell? ⟨w1.heap.size,1,none⟩ = some (.bool pl)∧w'.cell? ⟨w1.heap.size,2,none⟩ = some (.slice al nl cl)∧w'.cell? ⟨w1.heap.size,3,none⟩ = some (.slice dl ml ll)):=fun w' h=>⟨aF h c0,aF h m0,aF h m1,aF h m2,aF h n0,aF h n1,aF h n2,aF h n3⟩
   refine wp_region_noPanic (aU 7 HBX (by kernel_rfl) ?_)
   have hc0:Below W3.heap.size W3 W3.drew:=aK _
   generalize W3.drew = z0 at *
   refine wpAnyG.tT 0 (v:=.slice o1 n k1) (by decide) 7 (by kernel_rfl) (by rfl) ?y0 (HBX _ hc0) ?_
   case y0 =>
    rintro w' ⟨q0,q1,q2,q3,q4,q5,q6,q7⟩
    simp only [lgA,lgZ]
    go_simp
   simp only [lgA,lgZ,Act.put,lsA,lsZ,lsS]
   refine wpAnyG.tT 1 (v:=.agg #[.bool pM,.slice aM nM cM,.slice dM mM lM]) (by decide) 7 (by kernel_rfl) (by rfl) ?y1 (HBX _ hc0) ?_
   case y1 =>
    rintro w' ⟨q0,q1,q2,q3,q4,q5,q6,q7⟩
    simp only [lgA,lgZ,lgS]
    go_simp
   simp only [lgA,lgZ,lgS,Act.put,lsA,lsZ,lsS]
   refine wpAnyG.tT 2 (v:=.pointer (some ⟨w1.heap.size,1,none⟩)) (by decide) 7 (by kernel_rfl) (by rfl) ?y2 (HBX _ hc0) ?_
   case y2 =>
    rintro w' ⟨q0,q1,q2,q3,q4,q5,q6,q7⟩
    simp only [lgA,lgZ,lgS]
    go_simp
   simp only [lgA,lgZ,lgS,Act.put,lsA,lsZ,lsS]
   refine wpAnyG.tT 3 (v:=.agg #[.bool pl,.slice al nl cl,.slice dl ml ll]) (by decide) 7 (by kernel_rfl) (by rfl) ?y3 (HBX _ hc0) ?_
   case y3 =>
    rintro w' ⟨q0,q1,q2,q3,q4,q5,q6,q7⟩
    simp only [lgA,lgZ,lgS]
    go_simp
   simp only [lgA,lgZ,lgS,Act.put,lsA,lsZ,lsS]
   refine wpAnyG.one 4 (by kernel_rfl) (by decide) (by rfl) (fun K hK=>?_)
   simp only [lgA,lgZ,lgS]
   go_simp
   refine (zZ z0 (hA1.below hc0) (hX1.below hc0) (by omega) hSm hR1 (hTw.below hc0)).mono ?_
   rintro e z1 ⟨f2,d2,i2,j2,d3,i3,j3,rfl,G2,hk1⟩
   have hc1:Below W3.heap.size W3 z1:=aB hc0 hk1
   have hs4:=Below.size hc1
   dsimp only
   refine hK _ _ ⟨fun _=>HBX _ hc1,fun _=>trivial⟩ ?_
   clear hK K
   refine wpAnyG.one 5 (by kernel_rfl) (by decide) (by rfl) (fun K hK=>?_)
   simp only [lgA,lgZ,lgS]
   go_simp
   have hy:Below W3.heap.size W3 (z1.alloc (.cells #[.bool f2,.slice d2 i2 j2,.slice d3 i3 j3] 27)):=gK hc1
   refine hK _ _ ⟨fun _=>HBX _ hy,fun _=>trivial⟩ ?_
   clear hK K
   refine wpAnyG.one 6 (by kernel_rfl) (by decide) (by rfl) (fun K hK=>?_)
   simp only [lgA,lgZ,lgS]
   have hsz1:(z1.alloc (.cells #[.bool f2,.slice d2 i2 j2,.slice d3 i3 j3] 27)).heap.size = z1.heap.size + 1:=by simp
   have GE:EX (z1.alloc (.cells #[.bool f2,.slice d2 i2 j2,.slice d3 i3 j3] 27)) B bq f2 d2 i2 j2 d3 i3 j3 (M q * lo) S:=.inl (((((G2.below (aG _ _)).mono (B':=W3.heap.size) (by have:=hc0.size;omega)).le (by omega)).gx (R:=bq) (.inl (by have:=hbC.size;omega))).mono (by have:=hbC.size;omega))
   refine jD _ _ _ rfl B bq (.slice o1 n k1) n X S rfl (L3.below (by have:=hbC.size;omega) hy) z1.heap.size _ rfl f2 d2 i2 j2 d3 i3 j3 _ (fK (by rfl)) GE (by omega) (by have:=hbC.size;omega) (z1.heap.size + 1) (by simp) (by have:=hbC.size;omega) ?_
   intro gN capN w5 SN hg hat hlt5
   refine hK _ _ ⟨fun _=>⟨aP hg (aF hy c0) (hneq),aP hg (aF hy m0) (fun e=>by have:=hrow _ e;simp at this;omega),aP hg (aF hy m1) (fun e=>by have:=hrow _ e;simp at this;omega),aP hg (aF hy m2) (fun e=>by have:=hrow _ e;simp at this;omega),aP hg (aF hy n0) (fun e=>by have:=hrow _ e;simp at this;omega),aP hg (aF hy n1) (fun e=>by have:=hrow _ e;simp at this;omega),aP hg (aF hy n2) (fun e=>by have:=hrow _ e;simp at this;omega),aP hg (aF hy n3) (fun e=>by have:=hrow _ e;simp at this;omega)⟩,fun _=>trivial⟩ ?_
   clear hK K
   refine wpAnyG.one 7 (by kernel_rfl) (by decide) (by rfl) (fun K hK=>?_)
   simp only [lgA,lgZ,lgS]
   have v0:=aP hg (aF hy c0) hneq
   have v1:w5.frozen? ⟨bq,0,none⟩ = false:=(World.frozen?_of_block (hg.block bq (by have:=hbC.size;omega) (fun e=>hneq e.symm))).trans ((World.frozen?_of_block (hy.block bq (by have:=hbC.size;omega))).trans ((World.frozen?_of_block (hbC.block bq hbq)).trans hvf))
   go_simp
   refine hK _ _ ⟨fun h=>absurd h (by decide),fun _=>trivial⟩ ?_
   clear hK K
   refine wpAnyG.done (by kernel_rfl) (NoPanic.normal ?_)
   have O:Off bq w5 (w5.setCell ⟨bq,0,none⟩ (.slice (some ⟨gN,0,none⟩) (n + 1) capN)):=(Off.refl _ _).set 0 _
   have r1:=SN.off O hBq
   have r2:(w5.setCell ⟨bq,0,none⟩ (.slice (some ⟨gN,0,none⟩) (n + 1) capN)).cell? ⟨bq,0,none⟩ = some (.slice (some ⟨gN,0,none⟩) (n + 1) capN):=World.cell?_setCell_same _ _ _ v0
   have r3:(w5.setCell ⟨bq,0,none⟩ (.slice (some ⟨gN,0,none⟩) (n + 1) capN)).frozen? ⟨bq,0,none⟩ = false:=by rw [World.frozen?_setCell];exact v1
   have r4:(w5.setCell ⟨bq,0,none⟩ (.slice (some ⟨gN,0,none⟩) (n + 1) capN)).cell? ⟨w1.heap.size,0,none⟩ = some (.bool hlo):=(O.cell (by show w1.heap.size ≠ bq;omega)).trans (aP hg (aF hy n0) (fun e=>by have:=hrow _ e;simp at this;omega))
   have hbD:=aB hbC hy
   have r5:Below B w (w5.setCell ⟨bq,0,none⟩ (.slice (some ⟨gN,0,none⟩) (n + 1) capN)):=((hbD.mono (by omega)).trans (grown_below hg (by have:=hbD.size;omega) (fun k hk=>(hrow k hk).1))).trans (O.below hBq)
   have r6:∀ k,k < w.heap.size→k ≠ bq→some k ≠ (Value.slice o1 n k1).ownBlock→(w5.setCell ⟨bq,0,none⟩ (.slice (some ⟨gN,0,none⟩) (n + 1) capN)).heap[k]? = w.heap[k]?:=fun k hk h1 h2=>(O.block k h1).trans ((hg.block k (by have:=hbD.size;omega) h2).trans (hbD.block k hk))
   have r7:∀ g,(Value.slice (some ⟨gN,0,none⟩) (n + 1) capN).ownBlock = some g→(Value.slice o1 n k1).ownBlock = some g∨w.heap.size≤g:=fun g e=>by
    have e2:gN = g:=by simpa [Value.ownBlock] using e
    rcases hat with h | h
    ·left;rw [h,e2]
    ·right;have:=hbC.size;have:=hc1.size;omega
   have hneM:¬ M q = 0:=by grind
   clear HBX hg hat hlt5 SN GE G2 L3 O hy hc0 hc1 hk1 v0 v1 hbC hbD N A2 m0 m1 m2 n0 n1 n2 n3 c0 hA1 hX1 hTw
   generalize w5.setCell ⟨bq,0,none⟩ (.slice (some ⟨gN,0,none⟩) (n + 1) capN) = w6 at *
   go_wp2
   go_ret
   exact ⟨_,_,_,by simp [uU,hneM,hAs],r2,r3,r1,.inr ⟨hneM,rfl,by simp [hAs]⟩,r5,r6,r7⟩
 iterate 2
  focus
   have hz:=aG w1 (.cells #[.bool hhi,.bool ph,.slice ah nh ch,.slice dh mh lh] 43)
   have y0:=A0 0 _ rfl
   have y1:=A0 1 _ rfl
   have y2:=A0 2 _ rfl
   have y3:=A0 3 _ rfl
   have y4:=A1 0 _ rfl
   have y5:=A1 1 _ rfl
   have y6:=A1 2 _ rfl
   have y7:=A1 3 _ rfl
   have y8:=aF hbB hp
   have z0:=aF hz y0
   have z1:=aF hz y1
   have z2:=aF hz y2
   have z3:=aF hz y3
   have z8:=aF hz y8
   clear hz
   go_wp2_with fail
   have hz:=aG w1 (.cells #[.bool hhi,.bool ph,.slice ah nh ch,.slice dh mh lh] 43)
   have N:=aJ w1 #[.bool hhi,.bool ph,.slice ah nh ch,.slice dh mh lh] 43
   have hsN:(w1.alloc (.cells #[.bool hhi,.bool ph,.slice ah nh ch,.slice dh mh lh] 43)).heap.size = w1.heap.size + 1:=by simp
   have hbC:=aB hbB hz
   replace A2:=A2.below hz
   replace hA1:=hA1.below hz
   clear y0 y1 y2 y3 y4 y5 y6 y7 y8 z0 z1 z2 z3 z8 hz A0 A1
   generalize w1.alloc (.cells #[.bool hhi,.bool ph,.slice ah nh ch,.slice dh mh lh] 43) = W3 at *
   have hX1:=hh.below hbC
   have hTw:=hT.below hbC
   have L3:=hL.below (by omega) hbC
   have m0:=A2 0 _ rfl
   have m1:=A2 1 _ rfl
   have m2:=A2 2 _ rfl
   have n0:=N 0 _ rfl
   have n1:=N 1 _ rfl
   have n2:=N 2 _ rfl
   have n3:=N 3 _ rfl
   have c0:=aF hbC hv
   have hneq:(Value.slice o1 n k1).ownBlock ≠ some bq:=hL.1
   have hrow:∀ g,(Value.slice o1 n k1).ownBlock = some g→B≤g∧g < w.heap.size:=fun g hg=>hL.lt g hg
   have hsB:=hbB.size
   have HBX:∀ w',Below W3.heap.size W3 w'→(w'.cell? ⟨bq,0,none⟩ = some (.slice o1 n k1)∧w'.cell? ⟨w.heap.size + 2,0,none⟩ = some (.bool pM)∧w'.cell? ⟨w.heap.size + 2,1,none⟩ = some (.slice aM nM cM)∧w'.cell? ⟨w.heap.size + 2,2,none⟩ = some (.slice dM mM lM)∧w'.cell? ⟨w1.heap.size,0,none⟩ = some (.bool hhi)∧w'.cell? ⟨w1.heap.size,1,none⟩ = some (.bool ph)∧w'.cell? ⟨w1.heap.size,2,none⟩ = some (.slice ah nh ch)∧w'.cell? ⟨w1.heap.size,3,none⟩ = some (.slice dh mh lh)):=fun w' h=>⟨aF h c0,aF h m0,aF h m1,aF h m2,aF h n0,aF h n1,aF h n2,aF h n3⟩
   refine wp_region_noPanic (aU 7 HBX (by kernel_rfl) ?_)
   have hc0:Below W3.heap.size W3 W3.drew:=aK _
   generalize W3.drew = z0 at *
   refine wpAnyG.tT 0 (v:=.slice o1 n k1) (by decide) 7 (by kernel_rfl) (by rfl) ?y0 (HBX _ hc0) ?_
   case y0 =>
    rintro w' ⟨q0,q1,q2,q3,q4,q5,q6,q7⟩
    simp only [lgA,lgZ]
    go_simp
   simp only [lgA,lgZ,Act.put,lsA,lsZ,lsS]
   refine wpAnyG.tT 1 (v:=.agg #[.bool pM,.slice aM nM cM,.slice dM mM lM]) (by decide) 7 (by kernel_rfl) (by rfl) ?y1 (HBX _ hc0) ?_
   case y1 =>
    rintro w' ⟨q0,q1,q2,q3,q4,q5,q6,q7⟩
    simp only [lgA,lgZ,lgS]
    go_simp
   simp only [lgA,lgZ,lgS,Act.put,lsA,lsZ,lsS]
   refine wpAnyG.tT 2 (v:=.pointer (some ⟨w1.heap.size,1,none⟩)) (by decide) 7 (by kernel_rfl) (by rfl) ?y2 (HBX _ hc0) ?_
   case y2 =>
    rintro w' ⟨q0,q1,q2,q3,q4,q5,q6,q7⟩
    simp only [lgA,lgZ,lgS]
    go_simp
   simp only [lgA,lgZ,lgS,Act.put,lsA,lsZ,lsS]
   refine wpAnyG.tT 3 (v:=.agg #[.bool ph,.slice ah nh ch,.slice dh mh lh]) (by decide) 7 (by kernel_rfl) (by rfl) ?y3 (HBX _ hc0) ?_
   case y3 =>
    rintro w' ⟨q0,q1,q2,q3,q4,q5,q6,q7⟩
    simp only [lgA,lgZ,lgS]
    go_simp
   simp only [lgA,lgZ,lgS,Act.put,lsA,lsZ,lsS]
   refine wpAnyG.one 4 (by kernel_rfl) (by decide) (by rfl) (fun K hK=>?_)
   simp only [lgA,lgZ,lgS]
   go_simp
   refine (zZ z0 (hA1.below hc0) (hX1.below hc0) (by omega) hSm hR1 (hTw.below hc0)).mono ?_
   rintro e z1 ⟨f2,d2,i2,j2,d3,i3,j3,rfl,G2,hk1⟩
   have hc1:Below W3.heap.size W3 z1:=aB hc0 hk1
   have hs4:=Below.size hc1
   dsimp only
   refine hK _ _ ⟨fun _=>HBX _ hc1,fun _=>trivial⟩ ?_
   clear hK K
   refine wpAnyG.one 5 (by kernel_rfl) (by decide) (by rfl) (fun K hK=>?_)
   simp only [lgA,lgZ,lgS]
   go_simp
   have hy:Below W3.heap.size W3 (z1.alloc (.cells #[.bool f2,.slice d2 i2 j2,.slice d3 i3 j3] 27)):=gK hc1
   refine hK _ _ ⟨fun _=>HBX _ hy,fun _=>trivial⟩ ?_
   clear hK K
   refine wpAnyG.one 6 (by kernel_rfl) (by decide) (by rfl) (fun K hK=>?_)
   simp only [lgA,lgZ,lgS]
   have hsz1:(z1.alloc (.cells #[.bool f2,.slice d2 i2 j2,.slice d3 i3 j3] 27)).heap.size = z1.heap.size + 1:=by simp
   have GE:EX (z1.alloc (.cells #[.bool f2,.slice d2 i2 j2,.slice d3 i3 j3] 27)) B bq f2 d2 i2 j2 d3 i3 j3 (M q * hi) S:=.inl (((((G2.below (aG _ _)).mono (B':=W3.heap.size) (by have:=hc0.size;omega)).le (by omega)).gx (R:=bq) (.inl (by have:=hbC.size;omega))).mono (by have:=hbC.size;omega))
   refine jD _ _ _ rfl B bq (.slice o1 n k1) n X S rfl (L3.below (by have:=hbC.size;omega) hy) z1.heap.size _ rfl f2 d2 i2 j2 d3 i3 j3 _ (fK (by rfl)) GE (by omega) (by have:=hbC.size;omega) (z1.heap.size + 1) (by simp) (by have:=hbC.size;omega) ?_
   intro gN capN w5 SN hg hat hlt5
   refine hK _ _ ⟨fun _=>⟨aP hg (aF hy c0) (hneq),aP hg (aF hy m0) (fun e=>by have:=hrow _ e;simp at this;omega),aP hg (aF hy m1) (fun e=>by have:=hrow _ e;simp at this;omega),aP hg (aF hy m2) (fun e=>by have:=hrow _ e;simp at this;omega),aP hg (aF hy n0) (fun e=>by have:=hrow _ e;simp at this;omega),aP hg (aF hy n1) (fun e=>by have:=hrow _ e;simp at this;omega),aP hg (aF hy n2) (fun e=>by have:=hrow _ e;simp at this;omega),aP hg (aF hy n3) (fun e=>by have:=hrow _ e;simp at this;omega)⟩,fun _=>trivial⟩ ?_
   clear hK K
   refine wpAnyG.one 7 (by kernel_rfl) (by decide) (by rfl) (fun K hK=>?_)
   simp only [lgA,lgZ,lgS]
   have v0:=aP hg (aF hy c0) hneq
   have v1:w5.frozen? ⟨bq,0,none⟩ = false:=(World.frozen?_of_block (hg.block bq (by have:=hbC.size;omega) (fun e=>hneq e.symm))).trans ((World.frozen?_of_block (hy.block bq (by have:=hbC.size;omega))).trans ((World.frozen?_of_block (hbC.block bq hbq)).trans hvf))
   go_simp
   refine hK _ _ ⟨fun h=>absurd h (by decide),fun _=>trivial⟩ ?_
   clear hK K
   refine wpAnyG.done (by kernel_rfl) (NoPanic.normal ?_)
   have O:Off bq w5 (w5.setCell ⟨bq,0,none⟩ (.slice (some ⟨gN,0,none⟩) (n + 1) capN)):=(Off.refl _ _).set 0 _
   have r1:=SN.off O hBq
   have r2:(w5.setCell ⟨bq,0,none⟩ (.slice (some ⟨gN,0,none⟩) (n + 1) capN)).cell? ⟨bq,0,none⟩ = some (.slice (some ⟨gN,0,none⟩) (n + 1) capN):=World.cell?_setCell_same _ _ _ v0
   have r3:(w5.setCell ⟨bq,0,none⟩ (.slice (some ⟨gN,0,none⟩) (n + 1) capN)).frozen? ⟨bq,0,none⟩ = false:=by rw [World.frozen?_setCell];exact v1
   have r4:(w5.setCell ⟨bq,0,none⟩ (.slice (some ⟨gN,0,none⟩) (n + 1) capN)).cell? ⟨w1.heap.size,0,none⟩ = some (.bool hhi):=(O.cell (by show w1.heap.size ≠ bq;omega)).trans (aP hg (aF hy n0) (fun e=>by have:=hrow _ e;simp at this;omega))
   have hbD:=aB hbC hy
   have r5:Below B w (w5.setCell ⟨bq,0,none⟩ (.slice (some ⟨gN,0,none⟩) (n + 1) capN)):=((hbD.mono (by omega)).trans (grown_below hg (by have:=hbD.size;omega) (fun k hk=>(hrow k hk).1))).trans (O.below hBq)
   have r6:∀ k,k < w.heap.size→k ≠ bq→some k ≠ (Value.slice o1 n k1).ownBlock→(w5.setCell ⟨bq,0,none⟩ (.slice (some ⟨gN,0,none⟩) (n + 1) capN)).heap[k]? = w.heap[k]?:=fun k hk h1 h2=>(O.block k h1).trans ((hg.block k (by have:=hbD.size;omega) h2).trans (hbD.block k hk))
   have r7:∀ g,(Value.slice (some ⟨gN,0,none⟩) (n + 1) capN).ownBlock = some g→(Value.slice o1 n k1).ownBlock = some g∨w.heap.size≤g:=fun g e=>by
    have e2:gN = g:=by simpa [Value.ownBlock] using e
    rcases hat with h | h
    ·left;rw [h,e2]
    ·right;have:=hbC.size;have:=hc1.size;omega
   have hneM:¬ M q = 0:=by grind
   clear HBX hg hat hlt5 SN GE G2 L3 O hy hc0 hc1 hk1 v0 v1 hbC hbD N A2 m0 m1 m2 n0 n1 n2 n3 c0 hA1 hX1 hTw
   generalize w5.setCell ⟨bq,0,none⟩ (.slice (some ⟨gN,0,none⟩) (n + 1) capN) = w6 at *
   go_wp2
   go_ret
   exact ⟨_,_,_,by simp [uU,hneM,hAs],r2,r3,r1,.inr ⟨hneM,rfl,by simp [hAs]⟩,r5,r6,r7⟩
theorem pV (P:Prob) (Y:Nat→Rat) (q:Nat):uU P.mx (mlt P Y q) (phl P q) (phh P q) = true↔okq P Y q:=by
 unfold uU okq bhas
 by_cases h:mlt P Y q = 0
 ·simp [h]
 ·simp [h]
def AI (P:Prob) (Y:Nat→Rat) (B bq pb S D:Nat) (E:Int) (q:Nat) (w w':World):Prop :=
 ∃ (v:Value) (n:Nat) (X:Nat→Rat),w'.cell? ⟨bq,0,none⟩ = some v∧w'.frozen? ⟨bq,0,none⟩ = false∧MX w' B bq v n X S∧v.ownBlock ≠ some pb∧n≤q + 1∧(∀ i,i < n→Wd D E (X i))∧aQ X n = P.k + aQ (prp P Y) q∧(∀ i,i < q→okq P Y i)∧Below B w w'
theorem AI.below {P:Prob} {Y:Nat→Rat} {B bq pb S D:Nat} {E:Int} {q:Nat} {w w1 w2:World} (h:AI P Y B bq pb S D E q w w1) (hB:B≤w1.heap.size) (hb:Below w1.heap.size w1 w2):AI P Y B bq pb S D E q w w2:=by
 obtain ⟨v,n,X,h1,h2,h3,h4,h5,h6,h7,h8,h9⟩:=h
 exact ⟨v,n,X,aF hb h1,(World.frozen?_of_block (hb.block bq (World.block_lt_of_cell? _ _ h1))).trans h2,h3.below hB hb,h4,h5,h6,h7,h8,h9.trans (hb.mono hB)⟩
theorem AI.step {P:Prob} {Y:Nat→Rat} {B bq pb S D:Nat} {E:Int} {q:Nat} {w w1 w2:World} {v v':Value} {n n':Nat} {X X':Nat→Rat} (h4:v.ownBlock ≠ some pb) (h5:n≤q + 1) (h6:∀ i,i < n→Wd D E (X i)) (h7:aQ X n = P.k + aQ (prp P Y) q) (h8:∀ i,i < q→okq P Y i) (h9:Below B w w1)
 (r:LitR P.mx (mlt P Y q) (plo P q) (phi P q) B bq v n X S w1 w2 v' n' X') (hok:okq P Y q) (hW:Wd D E (prp P Y q)) (hpb:pb < w1.heap.size):AI P Y B bq pb S D E (q + 1) w w2:=by
 have hN:v'.ownBlock ≠ some pb:=fun e=>by
  rcases r.own pb e with h | h
  ·exact h4 h
  ·omega
 refine ⟨v',n',X',r.box,r.fr,r.ls,hN,?_,?_,?_,?_,h9.trans r.bel⟩
 ·rcases r.st with ⟨_,e,_⟩ | ⟨_,e,_⟩ <;> omega
 ·rcases r.st with ⟨_,e,e2⟩ | ⟨_,e,e2⟩
  ·rw [e,e2];exact h6
  ·rw [e,e2]
   intro i hi
   by_cases hlt:i < n
   ·simp only [hlt,if_true];exact h6 i hlt
   ·simp only [hlt,if_false];exact hW
 ·rw [aS,← Rat.add_assoc,← h7]
  rcases r.st with ⟨e0,e,e2⟩ | ⟨_,e,e2⟩
  ·rw [e,e2]
   unfold prp
   rw [e0,Rat.zero_mul,Rat.add_zero]
  ·rw [e,e2,aS]
   simp only [Nat.lt_irrefl,if_false]
   rw [bG (Y:=X) fun i hi=>by simp only [hi,if_true]]
   rfl
 ·intro i hi
  rcases (by omega:i < q∨i = q) with h | rfl
  ·exact h8 i h
  ·exact hok
def AllR (P:Prob) (Y:Nat→Rat) (B bq S D:Nat) (E:Int) (w w':World) (b:Bool):Prop :=
 Below B w w'∧((b = true∧(∀ q,q < P.rn + P.vn→okq P Y q)∧∃ (v:Value) (n:Nat) (X:Nat→Rat),w'.cell? ⟨bq,0,none⟩ = some v∧MX w' B bq v n X S∧n≤P.rn + P.vn + 1∧(∀ i,i < n→Wd D E (X i))∧aQ X n = P.k + aQ (prp P Y) (P.rn + P.vn))∨(b = false∧¬ ∀ q,q < P.rn + P.vn→okq P Y q))
theorem AI.all {P:Prob} {Y:Nat→Rat} {B bq pb S D:Nat} {E:Int} {w w1:World} (h:AI P Y B bq pb S D E (P.rn + P.vn) w w1):AllR P Y B bq S D E w w1 true:=by
 obtain ⟨v,n,X,h1,_,h3,_,h5,h6,h7,h8,h9⟩:=h
 exact ⟨h9,.inl ⟨rfl,h8,v,n,X,h1,h3,h5,h6,h7⟩⟩
theorem aB6 {w w':World} {mx:Bool} {m lo hi:Rat} {B bq pb:Nat} {v v':Value} {n n':Nat} {X X':Nat→Rat} {S:Nat} {cs:List Value} (h:BoxC w pb cs) (r:LitR mx m lo hi B bq v n X S w w' v' n' X') (h1:pb < w.heap.size) (h2:pb ≠ bq) (h3:v.ownBlock ≠ some pb):BoxC w' pb cs :=
 fun i u hu=>(World.cell?_of_block (r.kp pb h1 h2 (fun e=>h3 e.symm))).trans (h i u hu)
theorem allP (P:Prob) {Y:Nat→Rat} {bm bp bq B:Nat} {ma:Option Addr} {mc:Nat} {Sm S D:Nat} {E:Int} (w0 w:World) (hP:PQ w0 P) (hm:w0.cell? ⟨bm,0,none⟩ = some (.slice ma (P.rn + P.vn) mc)) (hM:LQ w0 ma (P.rn + P.vn) (mlt P Y) (fun _=>Sm)) (hp:w0.cell? ⟨bp,0,none⟩ = some (.bool P.mx)) (hT:TB w0)
 (h0:w0.heap.size≤B) (hb0:Below w0.heap.size w0 w) (hBq:B≤bq) (hBw:B≤w.heap.size) (hI:AI P Y B bq w.heap.size S D E 0 w w) (hW:∀ q,q < P.rn + P.vn→Wd D E (prp P Y q)) (hSm:1≤Sm) (hSR:Sm + P.K≤S) (hS6:S≤6000000) (hK:P.K≤1048576) :
 Calls Tryz.prog 118 #[P.val,.func (.func 119) #[] #[.pointer (some ⟨bm,0,none⟩),.pointer (some ⟨bp,0,none⟩),.pointer (some ⟨bq,0,none⟩)]] w fun e w'=>∃ b,e = .returned (.bool b)∧AllR P Y B bq S D E w w' b:=by
 have HW:Hid (∀ q,q < P.rn + P.vn→Wd D E (prp P Y q)):=hW
 have hall:=hP.all
 have hrn:P.rn≤1048576:=by have:=aT P.ZR P.rn;omega
 have hvn:P.vn≤1048576:=by have:=aT P.ZV P.vn;omega
 have hbqw:bq < w.heap.size:=by
  obtain ⟨v,n,X,h1,_⟩:=hI
  exact World.block_lt_of_cell? _ _ h1
 clear hW
 unfold Prob.val
 have Pb:=aJ w #[.bool P.mx,.string P.nm,.bool P.p,.slice P.a P.na P.ca,.slice P.d P.nd P.cd,.slice P.va P.vn P.vc,.slice P.ra P.rn P.rc] 31
 have hz:=aG w (.cells #[.bool P.mx,.string P.nm,.bool P.p,.slice P.a P.na P.ca,.slice P.d P.nd P.cd,.slice P.va P.vn P.vc,.slice P.ra P.rn P.rc] 31)
 have I0:=hI.below hBw hz
 have hsA:w.heap.size + 1≤(w.alloc (.cells #[.bool P.mx,.string P.nm,.bool P.p,.slice P.a P.na P.ca,.slice P.d P.nd P.cd,.slice P.va P.vn P.vc,.slice P.ra P.rn P.rc] 31)).heap.size:=by simp
 clear hz hI
 go_enter Tryz.func118,Tryz.ntmps118
 go_wp2
 generalize w.alloc (.cells #[.bool P.mx,.string P.nm,.bool P.p,.slice P.a P.na P.ca,.slice P.d P.nd P.cd,.slice P.va P.vn P.vc,.slice P.ra P.rn P.rc] 31) = W0 at *
 go_loopw [12] (fun s wr=>∃ (i:Nat),i≤P.rn∧s = .int .i64 i∧AI P Y B bq w.heap.size S D E i w wr∧BoxC wr w.heap.size (#[.bool P.mx,.string P.nm,.bool P.p,.slice P.a P.na P.ca,.slice P.d P.nd P.cd,.slice P.va P.vn P.vc,.slice P.ra P.rn P.rc]).toList∧w.heap.size + 1≤wr.heap.size) (fun t _=>P.rn - (intOf t).toNat)
 case atStart=>exact ⟨0,Nat.zero_le _,rfl,I0,Pb,hsA⟩
 case round =>
  clear I0 Pb hsA
  obtain ⟨i,hi,rfl,I,Pb,hsr⟩:=hrel
  have hbw:=hb0.trans ((show Below B w wr by obtain ⟨_,_,_,_,_,_,_,_,_,_,_,h9⟩:=I;exact h9).mono h0)
  by_cases hlt:i < P.rn
  ·have hkI:(i:Int) < (P.rn:Int):=by omega
   rcases hP.r with h00 | ⟨rb,ro,hra,hew⟩
   ·omega
   have hR:=hew i hlt
   have hZi:P.ZR i≤P.K:=by have:=bI (Z:=P.ZR) hlt;omega
   have hK1:1≤P.K:=by have:=hR.s1;omega
   obtain ⟨nmR,enm⟩:∃ nmR,nmR = (P.R i).nm:=⟨_,rfl⟩
   obtain ⟨nt,ent⟩:∃ nt,nt = (P.R i).nt:=⟨_,rfl⟩
   obtain ⟨hl,ehl⟩:∃ hl,hl = phl P i:=⟨_,rfl⟩
   obtain ⟨hh,ehh⟩:∃ hh,hh = phh P i:=⟨_,rfl⟩
   have r0:=hR.nm
   obtain ⟨ta,tc,Zt,r1,_,_,_⟩:=hR.terms
   have r2:=hR.hlo
   obtain ⟨pl,al,nl,cl,dl,ml,ll,r3,r4,r5,hlo⟩:=hR.lo
   have r6:=hR.hhi
   obtain ⟨ph,ah,nh,ch,dh,mh,lh,r7,r8,r9,hhi⟩:=hR.hi
   have e1:phl P i = (P.R i).hlo:=if_pos hlt
   have e2:phh P i = (P.R i).hhi:=if_pos hlt
   have e3:plo P i = (P.R i).lo:=if_pos hlt
   have e4:phi P i = (P.R i).hi:=if_pos hlt
   rw [← enm] at r0
   rw [← ent] at r1
   rw [← e1,← ehl] at r2
   rw [← e2,← ehh] at r6
   rw [← e3] at hlo
   rw [← e4] at hhi
   replace r0:=aF hbw r0;replace r1:=aF hbw r1;replace r2:=aF hbw r2;replace r3:=aF hbw r3;replace r4:=aF hbw r4;replace r5:=aF hbw r5;replace r6:=aF hbw r6;replace r7:=aF hbw r7;replace r8:=aF hbw r8;replace r9:=aF hbw r9
   have HE:Hid (hl = phl P i∧hh = phh P i):=⟨ehl,ehh⟩
   have hkI2:(i:Int) * 10 = ((i * 10:Nat):Int):=by omega
   have hra':P.ra = some ⟨rb,ro,none⟩:=hra
   clear hew hR enm ent ehl ehh hra e1 e2 e3 e4
   have N:=aJ wr #[.string nmR,.slice ta nt tc,.bool hl,.bool pl,.slice al nl cl,.slice dl ml ll,.bool hh,.bool ph,.slice ah nh ch,.slice dh mh lh] 72
   have n2:=N 2 _ rfl
   have n3:=N 3 _ rfl
   have n4:=N 4 _ rfl
   have n5:=N 5 _ rfl
   have n6:=N 6 _ rfl
   have n7:=N 7 _ rfl
   have n8:=N 8 _ rfl
   have n9:=N 9 _ rfl
   go_wp2_with fail
   have hz:=aG wr (.cells #[.string nmR,.slice ta nt tc,.bool hl,.bool pl,.slice al nl cl,.slice dl ml ll,.bool hh,.bool ph,.slice ah nh ch,.slice dh mh lh] 72)
   have hsz:wr.heap.size≤(wr.alloc (.cells #[.string nmR,.slice ta nt tc,.bool hl,.bool pl,.slice al nl cl,.slice dl ml ll,.bool hh,.bool ph,.slice ah nh ch,.slice dh mh lh] 72)).heap.size:=by simp
   replace I:=I.below (by omega) hz
   replace Pb:=Pb.below hz
   replace hbw:=hbw.trans (hz.mono (by have:=hb0.size;omega))
   clear r0 r1 r2 r3 r4 r5 r6 r7 r8 r9 hz N n2 n3 n4 n5 n6 n7 n8 n9
   generalize wr.alloc (.cells #[.string nmR,.slice ta nt tc,.bool hl,.bool pl,.slice al nl cl,.slice dl ml ll,.bool hh,.bool ph,.slice ah nh ch,.slice dh mh lh] 72) = W2 at *
   obtain ⟨v,n,X,h1,h2,h3,h4,h5,h6,h7,h8,h9⟩:=I
   refine (yS (q:=i) (R:=P.K) W2 rfl (aF hbw hm) (hM.below hbw) (by omega) (aF hbw hp) h1 h2 h3 hBq ((hlo.up hZi).below hbw) ((hhi.up hZi).below hbw) hSm hK1 hSR hS6 (by omega) (hT.below hbw)).mono ?_
   rintro e w3 ⟨v',n',X',rfl,HR⟩
   have Pb3:=aB6 Pb HR (by omega) (by omega) h4
   have hs3:W2.heap.size≤w3.heap.size:=HR.bel.size
   obtain ⟨b,eb⟩:∃ b,b = uU P.mx (mlt P Y i) hl hh:=⟨_,rfl⟩
   rw [← eb]
   have EB:Hid (b = uU P.mx (mlt P Y i) hl hh):=eb
   clear eb
   cases b
   ·have hno:¬ ∀ q,q < P.rn + P.vn→okq P Y q:=fun h=>by
     have h2:=(pV P Y i).2 (h i (by omega))
     rw [← HE.out.1,← HE.out.2,← EB.out] at h2
     cases h2
    have HF:AllR P Y B bq S D E w w3 false:=⟨h9.trans HR.bel,.inr ⟨rfl,hno⟩⟩
    clear HR h1 h2 h3 h6 h7 h8 h9 Pb Pb3
    go_wp2
    go_ret
    exact ⟨_,rfl,HF⟩
   ·have hok:okq P Y i:=(pV P Y i).1 (by rw [← HE.out.1,← HE.out.2,← EB.out])
    have I3:=AI.step h4 h5 h6 h7 h8 h9 HR hok (HW.out i (by omega)) (by omega)
    clear HR h1 h2 h3 h6 h7 h8 h9 Pb
    try rw [← hra']
    clear hra'
    go_wp2
    go_roundw
    case rel=>first | exact ⟨i + 1,by omega,by go_num,I3,Pb3,by omega⟩ | ((repeat apply Exists.intro);refine ⟨?_,rfl⟩;exact ⟨i + 1,by omega,by go_num,I3,Pb3,by omega⟩)
    case measure=>simp [intOf];omega
  ·have hkI:¬ (i:Int) < (P.rn:Int):=by omega
   obtain rfl:i = P.rn:=by omega
   have q5:=Pb 5 _ rfl
   clear hbw
   go_wp2
   clear q5
   go_loopw [29] (fun s wr=>∃ (j:Nat),j≤P.vn∧s = .int .i64 j∧AI P Y B bq w.heap.size S D E (P.rn + j) w wr∧BoxC wr w.heap.size (#[.bool P.mx,.string P.nm,.bool P.p,.slice P.a P.na P.ca,.slice P.d P.nd P.cd,.slice P.va P.vn P.vc,.slice P.ra P.rn P.rc]).toList∧w.heap.size + 1≤wr.heap.size) (fun t _=>P.vn - (intOf t).toNat)
   case atStart=>exact ⟨0,Nat.zero_le _,rfl,I,Pb,hsr⟩
   case round =>
    clear I Pb hsr
    obtain ⟨j,hj,rfl,I,Pb,hsr⟩:=hrel
    have hbw:=hb0.trans ((show Below B w wr by obtain ⟨_,_,_,_,_,_,_,_,_,_,_,h9⟩:=I;exact h9).mono h0)
    by_cases hlt:j < P.vn
    ·have hkI:(j:Int) < (P.vn:Int):=by omega
     rcases hP.v with h00 | ⟨bv,ov,hva,hev⟩
     ·omega
     have hV:=hev j hlt
     have hZi:P.ZV j≤P.K:=by have:=bI (Z:=P.ZV) hlt;omega
     have hK1:1≤P.K:=by have:=hV.s1;omega
     obtain ⟨nmV,enm⟩:∃ nmV,nmV = (P.V j).nm:=⟨_,rfl⟩
     obtain ⟨hl,ehl⟩:∃ hl,hl = phl P (P.rn + j):=⟨_,rfl⟩
     obtain ⟨hh,ehh⟩:∃ hh,hh = phh P (P.rn + j):=⟨_,rfl⟩
     obtain ⟨wh,ewh⟩:∃ wh,wh = (P.V j).whole:=⟨_,rfl⟩
     have r0:=hV.nm
     obtain ⟨pO,aO,nO,cO,dO,mO,lO,r1,r2,r3,_⟩:=hV.obj
     have r4:=hV.hlo
     obtain ⟨pl,al,nl,cl,dl,ml,ll,r5,r6,r7,hlo⟩:=hV.lo
     have r8:=hV.hhi
     obtain ⟨ph,ah,nh,ch,dh,mh,lh,r9,r10,r11,hhi⟩:=hV.hi
     have r12:=hV.whole
     have hno:¬ P.rn + j < P.rn:=by omega
     have e1:phl P (P.rn + j) = (P.V j).hlo:=by unfold phl;rw [if_neg hno,Nat.add_sub_cancel_left]
     have e2:phh P (P.rn + j) = (P.V j).hhi:=by unfold phh;rw [if_neg hno,Nat.add_sub_cancel_left]
     have e3:plo P (P.rn + j) = (P.V j).lo:=by unfold plo;rw [if_neg hno,Nat.add_sub_cancel_left]
     have e4:phi P (P.rn + j) = (P.V j).hi:=by unfold phi;rw [if_neg hno,Nat.add_sub_cancel_left]
     rw [← enm] at r0
     rw [← e1,← ehl] at r4
     rw [← e2,← ehh] at r8
     rw [← ewh] at r12
     rw [← e3] at hlo
     rw [← e4] at hhi
     replace r0:=aF hbw r0;replace r1:=aF hbw r1;replace r2:=aF hbw r2;replace r3:=aF hbw r3;replace r4:=aF hbw r4;replace r5:=aF hbw r5;replace r6:=aF hbw r6;replace r7:=aF hbw r7;replace r8:=aF hbw r8;replace r9:=aF hbw r9;replace r10:=aF hbw r10;replace r11:=aF hbw r11;replace r12:=aF hbw r12
     have HE:Hid (hl = phl P (P.rn + j)∧hh = phh P (P.rn + j)):=⟨ehl,ehh⟩
     have hkI2:(j:Int) * 13 = ((j * 13:Nat):Int):=by omega
     have hwr:IntKind.i64.wrap ((P.rn:Int) + (j:Int)) = (P.rn:Int) + (j:Int):=by rw [IntKind.wrap_i64];omega
     have hva':P.va = some ⟨bv,ov,none⟩:=hva
     have hz:=aG wr (.cells #[.string nmV,.bool pO,.slice aO nO cO,.slice dO mO lO,.bool hl,.bool pl,.slice al nl cl,.slice dl ml ll,.bool hh,.bool ph,.slice ah nh ch,.slice dh mh lh,.bool wh] 45)
     have q6:=(Pb.below hz) 6 _ rfl
     clear hev hV enm ehl ehh ewh hva e1 e2 e3 e4 hno
     go_wp2_with fail
     have hsz:wr.heap.size≤(wr.alloc (.cells #[.string nmV,.bool pO,.slice aO nO cO,.slice dO mO lO,.bool hl,.bool pl,.slice al nl cl,.slice dl ml ll,.bool hh,.bool ph,.slice ah nh ch,.slice dh mh lh,.bool wh] 45)).heap.size:=by simp
     replace I:=I.below (by omega) hz
     replace Pb:=Pb.below hz
     replace hbw:=hbw.trans (hz.mono (by have:=hb0.size;omega))
     clear r0 r1 r2 r3 r4 r5 r6 r7 r8 r9 r10 r11 r12 hz q6
     generalize wr.alloc (.cells #[.string nmV,.bool pO,.slice aO nO cO,.slice dO mO lO,.bool hl,.bool pl,.slice al nl cl,.slice dl ml ll,.bool hh,.bool ph,.slice ah nh ch,.slice dh mh lh,.bool wh] 45) = W2 at *
     obtain ⟨v,n,X,h1,h2,h3,h4,h5,h6,h7,h8,h9⟩:=I
     refine (yS (q:=P.rn + j) (R:=P.K) W2 (by simp) (aF hbw hm) (hM.below hbw) (by omega) (aF hbw hp) h1 h2 h3 hBq ((hlo.up hZi).below hbw) ((hhi.up hZi).below hbw) hSm hK1 hSR hS6 (by omega) (hT.below hbw)).mono ?_
     rintro e w3 ⟨v',n',X',rfl,HR⟩
     have Pb3:=aB6 Pb HR (by omega) (by omega) h4
     have hs3:W2.heap.size≤w3.heap.size:=HR.bel.size
     obtain ⟨b,eb⟩:∃ b,b = uU P.mx (mlt P Y (P.rn + j)) hl hh:=⟨_,rfl⟩
     rw [← eb]
     have EB:Hid (b = uU P.mx (mlt P Y (P.rn + j)) hl hh):=eb
     clear eb
     cases b
     ·have hno:¬ ∀ q,q < P.rn + P.vn→okq P Y q:=fun h=>by
       have h2:=(pV P Y (P.rn + j)).2 (h (P.rn + j) (by omega))
       rw [← HE.out.1,← HE.out.2,← EB.out] at h2
       cases h2
      have HF:AllR P Y B bq S D E w w3 false:=⟨h9.trans HR.bel,.inr ⟨rfl,hno⟩⟩
      clear HR h1 h2 h3 h6 h7 h8 h9 Pb Pb3
      go_wp2
      go_ret
      exact ⟨_,rfl,HF⟩
     ·have hok:okq P Y (P.rn + j):=(pV P Y (P.rn + j)).1 (by rw [← HE.out.1,← HE.out.2,← EB.out])
      have I3:=AI.step h4 h5 h6 h7 h8 h9 HR hok (HW.out (P.rn + j) (by omega)) (by omega)
      clear HR h1 h2 h3 h6 h7 h8 h9 Pb
      try rw [← hva']
      clear hva'
      go_wp2
      go_roundw
      case rel=>first | exact ⟨j + 1,by omega,by go_num,I3,Pb3,by omega⟩ | ((repeat apply Exists.intro);refine ⟨?_,rfl⟩;exact ⟨j + 1,by omega,by go_num,I3,Pb3,by omega⟩)
      case measure=>simp [intOf];omega
    ·have hkI:¬ (j:Int) < (P.vn:Int):=by omega
     obtain rfl:j = P.vn:=by omega
     have HF:=I.all
     clear I Pb
     go_wp2
     go_ret
     exact .inr ⟨rfl,HF⟩
def aO8 (P:Prob) (Y:Nat→Rat) (ny:Nat) (eS eB:Value) (w:World) (e:Ending) (w':World):Prop :=
 Below w.heap.size w w'∧((ny ≠ P.rn∧e = .returned (.tuple #[.agg #[.bool false,.slice none 0 0,.slice none 0 0],eS]))∨(ny = P.rn∧¬ okS P Y∧e = .returned (.tuple #[.agg #[.bool false,.slice none 0 0,.slice none 0 0],eB])) ∨
  (ny = P.rn∧okS P Y∧∃ f c n1 k c' n' k',e = .returned (.tuple #[.agg #[.bool f,.slice c n1 k,.slice c' n' k'],.nilIface])∧GR w' w.heap.size f c n1 k c' n' k' (pvS P Y) 2097160))
theorem oI (P:Prob) {ya:Option Addr} {ny yc:Nat} {Y:Nat→Rat} {Zy:Nat→Nat} {Ky:Nat} (w:World) (hP:PQ w P) (hy:LQ w ya ny Y Zy) (hzy:∀ i,i < ny→1≤Zy i∧SzR (Y i) (Zy i)) (hty:tot Zy ny≤Ky) (hK:P.K + Ky≤1048576) (hT:TB w) {eS eB:Value} (ES:Errs w 4 eS) (EB:Errs w 7 eB) :
 Calls Tryz.prog 86 #[P.val,.slice ya ny yc] w fun e w'=>aO8 P Y ny eS eB w e w':=by
 unfold Prob.val
 have Pb:=aJ w #[.bool P.mx,.string P.nm,.bool P.p,.slice P.a P.na P.ca,.slice P.d P.nd P.cd,.slice P.va P.vn P.vc,.slice P.ra P.rn P.rc] 31
 have hz0:=aG w (.cells #[.bool P.mx,.string P.nm,.bool P.p,.slice P.a P.na P.ca,.slice P.d P.nd P.cd,.slice P.va P.vn P.vc,.slice P.ra P.rn P.rc] 31)
 have hs0:(w.alloc (.cells #[.bool P.mx,.string P.nm,.bool P.p,.slice P.a P.na P.ca,.slice P.d P.nd P.cd,.slice P.va P.vn P.vc,.slice P.ra P.rn P.rc] 31)).heap.size = w.heap.size + 1:=by simp
 have R0:=aN (w.alloc (.cells #[.bool P.mx,.string P.nm,.bool P.p,.slice P.a P.na P.ca,.slice P.d P.nd P.cd,.slice P.va P.vn P.vc,.slice P.ra P.rn P.rc] 31)) (.bool false) (.slice none 0 0) (.slice none 0 0) 27
 have hz1:=aG (w.alloc (.cells #[.bool P.mx,.string P.nm,.bool P.p,.slice P.a P.na P.ca,.slice P.d P.nd P.cd,.slice P.va P.vn P.vc,.slice P.ra P.rn P.rc] 31)) (.cells #[.bool false,.slice none 0 0,.slice none 0 0] 27)
 have hs1:((w.alloc (.cells #[.bool P.mx,.string P.nm,.bool P.p,.slice P.a P.na P.ca,.slice P.d P.nd P.cd,.slice P.va P.vn P.vc,.slice P.ra P.rn P.rc] 31)).alloc (.cells #[.bool false,.slice none 0 0,.slice none 0 0] 27)).heap.size = w.heap.size + 2:=by simp
 rw [hs0] at R0
 replace Pb:=Pb.below hz1
 have hb0:=aB hz0 hz1
 clear hz0 hz1 hs0
 have hgS:4 < w.heap.size:=World.block_lt_of_cell? _ _ ES.1
 have hgB:7 < w.heap.size:=World.block_lt_of_cell? _ _ EB.1
 have p0:=Pb 0 _ rfl
 have p1:=Pb 1 _ rfl
 have p2:=Pb 2 _ rfl
 have p3:=Pb 3 _ rfl
 have p4:=Pb 4 _ rfl
 have p5:=Pb 5 _ rfl
 have p6:=Pb 6 _ rfl
 go_enter Tryz.func86,Tryz.ntmps86
 by_cases hny:ny = P.rn
 ·subst hny
  have hall:=hP.all
  obtain ⟨HR,⟨E,E1,E2,E3,E4⟩⟩:=hP.parts (fun i hi=>(hzy i hi).2) hty (by omega)
  have HRr:Hid (∀ j,j < P.vn→∀ i k,(i < P.rn∧k≤(P.R i).nt∨i≤P.rn∧k = 0)→SzR (rst P Y j i k) (P.K + Ky + 4)):=HR
  have HE4:Hid (∀ q,q < P.rn + P.vn→Wd (P.K + P.K + Ky + 4) E (prp P Y q)):=E4
  have HE:Hid (0 < E∧E < pw (P.K + P.K + Ky + 4)∧Wd (P.K + P.K + Ky + 4) E P.k):=⟨E1,E2,E3⟩
  have HZY:Hid (∀ i,i < P.rn→1≤Zy i∧Zy i≤Ky):=fun i hi=>⟨(hzy i hi).1,by have:=bI (Z:=Zy) hi;omega⟩
  have hrn:P.rn≤1048576:=by have:=aT P.ZR P.rn;omega
  have hvn:P.vn≤1048576:=by have:=aT P.ZV P.vn;omega
  have hrv:P.rn + P.vn≤1048576:=by have:=aT P.ZV P.vn;have:=aT P.ZR P.rn;omega
  clear HR E1 E2 E3 E4 hzy hty
  go_wp2_with fail
  generalize (w.alloc (.cells #[.bool P.mx,.string P.nm,.bool P.p,.slice P.a P.na P.ca,.slice P.d P.nd P.cd,.slice P.va P.vn P.vc,.slice P.ra P.rn P.rc] 31)).alloc (.cells #[.bool false,.slice none 0 0,.slice none 0 0] 27) = W0 at *
  refine (aO7 P (Zy:=Zy) (Ky:=Ky) (T:=P.K + Ky + 4) W0 (hP.below hb0) (hy.below hb0) HZY.out HRr.out (by omega) (by omega) (by omega) (hT.below hb0)).mono ?_
  rintro e w1 ⟨g,rfl,HL,h1⟩
  have hb1:=aB hb0 h1
  have hsw1:=h1.size
  replace R0:=R0.below h1
  replace Pb:=Pb.below h1
  clear p0 p1 p2 p3 p4 p5 p6 h1 hb0
  go_wp2_with fail
  have hz:=aG w1 (.cells #[.slice ya P.rn yc,.slice (some ⟨g,0,none⟩) P.vn P.vn] 32)
  have N:=aJ w1 #[.slice ya P.rn yc,.slice (some ⟨g,0,none⟩) P.vn P.vn] 32
  have hb1':=aB hb1 hz
  have n0:=N 0 _ rfl
  have n1:=N 1 _ rfl
  have hsz:w1.heap.size≤(w1.alloc (.cells #[.slice ya P.rn yc,.slice (some ⟨g,0,none⟩) P.vn P.vn] 32)).heap.size:=by simp
  replace HL:=HL.below hz
  replace R0:=R0.below hz
  replace Pb:=Pb.below hz
  clear hz N hb1
  generalize w1.alloc (.cells #[.slice ya P.rn yc,.slice (some ⟨g,0,none⟩) P.vn P.vn] 32) = W1 at *
  refine (aB5 (S:=P.K + Ky + 4) W1 n0 n1 (hy.below hb1') HL (fun i hi=>by have:=HZY.out i hi;omega) (fun i hi=>Nat.le_refl _) (by omega)).mono ?_
  rintro e w2 ⟨ma,mc,rfl,HM,h2⟩
  have hb2:=aB hb1' h2
  have hsw2:=h2.size
  replace R0:=R0.below h2
  replace Pb:=Pb.below h2
  clear n0 n1 HL hb1' h2
  have hz:=aG w2 (.cells #[.slice ma (P.rn + P.vn) mc] 32)
  have hb3:=aB hb2 hz
  have HM3:=HM.below hz
  have R3:=R0.below hz
  have Pb3:=Pb.below hz
  have hs3:(w2.alloc (.cells #[.slice ma (P.rn + P.vn) mc] 32)).heap.size = w2.heap.size + 1:=by simp
  have M3:=aJ w2 #[.slice ma (P.rn + P.vn) mc] 32
  have hz4:=aB (aG (w2.alloc (.cells #[.slice ma (P.rn + P.vn) mc] 32)) (.cells #[.bool P.p,.slice P.a P.na P.ca,.slice P.d P.nd P.cd] 27)) (aG ((w2.alloc (.cells #[.slice ma (P.rn + P.vn) mc] 32)).alloc (.cells #[.bool P.p,.slice P.a P.na P.ca,.slice P.d P.nd P.cd] 27)) (.cells #[.slice (some ⟨w2.heap.size + 1,0,none⟩) 1 1] 32))
  have hs4:(((w2.alloc (.cells #[.slice ma (P.rn + P.vn) mc] 32)).alloc (.cells #[.bool P.p,.slice P.a P.na P.ca,.slice P.d P.nd P.cd] 27)).alloc (.cells #[.slice (some ⟨w2.heap.size + 1,0,none⟩) 1 1] 32)).heap.size = w2.heap.size + 3:=by simp
  have Pb4:=Pb3.below hz4
  have R4:=R3.below hz4
  have hb4:=aB hb3 hz4
  have MX4:=MX.one (X:=fun _=>P.k) (S:=P.K + P.K + Ky + 4) ((hP.k.up (by have:=bJ P.ZV P.vn;omega)).below hb3) (.cells #[.slice (some ⟨w2.heap.size + 1,0,none⟩) 1 1] 32)
  have B4:=aJ ((w2.alloc (.cells #[.slice ma (P.rn + P.vn) mc] 32)).alloc (.cells #[.bool P.p,.slice P.a P.na P.ca,.slice P.d P.nd P.cd] 27)) #[.slice (some ⟨w2.heap.size + 1,0,none⟩) 1 1] 32
  have F4:(((w2.alloc (.cells #[.slice ma (P.rn + P.vn) mc] 32)).alloc (.cells #[.bool P.p,.slice P.a P.na P.ca,.slice P.d P.nd P.cd] 27)).alloc (.cells #[.slice (some ⟨w2.heap.size + 1,0,none⟩) 1 1] 32)).frozen? ⟨w2.heap.size + 2,0,none⟩ = false:=by
   have h:(((w2.alloc (.cells #[.slice ma (P.rn + P.vn) mc] 32)).alloc (.cells #[.bool P.p,.slice P.a P.na P.ca,.slice P.d P.nd P.cd] 27)).alloc (.cells #[.slice (some ⟨w2.heap.size + 1,0,none⟩) 1 1] 32)).heap[((w2.alloc (.cells #[.slice ma (P.rn + P.vn) mc] 32)).alloc (.cells #[.bool P.p,.slice P.a P.na P.ca,.slice P.d P.nd P.cd] 27)).heap.size]? = some (.cells #[.slice (some ⟨w2.heap.size + 1,0,none⟩) 1 1] 32):=heap_alloc_new _ _
   have e:((w2.alloc (.cells #[.slice ma (P.rn + P.vn) mc] 32)).alloc (.cells #[.bool P.p,.slice P.a P.na P.ca,.slice P.d P.nd P.cd] 27)).heap.size = w2.heap.size + 2:=by simp
   rw [e] at h
   unfold World.frozen?
   rw [h]
   simp
  have e5:((w2.alloc (.cells #[.slice ma (P.rn + P.vn) mc] 32)).alloc (.cells #[.bool P.p,.slice P.a P.na P.ca,.slice P.d P.nd P.cd] 27)).heap.size = w2.heap.size + 2:=by simp
  rw [hs3] at MX4
  rw [e5] at B4
  have p0:=Pb4 0 _ rfl
  have p1:=Pb4 1 _ rfl
  have p2:=Pb4 2 _ rfl
  have p3:=Pb4 3 _ rfl
  have p4:=Pb4 4 _ rfl
  have p5:=Pb4 5 _ rfl
  have p6:=Pb4 6 _ rfl
  have q2:=Pb3 2 _ rfl
  have q3:=Pb3 3 _ rfl
  have q4:=Pb3 4 _ rfl
  clear Pb R0 hz R3 HM hb2 e5
  go_wp2_with fail
  clear p0 p1 p2 p3 p4 p5 p6 q2 q3 q4
  have m0:=M3 0 _ rfl
  have b0:=B4 0 _ rfl
  have pm:=Pb3 0 _ rfl
  have hP3:=hP.below hb3
  have hT3:=hT.below hb3
  clear M3 B4 Pb3
  generalize ((w2.alloc (.cells #[.slice ma (P.rn + P.vn) mc] 32)).alloc (.cells #[.bool P.p,.slice P.a P.na P.ca,.slice P.d P.nd P.cd] 27)).alloc (.cells #[.slice (some ⟨w2.heap.size + 1,0,none⟩) 1 1] 32) = W4 at *
  generalize w2.alloc (.cells #[.slice ma (P.rn + P.vn) mc] 32) = W3 at *
  have HI:AI P Y W3.heap.size (w2.heap.size + 2) W4.heap.size (P.K + P.K + Ky + 4) (P.K + P.K + Ky + 4) E 0 W4 W4:=by
   refine ⟨_,1,fun _=>P.k,b0,F4,by rw [hs3];exact MX4,by simp [Value.ownBlock];omega,by omega,fun _ _=>HE.out.2.2,?_,fun i hi=>by omega,Below.refl _ _⟩
   show (0:Rat) + P.k = P.k + 0
   rw [Rat.zero_add,Rat.add_zero]
  refine (allP P (Sm:=P.K + Ky + 4) W3 W4 hP3 m0 HM3 pm hT3 (Nat.le_refl _) hz4 (by omega) (by omega) HI HE4.out (by omega) (by omega) (by omega) (by omega)).mono ?_
  rintro e w5 ⟨b,rfl,HA,HB⟩
  have hb5:Below w.heap.size w w5:=hb4.trans (HA.mono (by have:=hb3.size;omega))
  have R5:Var3 w5 (w.heap.size + 1) (.bool false) (.slice none 0 0) (.slice none 0 0):=R4.of_block (HA.block _ (by omega))
  have hsw5:=HA.size
  clear R4 Pb4 HI MX4 F4 b0 m0 pm hz4 hb3 hb4 HA HM3 hP3
  rcases HB with ⟨rfl,hok,v,n,X,c0,hL,hn,hX,hsum⟩ | ⟨rfl,hno⟩
  ·obtain ⟨o1,k1,rfl⟩:=hL.form
   have hq:=hL.lq
   have hT5:=hT.below hb5
   have hsz5:∀ k,k≤n→SzR (aQ X k) (P.K + P.K + Ky + 4 + 1):=fun k hk=>(Wd.sum HE.out.1 HE.out.2.1 hX (by omega) k hk).sz (by omega)
   have hok':=(aB4 P Y).2 hok
   have hval:aQ X n = pvS P Y:=by rw [hsum,aJ1]
   go_wp2_with fail
   refine (sumQ o1 n k1 X (fun _=>P.K + P.K + Ky + 4) (P.K + P.K + Ky + 4 + 1) w5 hq (fun _ _=>⟨by omega,by show _ + (P.K + P.K + Ky + 4)≤_;omega⟩) (by omega) hsz5 (by omega) hT5).mono ?_
   rintro e w6 ⟨f,c,n1,k2,d,m2,l2,rfl,G,hx6⟩
   have hs6:=Below.size hx6
   replace R5:=R5.below hx6
   replace hb5:=aB hb5 hx6
   replace G:=(G.val hval).le (show _≤2097160 by omega)
   clear hx6 hL c0 hq hT5 hsz5 hX hsum hok HE HE4 HRr
   obtain ⟨r0,r1,r2,r3,r4,r5⟩:=id R5
   obtain ⟨VV,O⟩:=R5.set (.bool f) (.slice c n1 k2) (.slice d m2 l2)
   have GF:=G.off O (by omega)
   have hw:=hb5.trans (O.below (by omega))
   clear R5 O G hb5
   go_wp2
   refine bodyPost_ret (v:=.tuple #[.agg #[.bool f,.slice c n1 k2,.slice d m2 l2],.nilIface]) (by simp [results,Tryz.results86,go_sem,VV.c0,VV.c1,VV.c2]) rfl ?_
   exact ⟨hw,.inr (.inr ⟨rfl,hok',_,_,_,_,_,_,_,rfl,GF.mono (by omega)⟩)⟩
  ·have hno':¬ okS P Y:=fun h=>hno ((aB4 P Y).1 h)
   have E5:=EB.below hb5
   obtain ⟨ec,pp,rfl⟩:=E5
   have hgn:¬ w.heap.size + 1 = 7:=by omega
   have hgm:¬ 7 = w.heap.size + 1:=by omega
   obtain ⟨r0,r1,r2,r3,r4,r5⟩:=id R5
   obtain ⟨V,O⟩:=R5.set (.bool false) (.slice none 0 0) (.slice none 0 0)
   have hw:=hb5.trans (O.below (by omega))
   clear R5 O hb5 ES EB HE HE4 HRr
   go_wp2_with fail
   go_region
   have V':=V.below (aK _)
   go_wp2
   refine bodyPost_ret (v:=.tuple #[.agg #[.bool false,.slice none 0 0,.slice none 0 0],.iface 173 (.pointer (some pp))]) (by simp [results,Tryz.results86,go_sem,V'.c0,V'.c1,V'.c2]) rfl ⟨dJ hw 1,.inr (.inl ⟨rfl,hno',rfl⟩)⟩
 ·have hnI:¬ ((ny:Int) = (P.rn:Int)):=by omega
  have hnB:((ny:Int) == (P.rn:Int)) = false:=by simpa using hnI
  replace ES:=ES.below hb0
  obtain ⟨ec,pp,rfl⟩:=ES
  have hgn:¬ w.heap.size + 1 = 4:=by omega
  have hgm:¬ 4 = w.heap.size + 1:=by omega
  obtain ⟨r0,r1,r2,r3,r4,r5⟩:=id R0
  obtain ⟨V,O⟩:=R0.set (.bool false) (.slice none 0 0) (.slice none 0 0)
  have hw:=hb0.trans (O.below (by omega))
  clear R0 O hb0 EB hP hy hzy
  go_wp2_with fail
  clear p0 p1 p2 p3 p4 p5 p6
  generalize (w.alloc (.cells #[.bool P.mx,.string P.nm,.bool P.p,.slice P.a P.na P.ca,.slice P.d P.nd P.cd,.slice P.va P.vn P.vc,.slice P.ra P.rn P.rc] 31)).alloc (.cells #[.bool false,.slice none 0 0,.slice none 0 0] 27) = W0 at *
  go_region
  have V':=V.below (aK _)
  go_wp2
  refine bodyPost_ret (v:=.tuple #[.agg #[.bool false,.slice none 0 0,.slice none 0 0],.iface 173 (.pointer (some pp))]) (by simp [results,Tryz.results86,go_sem,V'.c0,V'.c1,V'.c2]) rfl ⟨dJ hw 1,.inl ⟨hny,rfl⟩⟩
end Go.Proofs.YtnokmjmefipplaaGreatDoor
