import Derived.Test.YtnkpbjmfdfjeiaaGreatDoorLxAAll
import Derived.Test.YtnkpbjmfdfjeiaaGreatDoorSoCAll
namespace Go.Proofs.YtnkpbjmfdfjeiaaGreatDoor
open Go.RowKit
structure Fm (F:Nat) (M:Nat→Nat→Prop) (w w':World):Prop where
 kb:Kb F [27,35] w w'
 same:∀ (b:Nat),b < w.heap.size→∀ (o:Nat),¬ M b o→w'.cell? ⟨b,o,none⟩ = w.cell? ⟨b,o,none⟩
 typ:∀ (b:Nat) (cur:Array Value) (T:TypeId),w.heap[b]? = some (Obj.cells cur T (0,0))→∃ cur',w'.heap[b]? = some (Obj.cells cur' T (0,0))∧cur'.size = cur.size
theorem Fm.refl (F:Nat) (M:Nat→Nat→Prop) (w:World):Fm F M w w:=⟨Kb.refl _ _ _,fun _ _ _ _=>rfl,fun _ cur _ h=>⟨cur,h,rfl⟩⟩
theorem Fm.trans {F:Nat} {M:Nat→Nat→Prop} {a b c:World} (h:Fm F M a b) (k:Fm F M b c):Fm F M a c :=
 ⟨h.kb.trans k.kb,fun g hg o hm=>(k.same g (by have:=h.kb.size;omega) o hm).trans (h.same g hg o hm),fun g cur T hc=>by
  obtain ⟨c1,h1,h2⟩:=h.typ g cur T hc
  obtain ⟨c2,h3,h4⟩:=k.typ g c1 T h1
  exact ⟨c2,h3,h4.trans h2⟩⟩
theorem Fm.up {F:Nat} {M M':Nat→Nat→Prop} {a b:World} (h:Fm F M a b) (hM:∀ g o,M g o→M' g o):Fm F M' a b:=⟨h.kb,fun g hg o hm=>h.same g hg o fun e=>hm (hM g o e),h.typ⟩
theorem fm_bel {F:Nat} (M:Nat→Nat→Prop) {a b:World} (h:Below a.heap.size a b) (hF:F≤a.heap.size):Fm F M a b :=
 ⟨kb_bel _ h hF,fun g hg o _=>World.cell?_of_block (w:=a) (a:=⟨g,o,none⟩) (h.block g hg),fun g cur _ hc=>⟨cur,(h.block g (Array.getElem?_eq_some_iff.1 hc).1).trans hc,rfl⟩⟩
theorem fm_tri {F g o:Nat} {M:Nat→Nat→Prop} {w:World} {cur:Array Value} {T:TypeId} (hg:w.heap[g]? = some (Obj.cells cur T (0,0))) (hT:T = 27∨T = 35) (hF:F≤g) (ho:o + 3≤cur.size) (hM:∀ q,o≤q→q < o + 3→M g q) (b0 b1 b2:Value) :
  Fm F M w (((w.setCell ⟨g,o,none⟩ b0).setCell ⟨g,o + 1,none⟩ b1).setCell ⟨g,o + 2,none⟩ b2) ∧
  (((w.setCell ⟨g,o,none⟩ b0).setCell ⟨g,o + 1,none⟩ b1).setCell ⟨g,o + 2,none⟩ b2).cell? ⟨g,o,none⟩ = some b0 ∧
  (((w.setCell ⟨g,o,none⟩ b0).setCell ⟨g,o + 1,none⟩ b1).setCell ⟨g,o + 2,none⟩ b2).cell? ⟨g,o + 1,none⟩ = some b1 ∧
  (((w.setCell ⟨g,o,none⟩ b0).setCell ⟨g,o + 1,none⟩ b1).setCell ⟨g,o + 2,none⟩ b2).cell? ⟨g,o + 2,none⟩ = some b2:=by
 have O:Off g w (((w.setCell ⟨g,o,none⟩ b0).setCell ⟨g,o + 1,none⟩ b1).setCell ⟨g,o + 2,none⟩ b2):=(((Off.refl _ _).set o _).set (o + 1) _).set (o + 2) _
 have hcell:∀ j,j < cur.size→∃ u,w.cell? ⟨g,j,none⟩ = some u:=fun j hj=>⟨_,(cell_of_row w g j cur _ (0,0) hg).trans (Array.getElem?_eq_getElem hj)⟩
 obtain ⟨u0,c0⟩:=hcell o (by omega)
 obtain ⟨u1,c1⟩:=hcell (o + 1) (by omega)
 obtain ⟨u2,c2⟩:=hcell (o + 2) (by omega)
 refine ⟨⟨(kb_off hg hF O).up (fun t ht=>?_),fun b _ q hq=>?_,fun b cur' T' hc=>?_⟩,?_,?_,?_⟩
 ·rw [List.mem_singleton.1 ht]
  rcases hT with rfl | rfl
  ·exact List.mem_cons_self ..
  ·exact List.mem_cons_of_mem _ (List.mem_cons_self ..)
 ·by_cases hb:b = g
  ·subst hb
   have hn:¬ (o≤q∧q < o + 3):=fun h=>hq (hM q h.1 h.2)
   rw [World.cell?_setCell_other _ _ _ _ (by simp <;> omega),World.cell?_setCell_other _ _ _ _ (by simp <;> omega),World.cell?_setCell_other _ _ _ _ (by simp <;> omega)]
  ·exact O.cell (p:=⟨b,q,none⟩) hb
 ·by_cases hb:b = g
  ·subst hb
   rw [hg] at hc
   simp only [Option.some.injEq,Obj.cells.injEq] at hc
   obtain ⟨rfl,rfl,_⟩:=hc
   exact ⟨_,heap_setCell_same _ b _ _ _ _ (heap_setCell_same _ b _ _ _ _ (heap_setCell_same w b _ cur _ _ hg)),by simp⟩
  ·exact ⟨cur',(O.block b hb).trans hc,rfl⟩
 ·rw [World.cell?_setCell_other _ _ _ _ (by simp),World.cell?_setCell_other _ _ _ _ (by simp),World.cell?_setCell_same _ _ _ c0]
 ·rw [World.cell?_setCell_other _ _ _ _ (by simp),World.cell?_setCell_same _ _ _ ((World.cell?_setCell_other _ _ _ _ (by simp)).trans c1)]
 ·rw [World.cell?_setCell_same _ _ _ ((World.cell?_setCell_other _ _ _ _ (by simp)).trans ((World.cell?_setCell_other _ _ _ _ (by simp)).trans c2))]
def Num3 (w:World) (F g o:Nat) (r:Rat):Prop:=∃ f c n k c' n' k',w.cell? ⟨g,o,none⟩ = some (.bool f)∧w.cell? ⟨g,o + 1,none⟩ = some (.slice c n k)∧w.cell? ⟨g,o + 2,none⟩ = some (.slice c' n' k')∧GR w F f c n k c' n' k' r 5000000
theorem Num3.fm {F g o:Nat} {M:Nat→Nat→Prop} {w w':World} {r:Rat} (h:Num3 w F g o r) (k:Fm F M w w') (hM:∀ q,o≤q→q < o + 3→¬ M g q):Num3 w' F g o r:=by
 obtain ⟨f,c,n,k1,c',n',k',h0,h1,h2,G⟩:=h
 have hl:g < w.heap.size:=World.block_lt_of_cell? _ _ h0
 exact ⟨f,c,n,k1,c',n',k',(k.same g hl _ (hM _ (by omega) (by omega))).trans h0,(k.same g hl _ (hM _ (by omega) (by omega))).trans h1,(k.same g hl _ (hM _ (by omega) (by omega))).trans h2,G.kb k.kb (by decide)⟩
structure Wr (w:World) (F:Nat) (a:Nat × Nat):Prop where
 ex:∃ (cur:Array Value) (T:TypeId),w.heap[a.1]? = some (Obj.cells cur T (0,0))∧(T = 27∨T = 35)∧a.2 + 3≤cur.size
 lo:F≤a.1
theorem Wr.fm {F:Nat} {M:Nat→Nat→Prop} {w w':World} {a:Nat × Nat} (h:Wr w F a) (k:Fm F M w w'):Wr w' F a:=by
 obtain ⟨cur,T,h1,h2,h3⟩:=h.ex
 obtain ⟨c',h4,h5⟩:=k.typ _ _ _ h1
 exact ⟨⟨c',T,h4,h2,by omega⟩,h.lo⟩
def Mk (K:Nat) (D:Nat→Nat × Nat) (g o:Nat):Prop:=∃ k,k < K∧g = (D k).1∧(D k).2≤o∧o < (D k).2 + 3
def PtL (w:World) (F:Nat) (nv:Value) (K:Nat) (D:Nat→Nat × Nat):Prop:=SL w F 82 1 nv K (fun k=>[.pointer (some ⟨(D k).1,(D k).2,none⟩)])
def LnC (w:World) (F:Nat) (c:List Value) (wd:List UInt8) (K:Nat) (D:Nat→Nat × Nat):Prop:=∃ (s:ByteArray) (nv:Value),c = [.string s,nv]∧s.data.toList = wd∧PtL w F nv K D
theorem LnC.kb {w w':World} {F F':Nat} {L:List TypeId} {c:List Value} {wd:List UInt8} {K:Nat} {D:Nat→Nat × Nat} (h:LnC w F c wd K D) (k:Kb F' L w w') (hL:82 ∉ L):LnC w' F c wd K D:=by
 obtain ⟨s,nv,e,hs,hp⟩:=h
 exact ⟨s,nv,e,hs,SL.kb hp k hL⟩
def LsQ (w:World) (F:Nat) (v:Value) (n:Nat) (W:Nat→List UInt8) (K:Nat→Nat) (D:Nat→Nat→Nat × Nat):Prop:=∃ E,SL w F 78 2 v n E∧∀ t,t < n→LnC w F (E t) (W t) (K t) (D t)
theorem LsQ.kb {w w':World} {F F':Nat} {L:List TypeId} {v:Value} {n:Nat} {W:Nat→List UInt8} {K:Nat→Nat} {D:Nat→Nat→Nat × Nat} (h:LsQ w F v n W K D) (k:Kb F' L w w') (h1:78 ∉ L) (h2:82 ∉ L):LsQ w' F v n W K D:=by
 obtain ⟨E,hS,hL⟩:=h
 exact ⟨E,hS.kb k h1,fun t ht=>(hL t ht).kb k h2⟩
theorem LsQ.below {w w':World} {F:Nat} {v:Value} {n:Nat} {W:Nat→List UInt8} {K:Nat→Nat} {D:Nat→Nat→Nat × Nat} (h:LsQ w F v n W K D) (hb:Below w.heap.size w w'):LsQ w' F v n W K D:=h.kb (kb_bel [] hb (Nat.le_refl _)) (by decide) (by decide)
def dst (v vn C gx gy gz t k:Nat):Nat × Nat :=
 if t < hdV v then (C,1) else if t < hdV v + nvV v vn then (if k = 0 then (gx,(t - hdV v) * 3) else (gz,(t - hdV v) * 3)) else (gy,(t - hdV v - nvV v vn) * 3)
theorem dst_apart {v vn rn C gx gy gz t k t' k':Nat} (h1:C ≠ gx) (h2:C ≠ gy) (h3:C ≠ gz) (h4:gx ≠ gy) (h5:gx ≠ gz) (h6:gy ≠ gz) (ht:k < lnsK v vn rn t) (ht':k' < lnsK v vn rn t') (hne:¬ (t = t'∧k = k')) {o:Nat} :
  ¬ ((dst v vn C gx gy gz t k).1 = (dst v vn C gx gy gz t' k').1∧(dst v vn C gx gy gz t k).2≤o∧o < (dst v vn C gx gy gz t k).2 + 3∧(dst v vn C gx gy gz t' k').2≤o∧o < (dst v vn C gx gy gz t' k').2 + 3):=by
 unfold lnsK at ht ht'
 have hh:hdV v = 1∨hdV v = 2:=by unfold hdV;split <;> omega
 unfold dst
 intro h
 generalize hdV v = H at *
 generalize nvV v vn = N at *
 generalize nrV v rn = M at *
 by_cases a1:t < H
 ·simp only [a1,if_true] at h ht
  by_cases b1:t' < H
  ·simp only [b1,if_true] at h ht'
   split at ht <;> split at ht' <;> omega
  ·simp only [b1,if_false] at h ht'
   by_cases b2:t' < H + N
   ·simp only [b2,if_true] at h
    by_cases b3:k' = 0
    ·simp only [b3,if_true] at h
     exact h1 h.1
    ·simp only [b3,if_false] at h
     exact h3 h.1
   ·simp only [b2,if_false] at h
    exact h2 h.1
 ·simp only [a1,if_false] at h ht
  by_cases b1:t' < H
  ·simp only [b1,if_true] at h ht'
   by_cases b2:t < H + N
   ·simp only [b2,if_true] at h
    by_cases b3:k = 0
    ·simp only [b3,if_true] at h
     exact h1 h.1.symm
    ·simp only [b3,if_false] at h
     exact h3 h.1.symm
   ·simp only [b2,if_false] at h
    exact h2 h.1.symm
  ·simp only [b1,if_false] at h ht'
   by_cases a2:t < H + N
   ·simp only [a2,if_true] at h ht
    by_cases b2:t' < H + N
    ·simp only [b2,if_true] at h ht'
     by_cases a3:k = 0
     ·by_cases b3:k' = 0
      ·simp only [a3,b3,if_true] at h
       apply hne
       constructor <;> omega
      ·simp only [a3,b3,if_true,if_false] at h
       exact h5 h.1
     ·by_cases b3:k' = 0
      ·simp only [a3,b3,if_true,if_false] at h
       exact h5 h.1.symm
      ·simp only [a3,b3,if_false] at h
       apply hne
       have k2:k < 2:=by split at ht <;> first | (split at ht <;> omega) | omega
       have k2':k' < 2:=by split at ht' <;> first | (split at ht' <;> omega) | omega
       constructor <;> omega
    ·simp only [b2,if_false] at h ht'
     by_cases a3:k = 0
     ·simp only [a3,if_true] at h
      exact h4 h.1
     ·simp only [a3,if_false] at h
      exact h6 h.1.symm
   ·simp only [a2,if_false] at h ht
    by_cases b2:t' < H + N
    ·simp only [b2,if_true] at h ht'
     by_cases b3:k' = 0
     ·simp only [b3,if_true] at h
      exact h4 h.1.symm
     ·simp only [b3,if_false] at h
      exact h6 h.1
    ·simp only [b2,if_false] at h ht'
     apply hne
     have k2:k < 1:=by split at ht <;> first | (split at ht <;> omega) | omega
     have k2':k' < 1:=by split at ht' <;> first | (split at ht' <;> omega) | omega
     constructor <;> omega
theorem Nus.snoc {rs:List Rat} {l m n:List UInt8} {r:Rat} (h:Nus l rs m) (hr:Nu m r n):Nus l (rs ++ [r]) n:=by
 induction rs generalizing l with
 | nil=>obtain rfl:l = m:=h;exact ⟨n,hr,rfl⟩
 | cons q rs ih=>obtain ⟨x,h1,h2⟩:=h;exact ⟨x,h1,ih h2⟩
theorem Nus.front {rs:List Rat} {l m:List UInt8} (h:Nus l rs m) {k:Nat} (hk:k < rs.length):∃ a b r,Nus l (rs.take k) a∧Nu a r b∧rs[k]? = some r:=by
 induction rs generalizing l k with
 | nil=>simp at hk
 | cons q rs ih =>
  obtain ⟨x,h1,h2⟩:=h
  cases k with
  | zero=>exact ⟨l,x,q,rfl,h1,rfl⟩
  | succ k =>
   obtain ⟨a,b,r,h3,h4,h5⟩:=ih h2 (by simpa using hk)
   exact ⟨a,b,r,⟨x,h1,h3⟩,h4,by simpa using h5⟩
theorem Num3.below {w w':World} {F g o:Nat} {r:Rat} (h:Num3 w F g o r) (hb:Below w.heap.size w w'):Num3 w' F g o r:=by
 obtain ⟨f,c,n,k,c',n',k',h0,h1,h2,G⟩:=h
 exact ⟨f,c,n,k,c',n',k',kept_c hb h0,kept_c hb h1,kept_c hb h2,G.below hb⟩
theorem Num3.tri {w:World} {F g o g' o':Nat} {r:Rat} (h:Num3 w F g o r) {cur:Array Value} {T:TypeId} (hg:w.heap[g']? = some (Obj.cells cur T (0,0))) {b0 b1 b2:Value} (hT:T = 27∨T = 35) (hF:F≤g') (ho:o' + 3≤cur.size) (hd:∀ q,o≤q→q < o + 3→¬ (g = g'∧o'≤q∧q < o' + 3)):Num3 (((w.setCell ⟨g',o',none⟩ b0).setCell ⟨g',o' + 1,none⟩ b1).setCell ⟨g',o' + 2,none⟩ b2) F g o r :=
 h.fm (fm_tri (F:=F) (M:=fun b q=>b = g'∧o'≤q∧q < o' + 3) hg hT hF ho (fun _ h1 h2=>⟨rfl,h1,h2⟩) b0 b1 b2).1 hd
theorem nus_no {l m:List UInt8} {rs:List Rat} {K:Nat} (h:Nus l rs m) (hk:rs.length < K) (hn:∀ r x,¬ Nu m r x):∀ rs' y,rs'.length = K→¬ Nus l rs' y:=fun rs' y e h'=>by
 obtain ⟨a,b,r,h1,h2,_⟩:=h'.front (k:=rs.length) (by omega)
 have:=Nus.uniq (rs:=rs) (rs':=rs'.take rs.length) (by rw [List.length_take];omega) h h1
 rw [← this.2] at h2
 exact hn _ _ h2
def LfR (F:Nat) (t wd:List UInt8) (K:Nat) (D:Nat→Nat × Nat) (w:World) (e:Ending) (w':World):Prop :=
 ∃ (rest:ByteArray) (ok:Bool),e = .returned (.tuple #[.string rest,.bool ok])∧Fm F (Mk K D) w w'∧rest.size≤t.length ∧
  ((ok = true∧∃ rs,rs.length = K∧Ln t wd rs rest.data.toList∧∀ k,k < K→Num3 w' F (D k).1 (D k).2 (rs.getD k 0))∨(ok = false∧∀ rs m,rs.length = K→¬ Ln t wd rs m))
theorem cutP_any (s p:ByteArray):∃ (b:Bool) (r:ByteArray),p.data.toList.isPrefixOf s.data.toList = b∧(if p.data.toList.isPrefixOf s.data.toList then s.extract p.size s.size else s) = r∧r.size≤s.size∧(b = true→s.data.toList = p.data.toList ++ r.data.toList)∧(b = false→∀ m,¬ s.data.toList = p.data.toList ++ m):=by
 refine ⟨_,_,rfl,rfl,?_⟩
 cases hp:p.data.toList.isPrefixOf s.data.toList with
 | true =>
  rw [if_pos rfl]
  obtain ⟨m,hm⟩:=List.isPrefixOf_iff_prefix.1 hp
  refine ⟨by rw [size_extract _ _ _ (Nat.le_refl _)];omega,fun _=>?_,fun h=>by cases h⟩
  rw [ext_back,← hm,← len_list p,List.drop_left]
 | false =>
  rw [if_neg (by decide)]
  refine ⟨Nat.le_refl _,(fun h=>by cases h),fun _ m h=>?_⟩
  rw [h] at hp
  have:=List.isPrefixOf_iff_prefix.2 (⟨m,rfl⟩:p.data.toList <+: p.data.toList ++ m)
  rw [this] at hp
  cases hp
set_option maxRecDepth 100000 in
set_option maxHeartbeats 8000000 in
theorem lfillQ {F K:Nat} {D:Nat→Nat × Nat} {sw t:ByteArray} {na:Option Addr} {nc:Nat} (w:World) (hP:PtL w F (.slice na K nc) K D) (hW:∀ k,k < K→Wr w F (D k)) (hD:∀ k k' o,k < K→k' < K→k ≠ k'→¬ ((D k).1 = (D k').1∧(D k).2≤o∧o < (D k).2 + 3∧(D k').2≤o∧o < (D k').2 + 3)) (hK:K≤1000) (ht:t.size≤1048576) (hF:F≤w.heap.size) (hT:TB w) (hE:E3 w) (hG:∀ g,g = 9∨g = 2∨g = 4∨g = 3→g < F) (HN:∀ t:ByteArray,t.size≤1048576→NumA t) :
  Calls Tryz.prog 26 #[.agg #[.string sw,.slice na K nc],.string t] w fun e w'=>LfR F t.data.toList sw.data.toList K D w e w':=by
 have N:=box_new w #[.string sw,.slice na K nc] 78
 have hb0:=bel_d0 w (.cells #[.string sw,.slice na K nc] 78)
 have n0:=N 0 _ rfl
 have n1:=N 1 _ rfl
 have HD:Hid (∀ k k' o,k < K→k' < K→k ≠ k'→¬ ((D k).1 = (D k').1∧(D k).2≤o∧o < (D k).2 + 3∧(D k').2≤o∧o < (D k').2 + 3)):=hD
 have HG:Hid (∀ g,g = 9∨g = 2∨g = 4∨g = 3→g < F):=hG
 have HNN:Hid (∀ t:ByteArray,t.size≤1048576→NumA t):=HN
 clear hD hG HN
 have f0:Fm F (Mk K D) w (w.alloc (.cells #[.string sw,.slice na K nc] 78)):=fm_bel _ hb0 hF
 have HW0:Hid (∀ k,k < K→Wr (w.alloc (.cells #[.string sw,.slice na K nc] 78)) F (D k)):=fun k hk=>(hW k hk).fm f0
 have hP0:=SL.below hP hb0
 replace hT:=hT.below hb0
 replace hE:=hE.below hb0
 have hF0:=Nat.le_trans hF hb0.size
 clear hb0 hW hP
 go_enter Tryz.func26,Tryz.ntmps26
 go_wp2_with fail
 generalize w.heap.size = vb at *
 generalize w.alloc (.cells #[.string sw,.slice na K nc] 78) = W0 at *
 refine (cutPQ t sw W0).mono ?_
 rintro e w1 ⟨rfl,rfl⟩
 obtain ⟨b1,r1,e1,e2,hr1,hy1,hn1⟩:=cutP_any t sw
 rw [e2,e1]
 have HR1:Hid ((b1 = true→t.data.toList = sw.data.toList ++ r1.data.toList)∧(b1 = false→∀ m,¬ t.data.toList = sw.data.toList ++ m)):=⟨hy1,hn1⟩
 clear e1 e2 hy1 hn1
 go_wp2
 go_loopw [4,5,18] (fun s4 s5 s18 wr=>∃ (k:Nat) (r:ByteArray) (ok:Bool),k≤K∧s18 = .int .i64 k∧s4 = .string r∧s5 = .bool ok∧r.size≤t.size∧Fm F (Mk K D) w1 wr ∧
   ((ok = true∧∃ rs a,rs.length = k∧t.data.toList = sw.data.toList ++ a∧Nus a rs r.data.toList∧∀ q,q < k→Num3 wr F (D q).1 (D q).2 (rs.getD q 0))∨(ok = false∧∀ rs m,rs.length = K→¬ Ln t.data.toList sw.data.toList rs m))) (fun _ _ s18 _=>K - (intOf s18).toNat)
 case atStart =>
  refine ⟨0,r1,b1,Nat.zero_le _,rfl,rfl,rfl,hr1,Fm.refl _ _ _,?_⟩
  cases b1
  ·exact .inr ⟨rfl,fun rs m _ h=>by obtain ⟨a,h1,_⟩:=h;exact HR1.out.2 rfl _ h1⟩
  ·exact .inl ⟨rfl,[],r1.data.toList,rfl,HR1.out.1 rfl,rfl,fun q hq=>by omega⟩
 case round =>
  obtain ⟨k,r,ok,hk,rfl,rfl,rfl,hrz,fW,T5⟩:=hrel
  have HT5:Hid ((ok = true∧∃ rs a,rs.length = k∧t.data.toList = sw.data.toList ++ a∧Nus a rs r.data.toList∧∀ q,q < k→Num3 wr F (D q).1 (D q).2 (rs.getD q 0))∨(ok = false∧∀ rs m,rs.length = K→¬ Ln t.data.toList sw.data.toList rs m)):=T5
  clear T5
  by_cases hlt:k < K
  ·have hkI:(k:Int) < (K:Int):=by omega
   have hkw:=SL.kb hP0 fW.kb (by decide)
   rcases hkw.cell with h0 | ⟨g,rfl,hc⟩
   ·omega
   have c0:wr.cell? ⟨g,k,none⟩ = some (.pointer (some ⟨(D k).1,(D k).2,none⟩)):=by
    have:=hc k hlt 0 _ rfl
    simpa using this
   cases ok
   ·have HX:Hid (∀ rs m,rs.length = K→¬ Ln t.data.toList sw.data.toList rs m):=by
     rcases HT5.out with ⟨h,_⟩ | ⟨_,h⟩
     ·cases h
     ·exact h
    clear HT5
    go_wp2
    go_ret2
    exact ⟨_,false,rfl,f0.trans fW,Nat.zero_le _,.inr ⟨rfl,HX.out⟩⟩
   ·have hTw:=hT.kb fW.kb (HG.out _ (.inl rfl))
    have hEw:=hE.kb fW.kb (HG.out _ (.inr (.inl rfl))) (HG.out _ (.inr (.inr (.inl rfl)))) (HG.out _ (.inr (.inr (.inr rfl))))
    have hFw:F≤wr.heap.size:=by have:=fW.kb.size;omega
    go_wp2_with fail
    refine (cutNumQ r wr (by omega) hTw hEw HNN.out).mono ?_
    rintro e w2 ⟨f,c,n,k2,c',n',k',rest,ok2,rfl,hx,hrz2,h2⟩
    have fX:=fm_bel (F:=F) (Mk K D) hx hFw
    have fW2:=fW.trans fX
    obtain ⟨cur,T,hb1,hb2,hb3⟩:=((HW0.out k hlt).fm fW2).ex
    have hlo:=(HW0.out k hlt).lo
    have hM:∀ q,(D k).2≤q→q < (D k).2 + 3→Mk K D (D k).1 q:=fun q h1 h2=>⟨k,hlt,rfl,h1,h2⟩
    obtain ⟨fS,s0,s1,s2⟩:=fm_tri (F:=F) hb1 hb2 hlo hb3 hM (.bool f) (.slice c n k2) (.slice c' n' k')
    have d0:∃ u,w2.cell? ⟨(D k).1,(D k).2,none⟩ = some u:=⟨_,(cell_of_row w2 _ _ cur _ (0,0) hb1).trans (Array.getElem?_eq_getElem (by omega))⟩
    have d1:∃ u,w2.cell? ⟨(D k).1,(D k).2 + 1,none⟩ = some u:=⟨_,(cell_of_row w2 _ _ cur _ (0,0) hb1).trans (Array.getElem?_eq_getElem (by omega))⟩
    have d2:∃ u,w2.cell? ⟨(D k).1,(D k).2 + 2,none⟩ = some u:=⟨_,(cell_of_row w2 _ _ cur _ (0,0) hb1).trans (Array.getElem?_eq_getElem (by omega))⟩
    obtain ⟨u0,d0⟩:=d0
    obtain ⟨u1,d1⟩:=d1
    obtain ⟨u2,d2⟩:=d2
    have df0:=frozen_of_row w2 (D k).1 (D k).2 cur _ hb1
    have df1:=frozen_of_row w2 (D k).1 ((D k).2 + 1) cur _ hb1
    have df2:=frozen_of_row w2 (D k).1 ((D k).2 + 2) cur _ hb1
    have fW3:=fW2.trans fS
    have HT6:Hid ((ok2 = true∧∃ rs a,rs.length = k + 1∧t.data.toList = sw.data.toList ++ a∧Nus a rs rest.data.toList∧∀ q,q < k + 1→Num3 (((w2.setCell ⟨(D k).1,(D k).2,none⟩ (.bool f)).setCell ⟨(D k).1,(D k).2 + 1,none⟩ (.slice c n k2)).setCell ⟨(D k).1,(D k).2 + 2,none⟩ (.slice c' n' k')) F (D q).1 (D q).2 (rs.getD q 0))∨(ok2 = false∧∀ rs m,rs.length = K→¬ Ln t.data.toList sw.data.toList rs m)):=by
     rcases HT5.out with ⟨_,rs,a,x1,x2,x3,x4⟩ | ⟨x,_⟩
     ·rcases h2 with ⟨rfl,q,y1,y2⟩ | ⟨rfl,y1⟩
      ·refine .inl ⟨rfl,rs ++ [q],a,by simp [x1],x2,x3.snoc y1,fun i hi=>?_⟩
       rcases (by omega:i < k∨i = k) with h | rfl
       ·have e:(rs ++ [q]).getD i 0 = rs.getD i 0:=by
         rw [List.getD_eq_getElem?_getD,List.getD_eq_getElem?_getD,List.getElem?_append_left (by omega)]
        rw [e]
        have z1:=(x4 i h).below hx
        refine z1.tri hb1 hb2 hlo hb3 (fun o h1 h2 h3=>HD.out i k o (by omega) hlt (by omega) ⟨h3.1,h1,h2,h3.2.1,h3.2.2⟩)
       ·have e:(rs ++ [q]).getD i 0 = q:=by
         rw [List.getD_eq_getElem?_getD,List.getElem?_append_right (by omega),x1,Nat.sub_self]
         rfl
        rw [e]
        exact ⟨f,c,n,k2,c',n',k',s0,s1,s2,(y2.mono (B':=F) hFw).kb fS.kb (by decide)⟩
      ·refine .inr ⟨rfl,fun rs' m z1 z2=>?_⟩
       obtain ⟨a',z3,z4⟩:=z2
       rw [x2] at z3
       obtain rfl:=List.append_cancel_left z3
       exact nus_no x3 (by omega) y1 rs' _ z1 z4
     ·cases x
    clear HT5 h2 hkw hc hTw hEw
    go_wp2
    go_roundw
    case rel=>first | exact ⟨k + 1,rest,ok2,by omega,by go_num,rfl,rfl,by omega,fW3,HT6.out⟩ | ((repeat apply Exists.intro);refine ⟨?_,rfl⟩;exact ⟨k + 1,rest,ok2,by omega,by go_num,rfl,rfl,by omega,fW3,HT6.out⟩)
    case measure=>simp [intOf];omega
  ·have hkI:¬ (k:Int) < (K:Int):=by omega
   obtain rfl:k = K:=by omega
   cases ok
   ·have HX:Hid (∀ rs m,rs.length = k→¬ Ln t.data.toList sw.data.toList rs m):=by
     rcases HT5.out with ⟨h,_⟩ | ⟨_,h⟩
     ·cases h
     ·exact h
    clear HT5
    go_wp2
    go_ret2
    exact ⟨_,false,rfl,f0.trans fW,Nat.zero_le _,.inr ⟨rfl,HX.out⟩⟩
   ·go_wp2_with fail
    refine (cutPQ r ⟨#[10]⟩ wr).mono ?_
    rintro e w2 ⟨rfl,rfl⟩
    obtain ⟨b3,r3,e1,e2,hr3,hy3,hn3⟩:=cutP_any r ⟨#[10]⟩
    rw [e2,e1]
    clear e1 e2
    go_wp2
    go_ret2
    refine ⟨r3,b3,rfl,f0.trans fW,by rw [len_list];omega,?_⟩
    rcases HT5.out with ⟨_,rs,a,x1,x2,x3,x4⟩ | ⟨x,_⟩
    ·cases b3
     ·refine .inr ⟨rfl,fun rs' m z1 z2=>?_⟩
      obtain ⟨a',z3,z4⟩:=z2
      rw [x2] at z3
      obtain rfl:=List.append_cancel_left z3
      have:=(Nus.uniq (by rw [x1,z1]) x3 z4).2
      exact hn3 rfl m this
     ·have h10:=hy3 rfl
      exact .inl ⟨rfl,rs,x1,⟨a,x2,by rw [h10] at x3;exact x3⟩,x4⟩
    ·cases x
theorem str_neE {t:ByteArray} {l:List UInt8} (h:¬ t = ⟨l.toArray⟩):(t.toList == l) = false:=by
 rw [beq_eq_false_iff_ne,ByteArray.toList_eq]
 intro e
 exact h (ba_eq (by rw [e]))
def Mall (n:Nat) (K:Nat→Nat) (D:Nat→Nat→Nat × Nat) (g o:Nat):Prop:=∃ t,t < n∧Mk (K t) (D t) g o
def FlR (F:Nat) (l:List UInt8) (n:Nat) (W:Nat→List UInt8) (K:Nat→Nat) (D:Nat→Nat→Nat × Nat) (w:World) (e:Ending) (w':World):Prop :=
 ∃ (ok:Bool),e = .returned (.bool ok)∧Fm F (Mall n K D) w w' ∧
  ((ok = true∧∃ R,Lns W K l R n []∧∀ t,t < n→∀ k,k < K t→Num3 w' F (D t k).1 (D t k).2 ((R t).getD k 0))∨(ok = false∧∀ R,¬ Lns W K l R n []))
set_option maxRecDepth 100000 in
set_option maxHeartbeats 8000000 in
theorem fillQ {F n:Nat} {W:Nat→List UInt8} {K:Nat→Nat} {D:Nat→Nat→Nat × Nat} {s:ByteArray} {la:Option Addr} {lc:Nat} (w:World) (hL:LsQ w F (.slice la n lc) n W K D) (hW:∀ t,t < n→∀ k,k < K t→Wr w F (D t k)) (hD:∀ t k t' k' o,k < K t→k' < K t'→¬ (t = t'∧k = k')→¬ ((D t k).1 = (D t' k').1∧(D t k).2≤o∧o < (D t k).2 + 3∧(D t' k').2≤o∧o < (D t' k').2 + 3)) (hK:∀ t,K t≤1000) (hn:n≤10000000) (hs:s.size≤1048576) (hF:F≤w.heap.size) (hT:TB w) (hE:E3 w) (hG:∀ g,g = 9∨g = 2∨g = 4∨g = 3→g < F) (HN:∀ t:ByteArray,t.size≤1048576→NumA t) :
  Calls Tryz.prog 19 #[.slice la n lc,.string s] w fun e w'=>FlR F s.data.toList n W K D w e w':=by
 have HD:Hid (∀ t k t' k' o,k < K t→k' < K t'→¬ (t = t'∧k = k')→¬ ((D t k).1 = (D t' k').1∧(D t k).2≤o∧o < (D t k).2 + 3∧(D t' k').2≤o∧o < (D t' k').2 + 3)):=hD
 have HG:Hid (∀ g,g = 9∨g = 2∨g = 4∨g = 3→g < F):=hG
 have HNN:Hid (∀ t:ByteArray,t.size≤1048576→NumA t):=HN
 have HKK:Hid (∀ t,K t≤1000):=hK
 have HW:Hid (∀ t,t < n→∀ k,k < K t→Wr w F (D t k)):=hW
 have HLS:Hid (LsQ w F (.slice la n lc) n W K D):=hL
 clear hD hG HN hK hW hL
 go_enter Tryz.func19,Tryz.ntmps19
 go_wp2
 go_loopw [1,10] (fun s1 s10 wr=>∃ (i:Nat) (r:ByteArray) (R:Nat→List Rat),i≤n∧s10 = .int .i64 i∧s1 = .string r∧r.size≤s.size∧Fm F (Mall n K D) w wr∧Lns W K s.data.toList R i r.data.toList∧∀ t,t < i→∀ k,k < K t→Num3 wr F (D t k).1 (D t k).2 ((R t).getD k 0)) (fun _ s10 _=>n - (intOf s10).toNat)
 case atStart=>exact ⟨0,s,fun _=>[],Nat.zero_le _,rfl,rfl,Nat.le_refl _,Fm.refl _ _ _,Lns.zero _ _ _ _,fun t ht=>by omega⟩
 case round =>
  obtain ⟨i,r,R,hi,rfl,rfl,hrz,fW,hLn,hNm⟩:=hrel
  have HLn:Hid (Lns W K s.data.toList R i r.data.toList):=hLn
  have HNm:Hid (∀ t,t < i→∀ k,k < K t→Num3 wr F (D t k).1 (D t k).2 ((R t).getD k 0)):=hNm
  clear hLn hNm
  by_cases hlt:i < n
  ·have hkI:(i:Int) < (n:Int):=by omega
   obtain ⟨E,SE,hE2⟩:=HLS.out.kb fW.kb (by decide) (by decide)
   obtain ⟨sw,nv,eE,hsw,hPt⟩:=hE2 i hlt
   obtain ⟨na,nc,rfl,hnc⟩:=SL.form hPt
   rcases SE.cell with h0 | ⟨g,rfl,hc⟩
   ·omega
   have c0:wr.cell? ⟨g,i * 2,none⟩ = some (.string sw):=by
    have:=hc i hlt 0 (.string sw) (by rw [eE];rfl)
    simpa using this
   have c1:wr.cell? ⟨g,i * 2 + 1,none⟩ = some (.slice na (K i) nc):=hc i hlt 1 (.slice na (K i) nc) (by rw [eE];rfl)
   have hk2:(i:Int) * 2 = ((i * 2:Nat):Int):=by omega
   have hFw:F≤wr.heap.size:=by have:=fW.kb.size;omega
   have HSW:Hid (sw.data.toList = W i):=hsw
   have hx:=bel_d0 wr (.cells #[.string sw,.slice na (K i) nc] 78)
   have N:=box_new wr #[.string sw,.slice na (K i) nc] 78
   have n0:=N 0 _ rfl
   have n1:=N 1 _ rfl
   have fX:=fm_bel (F:=F) (Mall n K D) hx hFw
   have fW1:=fW.trans fX
   have HP1:Hid (PtL (wr.alloc (.cells #[.string sw,.slice na (K i) nc] 78)) F (.slice na (K i) nc) (K i) (D i)):=SL.below hPt hx
   have HNm1:Hid (∀ t,t < i→∀ k,k < K t→Num3 (wr.alloc (.cells #[.string sw,.slice na (K i) nc] 78)) F (D t k).1 (D t k).2 ((R t).getD k 0)):=fun t ht k hk=>(HNm.out t ht k hk).below hx
   have hF1:F≤(wr.alloc (.cells #[.string sw,.slice na (K i) nc] 78)).heap.size:=by have:=hx.size;omega
   have hT1:=hT.kb fW1.kb (HG.out _ (.inl rfl))
   have hE1:=hE.kb fW1.kb (HG.out _ (.inr (.inl rfl))) (HG.out _ (.inr (.inr (.inl rfl)))) (HG.out _ (.inr (.inr (.inr rfl))))
   have HW1:Hid (∀ k,k < K i→Wr (wr.alloc (.cells #[.string sw,.slice na (K i) nc] 78)) F (D i k)):=fun k hk=>(HW.out i hlt k hk).fm fW1
   clear hc hE2 eE hsw hPt N SE hx
   go_wp2_with fail
   generalize wr.heap.size = vb at *
   generalize wr.alloc (.cells #[.string sw,.slice na (K i) nc] 78) = W1 at *
   refine (lfillQ (F:=F) (K:=K i) (D:=D i) (sw:=sw) (t:=r) W1 HP1.out HW1.out (fun k k' o h1 h2 h3=>HD.out i k i k' o h1 h2 (fun h=>h3 h.2)) (HKK.out i) (by omega) hF1 hT1 hE1 HG.out HNN.out).mono ?_
   rintro e w2 ⟨rest,ok2,rfl,f2,hrz2,h2⟩
   rw [len_list] at hrz2
   have fW2:=fW1.trans (f2.up (M':=Mall n K D) fun g o h=>⟨i,hlt,h⟩)
   cases ok2
   ·have HX:Hid (∀ R,¬ Lns W K s.data.toList R n []):=fun R' h'=>by
     rcases h2 with ⟨x,_⟩ | ⟨_,h2⟩
     ·cases x
     ·rw [HSW.out] at h2
      exact HLn.out.none h2 hlt h'
    clear h2
    go_wp2
    go_ret
    exact ⟨false,rfl,fW2,.inr ⟨rfl,HX.out⟩⟩
   ·obtain ⟨rs,hrs,hl2,hn2⟩:∃ rs,rs.length = K i∧Ln r.data.toList sw.data.toList rs rest.data.toList∧∀ k,k < K i→Num3 w2 F (D i k).1 (D i k).2 (rs.getD k 0):=by
     rcases h2 with ⟨_,h⟩ | ⟨x,_⟩
     ·exact h
     ·cases x
    have HL2:Hid (Lns W K s.data.toList (putR R i rs) (i + 1) rest.data.toList):=HLn.out.snoc hrs (by rw [← HSW.out];exact hl2)
    have HN2:Hid (∀ t,t < i + 1→∀ k,k < K t→Num3 w2 F (D t k).1 (D t k).2 ((putR R i rs t).getD k 0)):=fun t ht k hk=>by
     rcases (by omega:t < i∨t = i) with h | rfl
     ·rw [putR_off _ _ h]
      exact (HNm1.out t h k hk).fm f2 (fun q h1 h2 h3=>by
       obtain ⟨k',x1,x2,x3,x4⟩:=h3
       exact HD.out t k i k' q hk x1 (by omega) ⟨x2,h1,h2,x3,x4⟩)
     ·rw [putR_at];exact hn2 k hk
    clear h2 hl2 hn2 HLn HNm HNm1 HP1 HW1
    go_wp2
    go_roundw
    case rel=>first | exact ⟨i + 1,rest,putR R i rs,by omega,by go_num,rfl,by omega,fW2,HL2.out,HN2.out⟩ | ((repeat apply Exists.intro);refine ⟨?_,rfl⟩;exact ⟨i + 1,rest,putR R i rs,by omega,by go_num,rfl,by omega,fW2,HL2.out,HN2.out⟩)
    case measure=>simp [intOf];omega
  ·have hkI:¬ (i:Int) < (n:Int):=by omega
   obtain rfl:i = n:=by omega
   by_cases hr0:r = ⟨#[]⟩
   ·subst hr0
    go_wp2
    go_ret
    exact ⟨true,rfl,fW,.inl ⟨rfl,R,HLn.out,HNm.out⟩⟩
   ·have hrb:(r.toList == []) = false:=str_neE hr0
    have HX:Hid (∀ R,¬ Lns W K s.data.toList R i []):=fun R' h'=>by
     have:=(Lns.uniq HLn.out h').2
     exact hr0 (ba_eq this)
    clear hr0
    go_wp2
    go_ret
    exact ⟨false,rfl,fW,.inr ⟨rfl,HX.out⟩⟩
end Go.Proofs.YtnkpbjmfdfjeiaaGreatDoor
