import Derived.Test.YtmpkgpilfcbdnaaGreatDoorBpIAll
import Derived.Laws.CopyOwn
namespace Go.Proofs.YtmpkgpilfcbdnaaGreatDoor
open Go.RowKit
theorem run_copyC {P:Program} (w:World) (dT sT ty elem:TypeId) (g n dCap:Nat) (a:Addr) (sCap:Nat) (cur:Array Value) (t:TypeId) (cs:List Value) (c:Nat)
  (hu:P.underlying dT = some (.slice elem)) (hs:(P.info? elem).map (·.size) = some c) (hg:w.heap[g]? = some (.cells cur t (0,0))) (hn:cs.length = n * c)
  (hsrc:∀ j v,cs[j]? = some v→w.cell? (a.add j) = some v) (hfit:cs.length = cur.size) (h1:∀ v ∈ cs,v.oneCell' = true) :
  (Builtin.copy_ #[dT,sT] ty #[.slice (some ⟨g,0,none⟩) n dCap,.slice (some a) n sCap]).run P w = .ok (goInt n) (w.setRow g cs.toArray):=by
 have hl:=run_loadCells_list (P:=P) w a cs hsrc
 have hst:=run_storeCells_at P g 0 t cs 0 cur w hg (by omega) h1
 have e:cur.toList.take (0 + 0) ++ cs ++ cur.toList.drop (0 + 0 + cs.length) = cs:=by
  rw [hfit,Nat.zero_add,Nat.zero_add,List.take_zero,List.nil_append,List.drop_of_length_le (by simp),List.append_nil]
 rw [e] at hst
 have hm:Nat.min n n = n:=Nat.min_self n
 cases hq:P.info? elem with
 | none=>simp [hq] at hs
 | some i =>
  have hi:i.size = c:=by simpa [hq] using hs
  simp [Builtin.copy_,run_underlying hu,Builtin.lenOf,Builtin.firstCells,sizeOf,typeInfo,hq,hi,hm,← hn,hl,hst]
theorem wpList_copyC {P:Program} {w:World} {ops:Array Oper} {rest:List Oper} {o:Oper} {a:Act} {Q:Exit→Act→World→Prop} (hgd:o.guard = none) (d s:Operand) (dT sT:TypeId)
  (ho:o.op = .call { callee:=.builtin .copy,args:=#[d,s],argTypes:=#[dT,sT] }) (elem:TypeId) (hu:P.underlying dT = some (.slice elem)) (c:Nat) (hsz:(P.info? elem).map (·.size) = some c)
  (g n dCap:Nat) (ad:Addr) (sCap:Nat) (hd:a.eval d = .slice (some ⟨g,0,none⟩) n dCap) (hs:a.eval s = .slice (some ad) n sCap)
  (cur:Array Value) (t:TypeId) (hg:w.heap[g]? = some (.cells cur t (0,0))) (cs:List Value) (hn:cs.length = n * c)
  (hsrc:∀ j v,cs[j]? = some v→w.cell? (ad.add j) = some v) (hfit:cs.length = cur.size) (h1:∀ v ∈ cs,v.oneCell' = true)
  (h:wpList P ops Q rest (a.put o.dst (goInt n)) (w.setRow g cs.toArray)):wpList P ops Q (o :: rest) a w:=by
 refine wpList_plain hgd fun K hK=>?_
 have hrun:=run_copyC (P:=P) w dT sT o.type elem g n dCap ad sCap cur t cs c hu hsz hg hn hsrc hfit h1
 unfold Oper.wp
 simp [execOp,ho,resolve,invoke,builtin,hd,hs,hrun,Result.andThen]
 exact hK _ _ h
theorem wpList_copy0 {P:Program} {w:World} {ops:Array Oper} {rest:List Oper} {o:Oper} {a:Act} {Q:Exit→Act→World→Prop} (hgd:o.guard = none) (d s:Operand) (dT sT:TypeId)
  (ho:o.op = .call { callee:=.builtin .copy,args:=#[d,s],argTypes:=#[dT,sT] }) (elem:TypeId) (hu:P.underlying dT = some (.slice elem)) (hsz:((P.info? elem).map (·.size)).isSome = true)
  (ad:Addr) (dLen dCap:Nat) (hd:a.eval d = .slice (some ad) dLen dCap) (hs:a.eval s = .slice none 0 0)
  (h:wpList P ops Q rest (a.put o.dst (goInt 0)) w):wpList P ops Q (o :: rest) a w:=by
 refine wpList_plain hgd fun K hK=>?_
 have hrun:=run_copy_nil P w dT sT o.type elem ad dLen dCap hu hsz
 unfold Oper.wp
 simp [execOp,ho,resolve,invoke,builtin,hd,hs,hrun,Result.andThen]
 exact hK _ _ h
theorem wpList_makeN (w:World) {ops:Array Oper} {rest:List Oper} {o:Oper} {a:Act} {Q:Exit→Act→World→Prop} (hg:o.guard = none) (l c:Operand) (hop:o.op = Op.makeSlice 64 l c) (n:Nat) (hl:a.eval l = .int .i64 (n:Int)) (hc:a.eval c = .int .i64 (n:Int)) (hn:n≤100000000)
  (h:∀ w' (cur:Array Value),w'.heap[w.heap.size]? = some (.cells cur 88 (0,0))→cur.size = n * 4→Below w.heap.size w w'→wpList Tryz.prog ops Q rest (a.put o.dst (.slice (some ⟨w.heap.size,0,none⟩) n n)) w'):wpList Tryz.prog ops Q (o :: rest) a w:=by
 obtain ⟨i0,hi,hx⟩:=Option.map_eq_some_iff.1 infoEntry
 simp only [Prod.mk.injEq] at hx
 obtain ⟨h1,h2,h3⟩:=hx
 obtain ⟨z,hz,h4⟩:=Option.map_eq_some_iff.1 h1
 have hr:=run_make (P:=Tryz.prog) w 64 88 i0 z Tryz.underlying64 hi hz .i64 .i64 (n:Int) (n:Int) (by omega) (by omega) (by rw [h3];omega) (by omega)
 simp only [Int.toNat_natCast] at hr
 refine wpList_plain hg fun K hK'=>?_
 unfold Oper.wp execOp
 simp only [hop,Sem.run_bind,Sem.run_pure,Result.andThen_ok,hl,hc,hr]
 exact hK' _ _ (h _ _ (heap_alloc_new w _) (by rw [size_madeCells,h2]) (bel_d0 w _))
def CopP (w:World) (l:List (Nat × Rat)) (S:Nat) (e:Ending) (w':World):Prop:=∃ g,e = .returned (.slice (some ⟨g,0,none⟩) l.length l.length)∧LnE w' w.heap.size (.slice (some ⟨g,0,none⟩) l.length l.length) l S∧Below w.heap.size w w'
theorem LnE.at {w w':World} {B:Nat} {l:List (Nat × Rat)} {S:Nat} {vs:List Value} {E:Nat→List Value} (hlen:vs.length = l.length * 4) (hvs:∀ i,i < l.length→∀ j u,(E i)[j]? = some u→j < 4∧vs[i * 4 + j]? = some u) (hE:∀ (i:Nat) (e:Nat × Rat),l[i]? = some e→EnC w (E i) e S) (hb:Below w.heap.size w w') {g:Nat} (hBg:B≤g) {cur:Array Value} (hcur:cur.toList = vs) (hg:w'.heap[g]? = some (.cells cur 88 (0,0))) (hn:l.length≤100000000):LnE w' B (.slice (some ⟨g,0,none⟩) l.length l.length) l S :=
 ⟨E,⟨vs,⟨hlen,.inr ⟨g,l.length,cur,rfl,hBg,hg,Nat.le_refl _,by unfold maxLen;omega,by rw [← Array.length_toList,hcur,hlen],by rw [hcur,← hlen,List.take_length]⟩⟩,hvs⟩,fun i e he=>(hE i e he).below hb⟩
theorem LnE.ones {w:World} {l:List (Nat × Rat)} {S:Nat} {vs:List Value} {E:Nat→List Value} (hlen:vs.length = l.length * 4) (hvs:∀ i,i < l.length→∀ j u,(E i)[j]? = some u→j < 4∧vs[i * 4 + j]? = some u) (hE:∀ (i:Nat) (e:Nat × Rat),l[i]? = some e→EnC w (E i) e S):∀ v ∈ vs,v.oneCell' = true:=fun v hv=>by
 obtain ⟨k,hk,rfl⟩:=List.getElem_of_mem hv
 have hi:k / 4 < l.length:=by omega
 have he:=hE (k / 4) _ (List.getElem?_eq_getElem hi)
 have h4:=he.len
 have hj:k % 4 < (E (k / 4)).length:=by omega
 have h2:=(hvs _ hi (k % 4) _ (List.getElem?_eq_getElem hj)).2
 rw [show k / 4 * 4 + k % 4 = k by omega,List.getElem?_eq_getElem hk] at h2
 rw [Option.some.inj h2]
 exact he.one _ (List.getElem_mem hj)
set_option maxRecDepth 100000 in
set_option maxHeartbeats 8000000 in
theorem copLB {B S:Nat} {va:Option Addr} {n vc:Nat} {l:List (Nat × Rat)} (w:World) (hL:LnE w B (.slice va n vc) l S) (hn:l.length≤100000000):Calls Tryz.prog 161 #[.slice va n vc] w fun e w'=>CopP w l S e w':=by
 obtain ⟨E,⟨vs,⟨hlen,hown⟩,hvs⟩,hE⟩:=hL
 have h1:=LnE.ones hlen hvs hE
 rcases hown with ⟨e,h0⟩ | ⟨g,cap,cur,e,hBg,hg,hcap,hmax,hsz,htk⟩
 ·simp only [Value.slice.injEq] at e
  obtain ⟨rfl,rfl,rfl⟩:=e
  have HP:∀ w' (cur:Array Value),w'.heap[w.heap.size]? = some (.cells cur 88 (0,0))→cur.size = 0 * 4→Below w.heap.size w w'→CopP w l S (.returned (.slice (some ⟨w.heap.size,0,none⟩) 0 0)) w':=fun w' cur hg hs hb=>by
   have hz:cur.toList = vs:=by
    rw [List.eq_nil_of_length_eq_zero (show vs.length = 0 by omega)]
    exact List.eq_nil_of_length_eq_zero (by rw [Array.length_toList];omega)
   refine ⟨w.heap.size,by rw [h0],LnE.at hlen hvs hE hb (Nat.le_refl _) hz hg hn,hb⟩
  clear hlen h1 hvs hE h0
  go_enter Tryz.func161,Tryz.ntmps161
  go_wp2_with (first
   | (refine wpList_makeN _ rfl _ _ rfl 0 rfl rfl (by omega) ?_;intro w1 cur hg1 hs1 hb1;have HQ:=HP w1 cur hg1 hs1 hb1;clear HP hg1 hs1 hb1)
   | (refine wpList_copy0 rfl _ _ _ _ rfl 88 Tryz.underlying64 (by kernel_rfl) _ _ _ rfl rfl ?_)
   | fail)
  go_ret
  exact HQ
 ·simp only [Value.slice.injEq] at e
  obtain ⟨rfl,rfl,rfl⟩:=e
  have hsrc:∀ j v,vs[j]? = some v→w.cell? ((⟨g,0,none⟩:Addr).add j) = some v:=fun j v hv=>by
   have hj:j < l.length * 4:=by rw [← hlen];exact (List.getElem?_eq_some_iff.1 hv).1
   have e:(⟨g,0,none⟩:Addr).add j = ⟨g,j,none⟩:=by unfold Addr.add;split <;> simp_all
   rw [e]
   refine (cell_of_row w g j cur _ _ hg).trans ?_
   rw [← htk,List.getElem?_take,if_pos hj,Array.getElem?_toList] at hv
   exact hv
  obtain ⟨m,em⟩:∃ m,m = l.length:=⟨_,rfl⟩
  have HP:∀ w' ,w'.heap[w.heap.size]? = some (.cells vs.toArray 88 (0,0))→Below w.heap.size w w'→CopP w l S (.returned (.slice (some ⟨w.heap.size,0,none⟩) m m)) w':=fun w' hg hb=>by
   rw [em]
   exact ⟨w.heap.size,rfl,LnE.at hlen hvs hE hb (Nat.le_refl _) rfl hg hn,hb⟩
  rw [← em] at hlen hn ⊢
  clear em hvs hE htk hsz
  have HS:Hid (∀ j v,vs[j]? = some v→w.cell? ((⟨g,0,none⟩:Addr).add j) = some v):=hsrc
  have H1:Hid (∀ v ∈ vs,v.oneCell' = true):=h1
  have HL:Hid (vs.length = m * 4):=hlen
  have HPP:Hid (∀ w' ,w'.heap[w.heap.size]? = some (.cells vs.toArray 88 (0,0))→Below w.heap.size w w'→CopP w l S (.returned (.slice (some ⟨w.heap.size,0,none⟩) m m)) w'):=HP
  clear hsrc h1 hlen HP
  go_enter Tryz.func161,Tryz.ntmps161
  go_wp2_with (first
   | (refine wpList_makeN _ rfl _ _ rfl m rfl rfl (by omega) ?_;intro w1 cu hg1 hs1 hb1;have HG:Hid (w1.heap[w.heap.size]? = some (.cells cu 88 (0,0))):=hg1;have HZ:Hid (cu.size = m * 4):=hs1;clear hg1 hs1)
   | (refine wpList_copyC rfl _ _ _ _ rfl 88 Tryz.underlying64 4 (by kernel_rfl) w.heap.size m m ⟨g,0,none⟩ vc rfl rfl cu 88 HG.out vs HL.out (fun j v hv=>kept_c hb1 (HS.out j v hv)) (by rw [HL.out,HZ.out]) H1.out ?_;have HQ:=HPP.out _ (setRow_heap w1 w.heap.size _ vs.toArray 88 _ HG.out) (below_setRow hb1 (Nat.le_refl _) vs.toArray);clear HPP HS H1 HL HG HZ hb1;generalize w1.setRow w.heap.size vs.toArray = w2 at *)
   | fail)
  go_ret
  exact HQ
end Go.Proofs.YtmpkgpilfcbdnaaGreatDoor
