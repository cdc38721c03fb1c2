import Derived.Test.YtnokmjmefipplaaGreatDoorTtDAll
import Derived.Test.YtnokmjmefipplaaGreatDoorGuIAll
import Derived.Test.YtnokmjmefipplaaGreatDoorTtJAll
set_option maxRecDepth 100000
set_option maxHeartbeats 16000000
namespace Go.Proofs.YtnokmjmefipplaaGreatDoor
open Go.RowKit Go.Shelf
attribute [local go_sem] Oper.semAt_some
theorem bwIn (a:Option Addr) (n c:Nat) (k:Nat) (w:World) :
 CallsIn Fence.wide k Tryz.prog 129 #[.slice a n c] w fun e w'=>e = .returned (.func (.func 143) #[] #[.pointer (some ⟨w.heap.size,0,none⟩)])∧w' = w.alloc (.cells #[.slice a n c] 94):=by
 refine callsIn_of_wp Tryz.func129 rfl trivial ?_ rfl
 simp only [Tryz.ntmps129,List.size_toArray,List.length_cons,List.length_nil,Nat.reduceAdd,Nat.reduceSub,Array.replicate_succ,Array.replicate_zero,List.push_toArray,List.append_toArray,List.nil_append,List.cons_append]
 gi_wp2
 go_ret
 exact ⟨rfl,rfl⟩
def BwM (bx:Nat) (sa:Option Addr) (a m c:Nat) (pv:Nat→Nat) (pw:Nat→List Value) (_:Nat) (W:World):Prop :=
 W.cell? ⟨bx,0,none⟩ = some (.slice sa m c)∧(m = 0∨∃ gp,sa = some ⟨gp,a * 14,none⟩∧∀ j,j < m→∀ r u,(Value.int .i64 (pv (a + j):Nat) :: pw (a + j))[r]? = some u→W.cell? ⟨gp,(a + j) * 14 + r,none⟩ = some u)
def BwO (a:Nat) (pv:Nat→Nat) (pw:Nat→List Value) (_:Nat) (i:Nat) (_:Unit) (x y:Value) (_:World):Prop:=∃ j,i = j + 1∧x = .int .i64 (j:Nat)∧y = .agg (Value.int .i64 (pv (a + j):Nat) :: pw (a + j)).toArray∧Sh13 (pw (a + j))
theorem aM0 (bx:Nat) (sa:Option Addr) (a m c:Nat) (pv:Nat→Nat) (pw:Nat→List Value) (w0:World) (hm:m≤2000000) (hsh:∀ j,j < m→Sh13 (pw (a + j))) :
 SeqY Fence.wide Tryz.prog 143 #[.pointer (some ⟨bx,0,none⟩)] (fun i (_:Unit) i'=>i = i' + 1) (fun i=>i = 0) (BwM bx sa a m c pv pw) (BwO a pv pw) m w0:=by
 intro N0 l J Jx W hW hJ hJx hM hY h0
 refine callsIn_of_wp Tryz.func143 rfl trivial ?_ rfl
 simp only [Tryz.ntmps143,List.size_toArray,List.length_cons,List.length_nil,Nat.reduceAdd,Nat.reduceSub,Array.replicate_succ,Array.replicate_zero,List.push_toArray,List.append_toArray,List.nil_append,List.cons_append]
 have hc:=(hM _ _ h0).1
 gi_wp2
 clear hc
 gi_loopw [3] (fun s3 wr=>∃ (i:Nat),i≤m∧s3 = .int .i64 ((i:Int) - 1)∧J i wr∧Below w0.heap.size w0 wr∧W.heap.size≤wr.heap.size) (fun s3 _=>(intOf s3 + 1).toNat)
 case atStart=>exact ⟨m,Nat.le_refl _,rfl,h0,hW,Nat.le_refl _⟩
 case round =>
  clear h0 hW
  obtain ⟨i,hi,rfl,hj,hbel,hsz⟩:=hrel
  cases i with
  | zero =>
   have HJ:Hid (J 0 wr):=hj
   clear hj hY hJ hJx hM
   gi_wp2
   go_end0
   exact ⟨⟨_,rfl⟩,.inl ⟨0,rfl,HJ.out,hbel⟩⟩
  | succ j =>
   have hjm:j < m:=by omega
   obtain ⟨c0,h0m | ⟨gp,rfl,hcs⟩⟩:=hM _ _ hj
   ·omega
   obtain ⟨nm,pO,aO,nO,cO,dO,mO,lO,hl,pl,al,nl,cl,dl,ml,ll,hh,ph,ah,nh,ch,dh,mh,lh,wh,epw⟩:=hsh j hjm
   have hcj:=hcs j hjm
   rw [epw] at hcj
   obtain ⟨N,hN⟩:∃ N,N = pv (a + j):=⟨_,rfl⟩
   rw [← hN] at hcj
   have e14:(a + j) * 14 = a * 14 + j * 14:=by omega
   rw [e14] at hcj
   have y0:wr.cell? ⟨gp,a * 14 + j * 14,none⟩ = some (.int .i64 (N:Nat)):=hcj 0 _ rfl
   have y1:=hcj 1 _ rfl
   have y2:=hcj 2 _ rfl
   have y3:=hcj 3 _ rfl
   have y4:=hcj 4 _ rfl
   have y5:=hcj 5 _ rfl
   have y6:=hcj 6 _ rfl
   have y7:=hcj 7 _ rfl
   have y8:=hcj 8 _ rfl
   have y9:=hcj 9 _ rfl
   have y10:=hcj 10 _ rfl
   have y11:=hcj 11 _ rfl
   have y12:=hcj 12 _ rfl
   have y13:=hcj 13 _ rfl
   have hy:=hY (N0 - 1) (j + 1) () (.int .i64 (j:Nat)) (.agg (Value.int .i64 (N:Nat) :: [.string nm,.bool pO,.slice aO nO cO,.slice dO mO lO,.bool hl,.bool pl,.slice al nl cl,.slice dl ml ll,.bool hh,.bool ph,.slice ah nh ch,.slice dh mh lh,.bool wh]).toArray) wr hj hbel hsz ⟨j,rfl,rfl,by rw [hN,epw],hsh j hjm⟩
   obtain ⟨fn,tmps,assign,body,hyr,hRd⟩:=hy
   have ej:(((j + 1:Nat):Int) - 1) = (j:Int):=by omega
   rw [ej]
   have hj0:¬ (j:Int) < 0:=by omega
   have hj1:(0:Int)≤(j:Int):=by omega
   have hjI:(j:Int) < (m:Int):=by omega
   have hj14:(j:Int) * 14 = ((j * 14:Nat):Int):=by omega
   clear hcj hcs epw hN e14 ej hj hbel hM hY
   gi_wp2
   refine ⟨fun h=>(by cases h),?_⟩
   refine hRd.mono ?_
   rintro e W3 (⟨rfl,⟨i',hi',hJ3⟩,hk3,hb3⟩ | ⟨rfl,hx3,_⟩)
   ·obtain rfl:i' = j:=by omega
    have HJ3:Hid (J i' W3):=hJ3
    have hs3:=hk3.size
    clear hJ3 hk3 hRd hyr hJ hJx c0 y0 y1 y2 y3 y4 y5 y6 y7 y8 y9 y10 y11 y12 y13
    gi_wp2
    go_roundw
    case rel=>exact ⟨i',by omega,rfl,HJ3.out,hb3,by omega⟩
    case measure=>first | (simp [intOf];done) | (simp [intOf];omega)
   ·have HX3:Hid (Jx W3):=hx3
    clear hRd hyr hx3 hJ hJx c0 y0 y1 y2 y3 y4 y5 y6 y7 y8 y9 y10 y11 y12 y13
    gi_wp2
    exact bodyPost_ret (results_none rfl _ _ _) rfl ⟨⟨_,rfl⟩,.inr HX3.out⟩
end Go.Proofs.YtnokmjmefipplaaGreatDoor
namespace Go.Proofs.YtnokmjmefipplaaGreatDoor
open Go.RowKit Go.Shelf
attribute [local go_sem] Oper.semAt_some
def WyD.back (x:WyD) (a:Nat):WyD:={ x with d:=a,C:=und x.pv x.pw a x.d x.C }
def BtR (w0:World) (F:Nat) (P:Prob) (T:Nat→Nod) (ZT:Nat→Nat) (x:WyD) (a:Nat) (w:World) (e:Ending) (w':World):Prop:=(∃ v,e = .returned v)∧WyQ w0 w' F P T ZT (x.back a)∧Kb F [97,45] w w'
theorem Kb.ext {F:Nat} {L:List TypeId} {u A A':World} (h:Kb F L u A) (hb:Below u.heap.size A A') (hF:F≤u.heap.size):Kb F L u A' :=
 ⟨hb.os.trans h.os,hb.tape.trans h.tape,hb.output.trans h.output,Nat.le_trans h.size hb.size,fun k hk=>(hb.block k (by omega)).trans (h.low k hk),fun k cur T f h1 h2=>(hb.block k (Array.getElem?_eq_some_iff.1 h1).1).trans (h.high k cur T f h1 h2)⟩
theorem vP {F D:Nat} {V:World} {o:Obj} (L:List TypeId) (o':Obj) (hD:V.heap[D]? = some o) (ho:o.isCells = false) (hF:F≤D):Kb F L V (V.putObj D o') :=
 ⟨rfl,rfl,rfl,by simp,fun k hk=>World.putObj_heap_other (by omega),fun k cur T f h1 _=>World.putObj_heap_other (fun e=>by subst e;rw [h1] at hD;cases hD;cases ho)⟩
theorem WyQ.kb0 {w0 w w':World} {F:Nat} {P:Prob} {T:Nat→Nod} {ZT:Nat→Nat} {x:WyD} (h:WyQ w0 w F P T ZT x) (k:Kb F [] w w'):WyQ w0 w' F P T ZT x :=
 ⟨h.st.kb k (by decide),h.pF,h.vs.kb k (by decide),h.vcc,h.ps.kb k (by decide),h.pl,h.ah.kb k (by decide),fun i hi=>⟨(h.pt i hi).rc,(h.pt i hi).sp,(h.pt i hi).ad,(h.pt i hi).ap,(h.pt i hi).ia,(h.pt i hi).sd.kb k (by decide)⟩,h.mo⟩
theorem VB.ext {u A A':World} {F:Nat} {a:Option Addr} {n:Nat} {C C':Nat→List Value} (h0:VB u F a n C) (h:VB A F a n C') (hb:Below u.heap.size A A'):VB A' F a n C':=by
 rcases h with h | ⟨g,cur,h1,h2,h3,h4⟩
 ·exact .inl h
 ·rcases h0 with h0 | ⟨g0,cur0,e1,e2,e3,e4⟩
  ·exact .inl h0
  ·have hg:g = g0:=by
    have:(some ⟨g,0,none⟩:Option Addr) = some ⟨g0,0,none⟩:=h1.symm.trans e1
    simpa using this
   have e:=hb.block g (by rw [hg];exact (Array.getElem?_eq_some_iff.1 e3).1)
   exact .inr ⟨g,cur,h1,h2,e.trans h3,fun j hj=>⟨(h4 j hj).1,fun i u hu=>(World.cell?_of_block e).trans ((h4 j hj).2 i u hu)⟩⟩
theorem aL1 {w0 u V V':World} {F:Nat} {P:Prob} {T:Nat→Nod} {ZT:Nat→Nat} {x:WyD} {a:Nat} (h:WyQ w0 u F P T ZT x) (ha:a≤x.d) (hab:∀ i,i < x.hn→(x.f i).abv≤a) (k1:Kb F [45] u V) (hV:VB V F x.va P.vn (und x.pv x.pw a x.d x.C)) (e:V' = V.setCell ⟨x.p,7,none⟩ (.slice x.pa a x.pc)) :
 WyQ w0 V' F P T ZT (x.back a)∧Kb F [97,45] u V':=by
 have st2:=h.st.kb k1 (by decide)
 have O:Off x.p V V':=by rw [e];exact (Off.refl _ _).set 7 _
 have k2:Kb F [97] V V':=jV st2 h.pF O
 have kk:Kb F [97,45] u V':=(k1.up (by decide)).trans (k2.up (by decide))
 refine ⟨⟨?_,h.pF,hV.kb k2 (by decide),h.vcc,(h.ps.kb kk (by decide)).take ha,fun i hi=>h.pl i (Nat.lt_of_lt_of_le hi ha),h.ah.kb kk (by decide),fun i hi=>?_,h.mo⟩,kk⟩
 ·have:=qV st2 7 (.slice x.pa a x.pc)
  rw [e]
  exact this
 ·have hp:=h.pt i hi
  refine ⟨hp.rc,hp.sp,hab i hi,hp.ap,hp.ia,?_⟩
  show Std w0 V' F P ZT (x.f i).par (x.f i).B (x.f i).Z (und x.pv x.pw (x.f i).abv a (und x.pv x.pw a x.d x.C))
  rw [← aH4 (hab i hi) ha]
  exact hp.sd.kb kk (by decide)
theorem mP {F:Fence} {n:Nat} {P:Program} {op:Oper} {a:Act} {w:World} {K:Act→World→Prop} {Q:Exit→Act→World→Prop} (ty:TypeId) (x y:Operand) (ho:op.op = .store ty x y)
 (b o:Nat) (cells:Array Value) (hx:a.eval x = .pointer (some ⟨b,o,none⟩)) (hy:a.eval y = .agg cells)
 (ht:w.there b o cells.size) (hi:(P.info? ty).map (·.size) = some cells.size) (h1:cells.all (·.oneCell') = true)
 (h:K (a.put op.dst undef) (w.setCells b o cells.toList)):op.wpIn F n P a w K Q:=by
 refine ⟨fun f hf=>(by rw [uI (fun c e=>by rw [ho] at e;cases e)] at hf;cases hf),?_⟩
 rw [Oper.semAt_eq _ _ _ (fun c e=>by rw [ho] at e;cases e)]
 unfold execOp
 simp only [ho,hx,hy,Instr.storeAt,Instr.sureAddr,Sem.run_bind,Sem.run_pure,Result.andThen_ok,run_storeVar_mid w b o ty cells ht hi h1]
 exact h
theorem kJ:(Tryz.prog.info? 45).map (·.size) = some 13:=by kernel_rfl
def BtI (u:World) (F:Nat) (P:Prob) (x:WyD) (a i:Nat) (V:World):Prop:=Kb F [45] u V∧a + i≤x.d∧∃ C',VB V F x.va P.vn C'∧und x.pv x.pw a (a + i) C' = und x.pv x.pw a x.d x.C
def BtA (_ y:Value) (h:Nat) (V:World):Prop:=∃ cs,y = .agg cs∧Rw 155 V h cs
theorem aR0 {w0:World} {F:Nat} {P:Prob} {T:Nat→Nod} {ZT:Nat→Nat} {x:WyD} (a:Nat) (w:World) (hb0:Below w0.heap.size w0 w) (hFw:w0.heap.size≤F) (h:WyQ w0 w F P T ZT x) (hF:F≤w.heap.size) (ha:a≤x.d) (hd:x.d≤2000000) (hab:∀ i,i < x.hn→(x.f i).abv≤a) :
 Calls Tryz.prog 114 #[.pointer (some ⟨x.p,0,none⟩),.int .i64 (a:Nat)] w fun e w'=>BtR w0 F P T ZT x a w e w':=by
 refine (callsIn_wide (n:=3)).1 ?_
 have hz:=aG w (.cells #[.pointer (some ⟨x.p,0,none⟩)] 91)
 have Xb:=Rw.new 91 w #[.pointer (some ⟨x.p,0,none⟩)]
 have h1:=h.below hz
 have hsz:(w.alloc (.cells #[.pointer (some ⟨x.p,0,none⟩)] 91)).heap.size = w.heap.size + 1:=by simp
 have c7:(w.alloc (.cells #[.pointer (some ⟨x.p,0,none⟩)] 91)).cell? ⟨x.p,7,none⟩ = some (.slice x.pa x.d x.pc):=h1.st.cell 7
 have hpc:x.d≤x.pc:=by obtain ⟨a',cap,e,hc⟩:=h.ps.form;simp only [Value.slice.injEq] at e;omega
 have hI1:¬ (x.d:Int) < (a:Int):=by omega
 have hI2:¬ (x.pc:Int) < (x.d:Int):=by omega
 have hI3:¬ (x.pc:Int) < (a:Int):=by omega
 refine callsIn_of_wp_marks Tryz.func114 rfl trivial ?_ rfl
 simp only [Tryz.ntmps114,List.size_toArray,List.length_cons,List.length_nil,Nat.reduceAdd,Nat.reduceSub,Array.replicate_succ,Array.replicate_zero,List.push_toArray,List.append_toArray,List.nil_append,List.cons_append]
 by_cases hpa:x.pc = a
 focus
  have hI4:(x.pc:Int) = (a:Int):=by omega
  gi_wp2
  have HDA:Hid (x.d - a = 0):=(by show x.d - a = 0;omega)
  clear hI4 hpa
  refine ⟨trivial,?_⟩
  refine (bwIn _ _ _ _ _).mono ?_
  rintro e w' ⟨rfl,rfl⟩
  rw [World.size_alloc]
  clear c7
  have hz2:=aG (w.alloc (.cells #[.pointer (some ⟨x.p,0,none⟩)] 91)) (.cells #[.slice (x.pa) (x.d - a) (0)] 94)
  have Bb:=Rw.new 94 (w.alloc (.cells #[.pointer (some ⟨x.p,0,none⟩)] 91)) #[.slice (x.pa) (x.d - a) (0)]
  rw [hsz] at Bb
  have h2:=h1.below hz2
  have Xb2:=Xb.below hz2
  have hb2:Below w0.heap.size w0 _:=(hb0.trans (hz.mono hb0.size)).trans (hz2.mono (Nat.le_trans hb0.size hz.size))
  have hUw:Kb F [97,45] w ((w.alloc (.cells #[.pointer (some ⟨x.p,0,none⟩)] 91)).alloc (.cells #[.slice (x.pa) (x.d - a) (0)] 94)):=(bZ _ hz hF).trans (bZ _ hz2 (by omega))
  have hs2:((w.alloc (.cells #[.pointer (some ⟨x.p,0,none⟩)] 91)).alloc (.cells #[.slice (x.pa) (x.d - a) (0)] 94)).heap.size = w.heap.size + 2:=by simp
  gi_wp2
  generalize (w.alloc (.cells #[.pointer (some ⟨x.p,0,none⟩)] 91)).alloc (.cells #[.slice (x.pa) (x.d - a) (0)] 94) = U at *
  have hFU:F≤U.heap.size:=by omega
  clear hz hz2 hsz Xb h1
  obtain ⟨xb,hxb⟩:∃ xb,w.heap.size = xb:=⟨_,rfl⟩
  rw [hxb] at Xb2 Bb ⊢
  have hLST:x.d - a = 0∨∃ gp,x.pa = some ⟨gp,a * 14,none⟩∧∀ A,Kb F [45] U A→∀ j,j < x.d - a→∀ r u,(Value.int .i64 (x.pv (a + j):Nat) :: x.pw (a + j))[r]? = some u→A.cell? ⟨gp,(a + j) * 14 + r,none⟩ = some u:=by
   exact .inl HDA.out
  have hseq:=aM0 (xb + 1) (x.pa) a (x.d - a) (0) x.pv x.pw w0 (by omega) (fun j hj=>(h.pl (a + j) (by omega)).2)
 rotate_left
 focus
  have hI4:¬ (x.pc:Int) = (a:Int):=by omega
  gi_wp2
  clear hI4 hpa
  refine ⟨trivial,?_⟩
  refine (bwIn _ _ _ _ _).mono ?_
  rintro e w' ⟨rfl,rfl⟩
  rw [World.size_alloc]
  clear c7
  have hz2:=aG (w.alloc (.cells #[.pointer (some ⟨x.p,0,none⟩)] 91)) (.cells #[.slice (Option.map (fun x=>x.add (a * 14)) x.pa) (x.d - a) (x.pc - a)] 94)
  have Bb:=Rw.new 94 (w.alloc (.cells #[.pointer (some ⟨x.p,0,none⟩)] 91)) #[.slice (Option.map (fun x=>x.add (a * 14)) x.pa) (x.d - a) (x.pc - a)]
  rw [hsz] at Bb
  have h2:=h1.below hz2
  have Xb2:=Xb.below hz2
  have hb2:Below w0.heap.size w0 _:=(hb0.trans (hz.mono hb0.size)).trans (hz2.mono (Nat.le_trans hb0.size hz.size))
  have hUw:Kb F [97,45] w ((w.alloc (.cells #[.pointer (some ⟨x.p,0,none⟩)] 91)).alloc (.cells #[.slice (Option.map (fun x=>x.add (a * 14)) x.pa) (x.d - a) (x.pc - a)] 94)):=(bZ _ hz hF).trans (bZ _ hz2 (by omega))
  have hs2:((w.alloc (.cells #[.pointer (some ⟨x.p,0,none⟩)] 91)).alloc (.cells #[.slice (Option.map (fun x=>x.add (a * 14)) x.pa) (x.d - a) (x.pc - a)] 94)).heap.size = w.heap.size + 2:=by simp
  gi_wp2
  generalize (w.alloc (.cells #[.pointer (some ⟨x.p,0,none⟩)] 91)).alloc (.cells #[.slice (Option.map (fun x=>x.add (a * 14)) x.pa) (x.d - a) (x.pc - a)] 94) = U at *
  have hFU:F≤U.heap.size:=by omega
  clear hz hz2 hsz Xb h1
  obtain ⟨xb,hxb⟩:∃ xb,w.heap.size = xb:=⟨_,rfl⟩
  rw [hxb] at Xb2 Bb ⊢
  have hLST:x.d - a = 0∨∃ gp,Option.map (fun x=>x.add (a * 14)) x.pa = some ⟨gp,a * 14,none⟩∧∀ A,Kb F [45] U A→∀ j,j < x.d - a→∀ r u,(Value.int .i64 (x.pv (a + j):Nat) :: x.pw (a + j))[r]? = some u→A.cell? ⟨gp,(a + j) * 14 + r,none⟩ = some u:=by
   rcases h2.ps.cell with q | ⟨gp,e1,_⟩
   ·exact .inl (by omega)
   ·refine .inr ⟨gp,by rw [e1];simp [Addr.add_mid],fun A hk j hj r u hu=>?_⟩
    rcases (h2.ps.kb hk (by decide)).cell with q | ⟨gp',e2,hc⟩
    ·omega
    ·have:(some ⟨gp,0,none⟩:Option Addr) = some ⟨gp',0,none⟩:=e1.symm.trans e2
     have hgg:gp = gp':=by simpa using this
     rw [hgg]
     exact hc (a + j) (by omega) r u hu
  have hseq:=aM0 (xb + 1) (Option.map (fun x=>x.add (a * 14)) x.pa) a (x.d - a) (x.pc - a) x.pv x.pw w0 (by omega) (fun j hj=>(h.pl (a + j) (by omega)).2)
 rotate_left
 all_goals
  first
   | focus
    have _t:=HDA
    refine oM (gf:=143) (lb:=#[.pointer (some ⟨xb + 1,0,none⟩)]) rfl rfl rfl trivial (enters_of Tryz.func143 (by kernel_rfl) rfl) hseq (fun C s b x y W W' h _ _=>h) hb2 rfl
     BtA (fun C x y hh X X' ⟨cs,e,hr⟩ hk hC=>⟨cs,e,hr.keptY hk hC⟩) (BtI U F P x a) (fun _ _=>False) ?own (fun _ _ _ h _=>h) ?mem ?start
     (fun u v hh=>{ tmps:=#[.pointer (some ⟨x.p,0,none⟩),.int .i64 (a:Nat),.pointer (some ⟨xb,0,none⟩),undef,undef,.pointer (some ⟨hh,0,none⟩),.pointer (some ⟨x.p,0,none⟩),.pointer (some ⟨x.p,0,none⟩),.pointer (some ⟨x.p,7,none⟩),.slice x.pa x.d (a),.int .i64 (a:Nat),.slice (x.pa) (x.d - a) (0),.func (.func 143) #[] #[.pointer (some ⟨xb + 1,0,none⟩)],u,v,undef,undef,undef,undef,undef,undef,undef,undef,undef,undef,undef,undef,undef,undef,undef,undef,undef,undef,undef],defers:=[] }) ?assign ?body ?done ?stop
   | focus
    refine oM (gf:=143) (lb:=#[.pointer (some ⟨xb + 1,0,none⟩)]) rfl rfl rfl trivial (enters_of Tryz.func143 (by kernel_rfl) rfl) hseq (fun C s b x y W W' h _ _=>h) hb2 rfl
     BtA (fun C x y hh X X' ⟨cs,e,hr⟩ hk hC=>⟨cs,e,hr.keptY hk hC⟩) (BtI U F P x a) (fun _ _=>False) ?own (fun _ _ _ h _=>h) ?mem ?start
     (fun u v hh=>{ tmps:=#[.pointer (some ⟨x.p,0,none⟩),.int .i64 (a:Nat),.pointer (some ⟨xb,0,none⟩),undef,undef,.pointer (some ⟨hh,0,none⟩),.pointer (some ⟨x.p,0,none⟩),.pointer (some ⟨x.p,0,none⟩),.pointer (some ⟨x.p,7,none⟩),.slice x.pa x.d (x.pc),.int .i64 (a:Nat),.slice (Option.map (fun x=>x.add (a * 14)) x.pa) (x.d - a) (x.pc - a),.func (.func 143) #[] #[.pointer (some ⟨xb + 1,0,none⟩)],u,v,undef,undef,undef,undef,undef,undef,undef,undef,undef,undef,undef,undef,undef,undef,undef,undef,undef,undef,undef],defers:=[] }) ?assign ?body ?done ?stop
  case own=>exact fun i A A' ⟨q1,q2,C',q3,q4⟩ hb=>⟨q1.ext hb hFU,q2,C',h2.vs.ext q3 hb,q4⟩
  case mem =>
   rintro i A ⟨q1,_,_⟩
   refine ⟨(Bb.kb q1 (by decide)).cell 0,?_⟩
   rcases hLST with q | ⟨gp,q2,q3⟩
   ·exact .inl q
   ·exact .inr ⟨gp,q2,q3 A q1⟩
  case start=>exact ⟨Kb.refl _ _ _,by omega,x.C,h2.vs,by rw [show a + (x.d - a) = x.d by omega]⟩
  case assign =>
   rintro l m u v W K ⟨_,i,_,_,j,rfl,rfl,rfl,nm,pO,aO,nO,cO,dO,mO,lO,hl,pl,al,nl,cl,dl,ml,ll,hh,ph,ah,nh,ch,dh,mh,lh,wh,epw⟩ hK
   rw [epw] at hK ⊢
   gi_wp2
   exact hK _ (aG _ _) ⟨_,rfl,Rw.new _ _ _⟩
  case stop =>
   rintro D c V _ hF _
   exact hF.elim
  case body =>
   rintro l m i b u v HH V ⟨cs,rfl,hR⟩ hHH ⟨k1,hle,C',hVB,hund⟩ hbV ⟨j,rfl,rfl,ev,nm,pO,aO,nO,cO,dO,mO,lO,hl,pl,al,nl,cl,dl,ml,ll,hh,ph,ah,nh,ch,dh,mh,lh,wh,epw⟩
   obtain rfl:cs = (Value.int .i64 (x.pv (a + j):Nat) :: x.pw (a + j)).toArray:=by simpa using ev
   clear ev
   obtain ⟨N,hN⟩:∃ N,N = x.pv (a + j):=⟨_,rfl⟩
   have hNl:N < P.vn:=by rw [hN];exact (h.pl (a + j) (by omega)).1
   rw [epw,← hN] at hR ⊢
   rcases hVB with h0 | ⟨g,cur,hva,hFg,hg,hrg⟩
   ·omega
   have hgU:g < U.heap.size:=by
    rcases h2.vs with h0 | ⟨g0,cur0,e1,e2,e3,e4⟩
    ·omega
    ·have:(some ⟨g,0,none⟩:Option Addr) = some ⟨g0,0,none⟩:=hva.symm.trans e1
     have hgg:g = g0:=congrArg (fun q:Option Addr=>(q.getD ⟨0,0,none⟩).block) this
     rw [hgg];exact (Array.getElem?_eq_some_iff.1 e3).1
   have hth:V.there g (N * 13) 13:=nS hg (hrg N hNl).2 (by rw [(hrg N hNl).1];exact Nat.le_refl _)
   have hnew:(V.drew.setCells g (N * 13) [.string nm,.bool pO,.slice aO nO cO,.slice dO mO lO,.bool hl,.bool pl,.slice al nl cl,.slice dl ml ll,.bool hh,.bool ph,.slice ah nh ch,.slice dh mh lh,.bool wh]).rangeAt g (N * 13) [.string nm,.bool pO,.slice aO nO cO,.slice dO mO lO,.bool hl,.bool pl,.slice al nl cl,.slice dl ml ll,.bool hh,.bool ph,.slice ah nh ch,.slice dh mh lh,.bool wh]:=World.rangeAt_setCells_same V.drew g (N * 13) _ ((World.there_drew V g (N * 13) 13).2 hth)
   have hput:=VB.put (w:=V.drew) (n:=P.vn) (v:=N) (o:=N * 13) (vs:=[.string nm,.bool pO,.slice aO nO cO,.slice dO mO lO,.bool hl,.bool pl,.slice al nl cl,.slice dl ml ll,.bool hh,.bool ph,.slice ah nh ch,.slice dh mh lh,.bool wh]) hFg hg hrg (Nat.le_refl _) (by show N * 13 + 13≤_;omega) rfl hnew rfl
   have kD:Kb F [45] V V.drew:=bZ _ (aK _) (Nat.le_trans hFU k1.size)
   have HEND:Hid (BtI U F P x a j (V.drew.setCells g (N * 13) [.string nm,.bool pO,.slice aO nO cO,.slice dO mO lO,.bool hl,.bool pl,.slice al nl cl,.slice dl ml ll,.bool hh,.bool ph,.slice ah nh ch,.slice dh mh lh,.bool wh])∧KeptY U.heap.size V (V.drew.setCells g (N * 13) [.string nm,.bool pO,.slice aO nO cO,.slice dO mO lO,.bool hl,.bool pl,.slice al nl cl,.slice dl ml ll,.bool hh,.bool ph,.slice ah nh ch,.slice dh mh lh,.bool wh])∧Below w0.heap.size w0 (V.drew.setCells g (N * 13) [.string nm,.bool pO,.slice aO nO cO,.slice dO mO lO,.bool hl,.bool pl,.slice al nl cl,.slice dl ml ll,.bool hh,.bool ph,.slice ah nh ch,.slice dh mh lh,.bool wh])):=by
    refine ⟨⟨(k1.trans kD).trans hput.2,by omega,_,by rw [hva];exact hput.1,?_⟩,(KeptY.of_below (aK V)).trans (KeptY.of_off (fH g _ _ _) hgU),hbV.trans ((kD.trans hput.2).below.mono hFw)⟩
    rw [← hund,show a + (j + 1) = (a + j) + 1 by omega,gQ (by omega),epw,← hN]
   have st2:=h2.st.kb k1 (by decide)
   have xb2:=Xb2.kb k1 (by decide)
   have c5:V.cell? ⟨x.p,5,none⟩ = some (.slice x.va P.vn x.vc):=st2.cell 5
   rw [hva] at c5
   have hS0:V.cell? ⟨xb,0,none⟩ = some (.pointer (some ⟨x.p,0,none⟩))∧V.cell? ⟨x.p,5,none⟩ = some (.slice (some ⟨g,0,none⟩) P.vn x.vc)∧V.cell? ⟨HH,0,none⟩ = some (.int .i64 (N:Nat))∧V.cell? ⟨HH,1,none⟩ = some (.string nm)∧V.cell? ⟨HH,2,none⟩ = some (.bool pO)∧V.cell? ⟨HH,3,none⟩ = some (.slice aO nO cO)∧V.cell? ⟨HH,4,none⟩ = some (.slice dO mO lO)∧V.cell? ⟨HH,5,none⟩ = some (.bool hl)∧V.cell? ⟨HH,6,none⟩ = some (.bool pl)∧V.cell? ⟨HH,7,none⟩ = some (.slice al nl cl)∧V.cell? ⟨HH,8,none⟩ = some (.slice dl ml ll)∧V.cell? ⟨HH,9,none⟩ = some (.bool hh)∧V.cell? ⟨HH,10,none⟩ = some (.bool ph)∧V.cell? ⟨HH,11,none⟩ = some (.slice ah nh ch)∧V.cell? ⟨HH,12,none⟩ = some (.slice dh mh lh)∧V.cell? ⟨HH,13,none⟩ = some (.bool wh):=⟨xb2.cell 0,c5,hR.cell 0,hR.cell 1,hR.cell 2,hR.cell 3,hR.cell 4,hR.cell 5,hR.cell 6,hR.cell 7,hR.cell 8,hR.cell 9,hR.cell 10,hR.cell 11,hR.cell 12,hR.cell 13⟩
   have hkV:(N:Int) * 13 = ((N * 13:Nat):Int):=by omega
   have hvI:(N:Int) < (P.vn:Int):=by omega
   have hv0:¬ (N:Int) < 0:=by omega
   clear hput hnew kD st2 xb2 c5 hund hrg hg hN hR hseq
   gi_wp2
   refine Code.wpIn_mono NoPanic.imp (fC (S:=fun w'=>w'.cell? ⟨xb,0,none⟩ = some (.pointer (some ⟨x.p,0,none⟩))∧w'.cell? ⟨x.p,5,none⟩ = some (.slice (some ⟨g,0,none⟩) P.vn x.vc)∧w'.cell? ⟨HH,0,none⟩ = some (.int .i64 (N:Nat))∧w'.cell? ⟨HH,1,none⟩ = some (.string nm)∧w'.cell? ⟨HH,2,none⟩ = some (.bool pO)∧w'.cell? ⟨HH,3,none⟩ = some (.slice aO nO cO)∧w'.cell? ⟨HH,4,none⟩ = some (.slice dO mO lO)∧w'.cell? ⟨HH,5,none⟩ = some (.bool hl)∧w'.cell? ⟨HH,6,none⟩ = some (.bool pl)∧w'.cell? ⟨HH,7,none⟩ = some (.slice al nl cl)∧w'.cell? ⟨HH,8,none⟩ = some (.slice dl ml ll)∧w'.cell? ⟨HH,9,none⟩ = some (.bool hh)∧w'.cell? ⟨HH,10,none⟩ = some (.bool ph)∧w'.cell? ⟨HH,11,none⟩ = some (.slice ah nh ch)∧w'.cell? ⟨HH,12,none⟩ = some (.slice dh mh lh)∧w'.cell? ⟨HH,13,none⟩ = some (.bool wh)) (s:=10) (by kernel_rfl) ?_)
   have hS1:V.drew.cell? ⟨xb,0,none⟩ = some (.pointer (some ⟨x.p,0,none⟩))∧V.drew.cell? ⟨x.p,5,none⟩ = some (.slice (some ⟨g,0,none⟩) P.vn x.vc)∧V.drew.cell? ⟨HH,0,none⟩ = some (.int .i64 (N:Nat))∧V.drew.cell? ⟨HH,1,none⟩ = some (.string nm)∧V.drew.cell? ⟨HH,2,none⟩ = some (.bool pO)∧V.drew.cell? ⟨HH,3,none⟩ = some (.slice aO nO cO)∧V.drew.cell? ⟨HH,4,none⟩ = some (.slice dO mO lO)∧V.drew.cell? ⟨HH,5,none⟩ = some (.bool hl)∧V.drew.cell? ⟨HH,6,none⟩ = some (.bool pl)∧V.drew.cell? ⟨HH,7,none⟩ = some (.slice al nl cl)∧V.drew.cell? ⟨HH,8,none⟩ = some (.slice dl ml ll)∧V.drew.cell? ⟨HH,9,none⟩ = some (.bool hh)∧V.drew.cell? ⟨HH,10,none⟩ = some (.bool ph)∧V.drew.cell? ⟨HH,11,none⟩ = some (.slice ah nh ch)∧V.drew.cell? ⟨HH,12,none⟩ = some (.slice dh mh lh)∧V.drew.cell? ⟨HH,13,none⟩ = some (.bool wh):=hS0
   have hthD:V.drew.there g (N * 13) 13:=(World.there_drew V g (N * 13) 13).2 hth
   generalize V.drew = z0 at *
   refine wpAnyI.take 0 (v:=.pointer (some ⟨x.p,0,none⟩)) (by kernel_rfl) (by decide) (fun _ _ _ h=>h) (by kernel_rfl) (by rfl) (by rfl) ?y0 hS1 ?_
   case y0 =>
    rintro w' ⟨q0,q1,q2,q3,q4,q5,q6,q7,q8,q9,q10,q11,q12,q13,q14,q15⟩
    simp only [lgA,lgZ]
    go_simp
   simp only [lgA,lgZ,Act.put,lsA,lsZ,lsS]
   refine wpAnyI.take 1 (v:=.pointer (some ⟨x.p,0,none⟩)) (by kernel_rfl) (by decide) (fun _ _ _ h=>h) (by kernel_rfl) (by rfl) (by rfl) ?y1 hS1 ?_
   case y1 =>
    rintro w' ⟨q0,q1,q2,q3,q4,q5,q6,q7,q8,q9,q10,q11,q12,q13,q14,q15⟩
    simp only [lgA,lgZ,lgS]
    go_simp
   simp only [lgA,lgZ,lgS,Act.put,lsA,lsZ,lsS]
   refine wpAnyI.take 2 (v:=.pointer (some ⟨x.p,0,none⟩)) (by kernel_rfl) (by decide) (fun _ _ _ h=>h) (by kernel_rfl) (by rfl) (by rfl) ?y2 hS1 ?_
   case y2 =>
    rintro w' ⟨q0,q1,q2,q3,q4,q5,q6,q7,q8,q9,q10,q11,q12,q13,q14,q15⟩
    simp only [lgA,lgZ,lgS]
    go_simp
   simp only [lgA,lgZ,lgS,Act.put,lsA,lsZ,lsS]
   refine wpAnyI.take 3 (v:=.pointer (some ⟨x.p,5,none⟩)) (by kernel_rfl) (by decide) (fun _ _ _ h=>h) (by kernel_rfl) (by rfl) (by rfl) ?y3 hS1 ?_
   case y3 =>
    rintro w' ⟨q0,q1,q2,q3,q4,q5,q6,q7,q8,q9,q10,q11,q12,q13,q14,q15⟩
    simp only [lgA,lgZ,lgS]
    go_simp
   simp only [lgA,lgZ,lgS,Act.put,lsA,lsZ,lsS]
   refine wpAnyI.take 4 (v:=.slice (some ⟨g,0,none⟩) P.vn x.vc) (by kernel_rfl) (by decide) (fun _ _ _ h=>h) (by kernel_rfl) (by rfl) (by rfl) ?y4 hS1 ?_
   case y4 =>
    rintro w' ⟨q0,q1,q2,q3,q4,q5,q6,q7,q8,q9,q10,q11,q12,q13,q14,q15⟩
    simp only [lgA,lgZ,lgS]
    go_simp
   simp only [lgA,lgZ,lgS,Act.put,lsA,lsZ,lsS]
   refine wpAnyI.take 5 (v:=.pointer (some ⟨HH,0,none⟩)) (by kernel_rfl) (by decide) (fun _ _ _ h=>h) (by kernel_rfl) (by rfl) (by rfl) ?y5 hS1 ?_
   case y5 =>
    rintro w' ⟨q0,q1,q2,q3,q4,q5,q6,q7,q8,q9,q10,q11,q12,q13,q14,q15⟩
    simp only [lgA,lgZ,lgS]
    go_simp
   simp only [lgA,lgZ,lgS,Act.put,lsA,lsZ,lsS]
   refine wpAnyI.take 6 (v:=.int .i64 (N:Nat)) (by kernel_rfl) (by decide) (fun _ _ _ h=>h) (by kernel_rfl) (by rfl) (by rfl) ?y6 hS1 ?_
   case y6 =>
    rintro w' ⟨q0,q1,q2,q3,q4,q5,q6,q7,q8,q9,q10,q11,q12,q13,q14,q15⟩
    simp only [lgA,lgZ,lgS]
    go_simp
   simp only [lgA,lgZ,lgS,Act.put,lsA,lsZ,lsS]
   refine wpAnyI.take 7 (v:=.pointer (some ⟨HH,1,none⟩)) (by kernel_rfl) (by decide) (fun _ _ _ h=>h) (by kernel_rfl) (by rfl) (by rfl) ?y7 hS1 ?_
   case y7 =>
    rintro w' ⟨q0,q1,q2,q3,q4,q5,q6,q7,q8,q9,q10,q11,q12,q13,q14,q15⟩
    simp only [lgA,lgZ,lgS]
    go_simp
   simp only [lgA,lgZ,lgS,Act.put,lsA,lsZ,lsS]
   refine wpAnyI.take 8 (v:=.agg #[.string nm,.bool pO,.slice aO nO cO,.slice dO mO lO,.bool hl,.bool pl,.slice al nl cl,.slice dl ml ll,.bool hh,.bool ph,.slice ah nh ch,.slice dh mh lh,.bool wh]) (by kernel_rfl) (by decide) (fun _ _ _ h=>h) (by kernel_rfl) (by rfl) (by rfl) ?y8 hS1 ?_
   case y8 =>
    rintro w' ⟨q0,q1,q2,q3,q4,q5,q6,q7,q8,q9,q10,q11,q12,q13,q14,q15⟩
    simp only [lgA,lgZ,lgS]
    go_simp
   simp only [lgA,lgZ,lgS,Act.put,lsA,lsZ,lsS]
   refine wpAnyI.take 9 (v:=.pointer (some ⟨g,N * 13,none⟩)) (by kernel_rfl) (by decide) (fun _ _ _ h=>h) (by kernel_rfl) (by rfl) (by rfl) ?y9 hS1 ?_
   case y9 =>
    rintro w' ⟨q0,q1,q2,q3,q4,q5,q6,q7,q8,q9,q10,q11,q12,q13,q14,q15⟩
    simp only [lgA,lgZ,lgS]
    go_simp
   simp only [lgA,lgZ,lgS,Act.put,lsA,lsZ,lsS]
   refine wpAnyI.one 10 (by kernel_rfl) (by decide) (by rfl) (fun K hK=>?_)
   simp only [lgA,lgZ,lgS]
   refine mP 45 _ _ rfl g (N * 13) #[.string nm,.bool pO,.slice aO nO cO,.slice dO mO lO,.bool hl,.bool pl,.slice al nl cl,.slice dl ml ll,.bool hh,.bool ph,.slice ah nh ch,.slice dh mh lh,.bool wh] rfl rfl hthD kJ (by simp [Value.oneCell']) ?_
   refine hK _ _ (fun h=>absurd h (by decide)) ?_
   clear hK K
   refine wpAnyI.done (by kernel_rfl) (NoPanic.normal ?_)
   gi_wp2
   exact ⟨HEND.out.2.1,HEND.out.2.2,j,rfl,HEND.out.1⟩
  case done =>
   rintro D i V hD rfl ⟨k1,hle,C',hVB,hund⟩ hbV hK
   rw [Nat.add_zero,oL (Nat.le_refl _)] at hund
   rw [hund] at hVB
   have kD:Kb F [45] V V.drew:=bZ _ (aK _) (Nat.le_trans hFU k1.size)
   have hfin:=aL1 (V:=V.drew) h2 ha hab (k1.trans kD) (hVB.kb (bZ [] (aK V) (Nat.le_trans hFU k1.size)) (by decide)) rfl
   have hDV:(V.drew.setCell ⟨x.p,7,none⟩ (.slice x.pa a x.pc)).heap[D]? = some (.deferred (some [])):=by
    have hpD:x.p ≠ D:=fun e=>by
     have:=h2.st.kb k1 (by decide)
     unfold Rw at this
     rw [e,hK] at this
     cases this
    exact ((Off.refl x.p V.drew).set 7 (.slice x.pa a x.pc)).block D (fun e=>hpD e.symm) |>.trans hK
   have HEND:Hid (BtR w0 F P T ZT x a w (.returned (.tuple #[])) ((V.drew.setCell ⟨x.p,7,none⟩ (.slice x.pa a x.pc)).putObj D (.deferred none))):=by
    have kP:=vP (F:=F) [] (.deferred none) hDV rfl (Nat.le_trans hFU hD)
    exact ⟨⟨_,rfl⟩,hfin.1.kb0 kP,(hUw.trans hfin.2).trans (kP.up (by decide))⟩
   have st2:=h2.st.kb k1 (by decide)
   have xb2:=Xb2.kb k1 (by decide)
   have c7:V.cell? ⟨x.p,7,none⟩ = some (.slice x.pa x.d x.pc):=st2.cell 7
   have hS0:V.cell? ⟨xb,0,none⟩ = some (.pointer (some ⟨x.p,0,none⟩))∧V.cell? ⟨x.p,7,none⟩ = some (.slice x.pa x.d x.pc):=⟨xb2.cell 0,c7⟩
   have f7:V.drew.frozen? ⟨x.p,7,none⟩ = false:=st2.frozen 7
   clear hfin kD st2 xb2 c7 hund hVB hseq hab
   gi_wp2
   refine Code.wpIn_mono NoPanic.imp (fC (S:=fun w'=>w'.cell? ⟨xb,0,none⟩ = some (.pointer (some ⟨x.p,0,none⟩))∧w'.cell? ⟨x.p,7,none⟩ = some (.slice x.pa x.d x.pc)) (s:=9) (by kernel_rfl) ?_)
   have hS1:V.drew.cell? ⟨xb,0,none⟩ = some (.pointer (some ⟨x.p,0,none⟩))∧V.drew.cell? ⟨x.p,7,none⟩ = some (.slice x.pa x.d x.pc):=hS0
   generalize V.drew = z0 at *
   refine wpAnyI.take 0 (v:=.pointer (some ⟨x.p,0,none⟩)) (by kernel_rfl) (by decide) (fun _ _ _ h=>h) (by kernel_rfl) (by rfl) (by rfl) ?y0 hS1 ?_
   case y0 =>
    rintro w' ⟨q0,q1⟩
    simp only [lgA,lgZ]
    go_simp
   simp only [lgA,lgZ,Act.put,lsA,lsZ,lsS]
   refine wpAnyI.take 1 (v:=.pointer (some ⟨x.p,0,none⟩)) (by kernel_rfl) (by decide) (fun _ _ _ h=>h) (by kernel_rfl) (by rfl) (by rfl) ?y1 hS1 ?_
   case y1 =>
    rintro w' ⟨q0,q1⟩
    simp only [lgA,lgZ,lgS]
    go_simp
   simp only [lgA,lgZ,lgS,Act.put,lsA,lsZ,lsS]
   refine wpAnyI.take 2 (v:=.pointer (some ⟨x.p,0,none⟩)) (by kernel_rfl) (by decide) (fun _ _ _ h=>h) (by kernel_rfl) (by rfl) (by rfl) ?y2 hS1 ?_
   case y2 =>
    rintro w' ⟨q0,q1⟩
    simp only [lgA,lgZ,lgS]
    go_simp
   simp only [lgA,lgZ,lgS,Act.put,lsA,lsZ,lsS]
   refine wpAnyI.take 3 (v:=.pointer (some ⟨x.p,7,none⟩)) (by kernel_rfl) (by decide) (fun _ _ _ h=>h) (by kernel_rfl) (by rfl) (by rfl) ?y3 hS1 ?_
   case y3 =>
    rintro w' ⟨q0,q1⟩
    simp only [lgA,lgZ,lgS]
    go_simp
   simp only [lgA,lgZ,lgS,Act.put,lsA,lsZ,lsS]
   refine wpAnyI.take 4 (v:=.slice x.pa x.d x.pc) (by kernel_rfl) (by decide) (fun _ _ _ h=>h) (by kernel_rfl) (by rfl) (by rfl) ?y4 hS1 ?_
   case y4 =>
    rintro w' ⟨q0,q1⟩
    simp only [lgA,lgZ,lgS]
    go_simp
   simp only [lgA,lgZ,lgS,Act.put,lsA,lsZ,lsS]
   refine wpAnyI.take 5 (v:=.int .i64 (a:Nat)) (by kernel_rfl) (by decide) (fun _ _ _ h=>h) (by kernel_rfl) (by rfl) (by rfl) ?y5 hS1 ?_
   case y5 =>
    rintro w' ⟨q0,q1⟩
    simp only [lgA,lgZ,lgS]
    go_simp
   simp only [lgA,lgZ,lgS,Act.put,lsA,lsZ,lsS]
   refine wpAnyI.take 6 (v:=.slice x.pa a x.pc) (by kernel_rfl) (by decide) (fun _ _ _ h=>h) (by kernel_rfl) (by rfl) (by rfl) ?y6 hS1 ?_
   case y6 =>
    rintro w' ⟨q0,q1⟩
    simp only [lgA,lgZ,lgS]
    go_simp
   simp only [lgA,lgZ,lgS,Act.put,lsA,lsZ,lsS]
   refine wpAnyI.one 7 (by kernel_rfl) (by decide) (by rfl) (fun K hKK=>?_)
   simp only [lgA,lgZ,lgS]
   go_simp
   refine hKK _ _ (fun _=>hS1) ?_
   clear hKK K
   refine wpAnyI.one 8 (by kernel_rfl) (by decide) (by rfl) (fun K hKK=>?_)
   simp only [lgA,lgZ,lgS]
   go_simp
   refine hKK _ _ (fun _=>hS1) ?_
   clear hKK K
   refine wpAnyI.one 9 (by kernel_rfl) (by decide) (by rfl) (fun K hKK=>?_)
   simp only [lgA,lgZ,lgS]
   obtain ⟨q0,q1⟩:=hS1
   go_simp
   refine hKK _ _ (fun h=>absurd h (by decide)) ?_
   clear hKK K
   refine wpAnyI.done (by kernel_rfl) (NoPanic.normal ?_)
   gi_wp2
   refine ⟨by simp,.inl ⟨_,_,rfl,run_takeDeferred hDV,?_⟩⟩
   exact ⟨_,results_none rfl _ _ _,HEND.out⟩
end Go.Proofs.YtnokmjmefipplaaGreatDoor
