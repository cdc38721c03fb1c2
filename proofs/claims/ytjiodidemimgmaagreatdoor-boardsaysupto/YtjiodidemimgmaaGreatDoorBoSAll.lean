import Derived.Test.YtjiodidemimgmaaGreatDoorBoR
import Derived.Deep.OwnRows
import Derived.Test.YtjiodidemimgmaaGreatDoorR3LiAll
namespace Go.Proofs.YtjiodidemimgmaaGreatDoor
open Go.RowKit
theorem fe_bas:FnE 80:=fun _ _=>by kernel_rfl
set_option maxRecDepth 100000 in
set_option maxHeartbeats 8000000 in
theorem bas1B {va:Option Addr} {vn vc:Nat} {p:Bool} {a:Option Addr} {na ca:Nat} {d:Option Addr} {nd cd:Nat} {tu:Bool} {jb:Nat} (bas j:Int) (w:World) (hj:w.cell? ⟨jb,0,none⟩ = some (.int .i64 j)):Calls Tryz.prog 80 #[.agg #[.slice va vn vc,.bool p,.slice a na ca,.slice d nd cd,.int .i64 bas,.bool tu],.pointer (some ⟨jb,0,none⟩)] w fun e w'=>e = .returned (.bool (decide (bas = j)))∧Below w.heap.size w w':=by
 have BX:=box_new w #[.slice va vn vc,.bool p,.slice a na ca,.slice d nd cd,.int .i64 bas,.bool tu] 67
 have hb:=bel_d0 w (.cells #[.slice va vn vc,.bool p,.slice a na ca,.slice d nd cd,.int .i64 bas,.bool tu] 67)
 have x4:=BX 4 _ rfl
 have xj:=kept_c hb hj
 by_cases he:bas = j
 ·rw [decide_eq_true he]
  subst he
  go_enter Tryz.func80,Tryz.ntmps80
  go_wp2
  go_ret
  exact ⟨rfl,hb⟩
 ·rw [decide_eq_false he]
  have he2:(bas == j) = false:=by simpa using he
  go_enter Tryz.func80,Tryz.ntmps80
  go_wp2
  go_ret
  exact ⟨rfl,hb⟩
def bsc (X:Nat→RoD) (m:Nat) (j:Int):Prop:=∃ q,q < m∧(X q).bas = j
def IxP (w:World) (X:Nat→RoD) (m:Nat) (j:Int) (e:Ending) (w':World):Prop:=∃ i:Int,e = .returned (.int .i64 i)∧(i = -1∧¬ bsc X m j∨0≤i∧bsc X m j)∧Below w.heap.size w w'
set_option maxRecDepth 100000 in
set_option maxHeartbeats 8000000 in
theorem indexB {F:Nat} {f:Bf} {n:Nat} {X:Nat→RoD} {lc:List (Nat × Rat)} {S Sc:Nat} {jb:Nat} {ra:Option Addr} {m rc:Nat} (j:Int) (w:World) (h:BD w F f n X lc S Sc) (erv:f.rv = .slice ra f.m rc) (hm:m = f.m) (hmN:m≤3000000) (hj:w.cell? ⟨jb,0,none⟩ = some (.int .i64 j)):Calls Tryz.prog 107 #[.slice ra m rc,.func (.func 80) #[] #[.pointer (some ⟨jb,0,none⟩)]] w fun e w'=>IxP w X m j e w':=by
 have HM:Hid (m = f.m):=hm
 clear hm
 go_enter Tryz.func107,Tryz.ntmps107
 go_wp2
 go_loopw [8] (fun sq wr=>∃ q:Nat,q≤m∧sq = .int .i64 q∧Hid (∀ a,a < q→(X a).bas ≠ j)∧Below w.heap.size w wr) (fun x _=>m - (intOf x).toNat)
 case atStart=>exact ⟨0,Nat.zero_le _,rfl,fun a ha=>by omega,Below.refl _ _⟩
 case round =>
  obtain ⟨q,hq,rfl,HQ,hbw⟩:=hrel
  by_cases hlt:q < m
  ·have hqI:(q:Int) < (m:Int):=by omega
   have hq0:¬ (q:Int) < 0:=by omega
   have hq6:(q:Int) * 6 = ((q * 6:Nat):Int):=by omega
   have hqf:q < f.m:=by rw [← HM.out];exact hlt
   obtain ⟨rg,rc',p,a,na,ca,d,nd,cd,erv',y0,y1,y2,y3,y4,y5,_⟩:=(h.below hbw).get hqf
   have hra:ra = some ⟨rg,0,none⟩:=by
    rw [erv] at erv'
    simp only [Value.slice.injEq] at erv'
    exact erv'.1
   have HRA:Hid (ra = some ⟨rg,0,none⟩):=hra
   obtain ⟨va,vc,eva,_⟩:=(h.t q hqf).form
   obtain ⟨vn,evn⟩:∃ vn,vn = (X q).l.length:=⟨_,rfl⟩
   rw [← evn] at eva
   rw [eva] at y0
   obtain ⟨bas,ebas⟩:∃ bas,bas = (X q).bas:=⟨_,rfl⟩
   obtain ⟨tu,etu⟩:∃ tu,tu = (X q).tu:=⟨_,rfl⟩
   rw [← ebas] at y4
   rw [← etu] at y5
   have HBS:Hid (bas = (X q).bas):=ebas
   replace y2:wr.cell? ⟨rg,q * 6 + 2,none⟩ = some (.slice a na ca):=y2
   replace y3:wr.cell? ⟨rg,q * 6 + 3,none⟩ = some (.slice d nd cd):=y3
   clear erv' eva evn ebas etu
   subst hra
   have hcl0:=bas1B (va:=va) (vn:=vn) (vc:=vc) (p:=p) (a:=a) (na:=na) (ca:=ca) (d:=d) (nd:=nd) (cd:=cd) (tu:=tu) bas j wr (kept_c hbw hj)
   by_cases hbj:bas = j
   ·rw [decide_eq_true hbj] at hcl0
    have HP:∀ w',Below w.heap.size w w'→IxP w X m j (.returned (.int .i64 (q:Int))) w':=fun w' hb=>⟨q,rfl,.inr ⟨by omega,q,hlt,by rw [← HBS.out];exact hbj⟩,hb⟩
    clear hbj
    have hfe:=fe_bas
    go_wp2_with fail
    refine hcl0.mono ?_
    rintro e w1 ⟨rfl,h1⟩
    replace HP:=HP _ (bel_tr hbw h1)
    clear y0 y1 y2 y3 y4 y5 hcl0 h1
    go_wp2
    go_ret
    exact HP
   ·rw [decide_eq_false hbj] at hcl0
    have HQ2:Hid (∀ a,a < q + 1→(X a).bas ≠ j):=fun a ha=>by
     rcases (by omega:a < q∨a = q) with h1 | rfl
     ·exact HQ.out a h1
     ·rw [← HBS.out];exact hbj
    clear hbj
    have hfe:=fe_bas
    go_wp2_with fail
    refine hcl0.mono ?_
    rintro e w1 ⟨rfl,h1⟩
    have hb2:=bel_tr hbw h1
    clear y0 y1 y2 y3 y4 y5 hcl0 h1 hbw HQ
    go_wp2
    go_roundw
    case rel=>first | exact ⟨q + 1,by omega,by go_num,HQ2,hb2⟩ | ((repeat apply Exists.intro);refine ⟨?_,rfl⟩;exact ⟨q + 1,by omega,by go_num,HQ2,hb2⟩)
    case measure=>simp [intOf];omega
  ·have hqI:¬ (q:Int) < (m:Int):=by omega
   obtain rfl:q = m:=by omega
   have HP:IxP w X q j (.returned (.int .i64 (-1))) wr:=⟨-1,rfl,.inl ⟨rfl,fun ⟨a,ha,e⟩=>HQ.out a ha e⟩,hbw⟩
   go_wp2
   go_ret
   exact HP
set_option maxRecDepth 100000 in
set_option maxHeartbeats 8000000 in
theorem containsB {F:Nat} {f:Bf} {n:Nat} {X:Nat→RoD} {lc:List (Nat × Rat)} {S Sc:Nat} {jb:Nat} {ra:Option Addr} {m rc:Nat} (j:Int) (b:Bool) (w:World) (h:BD w F f n X lc S Sc) (erv:f.rv = .slice ra f.m rc) (hm:m = f.m) (hmN:m≤3000000) (hj:w.cell? ⟨jb,0,none⟩ = some (.int .i64 j)) (hb:b = true↔bsc X m j):Calls Tryz.prog 79 #[.slice ra m rc,.func (.func 80) #[] #[.pointer (some ⟨jb,0,none⟩)]] w fun e w'=>e = .returned (.bool b)∧Below w.heap.size w w':=by
 have HB:Hid (b = true↔bsc X m j):=hb
 have HM:Hid (m = f.m):=hm
 clear hb hm
 go_enter Tryz.func79,Tryz.ntmps79
 go_wp2_with fail
 refine (indexB j w h erv HM.out hmN hj).mono ?_
 rintro e w1 ⟨i,rfl,hi,h1⟩
 rcases hi with ⟨rfl,hn⟩ | ⟨h0,hy⟩
 ·obtain rfl:b = false:=by
   cases b with
   | false=>rfl
   | true=>exact absurd (HB.out.1 rfl) hn
  go_wp2
  go_ret
  exact ⟨rfl,h1⟩
 ·obtain rfl:b = true:=HB.out.2 hy
  go_wp2
  go_ret
  exact ⟨rfl,h1⟩
set_option maxRecDepth 100000 in
set_option maxHeartbeats 8000000 in
theorem isBasicB {F:Nat} {f:Bf} {n:Nat} {X:Nat→RoD} {lc:List (Nat × Rat)} {S Sc:Nat} (j:Int) (b:Bool) (w:World) (h:BD w F f n X lc S Sc) (hN:n + f.m≤3000000) (hb:b = true↔bsc X f.m j):Calls Tryz.prog 47 #[.pointer (some ⟨f.b,0,none⟩),.int .i64 j] w fun e w'=>e = .returned (.bool b)∧Below w.heap.size w w':=by
 have HB:Hid (b = true↔bsc X f.m j):=hb
 have JB:=box_new w #[.int .i64 j] 3
 have hb1:=bel_d0 w (.cells #[.int .i64 j] 3)
 have xj:=JB 0 _ rfl
 have B1:=h.below hb1
 obtain ⟨ra,rc,erv,_⟩:=h.rlen
 obtain ⟨m,em⟩:∃ m,m = f.m:=⟨_,rfl⟩
 have HM:Hid (m = f.m):=em
 have x1:=(B1.rw.cell 1).trans (show _ = some f.rv from rfl)
 rw [erv,← em] at x1
 have HRV:Hid (f.rv = .slice ra f.m rc):=erv
 clear hb erv em JB
 go_enter Tryz.func47,Tryz.ntmps47
 go_wp2_with fail
 generalize w.alloc (.cells #[.int .i64 j] 3) = W0 at *
 refine (containsB j b W0 B1 HRV.out HM.out (by have:=HM.out;omega) xj (by rw [HM.out];exact HB.out)).mono ?_
 rintro e w1 ⟨rfl,h1⟩
 have hb2:=bel_tr hb1 h1
 clear x1 xj
 go_wp2
 go_ret
 exact ⟨rfl,hb2⟩
def mye (X:Nat→RoD) (lc:List (Nat × Rat)) (m:Nat) (a:Nat):Prop:=¬ bsc X m (a:Int)∧(rdc X lc m (a:Int)).num.sign < 0
def EntP (w:World) (X:Nat→RoD) (lc:List (Nat × Rat)) (m k:Nat) (e:Ending) (w':World):Prop:=∃ i:Int,e = .returned (.int .i64 i)∧(i = -1∧(∀ a,a < k→¬ mye X lc m a)∨∃ a:Nat,a < k∧i = (a:Int)∧mye X lc m a∧∀ b,b < a→¬ mye X lc m b)∧Below w.heap.size w w'
set_option maxRecDepth 100000 in
set_option maxHeartbeats 8000000 in
theorem enterB {F:Nat} {f:Bf} {n:Nat} {X:Nat→RoD} {lc:List (Nat × Rat)} {S Sc:Nat} {T:Nat} (lim:Nat) (w:World) (h:BD w F f n X lc S Sc) (hS:1≤S) (hSc:1≤Sc) (hTT:1≤T∧T + (Sc + S)≤6000000) (hz:∀ a:Nat,a < n + f.m→RdZ X lc f.m T (a:Int)) (hN:n + f.m≤3000000) (hT:TB w) :
  Calls Tryz.prog 21 #[.pointer (some ⟨f.b,0,none⟩),.int .i64 (lim:Nat)] w fun e w'=>EntP w X lc f.m (min lim (n + f.m)) e w':=by
 have HZ:Hid (∀ a:Nat,a < n + f.m→RdZ X lc f.m T (a:Int)):=hz
 obtain ⟨k,ek⟩:∃ k,k = min lim (n + f.m):=⟨_,rfl⟩
 rw [← ek]
 obtain ⟨N,eN⟩:∃ N,N = n + f.m:=⟨_,rfl⟩
 have HNN:Hid (N = n + f.m):=eN
 have hkI:min (lim:Int) (N:Int) = (k:Int):=by omega
 have hkN:k≤n + f.m:=by omega
 clear hz ek eN
 go_enter Tryz.func21,Tryz.ntmps21
 go_wp2_with fail
 refine (colsB w h hN).mono ?_
 rintro e W1 ⟨rfl,hb1⟩
 rw [← HNN.out]
 go_wp2
 go_loopw [10] (fun sq wr=>∃ q:Nat,q≤k∧sq = .int .i64 q∧Hid (∀ a,a < q→¬ mye X lc f.m a)∧Below w.heap.size w wr) (fun x _=>k - (intOf x).toNat)
 case atStart=>exact ⟨0,Nat.zero_le _,rfl,fun a ha=>by omega,hb1⟩
 case round =>
  clear hb1
  obtain ⟨q,hq,rfl,HQ,hbw⟩:=hrel
  by_cases hlt:q < k
  ·have hqI:(q:Int) < (k:Int):=by omega
   have BQ:=h.below hbw
   have hTq:=hT.below hbw
   by_cases hbq:bsc X f.m (q:Int)
   ·have HQ2:Hid (∀ a,a < q + 1→¬ mye X lc f.m a):=fun a ha=>by
     rcases (by omega:a < q∨a = q) with h1 | rfl
     ·exact HQ.out a h1
     ·exact fun hm=>hm.1 hbq
    have HBB:Hid (bsc X f.m (q:Int)):=hbq
    clear hbq
    go_wp2_with fail
    refine (isBasicB (q:Int) true wr BQ hN ⟨fun _=>HBB.out,fun _=>rfl⟩).mono ?_
    rintro e w1 ⟨rfl,h1⟩
    have hb2:=bel_tr hbw h1
    clear hbw h1 HQ BQ hTq
    go_wp2
    go_roundw
    case rel=>first | exact ⟨q + 1,by omega,by go_num,HQ2,hb2⟩ | ((repeat apply Exists.intro);refine ⟨?_,rfl⟩;exact ⟨q + 1,by omega,by go_num,HQ2,hb2⟩)
    case measure=>simp [intOf];omega
   ·obtain ⟨sg,esg⟩:∃ sg,sg = (rdc X lc f.m (q:Int)).num.sign:=⟨_,rfl⟩
    have ESG:Hid (sg = (rdc X lc f.m (q:Int)).num.sign):=esg
    have HBB:Hid (¬ bsc X f.m (q:Int)):=hbq
    clear esg hbq
    go_wp2_with fail
    refine (isBasicB (q:Int) false wr BQ hN ⟨fun h=>(by cases h),fun h=>absurd h HBB.out⟩).mono ?_
    rintro e w1 ⟨rfl,h1⟩
    have hb2:=bel_tr hbw h1
    go_wp2_with fail
    refine (reducedB (T:=T) (q:Int) w1 (BQ.below h1) hS hSc hTT (HZ.out q (by omega)) hN (hTq.below h1)).mono ?_
    rintro e w2 ⟨g5,v5,i5,j5,o5,t5,x5,rfl,G5,h2⟩
    have hb3:=bel_tr hb2 h2
    go_wp2_with fail
    refine (rsignB sg w2 G5.tr (by omega) hTT.1 ESG.out).mono ?_
    rintro e w3 ⟨rfl,h3⟩
    have hb4:=bel_tr hb3 h3
    by_cases hs:sg < 0
    ·have HP:EntP w X lc f.m k (.returned (.int .i64 (q:Int))) w3:=⟨q,rfl,.inr ⟨q,hlt,rfl,⟨HBB.out,by rw [← ESG.out];exact hs⟩,HQ.out⟩,hb4⟩
     clear G5 BQ hTq h1 h2 h3 hb2 hb3
     go_wp2
     go_ret
     exact HP
    ·have HQ2:Hid (∀ a,a < q + 1→¬ mye X lc f.m a):=fun a ha=>by
      rcases (by omega:a < q∨a = q) with h1 | rfl
      ·exact HQ.out a h1
      ·exact fun hm=>hs (by rw [ESG.out];exact hm.2)
     have hs':0≤sg:=by omega
     clear G5 BQ hTq h1 h2 h3 hb2 hb3 hbw HQ
     go_wp2
     go_roundw
     case rel=>first | exact ⟨q + 1,by omega,by go_num,HQ2,hb4⟩ | ((repeat apply Exists.intro);refine ⟨?_,rfl⟩;exact ⟨q + 1,by omega,by go_num,HQ2,hb4⟩)
     case measure=>simp [intOf];omega
  ·have hqI:¬ (q:Int) < (k:Int):=by omega
   obtain rfl:q = k:=by omega
   have HP:EntP w X lc f.m q (.returned (.int .i64 (-1))) wr:=⟨-1,rfl,.inl ⟨rfl,HQ.out⟩,hbw⟩
   go_wp2
   go_ret
   exact HP
theorem infoInt:∃ i z,Tryz.prog.info? 3 = some i∧i.zero = some z∧i.size = 1∧i.bytes = 8∧z.cells = #[.int .i64 0]:=by
 have h1:(Tryz.prog.info? 3).map (fun i=>(i.size,i.bytes,i.zero.map (·.cells))) = some (1,8,some #[.int .i64 0]):=by kernel_rfl
 obtain ⟨i,hi,h⟩:=Option.map_eq_some_iff.1 h1
 simp only [Prod.mk.injEq] at h
 obtain ⟨z,hz,h2⟩:=Option.map_eq_some_iff.1 h.2.2
 exact ⟨i,z,hi,hz,h.1,h.2.1,h2⟩
theorem wpList_makeInt (w:World) {ops:Array Oper} {rest:List Oper} {o:Oper} {a:Act} {Q:Exit→Act→World→Prop} (hg:o.guard = none) (l c:Operand) (hop:o.op = Op.makeSlice 55 l c)
  (n:Nat) (hl:a.eval l = .int .i64 (n:Int)) (hc:a.eval c = .int .i64 (n:Int)) (hn:n≤100000000)
  (h:∀ w',w'.rowIs w.heap.size 3 n (fun _=>.int .i64 0)→Below w.heap.size w w'→w'.heap.size = w.heap.size + 1→wpList Tryz.prog ops Q rest (a.put o.dst (.slice (some ⟨w.heap.size,0,none⟩) n n)) w'):wpList Tryz.prog ops Q (o :: rest) a w:=by
 obtain ⟨i0,z,hi,hz,hs1,hb1,hz1⟩:=infoInt
 have hr:=run_make (P:=Tryz.prog) w 55 3 i0 z Tryz.underlying55 hi hz .i64 .i64 (n:Int) (n:Int) (by omega) (Int.le_refl _) (by rw [hb1];omega) (by omega)
 simp only [Int.toNat_natCast] at hr
 refine wpList_plain hg fun K hK'=>?_
 unfold Oper.wp execOp
 simp only [hop,Sem.run_bind,Sem.run_pure,Result.andThen_ok,hl,hc,hr]
 refine hK' _ _ (h _ ?_ (bel_d0 w _) (by simp))
 rw [hz1,hs1,Nat.mul_one]
 exact World.rowIs_made w _ n _
def BasP (w:World) (X:Nat→RoD) (m:Nat) (e:Ending) (w':World):Prop:=∃ g,e = .returned (.slice (some ⟨g,0,none⟩) m m)∧w.heap.size≤g∧w'.rowIs g 3 m (fun q=>.int .i64 (X q).bas)∧Below w.heap.size w w'
set_option maxRecDepth 100000 in
set_option maxHeartbeats 8000000 in
theorem basisL {F:Nat} {f:Bf} {n:Nat} {X:Nat→RoD} {lc:List (Nat × Rat)} {S Sc:Nat} (w:World) (h:BD w F f n X lc S Sc) (hN:n + f.m≤3000000):Calls Tryz.prog 26 #[.pointer (some ⟨f.b,0,none⟩)] w fun e w'=>BasP w X f.m e w':=by
 obtain ⟨ra,rc,erv,_⟩:=h.rlen
 obtain ⟨m,em⟩:∃ m,m = f.m:=⟨_,rfl⟩
 have HM:Hid (m = f.m):=em
 have hmN:m≤3000000:=by omega
 have x1:=(h.rw.cell 1).trans (show _ = some f.rv from rfl)
 rw [erv,← em] at x1
 rw [← em]
 clear em
 go_enter Tryz.func26,Tryz.ntmps26
 go_wp2_with (first
  | (refine wpList_makeInt _ rfl _ _ rfl m rfl rfl (by omega) ?_;intro w1 RI hb1 hs1;have x1':=kept_c hb1 x1)
  | fail)
 obtain ⟨g,eg⟩:∃ g,g = w.heap.size:=⟨_,rfl⟩
 rw [← eg] at RI
 try rw [← eg]
 have hgw:w.heap.size≤g:=by omega
 clear x1 eg hs1
 go_loopw [17] (fun sq wr=>∃ q:Nat,q≤m∧sq = .int .i64 q∧wr.rowIs g 3 m (fun a=>if a < q then .int .i64 (X a).bas else .int .i64 0)∧Below w.heap.size w wr) (fun x _=>m - (intOf x).toNat)
 case atStart=>exact ⟨0,Nat.zero_le _,rfl,RI.congr (fun a _=>by rw [if_neg (by omega)]),hb1⟩
 case round =>
  clear RI hb1 x1'
  obtain ⟨q,hq,rfl,RI,hbw⟩:=hrel
  by_cases hlt:q < m
  ·have hqI:(q:Int) < (m:Int):=by omega
   have hq0:¬ (q:Int) < 0:=by omega
   have hq6:(q:Int) * 6 = ((q * 6:Nat):Int):=by omega
   have hqf:q < f.m:=by rw [← HM.out];exact hlt
   obtain ⟨rg,rc',p,a,na,ca,d,nd,cd,erv',y0,y1,y2,y3,y4,y5,_⟩:=(h.below hbw).get hqf
   have hra:ra = some ⟨rg,0,none⟩:=by
    rw [erv] at erv'
    simp only [Value.slice.injEq] at erv'
    exact erv'.1
   obtain ⟨va,vc,eva,_⟩:=(h.t q hqf).form
   obtain ⟨vn,evn⟩:∃ vn,vn = (X q).l.length:=⟨_,rfl⟩
   rw [← evn] at eva
   rw [eva] at y0
   obtain ⟨bas,ebas⟩:∃ bas,bas = (X q).bas:=⟨_,rfl⟩
   obtain ⟨tu,etu⟩:∃ tu,tu = (X q).tu:=⟨_,rfl⟩
   rw [← ebas] at y4
   rw [← etu] at y5
   have HBS:Hid (bas = (X q).bas):=ebas
   replace y2:wr.cell? ⟨rg,q * 6 + 2,none⟩ = some (.slice a na ca):=y2
   replace y3:wr.cell? ⟨rg,q * 6 + 3,none⟩ = some (.slice d nd cd):=y3
   clear erv' eva evn ebas etu
   subst hra
   have BX:=box_new wr #[.slice va vn vc,.bool p,.slice a na ca,.slice d nd cd,.int .i64 bas,.bool tu] 67
   have hz:=bel_d0 wr (.cells #[.slice va vn vc,.bool p,.slice a na ca,.slice d nd cd,.int .i64 bas,.bool tu] 67)
   have x4:=BX 4 _ rfl
   have RZ:=RI.alloc (.cells #[.slice va vn vc,.bool p,.slice a na ca,.slice d nd cd,.int .i64 bas,.bool tu] 67)
   have k1:=RZ.cell hlt
   have f1:=RZ.frozen q
   have RN:=(RZ.set q (.int .i64 bas)).congr (g:=fun a=>if a < q + 1 then .int .i64 (X a).bas else .int .i64 0) (fun a _=>by
    by_cases h1:a = q
    ·subst h1;rw [if_pos rfl,if_pos (by omega),HBS.out]
    ·rw [if_neg h1]
     by_cases h2:a < q
     ·rw [if_pos h2,if_pos (by omega)]
     ·rw [if_neg h2,if_neg (by omega)])
   have hb2:Below w.heap.size w ((wr.alloc (.cells #[.slice va vn vc,.bool p,.slice a na ca,.slice d nd cd,.int .i64 bas,.bool tu] 67)).setCell ⟨g,q,none⟩ (.int .i64 bas)):=(bel_tr hbw hz).trans (((Off.refl g _).set q (.int .i64 bas)).below hgw)
   clear BX hz RI hbw RZ
   go_wp2
   go_roundw
   case rel=>first | exact ⟨q + 1,by omega,by go_num,RN,hb2⟩ | ((repeat apply Exists.intro);refine ⟨?_,rfl⟩;exact ⟨q + 1,by omega,by go_num,RN,hb2⟩)
   case measure=>simp [intOf];omega
  ·have hqI:¬ (q:Int) < (m:Int):=by omega
   obtain rfl:q = m:=by omega
   have HP:BasP w X q (.returned (.slice (some ⟨g,0,none⟩) q q)) wr:=⟨g,rfl,hgw,RI.congr (fun a ha=>by rw [if_pos ha]),hbw⟩
   clear RI hbw
   go_wp2
   go_ret
   exact HP
end Go.Proofs.YtjiodidemimgmaaGreatDoor
