import Derived.Test.YtjiodidemimgmaaGreatDoorBoV
namespace Go.Proofs.YtjiodidemimgmaaGreatDoor
open Go.RowKit
theorem infRow6:Inf 67 6 96:=inf_of (by kernel_rfl)
theorem BD.addRow {w w6:World} {F:Nat} {f:Bf} {n:Nat} {X:Nat→RoD} {lc:List (Nat × Rat)} {S Sc:Nat} (h:BD w F f n X lc S Sc) {E:Nat→List Value} (hE:SL w F 67 6 f.rv f.m E) (hEE:∀ q,q < f.m→RoC w (E q) (f.V q) (X q) S) {g cap:Nat} {cs:List Value} {v:Value} {x:RoD} (hS:SL w6 F 67 6 (.slice (some ⟨g,0,none⟩) (f.m + 1) cap) (f.m + 1) (fun i=>if i < f.m then E i else cs)) (hg:w.grownBy w6 f.rv.ownBlock) (hc:RoC w cs v x S) (hl:LnE w F v x.l S) (hk:RoK x (n + (f.m + 1))) (hv:∀ k,v.ownBlock = some k→¬ f.has k) :
  BD (w6.setCell ⟨f.b,1,none⟩ (.slice (some ⟨g,0,none⟩) (f.m + 1) cap)) F { f with rv:=.slice (some ⟨g,0,none⟩) (f.m + 1) cap,m:=f.m + 1,V:=fun q=>if q < f.m then f.V q else v } n (fun q=>if q < f.m then X q else x) lc S Sc∧Off f.b w6 (w6.setCell ⟨f.b,1,none⟩ (.slice (some ⟨g,0,none⟩) (f.m + 1) cap)):=by
 have hn:=hE.noW (show 67 ≠ 85 by decide)
 have hb':Rw 70 w6 f.b #[.int .i64 (n:Nat),f.rv,f.cv]:=h.rw.kept hg (hE.neR h.rw (by decide))
 obtain ⟨hb2,O⟩:=hb'.setK 1 (.slice (some ⟨g,0,none⟩) (f.m + 1) cap)
 have hnb:NoW w6 (some f.b):=hb'.noW (by decide)
 have keepL:∀ (u:Value) (l:List (Nat × Rat)) (T:Nat),LnE w F u l T→LnE (w6.setCell ⟨f.b,1,none⟩ (.slice (some ⟨g,0,none⟩) (f.m + 1) cap)) F u l T:=fun u l T hu=>by
  obtain ⟨D,t1,t2⟩:=hu
  have t3:=t1.kept hg (fun g e e2=>hE.ne2 t1 (by decide) g e2 e)
  exact ⟨D,t3.kept O.grown (fun g e e2=>by cases e2;exact t3.neR hb' (by decide) e),fun i e he=>((t2 i e he).keep hn hg).keep hnb O.grown⟩
 have up:∀ (y:RoD),RoK y (n + f.m)→RoK y (n + (f.m + 1)):=fun y hy=>⟨hy.1,fun e he=>by have:=hy.2.1 e he;omega,hy.2.2.1,by have:=hy.2.2.2;omega⟩
 refine ⟨⟨hb2,⟨_,hS.kept O.grown (fun g' e e2=>by cases e2;exact hS.neR hb' (by decide) e),fun q hq=>?_⟩,fun q hq=>?_,keepL _ _ _ h.c,fun a b ha hb hab k=>?_,fun a ha k=>?_,h.lo,fun q hq=>?_,⟨h.kc.1,fun e he=>by have:=h.kc.2 e he;show e.1 < n + (f.m + 1);omega⟩⟩,O⟩
 ·have hq':q < f.m + 1:=hq
  by_cases e:q < f.m
  ·simp only [e,if_true];exact ((hEE q e).keep hn hg).keep hnb O.grown
  ·simp only [e,if_false];exact (hc.keep hn hg).keep hnb O.grown
 ·by_cases e:q < f.m
  ·simp only [e,if_true];exact keepL _ _ _ (h.t q e)
  ·simp only [e,if_false];exact keepL _ _ _ hl
 ·have ha':a < f.m + 1:=ha
  have hb1:b < f.m + 1:=hb
  by_cases e:a < f.m
  ·by_cases e2:b < f.m
   ·simp only [e,e2,if_true];exact h.ne a b e e2 hab k
   ·simp only [e,e2,if_true,if_false]
    intro e3 e4
    exact hv k e4 (.inr (.inr (.inr ⟨a,e,e3⟩)))
  ·by_cases e2:b < f.m
   ·simp only [e,e2,if_true,if_false]
    intro e3 e4
    exact hv k e3 (.inr (.inr (.inr ⟨b,e2,e4⟩)))
   ·omega
 ·by_cases e:a < f.m
  ·simp only [e,if_true];exact h.nc a e k
  ·simp only [e,if_false]
   intro e3 e4
   exact hv k e3 (.inr (.inr (.inl e4)))
 ·by_cases e:q < f.m
  ·simp only [e,if_true];exact up _ (h.k q e)
  ·simp only [e,if_false];exact hk
theorem BD.mono {w:World} {F':Nat} {F:Nat} {f:Bf} {n:Nat} {X:Nat→RoD} {lc:List (Nat × Rat)} {S Sc:Nat} (h:BD w F f n X lc S Sc) (hF:F'≤F):BD w F' f n X lc S Sc:=by
 obtain ⟨E,h1,h2⟩:=h.r
 exact ⟨h.rw,⟨E,h1.mono hF,h2⟩,fun q hq=>(h.t q hq).mono hF,h.c.mono hF,h.ne,h.nc,Nat.le_trans hF h.lo,h.k,h.kc⟩
structure StD where
 aa:Option Addr
 an:Nat
 ac:Nat
 ba:Option Addr
 bn:Nat
 bc:Nat
 ca:Option Addr
 cn:Nat
 cc:Nat
 zp:Bool
 za:Option Addr
 zn:Nat
 zc:Nat
 zd:Option Addr
 zm:Nat
 ze:Nat
 ra:Nat→Option Addr
 rn:Nat→Nat
 rc:Nat→Nat
 E:Nat→Nat→Rat
 B:Nat→Rat
structure StQ (w:World) (s:StD) (S:Nat):Prop where
 a:s.an = 0∨∃ b o,s.aa = some ⟨b,o,none⟩∧∀ i,i < s.an→w.cell? ⟨b,o + i,none⟩ = some (.slice (s.ra i) (s.rn i) (s.rc i))∧s.rn i≤s.rc i∧LQ w (s.ra i) (s.rn i) (s.E i) (fun _=>S)
 b:LQ w s.ba s.bn s.B (fun _=>S)
theorem StQ.below {w w':World} {s:StD} {S:Nat} (h:StQ w s S) (hb:Below w.heap.size w w'):StQ w' s S:=by
 refine ⟨?_,h.b.below hb⟩
 rcases h.a with h0 | ⟨b,o,e,h1⟩
 ·exact .inl h0
 ·exact .inr ⟨b,o,e,fun i hi=>⟨kept_c hb (h1 i hi).1,(h1 i hi).2.1,(h1 i hi).2.2.below hb⟩⟩
def StD.k (s:StD) (i:Nat):Nat:=if i < s.an then min (s.rn i) s.cn else 0
def StD.t (s:StD) (i:Nat):Bool:=decide ((s.B i).num.sign < 0)
def StD.row (s:StD) (i:Nat):RoD:=⟨fln (s.t i) (s.E i) (s.k i) (s.cn + i),dsg (s.t i) (s.B i),((s.cn + i:Nat):Int),s.t i⟩
theorem StD.k_le (s:StD) (i:Nat):s.k i≤s.cn:=by unfold StD.k;split <;> omega
def NewP (w:World) (s:StD) (S:Nat) (e:Ending) (w':World):Prop:=∃ (f:Bf) (X:Nat→RoD),e = .returned (.pointer (some ⟨f.b,0,none⟩))∧f.m = s.bn∧BD w' w.heap.size f s.cn X [] S 1∧(∀ q,q < s.bn→X q = s.row q)∧Below w.heap.size w w'
theorem StD.rowK (s:StD) (i:Nat):RoK (s.row i) (s.cn + (i + 1)):=by
 have h:=fln_ok (s.t i) (s.E i) (show s.k i≤s.cn + i by have:=s.k_le i;omega)
 exact ⟨h.1,fun e he=>by have:=h.2 e he;omega,by show (-1:Int)≤((s.cn + i:Nat):Int);omega,by show ((s.cn + i:Nat):Int) < _;omega⟩
theorem LQ.take {w:World} {a:Option Addr} {n k:Nat} {X:Nat→Rat} {Z:Nat→Nat} (h:LQ w a n X Z) (hk:k≤n):LQ w a k X Z:=by
 rcases h with h | ⟨b,o,e,h⟩
 ·exact .inl (by omega)
 ·exact .inr ⟨b,o,e,fun i hi=>h i (by omega)⟩
set_option maxRecDepth 100000 in
set_option maxHeartbeats 8000000 in
theorem newB {s:StD} {S:Nat} (w:World) (hs:StQ w s S) (hS:1≤S∧S≤6000000) (hN:s.cn + s.bn≤3000000) (hT:TB w):Calls Tryz.prog 12 #[.agg #[.slice s.aa s.an s.ac,.slice s.ba s.bn s.bc,.slice s.ca s.cn s.cc,.bool s.zp,.slice s.za s.zn s.zc,.slice s.zd s.zm s.ze]] w fun e w'=>NewP w s S e w':=by
 have BS:=box_new w #[.slice s.aa s.an s.ac,.slice s.ba s.bn s.bc,.slice s.ca s.cn s.cc,.bool s.zp,.slice s.za s.zn s.zc,.slice s.zd s.zm s.ze] 31
 have hb0:=bel_d0 w (.cells #[.slice s.aa s.an s.ac,.slice s.ba s.bn s.bc,.slice s.ca s.cn s.cc,.bool s.zp,.slice s.za s.zn s.zc,.slice s.zd s.zm s.ze] 31)
 have hs0:(w.alloc (.cells #[.slice s.aa s.an s.ac,.slice s.ba s.bn s.bc,.slice s.ca s.cn s.cc,.bool s.zp,.slice s.za s.zn s.zc,.slice s.zd s.zm s.ze] 31)).heap.size = w.heap.size + 1:=by simp
 have RB:=Rw.new 70 (w.alloc (.cells #[.slice s.aa s.an s.ac,.slice s.ba s.bn s.bc,.slice s.ca s.cn s.cc,.bool s.zp,.slice s.za s.zn s.zc,.slice s.zd s.zm s.ze] 31)) #[.int .i64 (s.cn:Nat),.slice none 0 0,.slice none 0 0]
 rw [hs0] at RB
 have hb1:=bel_d0 (w.alloc (.cells #[.slice s.aa s.an s.ac,.slice s.ba s.bn s.bc,.slice s.ca s.cn s.cc,.bool s.zp,.slice s.za s.zn s.zc,.slice s.zd s.zm s.ze] 31)) (.cells #[.int .i64 (s.cn:Nat),.slice none 0 0,.slice none 0 0] 70)
 have hs1:((w.alloc (.cells #[.slice s.aa s.an s.ac,.slice s.ba s.bn s.bc,.slice s.ca s.cn s.cc,.bool s.zp,.slice s.za s.zn s.zc,.slice s.zd s.zm s.ze] 31)).alloc (.cells #[.int .i64 (s.cn:Nat),.slice none 0 0,.slice none 0 0] 70)).heap.size = w.heap.size + 2:=by simp
 replace BS:=BS.below hb1
 have hb:=bel_tr hb0 hb1
 have x1:=BS 1 _ rfl
 have x2:=box_new w #[.slice s.aa s.an s.ac,.slice s.ba s.bn s.bc,.slice s.ca s.cn s.cc,.bool s.zp,.slice s.za s.zn s.zc,.slice s.zd s.zm s.ze] 31 2 _ rfl
 obtain ⟨bb,ebb⟩:∃ bb,bb = w.heap.size + 1:=⟨_,rfl⟩
 have hbb:w.heap.size < bb:=by omega
 rw [← ebb] at RB
 have B0:BD ((w.alloc (.cells #[.slice s.aa s.an s.ac,.slice s.ba s.bn s.bc,.slice s.ca s.cn s.cc,.bool s.zp,.slice s.za s.zn s.zc,.slice s.zd s.zm s.ze] 31)).alloc (.cells #[.int .i64 (s.cn:Nat),.slice none 0 0,.slice none 0 0] 70)) (w.heap.size + 1) (⟨bb,.slice none 0 0,0,fun _=>.slice none 0 0,.slice none 0 0⟩:Bf) s.cn (fun q=>s.row q) [] S 1:=⟨RB,⟨fun _=>[],SL.nil _ _ _ _ _,fun q hq=>absurd hq (by show ¬ q < 0;omega)⟩,fun q hq=>absurd hq (by show ¬ q < 0;omega),LnE.nil _ _ _,fun a b ha=>absurd ha (by show ¬ a < 0;omega),fun a ha=>absurd ha (by show ¬ a < 0;omega),by show w.heap.size + 1≤bb;omega,fun q hq=>absurd hq (by show ¬ q < 0;omega),⟨fun _ _ _ _ h=>by simp at h,fun e he=>by simp at he⟩⟩
 clear hb0 hb1 RB
 go_enter Tryz.func12,Tryz.ntmps12
 go_wp2
 try rw [← ebb]
 clear x1 x2 ebb
 generalize (w.alloc (.cells #[.slice s.aa s.an s.ac,.slice s.ba s.bn s.bc,.slice s.ca s.cn s.cc,.bool s.zp,.slice s.za s.zn s.zc,.slice s.zd s.zm s.ze] 31)).alloc (.cells #[.int .i64 (s.cn:Nat),.slice none 0 0,.slice none 0 0] 70) = U1 at *
 go_loopw [15] (fun sq wr=>∃ (i:Nat) (rv:Value) (V:Nat→Value) (cv:Value) (X:Nat→RoD),i≤s.bn∧sq = .int .i64 i∧BD wr (w.heap.size + 1) (⟨bb,rv,i,V,cv⟩:Bf) s.cn X [] S 1∧Hid (∀ q,q < i→X q = s.row q)∧BoxC wr w.heap.size [.slice s.aa s.an s.ac,.slice s.ba s.bn s.bc,.slice s.ca s.cn s.cc,.bool s.zp,.slice s.za s.zn s.zc,.slice s.zd s.zm s.ze]∧Below w.heap.size w wr∧w.heap.size + 2≤wr.heap.size) (fun x _=>s.bn - (intOf x).toNat)
 case atStart=>exact ⟨0,_,_,_,_,Nat.zero_le _,rfl,B0,fun q hq=>by omega,BS,hb,by omega⟩
 case round =>
  clear B0 BS hb hs1
  obtain ⟨i,rv,V,cv,X,hi,rfl,BQ,HXX,BB,hbw,hwr⟩:=hrel
  obtain ⟨ua,uc,erv,_⟩:=BQ.rlen
  have erv:rv = .slice ua i uc:=erv
  subst erv
  by_cases hlt:i < s.bn
  ·have hiI:(i:Int) < (s.bn:Int):=by omega
   have hi0:¬ (i:Int) < 0:=by omega
   have hi3:(i:Int) * 3 = ((i * 3:Nat):Int):=by omega
   rcases hs.b.below hbw with h0 | ⟨eb,eo,eba,hel⟩
   ·omega
   obtain ⟨ep,ea,en,ec,ed,em,ee,c0,c1,c2,hre⟩:=hel i hlt
   have HBA:Hid (s.ba = some ⟨eb,eo,none⟩):=eba
   obtain ⟨art,eart⟩:∃ art,art = s.cn + i:=⟨_,rfl⟩
   have HART:Hid (art = s.cn + i):=eart
   have hartI:(s.cn:Int) + (i:Int) = (art:Int):=by omega
   have hartw:IntKind.i64.wrap (art:Int) = (art:Int):=wrap_id art (by omega)
   have hz:=bel_d0 wr (.cells #[.bool ep,.slice ea en ec,.slice ed em ee] 29)
   have BX0:=box_new wr #[.bool ep,.slice ea en ec,.slice ed em ee] 29
   have hsW:(wr.alloc (.cells #[.bool ep,.slice ea en ec,.slice ed em ee] 29)).heap.size = wr.heap.size + 1:=by simp
   have BW2:=BQ.below hz
   have GE2:=hre.below hz
   have hbU2:=bel_tr hbw hz
   have hT22:=hT.below hbU2
   have BBU2:=BB.below hz
   obtain ⟨EQ,SLQ,_⟩:=id BQ.r
   have hbs:(Value.slice ua i uc).ownBlock ≠ some w.heap.size:=fun e=>by
    have:=(SLQ.lt _ e).1
    omega
   have xA:=BBU2 0 _ rfl
   have xb1:=(BW2.rw.cell 1).trans (show _ = some (.slice ua i uc) from rfl)
   have xb0:=(BW2.rw.cell 0).trans (show _ = some (.int .i64 (s.cn:Nat)) from rfl)
   clear eart hel hre
   by_cases hia:i < s.an
   ·have hiaI:(i:Int) < (s.an:Int):=by omega
    rcases hs.a with h0 | ⟨ab,ao,eaa,hrow⟩
    ·omega
    obtain ⟨r0,r1,r2⟩:=hrow i hia
    obtain ⟨kk,ekk⟩:∃ kk,kk = min (s.rn i) s.cn:=⟨_,rfl⟩
    have hkkI:min (s.rn i:Int) (s.cn:Int) = (kk:Int):=by omega
    have hkr:kk≤s.rc i:=by omega
    have hkrI:(kk:Int)≤(s.rc i:Int):=by omega
    have hkk0:(0:Int)≤(kk:Int):=by omega
    have hkc:kk≤s.cn:=by omega
    have HKK:Hid (s.k i = kk):=by show s.k i = kk;unfold StD.k;rw [if_pos hia,ekk]
    have LQ2:=(r2.take (k:=kk) (by omega)).below hbU2
    have HAA:Hid (s.aa = some ⟨ab,ao,none⟩):=eaa
    rw [eaa] at xA
    have r0':=kept_c hbU2 r0
    clear hrow r2 ekk r0
    go_wp2_with fail
    clear c0 c1 c2
    generalize wr.alloc (.cells #[.bool ep,.slice ea en ec,.slice ed em ee] 29) = W2 at *
    have HB7:∀ w',Below W2.heap.size W2 w'→(w'.cell? ⟨w.heap.size,0,none⟩ = some (.slice (some ⟨ab,ao,none⟩) s.an s.ac)∧w'.cell? ⟨ab,ao + i,none⟩ = some (.slice (s.ra i) (s.rn i) (s.rc i))∧w'.cell? ⟨bb,0,none⟩ = some (.int .i64 (s.cn:Nat))):=fun w' h=>⟨kept_c h xA,kept_c h r0',kept_c h xb0⟩
    refine wp_region_noPanic (wp_region_guardB HB7 (by as_aux_lemma=>kernel_rfl) ?_)
    have hc0:Below W2.heap.size W2 W2.drew:=bel_d1 _
    generalize W2.drew = x0 at *
    refine wpAnyG.tA 0 (v:=.pointer (some ⟨w.heap.size,0,none⟩)) (by decide) 17 (by as_aux_lemma=>kernel_rfl) (by rfl) ?y0 (HB7 _ hc0) ?_
    case y0 =>
     rintro w' ⟨q0,q1,q2⟩
     simp only [lgA,lgZ]
     go_simp
    simp only [lgA,lgZ,Act.put,lsA,lsZ,lsS]
    refine wpAnyG.tA 1 (v:=.slice (some ⟨ab,ao,none⟩) s.an s.ac) (by decide) 17 (by as_aux_lemma=>kernel_rfl) (by rfl) ?y1 (HB7 _ hc0) ?_
    case y1 =>
     rintro w' ⟨q0,q1,q2⟩
     simp only [lgA,lgZ,lgS]
     go_simp
    simp only [lgA,lgZ,lgS,Act.put,lsA,lsZ,lsS]
    refine wpAnyG.tA 2 (v:=.int .i64 (i:Int)) (by decide) 17 (by as_aux_lemma=>kernel_rfl) (by rfl) ?y2 (HB7 _ hc0) ?_
    case y2 =>
     rintro w' ⟨q0,q1,q2⟩
     simp only [lgA,lgZ,lgS]
     go_simp
    simp only [lgA,lgZ,lgS,Act.put,lsA,lsZ,lsS]
    refine wpAnyG.tA 3 (v:=.pointer (some ⟨ab,ao + i,none⟩)) (by decide) 17 (by as_aux_lemma=>kernel_rfl) (by rfl) ?y3 (HB7 _ hc0) ?_
    case y3 =>
     rintro w' ⟨q0,q1,q2⟩
     simp only [lgA,lgZ,lgS]
     go_simp
    simp only [lgA,lgZ,lgS,Act.put,lsA,lsZ,lsS]
    refine wpAnyG.tA 4 (v:=.slice (s.ra i) (s.rn i) (s.rc i)) (by decide) 17 (by as_aux_lemma=>kernel_rfl) (by rfl) ?y4 (HB7 _ hc0) ?_
    case y4 =>
     rintro w' ⟨q0,q1,q2⟩
     simp only [lgA,lgZ,lgS]
     go_simp
    simp only [lgA,lgZ,lgS,Act.put,lsA,lsZ,lsS]
    refine wpAnyG.tA 5 (v:=.pointer (some ⟨w.heap.size,0,none⟩)) (by decide) 17 (by as_aux_lemma=>kernel_rfl) (by rfl) ?y5 (HB7 _ hc0) ?_
    case y5 =>
     rintro w' ⟨q0,q1,q2⟩
     simp only [lgA,lgZ,lgS]
     go_simp
    simp only [lgA,lgZ,lgS,Act.put,lsA,lsZ,lsS]
    refine wpAnyG.tA 6 (v:=.slice (some ⟨ab,ao,none⟩) s.an s.ac) (by decide) 17 (by as_aux_lemma=>kernel_rfl) (by rfl) ?y6 (HB7 _ hc0) ?_
    case y6 =>
     rintro w' ⟨q0,q1,q2⟩
     simp only [lgA,lgZ,lgS]
     go_simp
    simp only [lgA,lgZ,lgS,Act.put,lsA,lsZ,lsS]
    refine wpAnyG.tA 7 (v:=.int .i64 (i:Int)) (by decide) 17 (by as_aux_lemma=>kernel_rfl) (by rfl) ?y7 (HB7 _ hc0) ?_
    case y7 =>
     rintro w' ⟨q0,q1,q2⟩
     simp only [lgA,lgZ,lgS]
     go_simp
    simp only [lgA,lgZ,lgS,Act.put,lsA,lsZ,lsS]
    refine wpAnyG.tA 8 (v:=.pointer (some ⟨ab,ao + i,none⟩)) (by decide) 17 (by as_aux_lemma=>kernel_rfl) (by rfl) ?y8 (HB7 _ hc0) ?_
    case y8 =>
     rintro w' ⟨q0,q1,q2⟩
     simp only [lgA,lgZ,lgS]
     go_simp
    simp only [lgA,lgZ,lgS,Act.put,lsA,lsZ,lsS]
    refine wpAnyG.tA 9 (v:=.slice (s.ra i) (s.rn i) (s.rc i)) (by decide) 17 (by as_aux_lemma=>kernel_rfl) (by rfl) ?y9 (HB7 _ hc0) ?_
    case y9 =>
     rintro w' ⟨q0,q1,q2⟩
     simp only [lgA,lgZ,lgS]
     go_simp
    simp only [lgA,lgZ,lgS,Act.put,lsA,lsZ,lsS]
    refine wpAnyG.tA 10 (v:=.int .i64 (s.rn i:Nat)) (by decide) 17 (by as_aux_lemma=>kernel_rfl) (by rfl) ?y10 (HB7 _ hc0) ?_
    case y10 =>
     rintro w' ⟨q0,q1,q2⟩
     simp only [lgA,lgZ,lgS]
     go_simp
    simp only [lgA,lgZ,lgS,Act.put,lsA,lsZ,lsS]
    refine wpAnyG.tA 11 (v:=.pointer (some ⟨bb,0,none⟩)) (by decide) 17 (by as_aux_lemma=>kernel_rfl) (by rfl) ?y11 (HB7 _ hc0) ?_
    case y11 =>
     rintro w' ⟨q0,q1,q2⟩
     simp only [lgA,lgZ,lgS]
     go_simp
    simp only [lgA,lgZ,lgS,Act.put,lsA,lsZ,lsS]
    refine wpAnyG.tA 12 (v:=.pointer (some ⟨bb,0,none⟩)) (by decide) 17 (by as_aux_lemma=>kernel_rfl) (by rfl) ?y12 (HB7 _ hc0) ?_
    case y12 =>
     rintro w' ⟨q0,q1,q2⟩
     simp only [lgA,lgZ,lgS]
     go_simp
    simp only [lgA,lgZ,lgS,Act.put,lsA,lsZ,lsS]
    refine wpAnyG.tA 13 (v:=.pointer (some ⟨bb,0,none⟩)) (by decide) 17 (by as_aux_lemma=>kernel_rfl) (by rfl) ?y13 (HB7 _ hc0) ?_
    case y13 =>
     rintro w' ⟨q0,q1,q2⟩
     simp only [lgA,lgZ,lgS]
     go_simp
    simp only [lgA,lgZ,lgS,Act.put,lsA,lsZ,lsS]
    refine wpAnyG.tA 14 (v:=.int .i64 (s.cn:Nat)) (by decide) 17 (by as_aux_lemma=>kernel_rfl) (by rfl) ?y14 (HB7 _ hc0) ?_
    case y14 =>
     rintro w' ⟨q0,q1,q2⟩
     simp only [lgA,lgZ,lgS]
     go_simp
    simp only [lgA,lgZ,lgS,Act.put,lsA,lsZ,lsS]
    refine wpAnyG.tA 15 (v:=.int .i64 (kk:Nat)) (by decide) 17 (by as_aux_lemma=>kernel_rfl) (by rfl) ?y15 (HB7 _ hc0) ?_
    case y15 =>
     rintro w' ⟨q0,q1,q2⟩
     simp only [lgA,lgZ,lgS]
     go_simp
    simp only [lgA,lgZ,lgS,Act.put,lsA,lsZ,lsS]
    refine wpAnyG.tA 16 (v:=.slice (s.ra i) kk (s.rc i)) (by decide) 17 (by as_aux_lemma=>kernel_rfl) (by rfl) ?y16 (HB7 _ hc0) ?_
    case y16 =>
     rintro w' ⟨q0,q1,q2⟩
     simp only [lgA,lgZ,lgS]
     go_simp
    simp only [lgA,lgZ,lgS,Act.put,lsA,lsZ,lsS]
    refine wpAnyG.one 17 (by as_aux_lemma=>kernel_rfl) (by decide) (by rfl) (fun K hK=>?_)
    simp only [lgA,lgZ,lgS]
    go_simp
    refine hK _ _ (HB7 _ hc0) ?_
    clear hK K
    refine wpAnyG.done (by as_aux_lemma=>kernel_rfl) (NoPanic.normal ?_)
    have BW:=BW2.below hc0
    have GE:=GE2.below hc0
    have hbU:=bel_tr hbU2 hc0
    have hT2:=hT22.below hc0
    have BBU:=BBU2.below hc0
    have LQN:=LQ2.below hc0
    have HB8:∀ w',Below x0.heap.size x0 w'→(w'.cell? ⟨bb,1,none⟩ = some (.slice ua i uc)∧w'.cell? ⟨bb,0,none⟩ = some (.int .i64 (s.cn:Nat))∧w'.cell? ⟨wr.heap.size,0,none⟩ = some (.bool ep)∧w'.cell? ⟨wr.heap.size,1,none⟩ = some (.slice ea en ec)∧w'.cell? ⟨wr.heap.size,2,none⟩ = some (.slice ed em ee)):=fun w' h=>⟨kept_c h (kept_c hc0 xb1),kept_c h (kept_c hc0 xb0),kept_c h (kept_c hc0 (BX0 0 _ rfl)),kept_c h (kept_c hc0 (BX0 1 _ rfl)),kept_c h (kept_c hc0 (BX0 2 _ rfl))⟩
    have hsx:=hc0.size
    clear HB7 hc0 BW2 GE2 hbU2 hT22 BBU2 LQ2 BX0 xA xb1 xb0 r0' hz
    go_wp2_with fail
    refine wp_region_noPanic (wp_region_guardT 18 HB8 (by as_aux_lemma=>kernel_rfl) ?_)
    have hc0:Below x0.heap.size x0 x0.drew:=bel_d1 _
    generalize x0.drew = z0 at *
    refine wpAnyG.tT 0 (v:=.pointer (some ⟨bb,0,none⟩)) (by decide) 18 (by as_aux_lemma=>kernel_rfl) (by rfl) ?y0 (HB8 _ hc0) ?_
    case y0 =>
     rintro w' ⟨q0,q1,q2,q3,q4⟩
     simp only [lgA,lgZ]
     go_simp
    simp only [lgA,lgZ,Act.put,lsA,lsZ,lsS]
    refine wpAnyG.tT 1 (v:=.pointer (some ⟨bb,0,none⟩)) (by decide) 18 (by as_aux_lemma=>kernel_rfl) (by rfl) ?y1 (HB8 _ hc0) ?_
    case y1 =>
     rintro w' ⟨q0,q1,q2,q3,q4⟩
     simp only [lgA,lgZ,lgS]
     go_simp
    simp only [lgA,lgZ,lgS,Act.put,lsA,lsZ,lsS]
    refine wpAnyG.tT 2 (v:=.pointer (some ⟨bb,0,none⟩)) (by decide) 18 (by as_aux_lemma=>kernel_rfl) (by rfl) ?y2 (HB8 _ hc0) ?_
    case y2 =>
     rintro w' ⟨q0,q1,q2,q3,q4⟩
     simp only [lgA,lgZ,lgS]
     go_simp
    simp only [lgA,lgZ,lgS,Act.put,lsA,lsZ,lsS]
    refine wpAnyG.tT 3 (v:=.pointer (some ⟨bb,1,none⟩)) (by decide) 18 (by as_aux_lemma=>kernel_rfl) (by rfl) ?y3 (HB8 _ hc0) ?_
    case y3 =>
     rintro w' ⟨q0,q1,q2,q3,q4⟩
     simp only [lgA,lgZ,lgS]
     go_simp
    simp only [lgA,lgZ,lgS,Act.put,lsA,lsZ,lsS]
    refine wpAnyG.tT 4 (v:=.slice ua i uc) (by decide) 18 (by as_aux_lemma=>kernel_rfl) (by rfl) ?y4 (HB8 _ hc0) ?_
    case y4 =>
     rintro w' ⟨q0,q1,q2,q3,q4⟩
     simp only [lgA,lgZ,lgS]
     go_simp
    simp only [lgA,lgZ,lgS,Act.put,lsA,lsZ,lsS]
    refine wpAnyG.tT 5 (v:=.slice (s.ra i) kk (s.rc i)) (by decide) 18 (by as_aux_lemma=>kernel_rfl) (by rfl) ?y5 (HB8 _ hc0) ?_
    case y5 =>
     rintro w' ⟨q0,q1,q2,q3,q4⟩
     simp only [lgA,lgZ,lgS]
     go_simp
    simp only [lgA,lgZ,lgS,Act.put,lsA,lsZ,lsS]
    refine wpAnyG.tT 6 (v:=.agg #[.bool ep,.slice ea en ec,.slice ed em ee]) (by decide) 18 (by as_aux_lemma=>kernel_rfl) (by rfl) ?y6 (HB8 _ hc0) ?_
    case y6 =>
     rintro w' ⟨q0,q1,q2,q3,q4⟩
     simp only [lgA,lgZ,lgS]
     go_simp
    simp only [lgA,lgZ,lgS,Act.put,lsA,lsZ,lsS]
    refine wpAnyG.tT 7 (v:=.pointer (some ⟨bb,0,none⟩)) (by decide) 18 (by as_aux_lemma=>kernel_rfl) (by rfl) ?y7 (HB8 _ hc0) ?_
    case y7 =>
     rintro w' ⟨q0,q1,q2,q3,q4⟩
     simp only [lgA,lgZ,lgS]
     go_simp
    simp only [lgA,lgZ,lgS,Act.put,lsA,lsZ,lsS]
    refine wpAnyG.tT 8 (v:=.pointer (some ⟨bb,0,none⟩)) (by decide) 18 (by as_aux_lemma=>kernel_rfl) (by rfl) ?y8 (HB8 _ hc0) ?_
    case y8 =>
     rintro w' ⟨q0,q1,q2,q3,q4⟩
     simp only [lgA,lgZ,lgS]
     go_simp
    simp only [lgA,lgZ,lgS,Act.put,lsA,lsZ,lsS]
    refine wpAnyG.tT 9 (v:=.pointer (some ⟨bb,0,none⟩)) (by decide) 18 (by as_aux_lemma=>kernel_rfl) (by rfl) ?y9 (HB8 _ hc0) ?_
    case y9 =>
     rintro w' ⟨q0,q1,q2,q3,q4⟩
     simp only [lgA,lgZ,lgS]
     go_simp
    simp only [lgA,lgZ,lgS,Act.put,lsA,lsZ,lsS]
    refine wpAnyG.tT 10 (v:=.int .i64 (s.cn:Nat)) (by decide) 18 (by as_aux_lemma=>kernel_rfl) (by rfl) ?y10 (HB8 _ hc0) ?_
    case y10 =>
     rintro w' ⟨q0,q1,q2,q3,q4⟩
     simp only [lgA,lgZ,lgS]
     go_simp
    simp only [lgA,lgZ,lgS,Act.put,lsA,lsZ,lsS]
    refine wpAnyG.tT 11 (v:=.int .i64 (i:Int)) (by decide) 18 (by as_aux_lemma=>kernel_rfl) (by rfl) ?y11 (HB8 _ hc0) ?_
    case y11 =>
     rintro w' ⟨q0,q1,q2,q3,q4⟩
     simp only [lgA,lgZ,lgS]
     go_simp
    simp only [lgA,lgZ,lgS,Act.put,lsA,lsZ,lsS]
    refine wpAnyG.tT 12 (v:=.int .i64 (art:Nat)) (by decide) 18 (by as_aux_lemma=>kernel_rfl) (by rfl) ?y12 (HB8 _ hc0) ?_
    case y12 =>
     rintro w' ⟨q0,q1,q2,q3,q4⟩
     simp only [lgA,lgZ,lgS]
     go_simp
    simp only [lgA,lgZ,lgS,Act.put,lsA,lsZ,lsS]
    refine wpAnyG.one 13 (by as_aux_lemma=>kernel_rfl) (by decide) (by rfl) (fun K hK=>?_)
    simp only [lgA,lgZ,lgS]
    go_simp
    refine (firstB (S:=S) art (s.t i) z0 (LQN.below hc0) (GE.below hc0) rfl hS (by omega) (hT2.below hc0)).mono ?_
    rintro e z1 ⟨v,p,a,na,ca,d,nd,cd,rfl,LN,GN,hk1⟩
    have hc1:Below x0.heap.size x0 z1:=bel_tr hc0 hk1
    obtain ⟨va,vn,vc,rfl⟩:∃ va vn vc,v = Value.slice va vn vc:=by obtain ⟨q1,q2,e,_⟩:=LN.form;exact ⟨_,_,_,e⟩
    dsimp only
    refine hK _ _ ⟨fun _=>HB8 _ hc1,fun _=>trivial⟩ ?_
    clear hK K
    refine wpAnyG.one 14 (by as_aux_lemma=>kernel_rfl) (by decide) (by rfl) (fun K hK=>?_)
    simp only [lgA,lgZ,lgS]
    go_simp
    have hy:=bel_d0 z1 (.cells #[.slice va vn vc,.bool p,.slice a na ca,.slice d nd cd,.int .i64 (art:Nat),.bool (s.t i)] 67)
    have BX:=box_new z1 #[.slice va vn vc,.bool p,.slice a na ca,.slice d nd cd,.int .i64 (art:Nat),.bool (s.t i)] 67
    have hs4:(z1.alloc (.cells #[.slice va vn vc,.bool p,.slice a na ca,.slice d nd cd,.int .i64 (art:Nat),.bool (s.t i)] 67)).heap.size = z1.heap.size + 1:=by simp
    generalize z1.alloc (.cells #[.slice va vn vc,.bool p,.slice a na ca,.slice d nd cd,.int .i64 (art:Nat),.bool (s.t i)] 67) = z5 at *
    have hc5:=bel_tr hc1 hy
    refine hK _ _ ⟨fun _=>HB8 _ hc5,fun _=>trivial⟩ ?_
    clear hK K
    refine wpAnyG.one 15 (by as_aux_lemma=>kernel_rfl) (by decide) (by rfl) (fun K hK=>?_)
    simp only [lgA,lgZ,lgS]
    have BZ:=BW.below hc5
    obtain ⟨E,SLZ0,TE⟩:=id BZ.r
    have hsy:=hc5.size
    have SLZ:SL z5 (w.heap.size + 1) 67 6 (.slice ua i uc) i E:=SLZ0
    refine wp_appendS z5 _ _ 68 67 6 96 rfl Tryz.underlying68 infRow6 (by decide) (by decide) (w.heap.size + 1) (.slice ua i uc) i E rfl SLZ z1.heap.size 1 rfl [.slice va vn vc,.bool p,.slice a na ca,.slice d nd cd,.int .i64 (art:Nat),.bool (s.t i)] rfl (fun u hu=>by simp only [List.mem_cons,List.not_mem_nil,or_false] at hu;rcases hu with rfl | rfl | rfl | rfl | rfl | rfl <;> rfl) BX (by omega) (by omega) _ rfl ?_
    intro g6 cap6 w6 SN hg hat hgl
    have RZ7:Rw 70 w6 bb #[.int .i64 (s.cn:Nat),.slice ua i uc,cv]:=BZ.rw.kept hg (SLZ.neR BZ.rw (by decide))
    have hlt6:wr.heap.size < z5.heap.size:=by omega
    have hbw6:(Value.slice ua i uc).ownBlock ≠ some wr.heap.size:=fun e=>by have:=(SLQ.lt _ e).2;omega
    have eb6:=hg.block wr.heap.size hlt6 (fun e=>hbw6 e.symm)
    refine hK _ _ ⟨fun _=>⟨(RZ7.cell 1).trans rfl,(RZ7.cell 0).trans rfl,(World.cell?_of_block (w:=z5) eb6).trans (HB8 _ hc5).2.2.1,(World.cell?_of_block (w:=z5) eb6).trans (HB8 _ hc5).2.2.2.1,(World.cell?_of_block (w:=z5) eb6).trans (HB8 _ hc5).2.2.2.2⟩,fun _=>trivial⟩ ?_
    clear hK K
    refine wpAnyG.one 16 (by as_aux_lemma=>kernel_rfl) (by decide) (by rfl) (fun K hK=>?_)
    simp only [lgA,lgZ,lgS]
    go_simp
    refine hK _ _ ⟨fun _=>⟨(RZ7.cell 1).trans rfl,(RZ7.cell 0).trans rfl,(World.cell?_of_block (w:=z5) eb6).trans (HB8 _ hc5).2.2.1,(World.cell?_of_block (w:=z5) eb6).trans (HB8 _ hc5).2.2.2.1,(World.cell?_of_block (w:=z5) eb6).trans (HB8 _ hc5).2.2.2.2⟩,fun _=>trivial⟩ ?_
    clear hK K
    refine wpAnyG.one 17 (by as_aux_lemma=>kernel_rfl) (by decide) (by rfl) (fun K hK=>?_)
    simp only [lgA,lgZ,lgS]
    go_simp
    refine hK _ _ ⟨fun _=>⟨(RZ7.cell 1).trans rfl,(RZ7.cell 0).trans rfl,(World.cell?_of_block (w:=z5) eb6).trans (HB8 _ hc5).2.2.1,(World.cell?_of_block (w:=z5) eb6).trans (HB8 _ hc5).2.2.2.1,(World.cell?_of_block (w:=z5) eb6).trans (HB8 _ hc5).2.2.2.2⟩,fun _=>trivial⟩ ?_
    clear hK K
    refine wpAnyG.one 18 (by as_aux_lemma=>kernel_rfl) (by decide) (by rfl) (fun K hK=>?_)
    simp only [lgA,lgZ,lgS]
    have k1:=(RZ7.cell 1).trans (show _ = some (.slice ua i uc) from rfl)
    have f1:=RZ7.frozen 1
    go_simp
    refine hK _ _ ⟨fun h=>absurd h (by decide),fun _=>trivial⟩ ?_
    clear hK K
    refine wpAnyG.done (by as_aux_lemma=>kernel_rfl) (NoPanic.normal ?_)
    try rw [← HBA.out]
    try rw [← HAA.out]
    clear eba eaa
    obtain ⟨B9,O⟩:=BZ.addRow (g:=g6) (cap:=cap6) (cs:=[.slice va vn vc,.bool p,.slice a na ca,.slice d nd cd,.int .i64 (art:Nat),.bool (s.t i)]) (v:=.slice va vn vc) (x:=s.row i) SLZ0 TE SN hg ⟨p,a,na,ca,d,nd,cd,by rw [HART.out];rfl,GN.below hy⟩ (by
     have h:=(LN.below hy).mono (B':=w.heap.size + 1) (by have:=hc0.size;omega)
     rw [HART.out] at h
     show LnE _ _ _ (fln (s.t i) (s.E i) (s.k i) (s.cn + i)) S
     rw [HKK.out]
     exact h) (s.rowK i) (fun k e hk=>by have:=(LN.lt k e).1;have:=(BW.lt k hk).2;have:=hc0.size;omega)
    have hbn:Below w.heap.size w (w6.setCell ⟨bb,1,none⟩ (.slice (some ⟨g6,0,none⟩) (i + 1) cap6)):=((bel_tr hbU hc5).grown hg (bel_tr hbU hc5).size (fun k hk=>by have:=(SLZ.lt k hk).1;omega)).trans (O.below (show w.heap.size≤bb by omega))
    have HX2:Hid (∀ q,q < i + 1→(fun q=>if q < i then X q else s.row i) q = s.row q):=fun q hq=>by
     show (if q < i then X q else s.row i) = s.row q
     by_cases e:q < i
     ·rw [if_pos e];exact HXX.out q e
     ·rw [if_neg e,show q = i by omega]
    have BB2:BoxC (w6.setCell ⟨bb,1,none⟩ (.slice (some ⟨g6,0,none⟩) (i + 1) cap6)) w.heap.size [.slice s.aa s.an s.ac,.slice s.ba s.bn s.bc,.slice s.ca s.cn s.cc,.bool s.zp,.slice s.za s.zn s.zc,.slice s.zd s.zm s.ze]:=fun j u hu=>by
     have e1:(w6.setCell ⟨bb,1,none⟩ (.slice (some ⟨g6,0,none⟩) (i + 1) cap6)).heap[w.heap.size]? = w6.heap[w.heap.size]?:=O.block _ (by show w.heap.size ≠ bb;omega)
     have e2:=hg.block w.heap.size (by have:=hc5.size;omega) (fun e=>hbs e.symm)
     exact (World.cell?_of_block (w:=z5) (e1.trans e2)).trans (kept_c hc5 (BBU j u hu))
    have e9:(w6.setCell ⟨bb,1,none⟩ (.slice (some ⟨g6,0,none⟩) (i + 1) cap6)).heap.size = w6.heap.size:=O.size
    have hs9:w.heap.size + 2≤(w6.setCell ⟨bb,1,none⟩ (.slice (some ⟨g6,0,none⟩) (i + 1) cap6)).heap.size:=by have:=hg.size;have:=hc5.size;omega
    clear HB8 BZ SLZ0 SLZ TE SN hg hat hgl RZ7 eb6 hlt6 hbw6 BX LN GN hy hc5 hc0 hc1 hk1 BW O BB BBU SLQ hbU hbw hT2 GE k1 f1
    go_wp2
    go_roundw
    case rel=>first | exact ⟨i + 1,_,_,_,_,by omega,by go_num,B9,HX2,BB2,hbn,hs9⟩ | ((repeat apply Exists.intro);refine ⟨?_,rfl⟩;exact ⟨i + 1,_,_,_,_,by omega,by go_num,B9,HX2,BB2,hbn,hs9⟩)
    case measure=>simp [intOf];omega
   ·have hiaI:¬ (i:Int) < (s.an:Int):=by omega
    have hiaL:s.an≤i:=by omega
    have HKK:Hid (s.k i = 0):=by show s.k i = 0;unfold StD.k;rw [if_neg hia]
    go_wp2_with fail
    clear c0 c1 c2
    have BW:=BW2
    have GE:=GE2
    have hbU:=hbU2
    have hT2:=hT22
    have BBU:=BBU2
    generalize wr.alloc (.cells #[.bool ep,.slice ea en ec,.slice ed em ee] 29) = W2 at *
    have LQN:LQ W2 none 0 (s.E i) (fun _=>S):=.inl rfl
    have HB8:∀ w',Below W2.heap.size W2 w'→(w'.cell? ⟨bb,1,none⟩ = some (.slice ua i uc)∧w'.cell? ⟨bb,0,none⟩ = some (.int .i64 (s.cn:Nat))∧w'.cell? ⟨wr.heap.size,0,none⟩ = some (.bool ep)∧w'.cell? ⟨wr.heap.size,1,none⟩ = some (.slice ea en ec)∧w'.cell? ⟨wr.heap.size,2,none⟩ = some (.slice ed em ee)):=fun w' h=>⟨kept_c h xb1,kept_c h xb0,kept_c h (BX0 0 _ rfl),kept_c h (BX0 1 _ rfl),kept_c h (BX0 2 _ rfl)⟩
    have hsx:=hsW
    clear BW2 GE2 hbU2 hT22 BBU2 xA hz
    refine wp_region_noPanic (wp_region_guardT 18 HB8 (by as_aux_lemma=>kernel_rfl) ?_)
    have hc0:Below W2.heap.size W2 W2.drew:=bel_d1 _
    generalize W2.drew = z0 at *
    refine wpAnyG.tT 0 (v:=.pointer (some ⟨bb,0,none⟩)) (by decide) 18 (by as_aux_lemma=>kernel_rfl) (by rfl) ?y0 (HB8 _ hc0) ?_
    case y0 =>
     rintro w' ⟨q0,q1,q2,q3,q4⟩
     simp only [lgA,lgZ]
     go_simp
    simp only [lgA,lgZ,Act.put,lsA,lsZ,lsS]
    refine wpAnyG.tT 1 (v:=.pointer (some ⟨bb,0,none⟩)) (by decide) 18 (by as_aux_lemma=>kernel_rfl) (by rfl) ?y1 (HB8 _ hc0) ?_
    case y1 =>
     rintro w' ⟨q0,q1,q2,q3,q4⟩
     simp only [lgA,lgZ,lgS]
     go_simp
    simp only [lgA,lgZ,lgS,Act.put,lsA,lsZ,lsS]
    refine wpAnyG.tT 2 (v:=.pointer (some ⟨bb,0,none⟩)) (by decide) 18 (by as_aux_lemma=>kernel_rfl) (by rfl) ?y2 (HB8 _ hc0) ?_
    case y2 =>
     rintro w' ⟨q0,q1,q2,q3,q4⟩
     simp only [lgA,lgZ,lgS]
     go_simp
    simp only [lgA,lgZ,lgS,Act.put,lsA,lsZ,lsS]
    refine wpAnyG.tT 3 (v:=.pointer (some ⟨bb,1,none⟩)) (by decide) 18 (by as_aux_lemma=>kernel_rfl) (by rfl) ?y3 (HB8 _ hc0) ?_
    case y3 =>
     rintro w' ⟨q0,q1,q2,q3,q4⟩
     simp only [lgA,lgZ,lgS]
     go_simp
    simp only [lgA,lgZ,lgS,Act.put,lsA,lsZ,lsS]
    refine wpAnyG.tT 4 (v:=.slice ua i uc) (by decide) 18 (by as_aux_lemma=>kernel_rfl) (by rfl) ?y4 (HB8 _ hc0) ?_
    case y4 =>
     rintro w' ⟨q0,q1,q2,q3,q4⟩
     simp only [lgA,lgZ,lgS]
     go_simp
    simp only [lgA,lgZ,lgS,Act.put,lsA,lsZ,lsS]
    refine wpAnyG.tT 5 (v:=.slice none 0 0) (by decide) 18 (by as_aux_lemma=>kernel_rfl) (by rfl) ?y5 (HB8 _ hc0) ?_
    case y5 =>
     rintro w' ⟨q0,q1,q2,q3,q4⟩
     simp only [lgA,lgZ,lgS]
     go_simp
    simp only [lgA,lgZ,lgS,Act.put,lsA,lsZ,lsS]
    refine wpAnyG.tT 6 (v:=.agg #[.bool ep,.slice ea en ec,.slice ed em ee]) (by decide) 18 (by as_aux_lemma=>kernel_rfl) (by rfl) ?y6 (HB8 _ hc0) ?_
    case y6 =>
     rintro w' ⟨q0,q1,q2,q3,q4⟩
     simp only [lgA,lgZ,lgS]
     go_simp
    simp only [lgA,lgZ,lgS,Act.put,lsA,lsZ,lsS]
    refine wpAnyG.tT 7 (v:=.pointer (some ⟨bb,0,none⟩)) (by decide) 18 (by as_aux_lemma=>kernel_rfl) (by rfl) ?y7 (HB8 _ hc0) ?_
    case y7 =>
     rintro w' ⟨q0,q1,q2,q3,q4⟩
     simp only [lgA,lgZ,lgS]
     go_simp
    simp only [lgA,lgZ,lgS,Act.put,lsA,lsZ,lsS]
    refine wpAnyG.tT 8 (v:=.pointer (some ⟨bb,0,none⟩)) (by decide) 18 (by as_aux_lemma=>kernel_rfl) (by rfl) ?y8 (HB8 _ hc0) ?_
    case y8 =>
     rintro w' ⟨q0,q1,q2,q3,q4⟩
     simp only [lgA,lgZ,lgS]
     go_simp
    simp only [lgA,lgZ,lgS,Act.put,lsA,lsZ,lsS]
    refine wpAnyG.tT 9 (v:=.pointer (some ⟨bb,0,none⟩)) (by decide) 18 (by as_aux_lemma=>kernel_rfl) (by rfl) ?y9 (HB8 _ hc0) ?_
    case y9 =>
     rintro w' ⟨q0,q1,q2,q3,q4⟩
     simp only [lgA,lgZ,lgS]
     go_simp
    simp only [lgA,lgZ,lgS,Act.put,lsA,lsZ,lsS]
    refine wpAnyG.tT 10 (v:=.int .i64 (s.cn:Nat)) (by decide) 18 (by as_aux_lemma=>kernel_rfl) (by rfl) ?y10 (HB8 _ hc0) ?_
    case y10 =>
     rintro w' ⟨q0,q1,q2,q3,q4⟩
     simp only [lgA,lgZ,lgS]
     go_simp
    simp only [lgA,lgZ,lgS,Act.put,lsA,lsZ,lsS]
    refine wpAnyG.tT 11 (v:=.int .i64 (i:Int)) (by decide) 18 (by as_aux_lemma=>kernel_rfl) (by rfl) ?y11 (HB8 _ hc0) ?_
    case y11 =>
     rintro w' ⟨q0,q1,q2,q3,q4⟩
     simp only [lgA,lgZ,lgS]
     go_simp
    simp only [lgA,lgZ,lgS,Act.put,lsA,lsZ,lsS]
    refine wpAnyG.tT 12 (v:=.int .i64 (art:Nat)) (by decide) 18 (by as_aux_lemma=>kernel_rfl) (by rfl) ?y12 (HB8 _ hc0) ?_
    case y12 =>
     rintro w' ⟨q0,q1,q2,q3,q4⟩
     simp only [lgA,lgZ,lgS]
     go_simp
    simp only [lgA,lgZ,lgS,Act.put,lsA,lsZ,lsS]
    refine wpAnyG.one 13 (by as_aux_lemma=>kernel_rfl) (by decide) (by rfl) (fun K hK=>?_)
    simp only [lgA,lgZ,lgS]
    go_simp
    refine (firstB (S:=S) art (s.t i) z0 (LQN.below hc0) (GE.below hc0) rfl hS (by omega) (hT2.below hc0)).mono ?_
    rintro e z1 ⟨v,p,a,na,ca,d,nd,cd,rfl,LN,GN,hk1⟩
    have hc1:Below W2.heap.size W2 z1:=bel_tr hc0 hk1
    obtain ⟨va,vn,vc,rfl⟩:∃ va vn vc,v = Value.slice va vn vc:=by obtain ⟨q1,q2,e,_⟩:=LN.form;exact ⟨_,_,_,e⟩
    dsimp only
    refine hK _ _ ⟨fun _=>HB8 _ hc1,fun _=>trivial⟩ ?_
    clear hK K
    refine wpAnyG.one 14 (by as_aux_lemma=>kernel_rfl) (by decide) (by rfl) (fun K hK=>?_)
    simp only [lgA,lgZ,lgS]
    go_simp
    have hy:=bel_d0 z1 (.cells #[.slice va vn vc,.bool p,.slice a na ca,.slice d nd cd,.int .i64 (art:Nat),.bool (s.t i)] 67)
    have BX:=box_new z1 #[.slice va vn vc,.bool p,.slice a na ca,.slice d nd cd,.int .i64 (art:Nat),.bool (s.t i)] 67
    have hs4:(z1.alloc (.cells #[.slice va vn vc,.bool p,.slice a na ca,.slice d nd cd,.int .i64 (art:Nat),.bool (s.t i)] 67)).heap.size = z1.heap.size + 1:=by simp
    generalize z1.alloc (.cells #[.slice va vn vc,.bool p,.slice a na ca,.slice d nd cd,.int .i64 (art:Nat),.bool (s.t i)] 67) = z5 at *
    have hc5:=bel_tr hc1 hy
    refine hK _ _ ⟨fun _=>HB8 _ hc5,fun _=>trivial⟩ ?_
    clear hK K
    refine wpAnyG.one 15 (by as_aux_lemma=>kernel_rfl) (by decide) (by rfl) (fun K hK=>?_)
    simp only [lgA,lgZ,lgS]
    have BZ:=BW.below hc5
    obtain ⟨E,SLZ0,TE⟩:=id BZ.r
    have hsy:=hc5.size
    have SLZ:SL z5 (w.heap.size + 1) 67 6 (.slice ua i uc) i E:=SLZ0
    refine wp_appendS z5 _ _ 68 67 6 96 rfl Tryz.underlying68 infRow6 (by decide) (by decide) (w.heap.size + 1) (.slice ua i uc) i E rfl SLZ z1.heap.size 1 rfl [.slice va vn vc,.bool p,.slice a na ca,.slice d nd cd,.int .i64 (art:Nat),.bool (s.t i)] rfl (fun u hu=>by simp only [List.mem_cons,List.not_mem_nil,or_false] at hu;rcases hu with rfl | rfl | rfl | rfl | rfl | rfl <;> rfl) BX (by omega) (by omega) _ rfl ?_
    intro g6 cap6 w6 SN hg hat hgl
    have RZ7:Rw 70 w6 bb #[.int .i64 (s.cn:Nat),.slice ua i uc,cv]:=BZ.rw.kept hg (SLZ.neR BZ.rw (by decide))
    have hlt6:wr.heap.size < z5.heap.size:=by omega
    have hbw6:(Value.slice ua i uc).ownBlock ≠ some wr.heap.size:=fun e=>by have:=(SLQ.lt _ e).2;omega
    have eb6:=hg.block wr.heap.size hlt6 (fun e=>hbw6 e.symm)
    refine hK _ _ ⟨fun _=>⟨(RZ7.cell 1).trans rfl,(RZ7.cell 0).trans rfl,(World.cell?_of_block (w:=z5) eb6).trans (HB8 _ hc5).2.2.1,(World.cell?_of_block (w:=z5) eb6).trans (HB8 _ hc5).2.2.2.1,(World.cell?_of_block (w:=z5) eb6).trans (HB8 _ hc5).2.2.2.2⟩,fun _=>trivial⟩ ?_
    clear hK K
    refine wpAnyG.one 16 (by as_aux_lemma=>kernel_rfl) (by decide) (by rfl) (fun K hK=>?_)
    simp only [lgA,lgZ,lgS]
    go_simp
    refine hK _ _ ⟨fun _=>⟨(RZ7.cell 1).trans rfl,(RZ7.cell 0).trans rfl,(World.cell?_of_block (w:=z5) eb6).trans (HB8 _ hc5).2.2.1,(World.cell?_of_block (w:=z5) eb6).trans (HB8 _ hc5).2.2.2.1,(World.cell?_of_block (w:=z5) eb6).trans (HB8 _ hc5).2.2.2.2⟩,fun _=>trivial⟩ ?_
    clear hK K
    refine wpAnyG.one 17 (by as_aux_lemma=>kernel_rfl) (by decide) (by rfl) (fun K hK=>?_)
    simp only [lgA,lgZ,lgS]
    go_simp
    refine hK _ _ ⟨fun _=>⟨(RZ7.cell 1).trans rfl,(RZ7.cell 0).trans rfl,(World.cell?_of_block (w:=z5) eb6).trans (HB8 _ hc5).2.2.1,(World.cell?_of_block (w:=z5) eb6).trans (HB8 _ hc5).2.2.2.1,(World.cell?_of_block (w:=z5) eb6).trans (HB8 _ hc5).2.2.2.2⟩,fun _=>trivial⟩ ?_
    clear hK K
    refine wpAnyG.one 18 (by as_aux_lemma=>kernel_rfl) (by decide) (by rfl) (fun K hK=>?_)
    simp only [lgA,lgZ,lgS]
    have k1:=(RZ7.cell 1).trans (show _ = some (.slice ua i uc) from rfl)
    have f1:=RZ7.frozen 1
    go_simp
    refine hK _ _ ⟨fun h=>absurd h (by decide),fun _=>trivial⟩ ?_
    clear hK K
    refine wpAnyG.done (by as_aux_lemma=>kernel_rfl) (NoPanic.normal ?_)
    try rw [← HBA.out]
    clear eba
    obtain ⟨B9,O⟩:=BZ.addRow (g:=g6) (cap:=cap6) (cs:=[.slice va vn vc,.bool p,.slice a na ca,.slice d nd cd,.int .i64 (art:Nat),.bool (s.t i)]) (v:=.slice va vn vc) (x:=s.row i) SLZ0 TE SN hg ⟨p,a,na,ca,d,nd,cd,by rw [HART.out];rfl,GN.below hy⟩ (by
     have h:=(LN.below hy).mono (B':=w.heap.size + 1) (by have:=hc0.size;omega)
     rw [HART.out] at h
     show LnE _ _ _ (fln (s.t i) (s.E i) (s.k i) (s.cn + i)) S
     rw [HKK.out]
     exact h) (s.rowK i) (fun k e hk=>by have:=(LN.lt k e).1;have:=(BW.lt k hk).2;have:=hc0.size;omega)
    have hbn:Below w.heap.size w (w6.setCell ⟨bb,1,none⟩ (.slice (some ⟨g6,0,none⟩) (i + 1) cap6)):=((bel_tr hbU hc5).grown hg (bel_tr hbU hc5).size (fun k hk=>by have:=(SLZ.lt k hk).1;omega)).trans (O.below (show w.heap.size≤bb by omega))
    have HX2:Hid (∀ q,q < i + 1→(fun q=>if q < i then X q else s.row i) q = s.row q):=fun q hq=>by
     show (if q < i then X q else s.row i) = s.row q
     by_cases e:q < i
     ·rw [if_pos e];exact HXX.out q e
     ·rw [if_neg e,show q = i by omega]
    have BB2:BoxC (w6.setCell ⟨bb,1,none⟩ (.slice (some ⟨g6,0,none⟩) (i + 1) cap6)) w.heap.size [.slice s.aa s.an s.ac,.slice s.ba s.bn s.bc,.slice s.ca s.cn s.cc,.bool s.zp,.slice s.za s.zn s.zc,.slice s.zd s.zm s.ze]:=fun j u hu=>by
     have e1:(w6.setCell ⟨bb,1,none⟩ (.slice (some ⟨g6,0,none⟩) (i + 1) cap6)).heap[w.heap.size]? = w6.heap[w.heap.size]?:=O.block _ (by show w.heap.size ≠ bb;omega)
     have e2:=hg.block w.heap.size (by have:=hc5.size;omega) (fun e=>hbs e.symm)
     exact (World.cell?_of_block (w:=z5) (e1.trans e2)).trans (kept_c hc5 (BBU j u hu))
    have e9:(w6.setCell ⟨bb,1,none⟩ (.slice (some ⟨g6,0,none⟩) (i + 1) cap6)).heap.size = w6.heap.size:=O.size
    have hs9:w.heap.size + 2≤(w6.setCell ⟨bb,1,none⟩ (.slice (some ⟨g6,0,none⟩) (i + 1) cap6)).heap.size:=by have:=hg.size;have:=hc5.size;omega
    clear HB8 BZ SLZ0 SLZ TE SN hg hat hgl RZ7 eb6 hlt6 hbw6 BX LN GN hy hc5 hc0 hc1 hk1 BW O BB BBU SLQ hbU hbw hT2 GE k1 f1
    go_wp2
    go_roundw
    case rel=>first | exact ⟨i + 1,_,_,_,_,by omega,by go_num,B9,HX2,BB2,hbn,hs9⟩ | ((repeat apply Exists.intro);refine ⟨?_,rfl⟩;exact ⟨i + 1,_,_,_,_,by omega,by go_num,B9,HX2,BB2,hbn,hs9⟩)
    case measure=>simp [intOf];omega
  ·have hiI:¬ (i:Int) < (s.bn:Int):=by omega
   have ei:i = s.bn:=by omega
   have HP:NewP w s S (.returned (.pointer (some ⟨bb,0,none⟩))) wr:=⟨(⟨bb,.slice ua i uc,i,V,cv⟩:Bf),X,rfl,ei,BQ.mono (Nat.le_succ _),fun q hq=>HXX.out q (by omega),hbw⟩
   clear ei BQ BB hbw
   go_wp2
   go_ret
   exact HP
end Go.Proofs.YtjiodidemimgmaaGreatDoor
