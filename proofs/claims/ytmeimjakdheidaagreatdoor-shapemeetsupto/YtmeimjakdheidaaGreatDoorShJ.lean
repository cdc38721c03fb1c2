import Derived.Test.YtmeimjakdheidaaGreatDoorShHAll
namespace Go.Proofs.YtmeimjakdheidaaGreatDoor
open Go.RowKit
theorem xA {P:Program} {c:Code} {Q:Exit→Act→World→Prop} {a:Act} {w:World} (J:Act→Act→World→Prop) (h1:c.wp P (fun e a' w'=>e = .normal∧J a a' w') a w) (h2:∀ a' w',J a a' w'→Q .normal a' w'):c.wp P Q a w :=
 Code.wp_mono (fun e a' w' h=>by obtain ⟨rfl,h⟩:=h;exact h2 a' w' h) h1
theorem boxd2 (w:World) (c0:Array Value) (t0:TypeId) (c1:Array Value) (t1:TypeId):let W:=(w.alloc (.cells c0 t0)).alloc (.cells c1 t1);BoxC W w.heap.size c0.toList∧BoxC W (w.heap.size+1) c1.toList∧Below w.heap.size w W∧W.heap.size=w.heap.size+2:=by
 have e1:(w.alloc (.cells c0 t0)).heap.size=w.heap.size+1:=by simp
 have P1:=aQ (w.alloc (.cells c0 t0)) c1 t1
 rw [e1] at P1
 exact ⟨(aQ w c0 t0).below (aI _ _),P1,fB (aI _ _),by simp⟩
theorem fH:(Tryz.prog.info? 27).map (·.size)=some 3:=by kernel_rfl
theorem wpAnyG.three {P:Program} {ops:Array Oper} {Q:Exit→Act→World→Prop} {md:Region.Mode} {T:Array Bool→World→Prop} (i j k:Nat) {f:Nat} {L:Array Bool} {a:Act} {w:World} (hr:Region.ready md ops L=[i,j,k]) (hi:i<ops.size) (hj:j<ops.size) (hk:k<ops.size) (wi:Region.wanted ops[i] (yielded ops a.tmps)=true) (wj:Region.wanted ops[j] (yielded ops a.tmps)=true) (wk:Region.wanted ops[k] (yielded ops a.tmps)=true)
 (h1:∀ K:Act→World→Prop,(∀ a' w',T (L.setIfInBounds i true) w'→wpAnyG P md ops Q T f (L.setIfInBounds i true) a' w'→K a' w')→ops[i].wp P a w K Q)
 (h2:∀ K:Act→World→Prop,(∀ a' w',T (L.setIfInBounds j true) w'→wpAnyG P md ops Q T f (L.setIfInBounds j true) a' w'→K a' w')→ops[j].wp P a w K Q)
 (h3:∀ K:Act→World→Prop,(∀ a' w',T (L.setIfInBounds k true) w'→wpAnyG P md ops Q T f (L.setIfInBounds k true) a' w'→K a' w')→ops[k].wp P a w K Q):wpAnyG P md ops Q T (f+1) L a w:=by
 refine ⟨fun h0=>(by rw [hr] at h0;cases h0),fun q hq=>?_⟩
 rw [hr] at hq
 rcases (by simpa using hq:q=i∨q=j∨q=k) with rfl|rfl|rfl
 ·unfold wpOp
  rw [Array.getElem?_eq_getElem hi]
  simp only [wi,if_true]
  exact .inl (h1 _ fun a' w' h1 h2=>⟨h1,h2⟩)
 ·unfold wpOp
  rw [Array.getElem?_eq_getElem hj]
  simp only [wj,if_true]
  exact .inl (h2 _ fun a' w' h1 h2=>⟨h1,h2⟩)
 ·unfold wpOp
  rw [Array.getElem?_eq_getElem hk]
  simp only [wk,if_true]
  exact .inl (h3 _ fun a' w' h1 h2=>⟨h1,h2⟩)
def AddP (V:Nat→PV) (r:PW) (st:Rat) (R F vn S c em:Nat) (sa:Option Addr) (sc:Nat) (a1' a2' a3' a4' a7':Value) (l:List Eqn) (w:World) (e:Ending) (w':World):Prop:=∃ i ea' em' ec' c',e = .returned (.int .i64 i)∧Rw 61 w' R #[.slice sa vn sc,a1',a2',a3',a4',.slice ea' em' ec',.int .i64 (c':Nat),a7']∧EM w' F (.slice ea' em' ec') (l++(dD V r st c).1) S∧c'=(dD V r st c).2∧i=(if r.hlo || r.hhi then (em:Int) else -1)∧Kx R F [61,74] w w'
set_option maxRecDepth 100000 in
set_option maxHeartbeats 32000000 in
theorem addRowQ (V:Nat→PV) (r:PW) {st:Rat} {R F F0 vn S S' Sl Ss c:Nat} {sa:Option Addr} {sc:Nat} {a1' a2' a3' a4' a7':Value} {ea:Option Addr} {em ec:Nat} {l:List Eqn} {ta:Option Addr} {tc:Nat} {p2:Bool} {a2:Option Addr} {n2 k2:Nat} {d2:Option Addr} {m2 l2:Nat} {p3:Bool} {a3:Option Addr} {n3 k3:Nat} {d3:Option Addr} {m3 l3:Nat} {ps:Bool} {aas:Option Addr} {ns cs':Nat} {ds:Option Addr} {ms ls:Nat} (w:World)
 (hr:Rw 61 w R #[.slice sa vn sc,a1',a2',a3',a4',.slice ea em ec,.int .i64 (c:Nat),a7']) (hs:StQ w R F0 V vn S' (.slice sa vn sc)) (hE:EM w F (.slice ea em ec) l S) (hF:F≤w.heap.size) (hL:LTG w ta r.nt r.t S) (hv:∀ q,q<r.nt→0≤(r.t q).var∧(r.t q).var<(vn:Int)) (GLo:GR w 0 p2 a2 n2 k2 d2 m2 l2 r.lo Sl) (GHi:GR w 0 p3 a3 n3 k3 d3 m3 l3 r.hi Sl) (GSt:GR w 0 ps aas ns cs' ds ms ls st Ss)
 (hSs:Sl+Ss≤6000000) (hSl:1≤Sl) (hSs1:1≤Ss) (hzl:SzR (r.lo-st) S) (hzh:SzR (r.hi-st) S) (hzw:SzR ((r.hi-st)-(r.lo-st)) S) (hS7:S+S≤6000000) (hS1:1≤S) (hnt:r.nt≤1048576) (hl:em≤10000000) (hc:c≤100000000) (hT:TB w) (hTR:2<F) (hTR2:2≠R) :
 Calls Tryz.prog 20 #[.pointer (some ⟨R,0,none⟩),.agg #[.string r.nm,.slice ta r.nt tc,.bool r.hlo,.bool p2,.slice a2 n2 k2,.slice d2 m2 l2,.bool r.hhi,.bool p3,.slice a3 n3 k3,.slice d3 m3 l3],.agg #[.bool ps,.slice aas ns cs',.slice ds ms ls]] w fun e w'=>AddP V r st R F vn S c em sa sc a1' a2' a3' a4' a7' l w e w':=by
 have HZL:Hid (SzR (r.lo-st) S):=hzl
 have HZH:Hid (SzR (r.hi-st) S):=hzh
 have HZW:Hid (SzR ((r.hi-st)-(r.lo-st)) S):=hzw
 have HV:Hid (∀ q,q<r.nt→0≤(r.t q).var∧(r.t q).var<(vn:Int)):=hv
 clear hzl hzh hzw hv
 obtain ⟨hlv0,ehl⟩:∃ b,b=r.hlo:=⟨_,rfl⟩
 obtain ⟨hhv0,ehh⟩:∃ b,b=r.hhi:=⟨_,rfl⟩
 rw [← ehl,← ehh]
 have HE:Hid (r.hlo=hlv0∧r.hhi=hhv0):=⟨ehl.symm,ehh.symm⟩
 clear ehl ehh
 obtain ⟨Rb,Sb,hbU0,hsU0⟩:=boxd2 w #[.string r.nm,.slice ta r.nt tc,.bool hlv0,.bool p2,.slice a2 n2 k2,.slice d2 m2 l2,.bool hhv0,.bool p3,.slice a3 n3 k3,.slice d3 m3 l3] 55 #[.bool ps,.slice aas ns cs',.slice ds ms ls] 27
 have RU:=hr.below hbU0
 have y5:=(RU.cell 5).trans (show _=some (.slice ea em ec) from rfl)
 have x1:=Rb 1 _ rfl
 go_enter Tryz.func20,Tryz.ntmps20
 go_wp2_with fail
 clear y5 x1
 generalize (w.alloc (.cells #[.string r.nm,.slice ta r.nt tc,.bool hlv0,.bool p2,.slice a2 n2 k2,.slice d2 m2 l2,.bool hhv0,.bool p3,.slice a3 n3 k3,.slice d3 m3 l3] 55)).alloc (.cells #[.bool ps,.slice aas ns cs',.slice ds ms ls] 27)=W0 at *
 refine (inColQ W0 RU (hs.below hbU0) (hL.below hbU0) HV.out hnt (by omega) hS1 (hT.below hbU0)).mono ?_
 rintro e U ⟨wa,wm,wc,rfl,TMU,hk1⟩
 have HWM:Hid (wm=(rowT V r.t r.nt).length):=TMU.len
 have hwm:wm≤2*r.nt:=by rw [HWM.out];exact tN V r.t r.nt
 have hbU:=aF hbU0 hk1
 replace Rb:=Rb.below hk1
 replace Sb:=Sb.below hk1
 replace RU:=RU.below hk1
 replace TMU:=TMU.mono (B':=w.heap.size) (by omega)
 have hsU:=hbU.size
 have hRl:=hr.lt
 clear hk1 hbU0
 go_wp2_with fail
 have HBX:∀ w',Below U.heap.size U w'→(w'.cell? ⟨w.heap.size,3,none⟩=some (.bool p2)∧w'.cell? ⟨w.heap.size,4,none⟩=some (.slice a2 n2 k2)∧w'.cell? ⟨w.heap.size,5,none⟩=some (.slice d2 m2 l2)∧w'.cell? ⟨w.heap.size,7,none⟩=some (.bool p3)∧w'.cell? ⟨w.heap.size,8,none⟩=some (.slice a3 n3 k3)∧w'.cell? ⟨w.heap.size,9,none⟩=some (.slice d3 m3 l3)∧w'.cell? ⟨w.heap.size+1,0,none⟩=some (.bool ps)∧w'.cell? ⟨w.heap.size+1,1,none⟩=some (.slice aas ns cs')∧w'.cell? ⟨w.heap.size+1,2,none⟩=some (.slice ds ms ls)):=fun w' h=>⟨(Rb.below h) 3 _ rfl,(Rb.below h) 4 _ rfl,(Rb.below h) 5 _ rfl,(Rb.below h) 7 _ rfl,(Rb.below h) 8 _ rfl,(Rb.below h) 9 _ rfl,(Sb.below h) 0 _ rfl,(Sb.below h) 1 _ rfl,(Sb.below h) 2 _ rfl⟩
 refine xA (fun a0 a' w'=>∃ (u1 u2 u3 u4 u5 u6 u7 u8 u9 u10:Value) (b9 b10:Nat) (f4:Bool) (c4:Option Addr) (n4 k4:Nat) (d4:Option Addr) (m4 l4:Nat) (f9:Bool) (c9:Option Addr) (n9 k9:Nat) (d9:Option Addr) (m9 l9:Nat),a'=((((((((((((a0.put (some 21) u1).put (some 22) u2).put (some 23) u3).put (some 24) u4).put (some 25) u5).put (some 26) u6).put (some 27) u7).put (some 28) u8).put (some 29) u9).put (some 30) u10).put (some 9) (.pointer (some ⟨b9,0,none⟩))).put (some 10) (.pointer (some ⟨b10,0,none⟩)))∧Rw 27 w' b9 #[.bool f4,.slice c4 n4 k4,.slice d4 m4 l4]∧Rw 27 w' b10 #[.bool f9,.slice c9 n9 k9,.slice d9 m9 l9]∧GR w' 0 f4 c4 n4 k4 d4 m4 l4 (r.lo-st) S∧GR w' 0 f9 c9 n9 k9 d9 m9 l9 (r.hi-st) S∧U.heap.size≤b9∧U.heap.size≤b10∧Below U.heap.size U w') ?_ ?_
 ·refine wp_region_noPanic (aS 13 HBX (by as_aux_lemma=>kernel_rfl) ?_)
  have hc0:Below U.heap.size U U.drew:=aK _
  generalize U.drew=z0 at *
  refine wpAnyG.tT 0 (v:=.pointer (some ⟨w.heap.size,2,none⟩)) (by decide) 13 (by as_aux_lemma=>kernel_rfl) (by rfl) ?y0 (HBX _ hc0) ?_
  case y0 =>
   rintro w' ⟨q0,q1,q2,q3,q4,q5,q6,q7,q8⟩
   simp only [lgA,lgZ]
   go_simp
  simp only [lgA,lgZ,Act.put,lsA,lsZ,lsS]
  refine wpAnyG.tT 1 (v:=.pointer (some ⟨w.heap.size,3,none⟩)) (by decide) 13 (by as_aux_lemma=>kernel_rfl) (by rfl) ?y1 (HBX _ hc0) ?_
  case y1 =>
   rintro w' ⟨q0,q1,q2,q3,q4,q5,q6,q7,q8⟩
   simp only [lgA,lgZ,lgS]
   go_simp
  simp only [lgA,lgZ,lgS,Act.put,lsA,lsZ,lsS]
  refine wpAnyG.tT 2 (v:=.agg #[.bool p2,.slice a2 n2 k2,.slice d2 m2 l2]) (by decide) 13 (by as_aux_lemma=>kernel_rfl) (by rfl) ?y2 (HBX _ hc0) ?_
  case y2 =>
   rintro w' ⟨q0,q1,q2,q3,q4,q5,q6,q7,q8⟩
   simp only [lgA,lgZ,lgS]
   go_simp
  simp only [lgA,lgZ,lgS,Act.put,lsA,lsZ,lsS]
  refine wpAnyG.tT 3 (v:=.agg #[.bool ps,.slice aas ns cs',.slice ds ms ls]) (by decide) 13 (by as_aux_lemma=>kernel_rfl) (by rfl) ?y3 (HBX _ hc0) ?_
  case y3 =>
   rintro w' ⟨q0,q1,q2,q3,q4,q5,q6,q7,q8⟩
   simp only [lgA,lgZ,lgS]
   go_simp
  simp only [lgA,lgZ,lgS,Act.put,lsA,lsZ,lsS]
  refine wpAnyG.tT 5 (v:=.pointer (some ⟨w.heap.size,6,none⟩)) (by decide) 13 (by as_aux_lemma=>kernel_rfl) (by rfl) ?y5 (HBX _ hc0) ?_
  case y5 =>
   rintro w' ⟨q0,q1,q2,q3,q4,q5,q6,q7,q8⟩
   simp only [lgA,lgZ,lgS]
   go_simp
  simp only [lgA,lgZ,lgS,Act.put,lsA,lsZ,lsS]
  refine wpAnyG.tT 6 (v:=.pointer (some ⟨w.heap.size,7,none⟩)) (by decide) 13 (by as_aux_lemma=>kernel_rfl) (by rfl) ?y6 (HBX _ hc0) ?_
  case y6 =>
   rintro w' ⟨q0,q1,q2,q3,q4,q5,q6,q7,q8⟩
   simp only [lgA,lgZ,lgS]
   go_simp
  simp only [lgA,lgZ,lgS,Act.put,lsA,lsZ,lsS]
  refine wpAnyG.tT 7 (v:=.agg #[.bool p3,.slice a3 n3 k3,.slice d3 m3 l3]) (by decide) 13 (by as_aux_lemma=>kernel_rfl) (by rfl) ?y7 (HBX _ hc0) ?_
  case y7 =>
   rintro w' ⟨q0,q1,q2,q3,q4,q5,q6,q7,q8⟩
   simp only [lgA,lgZ,lgS]
   go_simp
  simp only [lgA,lgZ,lgS,Act.put,lsA,lsZ,lsS]
  refine wpAnyG.tT 8 (v:=.agg #[.bool ps,.slice aas ns cs',.slice ds ms ls]) (by decide) 13 (by as_aux_lemma=>kernel_rfl) (by rfl) ?y8 (HBX _ hc0) ?_
  case y8 =>
   rintro w' ⟨q0,q1,q2,q3,q4,q5,q6,q7,q8⟩
   simp only [lgA,lgZ,lgS]
   go_simp
  simp only [lgA,lgZ,lgS,Act.put,lsA,lsZ,lsS]
  refine wpAnyG.three 4 10 11 (by as_aux_lemma=>kernel_rfl) (by decide) (by decide) (by decide) (by rfl) (by rfl) (by rfl) (fun K hK=>?_) (fun K hK=>?_) (fun K hK=>?_)
  ·simp only [lgA,lgZ,lgS]
   go_simp
   refine (jB z0 (GLo.below (aF hbU hc0)).tr (GSt.below (aF hbU hc0)).tr hSs (by omega) (by omega) (hT.below (aF hbU hc0))).mono ?_
   rintro e z1 ⟨f4,c4,n4,k4,d4,m4,l4,rfl,G41,hk⟩
   replace G41:=(G41.fit HZL.out).mono (B':=0) (Nat.zero_le _)
   have hc1:=aF hc0 hk
   dsimp only
   refine hK _ _ ⟨fun _=>HBX _ hc1,fun _=>trivial⟩ ?_
   clear hK K hk
   refine wpAnyG.three 9 10 11 (by as_aux_lemma=>kernel_rfl) (by decide) (by decide) (by decide) (by rfl) (by rfl) (by rfl) (fun K hK=>?_) (fun K hK=>?_) (fun K hK=>?_)
   ·simp only [lgA,lgZ,lgS]
    go_simp
    refine (jB z1 (GHi.below (aF hbU hc1)).tr (GSt.below (aF hbU hc1)).tr hSs (by omega) (by omega) (hT.below (aF hbU hc1))).mono ?_
    rintro e z2 ⟨f9,c9,n9,k9,d9,m9,l9,rfl,G92,hk⟩
    replace G92:=(G92.fit HZH.out).mono (B':=0) (Nat.zero_le _)
    have hc2:=aF hc1 hk
    have G42:=G41.below hk
    dsimp only
    refine hK _ _ ⟨fun _=>HBX _ hc2,fun _=>trivial⟩ ?_
    clear hK K hk
    refine wpAnyG.two 10 11 (by as_aux_lemma=>kernel_rfl) (by decide) (by decide) (by rfl) (by rfl) (fun K hK=>?_) (fun K hK=>?_)
    ·simp only [lgA,lgZ,lgS]
     go_simp
     have hx:=aI z2 (.cells #[.bool false,.slice none 0 0,.slice none 0 0] 27)
     have A93:=Rw.new 27 z2 #[.bool false,.slice none 0 0,.slice none 0 0]
     have hc3:=aF hc2 hx
     have h9b:U.heap.size≤z2.heap.size:=hc2.size
     have G43:=G42.below hx
     have G93:=G92.below hx
     refine hK _ _ ⟨fun _=>HBX _ hc3,fun _=>trivial⟩ ?_
     clear hK K hx
     generalize z2.alloc (.cells #[.bool false,.slice none 0 0,.slice none 0 0] 27)=z3 at *
     refine wpAnyG.one 11 (by as_aux_lemma=>kernel_rfl) (by decide) (by rfl) (fun K hK=>?_)
     simp only [lgA,lgZ,lgS]
     go_simp
     have hx:=aI z3 (.cells #[.bool false,.slice none 0 0,.slice none 0 0] 27)
     have A104:=Rw.new 27 z3 #[.bool false,.slice none 0 0,.slice none 0 0]
     have hc4:=aF hc3 hx
     have h10b:U.heap.size≤z3.heap.size:=hc3.size
     have hne:z2.heap.size≠z3.heap.size:=by
      have:=A93.lt
      omega
     have G44:=G43.below hx
     have G94:=G93.below hx
     have A94:=A93.below hx
     refine hK _ _ ⟨fun _=>HBX _ hc4,fun _=>trivial⟩ ?_
     clear hK K hx
     generalize z3.alloc (.cells #[.bool false,.slice none 0 0,.slice none 0 0] 27)=z4 at *
     refine wpAnyG.one 12 (by as_aux_lemma=>kernel_rfl) (by decide) (by rfl) (fun K hK=>?_)
     simp only [lgA,lgZ,lgS]
     refine wp_store_row 27 _ _ rfl (z2.heap.size) #[.bool f4,.slice c4 n4 k4,.slice d4 m4 l4] rfl rfl 27 _ A94 fH rfl (by simp [Value.oneCell']) ?_
     obtain ⟨A95,O⟩:=A94.row #[.bool f4,.slice c4 n4 k4,.slice d4 m4 l4]
     have hc5:=hc4.trans (O.below h9b)
     have A105:=A104.off O (by exact fun e=>hne e.symm)
     have G45:=G44.keep (row:=some (z2.heap.size)) (A94.noW (by decide)) O.grown
     have G95:=G94.keep (row:=some (z2.heap.size)) (A94.noW (by decide)) O.grown
     refine hK _ _ ⟨fun _=>HBX _ hc5,fun _=>trivial⟩ ?_
     clear hK K
     generalize z4.setRow (z2.heap.size) #[.bool f4,.slice c4 n4 k4,.slice d4 m4 l4]=z5 at *
     refine wpAnyG.one 13 (by as_aux_lemma=>kernel_rfl) (by decide) (by rfl) (fun K hK=>?_)
     simp only [lgA,lgZ,lgS]
     refine wp_store_row 27 _ _ rfl (z3.heap.size) #[.bool f9,.slice c9 n9 k9,.slice d9 m9 l9] rfl rfl 27 _ A105 fH rfl (by simp [Value.oneCell']) ?_
     obtain ⟨A106,O⟩:=A105.row #[.bool f9,.slice c9 n9 k9,.slice d9 m9 l9]
     have hc6:=hc5.trans (O.below h10b)
     have A96:=A95.off O (by exact hne)
     have G46:=G45.keep (row:=some (z3.heap.size)) (A105.noW (by decide)) O.grown
     have G96:=G95.keep (row:=some (z3.heap.size)) (A105.noW (by decide)) O.grown
     refine hK _ _ ⟨fun h=>absurd h (by decide),fun _=>trivial⟩ ?_
     clear hK K
     generalize z5.setRow (z3.heap.size) #[.bool f9,.slice c9 n9 k9,.slice d9 m9 l9]=z6 at *
     refine wpAnyG.done (by as_aux_lemma=>kernel_rfl) (NoPanic.normal ?_)
     exact ⟨rfl,_,_,_,_,_,_,_,_,_,_,z2.heap.size,z3.heap.size,f4,c4,n4,k4,d4,m4,l4,f9,c9,n9,k9,d9,m9,l9,rfl,A96,A106,G46,G96,h9b,h10b,hc6⟩
    ·simp only [lgA,lgZ,lgS]
     go_simp
     have hx:=aI z2 (.cells #[.bool false,.slice none 0 0,.slice none 0 0] 27)
     have A103:=Rw.new 27 z2 #[.bool false,.slice none 0 0,.slice none 0 0]
     have hc3:=aF hc2 hx
     have h10b:U.heap.size≤z2.heap.size:=hc2.size
     have G43:=G42.below hx
     have G93:=G92.below hx
     refine hK _ _ ⟨fun _=>HBX _ hc3,fun _=>trivial⟩ ?_
     clear hK K hx
     generalize z2.alloc (.cells #[.bool false,.slice none 0 0,.slice none 0 0] 27)=z3 at *
     refine wpAnyG.one 10 (by as_aux_lemma=>kernel_rfl) (by decide) (by rfl) (fun K hK=>?_)
     simp only [lgA,lgZ,lgS]
     go_simp
     have hx:=aI z3 (.cells #[.bool false,.slice none 0 0,.slice none 0 0] 27)
     have A94:=Rw.new 27 z3 #[.bool false,.slice none 0 0,.slice none 0 0]
     have hc4:=aF hc3 hx
     have h9b:U.heap.size≤z3.heap.size:=hc3.size
     have hne:z2.heap.size≠z3.heap.size:=by
      have:=A103.lt
      omega
     have G44:=G43.below hx
     have G94:=G93.below hx
     have A104:=A103.below hx
     refine hK _ _ ⟨fun _=>HBX _ hc4,fun _=>trivial⟩ ?_
     clear hK K hx
     generalize z3.alloc (.cells #[.bool false,.slice none 0 0,.slice none 0 0] 27)=z4 at *
     refine wpAnyG.one 12 (by as_aux_lemma=>kernel_rfl) (by decide) (by rfl) (fun K hK=>?_)
     simp only [lgA,lgZ,lgS]
     refine wp_store_row 27 _ _ rfl (z3.heap.size) #[.bool f4,.slice c4 n4 k4,.slice d4 m4 l4] rfl rfl 27 _ A94 fH rfl (by simp [Value.oneCell']) ?_
     obtain ⟨A95,O⟩:=A94.row #[.bool f4,.slice c4 n4 k4,.slice d4 m4 l4]
     have hc5:=hc4.trans (O.below h9b)
     have A105:=A104.off O (by exact hne)
     have G45:=G44.keep (row:=some (z3.heap.size)) (A94.noW (by decide)) O.grown
     have G95:=G94.keep (row:=some (z3.heap.size)) (A94.noW (by decide)) O.grown
     refine hK _ _ ⟨fun _=>HBX _ hc5,fun _=>trivial⟩ ?_
     clear hK K
     generalize z4.setRow (z3.heap.size) #[.bool f4,.slice c4 n4 k4,.slice d4 m4 l4]=z5 at *
     refine wpAnyG.one 13 (by as_aux_lemma=>kernel_rfl) (by decide) (by rfl) (fun K hK=>?_)
     simp only [lgA,lgZ,lgS]
     refine wp_store_row 27 _ _ rfl (z2.heap.size) #[.bool f9,.slice c9 n9 k9,.slice d9 m9 l9] rfl rfl 27 _ A105 fH rfl (by simp [Value.oneCell']) ?_
     obtain ⟨A106,O⟩:=A105.row #[.bool f9,.slice c9 n9 k9,.slice d9 m9 l9]
     have hc6:=hc5.trans (O.below h10b)
     have A96:=A95.off O (by exact fun e=>hne e.symm)
     have G46:=G45.keep (row:=some (z2.heap.size)) (A105.noW (by decide)) O.grown
     have G96:=G95.keep (row:=some (z2.heap.size)) (A105.noW (by decide)) O.grown
     refine hK _ _ ⟨fun h=>absurd h (by decide),fun _=>trivial⟩ ?_
     clear hK K
     generalize z5.setRow (z2.heap.size) #[.bool f9,.slice c9 n9 k9,.slice d9 m9 l9]=z6 at *
     refine wpAnyG.done (by as_aux_lemma=>kernel_rfl) (NoPanic.normal ?_)
     exact ⟨rfl,_,_,_,_,_,_,_,_,_,_,z3.heap.size,z2.heap.size,f4,c4,n4,k4,d4,m4,l4,f9,c9,n9,k9,d9,m9,l9,rfl,A96,A106,G46,G96,h9b,h10b,hc6⟩
   ·simp only [lgA,lgZ,lgS]
    go_simp
    have hx:=aI z1 (.cells #[.bool false,.slice none 0 0,.slice none 0 0] 27)
    have A92:=Rw.new 27 z1 #[.bool false,.slice none 0 0,.slice none 0 0]
    have hc2:=aF hc1 hx
    have h9b:U.heap.size≤z1.heap.size:=hc1.size
    have G42:=G41.below hx
    refine hK _ _ ⟨fun _=>HBX _ hc2,fun _=>trivial⟩ ?_
    clear hK K hx
    generalize z1.alloc (.cells #[.bool false,.slice none 0 0,.slice none 0 0] 27)=z2 at *
    refine wpAnyG.two 9 11 (by as_aux_lemma=>kernel_rfl) (by decide) (by decide) (by rfl) (by rfl) (fun K hK=>?_) (fun K hK=>?_)
    ·simp only [lgA,lgZ,lgS]
     go_simp
     refine (jB z2 (GHi.below (aF hbU hc2)).tr (GSt.below (aF hbU hc2)).tr hSs (by omega) (by omega) (hT.below (aF hbU hc2))).mono ?_
     rintro e z3 ⟨f9,c9,n9,k9,d9,m9,l9,rfl,G93,hk⟩
     replace G93:=(G93.fit HZH.out).mono (B':=0) (Nat.zero_le _)
     have hc3:=aF hc2 hk
     have G43:=G42.below hk
     have A93:=A92.below hk
     dsimp only
     refine hK _ _ ⟨fun _=>HBX _ hc3,fun _=>trivial⟩ ?_
     clear hK K hk
     refine wpAnyG.one 11 (by as_aux_lemma=>kernel_rfl) (by decide) (by rfl) (fun K hK=>?_)
     simp only [lgA,lgZ,lgS]
     go_simp
     have hx:=aI z3 (.cells #[.bool false,.slice none 0 0,.slice none 0 0] 27)
     have A104:=Rw.new 27 z3 #[.bool false,.slice none 0 0,.slice none 0 0]
     have hc4:=aF hc3 hx
     have h10b:U.heap.size≤z3.heap.size:=hc3.size
     have hne:z1.heap.size≠z3.heap.size:=by
      have:=A93.lt
      omega
     have G44:=G43.below hx
     have A94:=A93.below hx
     have G94:=G93.below hx
     refine hK _ _ ⟨fun _=>HBX _ hc4,fun _=>trivial⟩ ?_
     clear hK K hx
     generalize z3.alloc (.cells #[.bool false,.slice none 0 0,.slice none 0 0] 27)=z4 at *
     refine wpAnyG.one 12 (by as_aux_lemma=>kernel_rfl) (by decide) (by rfl) (fun K hK=>?_)
     simp only [lgA,lgZ,lgS]
     refine wp_store_row 27 _ _ rfl (z1.heap.size) #[.bool f4,.slice c4 n4 k4,.slice d4 m4 l4] rfl rfl 27 _ A94 fH rfl (by simp [Value.oneCell']) ?_
     obtain ⟨A95,O⟩:=A94.row #[.bool f4,.slice c4 n4 k4,.slice d4 m4 l4]
     have hc5:=hc4.trans (O.below h9b)
     have A105:=A104.off O (by exact fun e=>hne e.symm)
     have G45:=G44.keep (row:=some (z1.heap.size)) (A94.noW (by decide)) O.grown
     have G95:=G94.keep (row:=some (z1.heap.size)) (A94.noW (by decide)) O.grown
     refine hK _ _ ⟨fun _=>HBX _ hc5,fun _=>trivial⟩ ?_
     clear hK K
     generalize z4.setRow (z1.heap.size) #[.bool f4,.slice c4 n4 k4,.slice d4 m4 l4]=z5 at *
     refine wpAnyG.one 13 (by as_aux_lemma=>kernel_rfl) (by decide) (by rfl) (fun K hK=>?_)
     simp only [lgA,lgZ,lgS]
     refine wp_store_row 27 _ _ rfl (z3.heap.size) #[.bool f9,.slice c9 n9 k9,.slice d9 m9 l9] rfl rfl 27 _ A105 fH rfl (by simp [Value.oneCell']) ?_
     obtain ⟨A106,O⟩:=A105.row #[.bool f9,.slice c9 n9 k9,.slice d9 m9 l9]
     have hc6:=hc5.trans (O.below h10b)
     have A96:=A95.off O (by exact hne)
     have G46:=G45.keep (row:=some (z3.heap.size)) (A105.noW (by decide)) O.grown
     have G96:=G95.keep (row:=some (z3.heap.size)) (A105.noW (by decide)) O.grown
     refine hK _ _ ⟨fun h=>absurd h (by decide),fun _=>trivial⟩ ?_
     clear hK K
     generalize z5.setRow (z3.heap.size) #[.bool f9,.slice c9 n9 k9,.slice d9 m9 l9]=z6 at *
     refine wpAnyG.done (by as_aux_lemma=>kernel_rfl) (NoPanic.normal ?_)
     exact ⟨rfl,_,_,_,_,_,_,_,_,_,_,z1.heap.size,z3.heap.size,f4,c4,n4,k4,d4,m4,l4,f9,c9,n9,k9,d9,m9,l9,rfl,A96,A106,G46,G96,h9b,h10b,hc6⟩
    ·simp only [lgA,lgZ,lgS]
     go_simp
     have hx:=aI z2 (.cells #[.bool false,.slice none 0 0,.slice none 0 0] 27)
     have A103:=Rw.new 27 z2 #[.bool false,.slice none 0 0,.slice none 0 0]
     have hc3:=aF hc2 hx
     have h10b:U.heap.size≤z2.heap.size:=hc2.size
     have hne:z1.heap.size≠z2.heap.size:=by
      have:=A92.lt
      omega
     have G43:=G42.below hx
     have A93:=A92.below hx
     refine hK _ _ ⟨fun _=>HBX _ hc3,fun _=>trivial⟩ ?_
     clear hK K hx
     generalize z2.alloc (.cells #[.bool false,.slice none 0 0,.slice none 0 0] 27)=z3 at *
     refine wpAnyG.one 9 (by as_aux_lemma=>kernel_rfl) (by decide) (by rfl) (fun K hK=>?_)
     simp only [lgA,lgZ,lgS]
     go_simp
     refine (jB z3 (GHi.below (aF hbU hc3)).tr (GSt.below (aF hbU hc3)).tr hSs (by omega) (by omega) (hT.below (aF hbU hc3))).mono ?_
     rintro e z4 ⟨f9,c9,n9,k9,d9,m9,l9,rfl,G94,hk⟩
     replace G94:=(G94.fit HZH.out).mono (B':=0) (Nat.zero_le _)
     have hc4:=aF hc3 hk
     have G44:=G43.below hk
     have A94:=A93.below hk
     have A104:=A103.below hk
     dsimp only
     refine hK _ _ ⟨fun _=>HBX _ hc4,fun _=>trivial⟩ ?_
     clear hK K hk
     refine wpAnyG.one 12 (by as_aux_lemma=>kernel_rfl) (by decide) (by rfl) (fun K hK=>?_)
     simp only [lgA,lgZ,lgS]
     refine wp_store_row 27 _ _ rfl (z1.heap.size) #[.bool f4,.slice c4 n4 k4,.slice d4 m4 l4] rfl rfl 27 _ A94 fH rfl (by simp [Value.oneCell']) ?_
     obtain ⟨A95,O⟩:=A94.row #[.bool f4,.slice c4 n4 k4,.slice d4 m4 l4]
     have hc5:=hc4.trans (O.below h9b)
     have A105:=A104.off O (by exact fun e=>hne e.symm)
     have G45:=G44.keep (row:=some (z1.heap.size)) (A94.noW (by decide)) O.grown
     have G95:=G94.keep (row:=some (z1.heap.size)) (A94.noW (by decide)) O.grown
     refine hK _ _ ⟨fun _=>HBX _ hc5,fun _=>trivial⟩ ?_
     clear hK K
     generalize z4.setRow (z1.heap.size) #[.bool f4,.slice c4 n4 k4,.slice d4 m4 l4]=z5 at *
     refine wpAnyG.one 13 (by as_aux_lemma=>kernel_rfl) (by decide) (by rfl) (fun K hK=>?_)
     simp only [lgA,lgZ,lgS]
     refine wp_store_row 27 _ _ rfl (z2.heap.size) #[.bool f9,.slice c9 n9 k9,.slice d9 m9 l9] rfl rfl 27 _ A105 fH rfl (by simp [Value.oneCell']) ?_
     obtain ⟨A106,O⟩:=A105.row #[.bool f9,.slice c9 n9 k9,.slice d9 m9 l9]
     have hc6:=hc5.trans (O.below h10b)
     have A96:=A95.off O (by exact hne)
     have G46:=G45.keep (row:=some (z2.heap.size)) (A105.noW (by decide)) O.grown
     have G96:=G95.keep (row:=some (z2.heap.size)) (A105.noW (by decide)) O.grown
     refine hK _ _ ⟨fun h=>absurd h (by decide),fun _=>trivial⟩ ?_
     clear hK K
     generalize z5.setRow (z2.heap.size) #[.bool f9,.slice c9 n9 k9,.slice d9 m9 l9]=z6 at *
     refine wpAnyG.done (by as_aux_lemma=>kernel_rfl) (NoPanic.normal ?_)
     exact ⟨rfl,_,_,_,_,_,_,_,_,_,_,z1.heap.size,z2.heap.size,f4,c4,n4,k4,d4,m4,l4,f9,c9,n9,k9,d9,m9,l9,rfl,A96,A106,G46,G96,h9b,h10b,hc6⟩
   ·simp only [lgA,lgZ,lgS]
    go_simp
    have hx:=aI z1 (.cells #[.bool false,.slice none 0 0,.slice none 0 0] 27)
    have A102:=Rw.new 27 z1 #[.bool false,.slice none 0 0,.slice none 0 0]
    have hc2:=aF hc1 hx
    have h10b:U.heap.size≤z1.heap.size:=hc1.size
    have G42:=G41.below hx
    refine hK _ _ ⟨fun _=>HBX _ hc2,fun _=>trivial⟩ ?_
    clear hK K hx
    generalize z1.alloc (.cells #[.bool false,.slice none 0 0,.slice none 0 0] 27)=z2 at *
    refine wpAnyG.two 9 10 (by as_aux_lemma=>kernel_rfl) (by decide) (by decide) (by rfl) (by rfl) (fun K hK=>?_) (fun K hK=>?_)
    ·simp only [lgA,lgZ,lgS]
     go_simp
     refine (jB z2 (GHi.below (aF hbU hc2)).tr (GSt.below (aF hbU hc2)).tr hSs (by omega) (by omega) (hT.below (aF hbU hc2))).mono ?_
     rintro e z3 ⟨f9,c9,n9,k9,d9,m9,l9,rfl,G93,hk⟩
     replace G93:=(G93.fit HZH.out).mono (B':=0) (Nat.zero_le _)
     have hc3:=aF hc2 hk
     have G43:=G42.below hk
     have A103:=A102.below hk
     dsimp only
     refine hK _ _ ⟨fun _=>HBX _ hc3,fun _=>trivial⟩ ?_
     clear hK K hk
     refine wpAnyG.one 10 (by as_aux_lemma=>kernel_rfl) (by decide) (by rfl) (fun K hK=>?_)
     simp only [lgA,lgZ,lgS]
     go_simp
     have hx:=aI z3 (.cells #[.bool false,.slice none 0 0,.slice none 0 0] 27)
     have A94:=Rw.new 27 z3 #[.bool false,.slice none 0 0,.slice none 0 0]
     have hc4:=aF hc3 hx
     have h9b:U.heap.size≤z3.heap.size:=hc3.size
     have hne:z1.heap.size≠z3.heap.size:=by
      have:=A103.lt
      omega
     have G44:=G43.below hx
     have A104:=A103.below hx
     have G94:=G93.below hx
     refine hK _ _ ⟨fun _=>HBX _ hc4,fun _=>trivial⟩ ?_
     clear hK K hx
     generalize z3.alloc (.cells #[.bool false,.slice none 0 0,.slice none 0 0] 27)=z4 at *
     refine wpAnyG.one 12 (by as_aux_lemma=>kernel_rfl) (by decide) (by rfl) (fun K hK=>?_)
     simp only [lgA,lgZ,lgS]
     refine wp_store_row 27 _ _ rfl (z3.heap.size) #[.bool f4,.slice c4 n4 k4,.slice d4 m4 l4] rfl rfl 27 _ A94 fH rfl (by simp [Value.oneCell']) ?_
     obtain ⟨A95,O⟩:=A94.row #[.bool f4,.slice c4 n4 k4,.slice d4 m4 l4]
     have hc5:=hc4.trans (O.below h9b)
     have A105:=A104.off O (by exact hne)
     have G45:=G44.keep (row:=some (z3.heap.size)) (A94.noW (by decide)) O.grown
     have G95:=G94.keep (row:=some (z3.heap.size)) (A94.noW (by decide)) O.grown
     refine hK _ _ ⟨fun _=>HBX _ hc5,fun _=>trivial⟩ ?_
     clear hK K
     generalize z4.setRow (z3.heap.size) #[.bool f4,.slice c4 n4 k4,.slice d4 m4 l4]=z5 at *
     refine wpAnyG.one 13 (by as_aux_lemma=>kernel_rfl) (by decide) (by rfl) (fun K hK=>?_)
     simp only [lgA,lgZ,lgS]
     refine wp_store_row 27 _ _ rfl (z1.heap.size) #[.bool f9,.slice c9 n9 k9,.slice d9 m9 l9] rfl rfl 27 _ A105 fH rfl (by simp [Value.oneCell']) ?_
     obtain ⟨A106,O⟩:=A105.row #[.bool f9,.slice c9 n9 k9,.slice d9 m9 l9]
     have hc6:=hc5.trans (O.below h10b)
     have A96:=A95.off O (by exact fun e=>hne e.symm)
     have G46:=G45.keep (row:=some (z1.heap.size)) (A105.noW (by decide)) O.grown
     have G96:=G95.keep (row:=some (z1.heap.size)) (A105.noW (by decide)) O.grown
     refine hK _ _ ⟨fun h=>absurd h (by decide),fun _=>trivial⟩ ?_
     clear hK K
     generalize z5.setRow (z1.heap.size) #[.bool f9,.slice c9 n9 k9,.slice d9 m9 l9]=z6 at *
     refine wpAnyG.done (by as_aux_lemma=>kernel_rfl) (NoPanic.normal ?_)
     exact ⟨rfl,_,_,_,_,_,_,_,_,_,_,z3.heap.size,z1.heap.size,f4,c4,n4,k4,d4,m4,l4,f9,c9,n9,k9,d9,m9,l9,rfl,A96,A106,G46,G96,h9b,h10b,hc6⟩
    ·simp only [lgA,lgZ,lgS]
     go_simp
     have hx:=aI z2 (.cells #[.bool false,.slice none 0 0,.slice none 0 0] 27)
     have A93:=Rw.new 27 z2 #[.bool false,.slice none 0 0,.slice none 0 0]
     have hc3:=aF hc2 hx
     have h9b:U.heap.size≤z2.heap.size:=hc2.size
     have hne:z1.heap.size≠z2.heap.size:=by
      have:=A102.lt
      omega
     have G43:=G42.below hx
     have A103:=A102.below hx
     refine hK _ _ ⟨fun _=>HBX _ hc3,fun _=>trivial⟩ ?_
     clear hK K hx
     generalize z2.alloc (.cells #[.bool false,.slice none 0 0,.slice none 0 0] 27)=z3 at *
     refine wpAnyG.one 9 (by as_aux_lemma=>kernel_rfl) (by decide) (by rfl) (fun K hK=>?_)
     simp only [lgA,lgZ,lgS]
     go_simp
     refine (jB z3 (GHi.below (aF hbU hc3)).tr (GSt.below (aF hbU hc3)).tr hSs (by omega) (by omega) (hT.below (aF hbU hc3))).mono ?_
     rintro e z4 ⟨f9,c9,n9,k9,d9,m9,l9,rfl,G94,hk⟩
     replace G94:=(G94.fit HZH.out).mono (B':=0) (Nat.zero_le _)
     have hc4:=aF hc3 hk
     have G44:=G43.below hk
     have A104:=A103.below hk
     have A94:=A93.below hk
     dsimp only
     refine hK _ _ ⟨fun _=>HBX _ hc4,fun _=>trivial⟩ ?_
     clear hK K hk
     refine wpAnyG.one 12 (by as_aux_lemma=>kernel_rfl) (by decide) (by rfl) (fun K hK=>?_)
     simp only [lgA,lgZ,lgS]
     refine wp_store_row 27 _ _ rfl (z2.heap.size) #[.bool f4,.slice c4 n4 k4,.slice d4 m4 l4] rfl rfl 27 _ A94 fH rfl (by simp [Value.oneCell']) ?_
     obtain ⟨A95,O⟩:=A94.row #[.bool f4,.slice c4 n4 k4,.slice d4 m4 l4]
     have hc5:=hc4.trans (O.below h9b)
     have A105:=A104.off O (by exact hne)
     have G45:=G44.keep (row:=some (z2.heap.size)) (A94.noW (by decide)) O.grown
     have G95:=G94.keep (row:=some (z2.heap.size)) (A94.noW (by decide)) O.grown
     refine hK _ _ ⟨fun _=>HBX _ hc5,fun _=>trivial⟩ ?_
     clear hK K
     generalize z4.setRow (z2.heap.size) #[.bool f4,.slice c4 n4 k4,.slice d4 m4 l4]=z5 at *
     refine wpAnyG.one 13 (by as_aux_lemma=>kernel_rfl) (by decide) (by rfl) (fun K hK=>?_)
     simp only [lgA,lgZ,lgS]
     refine wp_store_row 27 _ _ rfl (z1.heap.size) #[.bool f9,.slice c9 n9 k9,.slice d9 m9 l9] rfl rfl 27 _ A105 fH rfl (by simp [Value.oneCell']) ?_
     obtain ⟨A106,O⟩:=A105.row #[.bool f9,.slice c9 n9 k9,.slice d9 m9 l9]
     have hc6:=hc5.trans (O.below h10b)
     have A96:=A95.off O (by exact fun e=>hne e.symm)
     have G46:=G45.keep (row:=some (z1.heap.size)) (A105.noW (by decide)) O.grown
     have G96:=G95.keep (row:=some (z1.heap.size)) (A105.noW (by decide)) O.grown
     refine hK _ _ ⟨fun h=>absurd h (by decide),fun _=>trivial⟩ ?_
     clear hK K
     generalize z5.setRow (z1.heap.size) #[.bool f9,.slice c9 n9 k9,.slice d9 m9 l9]=z6 at *
     refine wpAnyG.done (by as_aux_lemma=>kernel_rfl) (NoPanic.normal ?_)
     exact ⟨rfl,_,_,_,_,_,_,_,_,_,_,z2.heap.size,z1.heap.size,f4,c4,n4,k4,d4,m4,l4,f9,c9,n9,k9,d9,m9,l9,rfl,A96,A106,G46,G96,h9b,h10b,hc6⟩
  ·simp only [lgA,lgZ,lgS]
   go_simp
   have hx:=aI z0 (.cells #[.bool false,.slice none 0 0,.slice none 0 0] 27)
   have A91:=Rw.new 27 z0 #[.bool false,.slice none 0 0,.slice none 0 0]
   have hc1:=aF hc0 hx
   have h9b:U.heap.size≤z0.heap.size:=hc0.size
   refine hK _ _ ⟨fun _=>HBX _ hc1,fun _=>trivial⟩ ?_
   clear hK K hx
   generalize z0.alloc (.cells #[.bool false,.slice none 0 0,.slice none 0 0] 27)=z1 at *
   refine wpAnyG.two 4 11 (by as_aux_lemma=>kernel_rfl) (by decide) (by decide) (by rfl) (by rfl) (fun K hK=>?_) (fun K hK=>?_)
   ·simp only [lgA,lgZ,lgS]
    go_simp
    refine (jB z1 (GLo.below (aF hbU hc1)).tr (GSt.below (aF hbU hc1)).tr hSs (by omega) (by omega) (hT.below (aF hbU hc1))).mono ?_
    rintro e z2 ⟨f4,c4,n4,k4,d4,m4,l4,rfl,G42,hk⟩
    replace G42:=(G42.fit HZL.out).mono (B':=0) (Nat.zero_le _)
    have hc2:=aF hc1 hk
    have A92:=A91.below hk
    dsimp only
    refine hK _ _ ⟨fun _=>HBX _ hc2,fun _=>trivial⟩ ?_
    clear hK K hk
    refine wpAnyG.two 9 11 (by as_aux_lemma=>kernel_rfl) (by decide) (by decide) (by rfl) (by rfl) (fun K hK=>?_) (fun K hK=>?_)
    ·simp only [lgA,lgZ,lgS]
     go_simp
     refine (jB z2 (GHi.below (aF hbU hc2)).tr (GSt.below (aF hbU hc2)).tr hSs (by omega) (by omega) (hT.below (aF hbU hc2))).mono ?_
     rintro e z3 ⟨f9,c9,n9,k9,d9,m9,l9,rfl,G93,hk⟩
     replace G93:=(G93.fit HZH.out).mono (B':=0) (Nat.zero_le _)
     have hc3:=aF hc2 hk
     have A93:=A92.below hk
     have G43:=G42.below hk
     dsimp only
     refine hK _ _ ⟨fun _=>HBX _ hc3,fun _=>trivial⟩ ?_
     clear hK K hk
     refine wpAnyG.one 11 (by as_aux_lemma=>kernel_rfl) (by decide) (by rfl) (fun K hK=>?_)
     simp only [lgA,lgZ,lgS]
     go_simp
     have hx:=aI z3 (.cells #[.bool false,.slice none 0 0,.slice none 0 0] 27)
     have A104:=Rw.new 27 z3 #[.bool false,.slice none 0 0,.slice none 0 0]
     have hc4:=aF hc3 hx
     have h10b:U.heap.size≤z3.heap.size:=hc3.size
     have hne:z0.heap.size≠z3.heap.size:=by
      have:=A93.lt
      omega
     have A94:=A93.below hx
     have G44:=G43.below hx
     have G94:=G93.below hx
     refine hK _ _ ⟨fun _=>HBX _ hc4,fun _=>trivial⟩ ?_
     clear hK K hx
     generalize z3.alloc (.cells #[.bool false,.slice none 0 0,.slice none 0 0] 27)=z4 at *
     refine wpAnyG.one 12 (by as_aux_lemma=>kernel_rfl) (by decide) (by rfl) (fun K hK=>?_)
     simp only [lgA,lgZ,lgS]
     refine wp_store_row 27 _ _ rfl (z0.heap.size) #[.bool f4,.slice c4 n4 k4,.slice d4 m4 l4] rfl rfl 27 _ A94 fH rfl (by simp [Value.oneCell']) ?_
     obtain ⟨A95,O⟩:=A94.row #[.bool f4,.slice c4 n4 k4,.slice d4 m4 l4]
     have hc5:=hc4.trans (O.below h9b)
     have A105:=A104.off O (by exact fun e=>hne e.symm)
     have G45:=G44.keep (row:=some (z0.heap.size)) (A94.noW (by decide)) O.grown
     have G95:=G94.keep (row:=some (z0.heap.size)) (A94.noW (by decide)) O.grown
     refine hK _ _ ⟨fun _=>HBX _ hc5,fun _=>trivial⟩ ?_
     clear hK K
     generalize z4.setRow (z0.heap.size) #[.bool f4,.slice c4 n4 k4,.slice d4 m4 l4]=z5 at *
     refine wpAnyG.one 13 (by as_aux_lemma=>kernel_rfl) (by decide) (by rfl) (fun K hK=>?_)
     simp only [lgA,lgZ,lgS]
     refine wp_store_row 27 _ _ rfl (z3.heap.size) #[.bool f9,.slice c9 n9 k9,.slice d9 m9 l9] rfl rfl 27 _ A105 fH rfl (by simp [Value.oneCell']) ?_
     obtain ⟨A106,O⟩:=A105.row #[.bool f9,.slice c9 n9 k9,.slice d9 m9 l9]
     have hc6:=hc5.trans (O.below h10b)
     have A96:=A95.off O (by exact hne)
     have G46:=G45.keep (row:=some (z3.heap.size)) (A105.noW (by decide)) O.grown
     have G96:=G95.keep (row:=some (z3.heap.size)) (A105.noW (by decide)) O.grown
     refine hK _ _ ⟨fun h=>absurd h (by decide),fun _=>trivial⟩ ?_
     clear hK K
     generalize z5.setRow (z3.heap.size) #[.bool f9,.slice c9 n9 k9,.slice d9 m9 l9]=z6 at *
     refine wpAnyG.done (by as_aux_lemma=>kernel_rfl) (NoPanic.normal ?_)
     exact ⟨rfl,_,_,_,_,_,_,_,_,_,_,z0.heap.size,z3.heap.size,f4,c4,n4,k4,d4,m4,l4,f9,c9,n9,k9,d9,m9,l9,rfl,A96,A106,G46,G96,h9b,h10b,hc6⟩
    ·simp only [lgA,lgZ,lgS]
     go_simp
     have hx:=aI z2 (.cells #[.bool false,.slice none 0 0,.slice none 0 0] 27)
     have A103:=Rw.new 27 z2 #[.bool false,.slice none 0 0,.slice none 0 0]
     have hc3:=aF hc2 hx
     have h10b:U.heap.size≤z2.heap.size:=hc2.size
     have hne:z0.heap.size≠z2.heap.size:=by
      have:=A92.lt
      omega
     have A93:=A92.below hx
     have G43:=G42.below hx
     refine hK _ _ ⟨fun _=>HBX _ hc3,fun _=>trivial⟩ ?_
     clear hK K hx
     generalize z2.alloc (.cells #[.bool false,.slice none 0 0,.slice none 0 0] 27)=z3 at *
     refine wpAnyG.one 9 (by as_aux_lemma=>kernel_rfl) (by decide) (by rfl) (fun K hK=>?_)
     simp only [lgA,lgZ,lgS]
     go_simp
     refine (jB z3 (GHi.below (aF hbU hc3)).tr (GSt.below (aF hbU hc3)).tr hSs (by omega) (by omega) (hT.below (aF hbU hc3))).mono ?_
     rintro e z4 ⟨f9,c9,n9,k9,d9,m9,l9,rfl,G94,hk⟩
     replace G94:=(G94.fit HZH.out).mono (B':=0) (Nat.zero_le _)
     have hc4:=aF hc3 hk
     have A94:=A93.below hk
     have G44:=G43.below hk
     have A104:=A103.below hk
     dsimp only
     refine hK _ _ ⟨fun _=>HBX _ hc4,fun _=>trivial⟩ ?_
     clear hK K hk
     refine wpAnyG.one 12 (by as_aux_lemma=>kernel_rfl) (by decide) (by rfl) (fun K hK=>?_)
     simp only [lgA,lgZ,lgS]
     refine wp_store_row 27 _ _ rfl (z0.heap.size) #[.bool f4,.slice c4 n4 k4,.slice d4 m4 l4] rfl rfl 27 _ A94 fH rfl (by simp [Value.oneCell']) ?_
     obtain ⟨A95,O⟩:=A94.row #[.bool f4,.slice c4 n4 k4,.slice d4 m4 l4]
     have hc5:=hc4.trans (O.below h9b)
     have A105:=A104.off O (by exact fun e=>hne e.symm)
     have G45:=G44.keep (row:=some (z0.heap.size)) (A94.noW (by decide)) O.grown
     have G95:=G94.keep (row:=some (z0.heap.size)) (A94.noW (by decide)) O.grown
     refine hK _ _ ⟨fun _=>HBX _ hc5,fun _=>trivial⟩ ?_
     clear hK K
     generalize z4.setRow (z0.heap.size) #[.bool f4,.slice c4 n4 k4,.slice d4 m4 l4]=z5 at *
     refine wpAnyG.one 13 (by as_aux_lemma=>kernel_rfl) (by decide) (by rfl) (fun K hK=>?_)
     simp only [lgA,lgZ,lgS]
     refine wp_store_row 27 _ _ rfl (z2.heap.size) #[.bool f9,.slice c9 n9 k9,.slice d9 m9 l9] rfl rfl 27 _ A105 fH rfl (by simp [Value.oneCell']) ?_
     obtain ⟨A106,O⟩:=A105.row #[.bool f9,.slice c9 n9 k9,.slice d9 m9 l9]
     have hc6:=hc5.trans (O.below h10b)
     have A96:=A95.off O (by exact hne)
     have G46:=G45.keep (row:=some (z2.heap.size)) (A105.noW (by decide)) O.grown
     have G96:=G95.keep (row:=some (z2.heap.size)) (A105.noW (by decide)) O.grown
     refine hK _ _ ⟨fun h=>absurd h (by decide),fun _=>trivial⟩ ?_
     clear hK K
     generalize z5.setRow (z2.heap.size) #[.bool f9,.slice c9 n9 k9,.slice d9 m9 l9]=z6 at *
     refine wpAnyG.done (by as_aux_lemma=>kernel_rfl) (NoPanic.normal ?_)
     exact ⟨rfl,_,_,_,_,_,_,_,_,_,_,z0.heap.size,z2.heap.size,f4,c4,n4,k4,d4,m4,l4,f9,c9,n9,k9,d9,m9,l9,rfl,A96,A106,G46,G96,h9b,h10b,hc6⟩
   ·simp only [lgA,lgZ,lgS]
    go_simp
    have hx:=aI z1 (.cells #[.bool false,.slice none 0 0,.slice none 0 0] 27)
    have A102:=Rw.new 27 z1 #[.bool false,.slice none 0 0,.slice none 0 0]
    have hc2:=aF hc1 hx
    have h10b:U.heap.size≤z1.heap.size:=hc1.size
    have hne:z0.heap.size≠z1.heap.size:=by
     have:=A91.lt
     omega
    have A92:=A91.below hx
    refine hK _ _ ⟨fun _=>HBX _ hc2,fun _=>trivial⟩ ?_
    clear hK K hx
    generalize z1.alloc (.cells #[.bool false,.slice none 0 0,.slice none 0 0] 27)=z2 at *
    refine wpAnyG.one 4 (by as_aux_lemma=>kernel_rfl) (by decide) (by rfl) (fun K hK=>?_)
    simp only [lgA,lgZ,lgS]
    go_simp
    refine (jB z2 (GLo.below (aF hbU hc2)).tr (GSt.below (aF hbU hc2)).tr hSs (by omega) (by omega) (hT.below (aF hbU hc2))).mono ?_
    rintro e z3 ⟨f4,c4,n4,k4,d4,m4,l4,rfl,G43,hk⟩
    replace G43:=(G43.fit HZL.out).mono (B':=0) (Nat.zero_le _)
    have hc3:=aF hc2 hk
    have A93:=A92.below hk
    have A103:=A102.below hk
    dsimp only
    refine hK _ _ ⟨fun _=>HBX _ hc3,fun _=>trivial⟩ ?_
    clear hK K hk
    refine wpAnyG.one 9 (by as_aux_lemma=>kernel_rfl) (by decide) (by rfl) (fun K hK=>?_)
    simp only [lgA,lgZ,lgS]
    go_simp
    refine (jB z3 (GHi.below (aF hbU hc3)).tr (GSt.below (aF hbU hc3)).tr hSs (by omega) (by omega) (hT.below (aF hbU hc3))).mono ?_
    rintro e z4 ⟨f9,c9,n9,k9,d9,m9,l9,rfl,G94,hk⟩
    replace G94:=(G94.fit HZH.out).mono (B':=0) (Nat.zero_le _)
    have hc4:=aF hc3 hk
    have A94:=A93.below hk
    have A104:=A103.below hk
    have G44:=G43.below hk
    dsimp only
    refine hK _ _ ⟨fun _=>HBX _ hc4,fun _=>trivial⟩ ?_
    clear hK K hk
    refine wpAnyG.one 12 (by as_aux_lemma=>kernel_rfl) (by decide) (by rfl) (fun K hK=>?_)
    simp only [lgA,lgZ,lgS]
    refine wp_store_row 27 _ _ rfl (z0.heap.size) #[.bool f4,.slice c4 n4 k4,.slice d4 m4 l4] rfl rfl 27 _ A94 fH rfl (by simp [Value.oneCell']) ?_
    obtain ⟨A95,O⟩:=A94.row #[.bool f4,.slice c4 n4 k4,.slice d4 m4 l4]
    have hc5:=hc4.trans (O.below h9b)
    have A105:=A104.off O (by exact fun e=>hne e.symm)
    have G45:=G44.keep (row:=some (z0.heap.size)) (A94.noW (by decide)) O.grown
    have G95:=G94.keep (row:=some (z0.heap.size)) (A94.noW (by decide)) O.grown
    refine hK _ _ ⟨fun _=>HBX _ hc5,fun _=>trivial⟩ ?_
    clear hK K
    generalize z4.setRow (z0.heap.size) #[.bool f4,.slice c4 n4 k4,.slice d4 m4 l4]=z5 at *
    refine wpAnyG.one 13 (by as_aux_lemma=>kernel_rfl) (by decide) (by rfl) (fun K hK=>?_)
    simp only [lgA,lgZ,lgS]
    refine wp_store_row 27 _ _ rfl (z1.heap.size) #[.bool f9,.slice c9 n9 k9,.slice d9 m9 l9] rfl rfl 27 _ A105 fH rfl (by simp [Value.oneCell']) ?_
    obtain ⟨A106,O⟩:=A105.row #[.bool f9,.slice c9 n9 k9,.slice d9 m9 l9]
    have hc6:=hc5.trans (O.below h10b)
    have A96:=A95.off O (by exact hne)
    have G46:=G45.keep (row:=some (z1.heap.size)) (A105.noW (by decide)) O.grown
    have G96:=G95.keep (row:=some (z1.heap.size)) (A105.noW (by decide)) O.grown
    refine hK _ _ ⟨fun h=>absurd h (by decide),fun _=>trivial⟩ ?_
    clear hK K
    generalize z5.setRow (z1.heap.size) #[.bool f9,.slice c9 n9 k9,.slice d9 m9 l9]=z6 at *
    refine wpAnyG.done (by as_aux_lemma=>kernel_rfl) (NoPanic.normal ?_)
    exact ⟨rfl,_,_,_,_,_,_,_,_,_,_,z0.heap.size,z1.heap.size,f4,c4,n4,k4,d4,m4,l4,f9,c9,n9,k9,d9,m9,l9,rfl,A96,A106,G46,G96,h9b,h10b,hc6⟩
  ·simp only [lgA,lgZ,lgS]
   go_simp
   have hx:=aI z0 (.cells #[.bool false,.slice none 0 0,.slice none 0 0] 27)
   have A101:=Rw.new 27 z0 #[.bool false,.slice none 0 0,.slice none 0 0]
   have hc1:=aF hc0 hx
   have h10b:U.heap.size≤z0.heap.size:=hc0.size
   refine hK _ _ ⟨fun _=>HBX _ hc1,fun _=>trivial⟩ ?_
   clear hK K hx
   generalize z0.alloc (.cells #[.bool false,.slice none 0 0,.slice none 0 0] 27)=z1 at *
   refine wpAnyG.two 4 10 (by as_aux_lemma=>kernel_rfl) (by decide) (by decide) (by rfl) (by rfl) (fun K hK=>?_) (fun K hK=>?_)
   ·simp only [lgA,lgZ,lgS]
    go_simp
    refine (jB z1 (GLo.below (aF hbU hc1)).tr (GSt.below (aF hbU hc1)).tr hSs (by omega) (by omega) (hT.below (aF hbU hc1))).mono ?_
    rintro e z2 ⟨f4,c4,n4,k4,d4,m4,l4,rfl,G42,hk⟩
    replace G42:=(G42.fit HZL.out).mono (B':=0) (Nat.zero_le _)
    have hc2:=aF hc1 hk
    have A102:=A101.below hk
    dsimp only
    refine hK _ _ ⟨fun _=>HBX _ hc2,fun _=>trivial⟩ ?_
    clear hK K hk
    refine wpAnyG.two 9 10 (by as_aux_lemma=>kernel_rfl) (by decide) (by decide) (by rfl) (by rfl) (fun K hK=>?_) (fun K hK=>?_)
    ·simp only [lgA,lgZ,lgS]
     go_simp
     refine (jB z2 (GHi.below (aF hbU hc2)).tr (GSt.below (aF hbU hc2)).tr hSs (by omega) (by omega) (hT.below (aF hbU hc2))).mono ?_
     rintro e z3 ⟨f9,c9,n9,k9,d9,m9,l9,rfl,G93,hk⟩
     replace G93:=(G93.fit HZH.out).mono (B':=0) (Nat.zero_le _)
     have hc3:=aF hc2 hk
     have A103:=A102.below hk
     have G43:=G42.below hk
     dsimp only
     refine hK _ _ ⟨fun _=>HBX _ hc3,fun _=>trivial⟩ ?_
     clear hK K hk
     refine wpAnyG.one 10 (by as_aux_lemma=>kernel_rfl) (by decide) (by rfl) (fun K hK=>?_)
     simp only [lgA,lgZ,lgS]
     go_simp
     have hx:=aI z3 (.cells #[.bool false,.slice none 0 0,.slice none 0 0] 27)
     have A94:=Rw.new 27 z3 #[.bool false,.slice none 0 0,.slice none 0 0]
     have hc4:=aF hc3 hx
     have h9b:U.heap.size≤z3.heap.size:=hc3.size
     have hne:z0.heap.size≠z3.heap.size:=by
      have:=A103.lt
      omega
     have A104:=A103.below hx
     have G44:=G43.below hx
     have G94:=G93.below hx
     refine hK _ _ ⟨fun _=>HBX _ hc4,fun _=>trivial⟩ ?_
     clear hK K hx
     generalize z3.alloc (.cells #[.bool false,.slice none 0 0,.slice none 0 0] 27)=z4 at *
     refine wpAnyG.one 12 (by as_aux_lemma=>kernel_rfl) (by decide) (by rfl) (fun K hK=>?_)
     simp only [lgA,lgZ,lgS]
     refine wp_store_row 27 _ _ rfl (z3.heap.size) #[.bool f4,.slice c4 n4 k4,.slice d4 m4 l4] rfl rfl 27 _ A94 fH rfl (by simp [Value.oneCell']) ?_
     obtain ⟨A95,O⟩:=A94.row #[.bool f4,.slice c4 n4 k4,.slice d4 m4 l4]
     have hc5:=hc4.trans (O.below h9b)
     have A105:=A104.off O (by exact hne)
     have G45:=G44.keep (row:=some (z3.heap.size)) (A94.noW (by decide)) O.grown
     have G95:=G94.keep (row:=some (z3.heap.size)) (A94.noW (by decide)) O.grown
     refine hK _ _ ⟨fun _=>HBX _ hc5,fun _=>trivial⟩ ?_
     clear hK K
     generalize z4.setRow (z3.heap.size) #[.bool f4,.slice c4 n4 k4,.slice d4 m4 l4]=z5 at *
     refine wpAnyG.one 13 (by as_aux_lemma=>kernel_rfl) (by decide) (by rfl) (fun K hK=>?_)
     simp only [lgA,lgZ,lgS]
     refine wp_store_row 27 _ _ rfl (z0.heap.size) #[.bool f9,.slice c9 n9 k9,.slice d9 m9 l9] rfl rfl 27 _ A105 fH rfl (by simp [Value.oneCell']) ?_
     obtain ⟨A106,O⟩:=A105.row #[.bool f9,.slice c9 n9 k9,.slice d9 m9 l9]
     have hc6:=hc5.trans (O.below h10b)
     have A96:=A95.off O (by exact fun e=>hne e.symm)
     have G46:=G45.keep (row:=some (z0.heap.size)) (A105.noW (by decide)) O.grown
     have G96:=G95.keep (row:=some (z0.heap.size)) (A105.noW (by decide)) O.grown
     refine hK _ _ ⟨fun h=>absurd h (by decide),fun _=>trivial⟩ ?_
     clear hK K
     generalize z5.setRow (z0.heap.size) #[.bool f9,.slice c9 n9 k9,.slice d9 m9 l9]=z6 at *
     refine wpAnyG.done (by as_aux_lemma=>kernel_rfl) (NoPanic.normal ?_)
     exact ⟨rfl,_,_,_,_,_,_,_,_,_,_,z3.heap.size,z0.heap.size,f4,c4,n4,k4,d4,m4,l4,f9,c9,n9,k9,d9,m9,l9,rfl,A96,A106,G46,G96,h9b,h10b,hc6⟩
    ·simp only [lgA,lgZ,lgS]
     go_simp
     have hx:=aI z2 (.cells #[.bool false,.slice none 0 0,.slice none 0 0] 27)
     have A93:=Rw.new 27 z2 #[.bool false,.slice none 0 0,.slice none 0 0]
     have hc3:=aF hc2 hx
     have h9b:U.heap.size≤z2.heap.size:=hc2.size
     have hne:z0.heap.size≠z2.heap.size:=by
      have:=A102.lt
      omega
     have A103:=A102.below hx
     have G43:=G42.below hx
     refine hK _ _ ⟨fun _=>HBX _ hc3,fun _=>trivial⟩ ?_
     clear hK K hx
     generalize z2.alloc (.cells #[.bool false,.slice none 0 0,.slice none 0 0] 27)=z3 at *
     refine wpAnyG.one 9 (by as_aux_lemma=>kernel_rfl) (by decide) (by rfl) (fun K hK=>?_)
     simp only [lgA,lgZ,lgS]
     go_simp
     refine (jB z3 (GHi.below (aF hbU hc3)).tr (GSt.below (aF hbU hc3)).tr hSs (by omega) (by omega) (hT.below (aF hbU hc3))).mono ?_
     rintro e z4 ⟨f9,c9,n9,k9,d9,m9,l9,rfl,G94,hk⟩
     replace G94:=(G94.fit HZH.out).mono (B':=0) (Nat.zero_le _)
     have hc4:=aF hc3 hk
     have A104:=A103.below hk
     have G44:=G43.below hk
     have A94:=A93.below hk
     dsimp only
     refine hK _ _ ⟨fun _=>HBX _ hc4,fun _=>trivial⟩ ?_
     clear hK K hk
     refine wpAnyG.one 12 (by as_aux_lemma=>kernel_rfl) (by decide) (by rfl) (fun K hK=>?_)
     simp only [lgA,lgZ,lgS]
     refine wp_store_row 27 _ _ rfl (z2.heap.size) #[.bool f4,.slice c4 n4 k4,.slice d4 m4 l4] rfl rfl 27 _ A94 fH rfl (by simp [Value.oneCell']) ?_
     obtain ⟨A95,O⟩:=A94.row #[.bool f4,.slice c4 n4 k4,.slice d4 m4 l4]
     have hc5:=hc4.trans (O.below h9b)
     have A105:=A104.off O (by exact hne)
     have G45:=G44.keep (row:=some (z2.heap.size)) (A94.noW (by decide)) O.grown
     have G95:=G94.keep (row:=some (z2.heap.size)) (A94.noW (by decide)) O.grown
     refine hK _ _ ⟨fun _=>HBX _ hc5,fun _=>trivial⟩ ?_
     clear hK K
     generalize z4.setRow (z2.heap.size) #[.bool f4,.slice c4 n4 k4,.slice d4 m4 l4]=z5 at *
     refine wpAnyG.one 13 (by as_aux_lemma=>kernel_rfl) (by decide) (by rfl) (fun K hK=>?_)
     simp only [lgA,lgZ,lgS]
     refine wp_store_row 27 _ _ rfl (z0.heap.size) #[.bool f9,.slice c9 n9 k9,.slice d9 m9 l9] rfl rfl 27 _ A105 fH rfl (by simp [Value.oneCell']) ?_
     obtain ⟨A106,O⟩:=A105.row #[.bool f9,.slice c9 n9 k9,.slice d9 m9 l9]
     have hc6:=hc5.trans (O.below h10b)
     have A96:=A95.off O (by exact fun e=>hne e.symm)
     have G46:=G45.keep (row:=some (z0.heap.size)) (A105.noW (by decide)) O.grown
     have G96:=G95.keep (row:=some (z0.heap.size)) (A105.noW (by decide)) O.grown
     refine hK _ _ ⟨fun h=>absurd h (by decide),fun _=>trivial⟩ ?_
     clear hK K
     generalize z5.setRow (z0.heap.size) #[.bool f9,.slice c9 n9 k9,.slice d9 m9 l9]=z6 at *
     refine wpAnyG.done (by as_aux_lemma=>kernel_rfl) (NoPanic.normal ?_)
     exact ⟨rfl,_,_,_,_,_,_,_,_,_,_,z2.heap.size,z0.heap.size,f4,c4,n4,k4,d4,m4,l4,f9,c9,n9,k9,d9,m9,l9,rfl,A96,A106,G46,G96,h9b,h10b,hc6⟩
   ·simp only [lgA,lgZ,lgS]
    go_simp
    have hx:=aI z1 (.cells #[.bool false,.slice none 0 0,.slice none 0 0] 27)
    have A92:=Rw.new 27 z1 #[.bool false,.slice none 0 0,.slice none 0 0]
    have hc2:=aF hc1 hx
    have h9b:U.heap.size≤z1.heap.size:=hc1.size
    have hne:z0.heap.size≠z1.heap.size:=by
     have:=A101.lt
     omega
    have A102:=A101.below hx
    refine hK _ _ ⟨fun _=>HBX _ hc2,fun _=>trivial⟩ ?_
    clear hK K hx
    generalize z1.alloc (.cells #[.bool false,.slice none 0 0,.slice none 0 0] 27)=z2 at *
    refine wpAnyG.one 4 (by as_aux_lemma=>kernel_rfl) (by decide) (by rfl) (fun K hK=>?_)
    simp only [lgA,lgZ,lgS]
    go_simp
    refine (jB z2 (GLo.below (aF hbU hc2)).tr (GSt.below (aF hbU hc2)).tr hSs (by omega) (by omega) (hT.below (aF hbU hc2))).mono ?_
    rintro e z3 ⟨f4,c4,n4,k4,d4,m4,l4,rfl,G43,hk⟩
    replace G43:=(G43.fit HZL.out).mono (B':=0) (Nat.zero_le _)
    have hc3:=aF hc2 hk
    have A103:=A102.below hk
    have A93:=A92.below hk
    dsimp only
    refine hK _ _ ⟨fun _=>HBX _ hc3,fun _=>trivial⟩ ?_
    clear hK K hk
    refine wpAnyG.one 9 (by as_aux_lemma=>kernel_rfl) (by decide) (by rfl) (fun K hK=>?_)
    simp only [lgA,lgZ,lgS]
    go_simp
    refine (jB z3 (GHi.below (aF hbU hc3)).tr (GSt.below (aF hbU hc3)).tr hSs (by omega) (by omega) (hT.below (aF hbU hc3))).mono ?_
    rintro e z4 ⟨f9,c9,n9,k9,d9,m9,l9,rfl,G94,hk⟩
    replace G94:=(G94.fit HZH.out).mono (B':=0) (Nat.zero_le _)
    have hc4:=aF hc3 hk
    have A104:=A103.below hk
    have A94:=A93.below hk
    have G44:=G43.below hk
    dsimp only
    refine hK _ _ ⟨fun _=>HBX _ hc4,fun _=>trivial⟩ ?_
    clear hK K hk
    refine wpAnyG.one 12 (by as_aux_lemma=>kernel_rfl) (by decide) (by rfl) (fun K hK=>?_)
    simp only [lgA,lgZ,lgS]
    refine wp_store_row 27 _ _ rfl (z1.heap.size) #[.bool f4,.slice c4 n4 k4,.slice d4 m4 l4] rfl rfl 27 _ A94 fH rfl (by simp [Value.oneCell']) ?_
    obtain ⟨A95,O⟩:=A94.row #[.bool f4,.slice c4 n4 k4,.slice d4 m4 l4]
    have hc5:=hc4.trans (O.below h9b)
    have A105:=A104.off O (by exact hne)
    have G45:=G44.keep (row:=some (z1.heap.size)) (A94.noW (by decide)) O.grown
    have G95:=G94.keep (row:=some (z1.heap.size)) (A94.noW (by decide)) O.grown
    refine hK _ _ ⟨fun _=>HBX _ hc5,fun _=>trivial⟩ ?_
    clear hK K
    generalize z4.setRow (z1.heap.size) #[.bool f4,.slice c4 n4 k4,.slice d4 m4 l4]=z5 at *
    refine wpAnyG.one 13 (by as_aux_lemma=>kernel_rfl) (by decide) (by rfl) (fun K hK=>?_)
    simp only [lgA,lgZ,lgS]
    refine wp_store_row 27 _ _ rfl (z0.heap.size) #[.bool f9,.slice c9 n9 k9,.slice d9 m9 l9] rfl rfl 27 _ A105 fH rfl (by simp [Value.oneCell']) ?_
    obtain ⟨A106,O⟩:=A105.row #[.bool f9,.slice c9 n9 k9,.slice d9 m9 l9]
    have hc6:=hc5.trans (O.below h10b)
    have A96:=A95.off O (by exact fun e=>hne e.symm)
    have G46:=G45.keep (row:=some (z0.heap.size)) (A105.noW (by decide)) O.grown
    have G96:=G95.keep (row:=some (z0.heap.size)) (A105.noW (by decide)) O.grown
    refine hK _ _ ⟨fun h=>absurd h (by decide),fun _=>trivial⟩ ?_
    clear hK K
    generalize z5.setRow (z0.heap.size) #[.bool f9,.slice c9 n9 k9,.slice d9 m9 l9]=z6 at *
    refine wpAnyG.done (by as_aux_lemma=>kernel_rfl) (NoPanic.normal ?_)
    exact ⟨rfl,_,_,_,_,_,_,_,_,_,_,z1.heap.size,z0.heap.size,f4,c4,n4,k4,d4,m4,l4,f9,c9,n9,k9,d9,m9,l9,rfl,A96,A106,G46,G96,h9b,h10b,hc6⟩
 ·rintro a' w3 ⟨u1,u2,u3,u4,u5,u6,u7,u8,u9,u10,b9,b10,f4,c4,n4,k4,d4,m4,l4,f9,c9,n9,k9,d9,m9,l9,rfl,A9,A10,G4,G9,h9b,h10b,hU3⟩
  have hb3:Below w.heap.size w w3:=aF hbU hU3
  have RS:=RU.below hU3
  have Rb3:=Rb.below hU3
  have TM3:=TMU.below hU3
  have KA:=dU (R:=R) (F:=F) (L:=[61]) hb3 hF
  have hs3:=hU3.size
  have z2':=Rb3 2 _ rfl
  have z6':=Rb3 6 _ rfl
  clear Rb Sb RU TMU HBX hr
  cases hlv0
  ·cases hhv0
   ·go_wp2
    have hlv:r.hlo=false:=HE.out.1
    have hhv:r.hhi=false:=HE.out.2
    go_ret
    exact ⟨_,_,_,_,_,rfl,RS,by rw [show (dD V r st c).1=[] by unfold dD;simp only [hlv,hhv,if_false,Bool.false_eq_true],List.append_nil];exact hE.kx KA (by decide) (by decide) (by decide),by rw [show (dD V r st c).2=c by unfold dD;simp only [hlv,hhv,if_false,Bool.false_eq_true]],by rw [hlv,hhv];rfl,KA.up (by simp)⟩
   ·go_wp2_with fail
    clear z2' z6' Rb3
    have hlv:r.hlo=false:=HE.out.1
    have hhv:r.hhi=true:=HE.out.2
    have RS0:=RS.below (aK w3)
    have RB0:=A10.below (aK w3)
    have KC0:=dU (R:=R) (F:=F) (L:=[61]) (aK w3) (by omega)
    have KA0:=KA.bel (aK w3) (by omega)
    have hs0:w3.heap.size≤w3.drew.heap.size:=(aK w3).size
    have hcF:(w3.drew.cell? ⟨b10,0,none⟩=some (.bool f9)∧w3.drew.cell? ⟨b10,1,none⟩=some (.slice c9 n9 k9)∧w3.drew.cell? ⟨b10,2,none⟩=some (.slice d9 m9 l9)):=⟨(RB0.cell 0).trans rfl,(RB0.cell 1).trans rfl,(RB0.cell 2).trans rfl⟩
    have HF0:=hcF
    clear hcF
    refine wp_region_noPanic (bI (fun _ w'=>w'.cell? ⟨b10,0,none⟩=some (.bool f9)∧w'.cell? ⟨b10,1,none⟩=some (.slice c9 n9 k9)∧w'.cell? ⟨b10,2,none⟩=some (.slice d9 m9 l9)) (by as_aux_lemma=>kernel_rfl) ?_)
    have hc0:(w3.drew.cell? ⟨b10,0,none⟩=some (.bool f9)∧w3.drew.cell? ⟨b10,1,none⟩=some (.slice c9 n9 k9)∧w3.drew.cell? ⟨b10,2,none⟩=some (.slice d9 m9 l9)):=HF0
    generalize w3.drew=z0 at *
    refine wpAnyG.take 0 (v:=.pointer (some ⟨R,0,none⟩)) (by decide) (by as_aux_lemma=>kernel_rfl) (fun _ _ _ h=>h) 8 _ (by rfl) (fun _ _=>Iff.rfl) (fun _ _ _ h=>h) (by as_aux_lemma=>kernel_rfl) (by as_aux_lemma=>kernel_rfl) (by as_aux_lemma=>kernel_rfl) (by rfl) ?y0 ((fun _ h=>h) _ hc0) (by rfl) ?_
    case y0 =>
     rintro w' ⟨q0,q1,q2⟩
     simp only [lgA,lgZ]
     go_simp
    simp only [lgA,lgZ,Act.put,lsA,lsZ,lsS]
    refine wpAnyG.take 1 (v:=.agg #[.bool f9,.slice c9 n9 k9,.slice d9 m9 l9]) (by decide) (by as_aux_lemma=>kernel_rfl) (fun _ _ _ h=>h) 8 _ (by rfl) (fun _ _=>Iff.rfl) (fun _ _ _ h=>h) (by as_aux_lemma=>kernel_rfl) (by as_aux_lemma=>kernel_rfl) (by as_aux_lemma=>kernel_rfl) (by rfl) ?y1 ((fun _ h=>h) _ hc0) (by rfl) ?_
    case y1 =>
     rintro w' ⟨q0,q1,q2⟩
     simp only [lgA,lgZ,lgS]
     go_simp
    simp only [lgA,lgZ,lgS,Act.put,lsA,lsZ,lsS]
    refine wpAnyG.take 2 (v:=.slice wa wm wc) (by decide) (by as_aux_lemma=>kernel_rfl) (fun _ _ _ h=>h) 7 _ (by rfl) (fun _ _=>Iff.rfl) (fun _ _ _ h=>h) (by as_aux_lemma=>kernel_rfl) (by as_aux_lemma=>kernel_rfl) (by as_aux_lemma=>kernel_rfl) (by rfl) ?y2 ((fun _ h=>h) _ hc0) (by rfl) ?_
    case y2 =>
     rintro w' ⟨q0,q1,q2⟩
     simp only [lgA,lgZ,lgS]
     go_simp
    simp only [lgA,lgZ,lgS,Act.put,lsA,lsZ,lsS]
    refine wpAnyG.take 3 (v:=.pointer (some ⟨R,0,none⟩)) (by decide) (by as_aux_lemma=>kernel_rfl) (fun _ _ _ h=>h) 4 _ (by rfl) (fun _ _=>Iff.rfl) (fun _ _ _ h=>h) (by as_aux_lemma=>kernel_rfl) (by as_aux_lemma=>kernel_rfl) (by as_aux_lemma=>kernel_rfl) (by rfl) ?y3 ((fun _ h=>h) _ hc0) (by rfl) ?_
    case y3 =>
     rintro w' ⟨q0,q1,q2⟩
     simp only [lgA,lgZ,lgS]
     go_simp
    simp only [lgA,lgZ,lgS,Act.put,lsA,lsZ,lsS]
    refine wpAnyG.one 4 (by as_aux_lemma=>kernel_rfl) (by decide) (by rfl) (fun K hK=>?_)
    simp only [lgA,lgZ,lgS]
    go_simp
    refine (lN z0 RS0 (by omega)).mono ?_
    rintro e z1 ⟨rfl,RS1,ON1⟩
    have KC1:=KC0.off RS0 (by simp) ON1
    have KA1:=KA0.off RS0 (by simp) ON1
    have hs1:z1.heap.size=z0.heap.size:=ON1.size
    have RB1:=RB0.kxh ((Kx.refl R F [61] z0).off RS0 (by simp) ON1) (by decide)
    have hcF:(z1.cell? ⟨b10,0,none⟩=some (.bool f9)∧z1.cell? ⟨b10,1,none⟩=some (.slice c9 n9 k9)∧z1.cell? ⟨b10,2,none⟩=some (.slice d9 m9 l9)):=⟨(RB1.cell 0).trans rfl,(RB1.cell 1).trans rfl,(RB1.cell 2).trans rfl⟩
    have hc1:=hcF
    clear hcF
    dsimp only
    refine hK _ _ ((fun _ h=>h) _ hc1) ?_
    clear hK K
    refine wpAnyG.one 5 (by as_aux_lemma=>kernel_rfl) (by decide) (by rfl) (fun K hK=>?_)
    simp only [lgA,lgZ,lgS]
    go_simp
    refine (onceQ (c:Nat) z1).mono ?_
    rintro e z2 ⟨f5,c5,n5,k5,d5,m5,l5,rfl,G5,hk2⟩
    have KC2:=KC1.bel hk2 (by omega)
    have KA2:=KA1.bel hk2 (by omega)
    have hs2:=hk2.size
    have RS2:=RS1.below hk2
    have RB2:=RB1.below hk2
    have hcF:(z2.cell? ⟨b10,0,none⟩=some (.bool f9)∧z2.cell? ⟨b10,1,none⟩=some (.slice c9 n9 k9)∧z2.cell? ⟨b10,2,none⟩=some (.slice d9 m9 l9)):=⟨(RB2.cell 0).trans rfl,(RB2.cell 1).trans rfl,(RB2.cell 2).trans rfl⟩
    have hc2:=hcF
    clear hcF
    dsimp only
    refine hK _ _ ((fun _ h=>h) _ hc2) ?_
    clear hK K
    refine wpAnyG.one 6 (by as_aux_lemma=>kernel_rfl) (by decide) (by rfl) (fun K hK=>?_)
    simp only [lgA,lgZ,lgS]
    go_simp
    have KC7:=KC2.bel (aI z2 (.cells #[.int .i64 (c:Nat),.bool f5,.slice c5 n5 k5,.slice d5 m5 l5] 52)) (by omega)
    have KA7:=KA2.bel (aI z2 (.cells #[.int .i64 (c:Nat),.bool f5,.slice c5 n5 k5,.slice d5 m5 l5] 52)) (by omega)
    have RS7:=RS2.below (aI z2 (.cells #[.int .i64 (c:Nat),.bool f5,.slice c5 n5 k5,.slice d5 m5 l5] 52))
    have RB7:=RB2.below (aI z2 (.cells #[.int .i64 (c:Nat),.bool f5,.slice c5 n5 k5,.slice d5 m5 l5] 52))
    have BX:=aQ z2 #[.int .i64 (c:Nat),.bool f5,.slice c5 n5 k5,.slice d5 m5 l5] 52
    have hs7:(z2.alloc (.cells #[.int .i64 (c:Nat),.bool f5,.slice c5 n5 k5,.slice d5 m5 l5] 52)).heap.size=z2.heap.size+1:=by simp
    have G57:=((G5.mono (Nat.zero_le _)).below (aI z2 (.cells #[.int .i64 (c:Nat),.bool f5,.slice c5 n5 k5,.slice d5 m5 l5] 52))).le hS1
    have hcF:((z2.alloc (.cells #[.int .i64 (c:Nat),.bool f5,.slice c5 n5 k5,.slice d5 m5 l5] 52)).cell? ⟨b10,0,none⟩=some (.bool f9)∧(z2.alloc (.cells #[.int .i64 (c:Nat),.bool f5,.slice c5 n5 k5,.slice d5 m5 l5] 52)).cell? ⟨b10,1,none⟩=some (.slice c9 n9 k9)∧(z2.alloc (.cells #[.int .i64 (c:Nat),.bool f5,.slice c5 n5 k5,.slice d5 m5 l5] 52)).cell? ⟨b10,2,none⟩=some (.slice d9 m9 l9)):=⟨(RB7.cell 0).trans rfl,(RB7.cell 1).trans rfl,(RB7.cell 2).trans rfl⟩
    generalize z2.alloc (.cells #[.int .i64 (c:Nat),.bool f5,.slice c5 n5 k5,.slice d5 m5 l5] 52)=z7 at *
    refine hK _ _ hcF ?_
    clear hcF
    clear hK K
    refine wpAnyG.one 7 (by as_aux_lemma=>kernel_rfl) (by decide) (by rfl) (fun K hK=>?_)
    simp only [lgA,lgZ,lgS]
    obtain ⟨E,SLU,TE⟩:=TM3
    rw [← HWM.out] at SLU
    have SLZ:=SLU.kxh KC7 (by decide)
    refine dM z7 _ _ 53 52 4 64 rfl Tryz.underlying53 kJ (by decide) (by decide) w.heap.size (.slice wa wm wc) wm E rfl SLZ z2.heap.size 1 rfl [.int .i64 (c:Nat),.bool f5,.slice c5 n5 k5,.slice d5 m5 l5] rfl (fun u hu=>by simp at hu;rcases hu with rfl|rfl|rfl|rfl <;> rfl) BX (by omega) (by omega) _ rfl ?_
    intro g8 cap8 z8 SN hg hat hgl
    have hne:(.slice wa wm wc:Value).ownBlock≠some R:=SLZ.neR RS7 (by decide)
    have RS8:=RS7.kept hg hne
    have KB8:=(KC7.up (L':=[61,52]) (by simp)).grown SLZ (by simp) hF (by omega) hg
    have KG:=(Kx.refl R F [52] z7).grown SLZ (by simp) hF (by omega) hg
    have KA8:=KA7.fresh hg (fun i e=>(SLZ.lt i e).1) hF
    have RB8:=RB7.kxh KG (by decide)
    have TM8:TM z8 F (.slice (some ⟨g8,0,none⟩) (wm+1) cap8) (rowT V r.t r.nt++[⟨(c:Nat),((1:Int):Rat)⟩]) S:=by
     refine TM.mono (B:=w.heap.size) (TM.app' (m:=wm) (q:=1) (D:=fun _=>[.int .i64 (c:Nat),.bool f5,.slice c5 n5 k5,.slice d5 m5 l5]) HWM.out rfl SN (fun i t ht=>(TE i t ht).kx KB8 (by decide)) (fun i t ht=>?_)) hF
     have:=(List.getElem?_eq_some_iff.1 ht).1
     obtain rfl:i=0:=by simp at this;omega
     simp at ht
     subst ht
     exact ⟨_,_,_,_,_,_,_,rfl,G57.kx KG (by decide)⟩
    have hs8:=hg.size
    have hcF:(z8.cell? ⟨b10,0,none⟩=some (.bool f9)∧z8.cell? ⟨b10,1,none⟩=some (.slice c9 n9 k9)∧z8.cell? ⟨b10,2,none⟩=some (.slice d9 m9 l9)):=⟨(RB8.cell 0).trans rfl,(RB8.cell 1).trans rfl,(RB8.cell 2).trans rfl⟩
    refine hK _ _ hcF ?_
    clear hcF
    clear hK K
    refine wpAnyG.one 8 (by as_aux_lemma=>kernel_rfl) (by decide) (by rfl) (fun K hK=>?_)
    simp only [lgA,lgZ,lgS]
    go_simp
    refine (tK z8 RS8 (hE.kx KA8 (by decide) (by decide) (by decide)) (by omega) (G9.kx KB8 (by decide)) TM8 (by omega)).mono ?_
    rintro e z9 ⟨rfl,ea',ec',RS9,E9,K9⟩
    have RB9:=RB8.kxh K9 (by decide)
    have hcF:(z9.cell? ⟨b10,0,none⟩=some (.bool f9)∧z9.cell? ⟨b10,1,none⟩=some (.slice c9 n9 k9)∧z9.cell? ⟨b10,2,none⟩=some (.slice d9 m9 l9)):=⟨(RB9.cell 0).trans rfl,(RB9.cell 1).trans rfl,(RB9.cell 2).trans rfl⟩
    dsimp only
    refine hK _ _ hcF ?_
    clear hcF
    clear hK K
    refine wpAnyG.done (by as_aux_lemma=>kernel_rfl) (NoPanic.normal ?_)
    have KF:=(KA8.up (L':=[61,74]) (by simp)).trans K9
    go_wp2
    go_ret
    exact ⟨_,_,_,_,_,rfl,RS9,by rw [show (dD V r st c).1=[⟨rowT V r.t r.nt++[⟨(c:Nat),1⟩],r.hi-st⟩] by unfold dD;simp only [hlv,hhv,if_true,if_false,Bool.false_eq_true]];exact E9,by rw [show (dD V r st c).2=c+1 by unfold dD;simp only [hlv,hhv,if_true,if_false,Bool.false_eq_true]],by rw [hlv,hhv];rfl,KF⟩
  ·cases hhv0
   ·go_wp2_with fail
    clear z2' z6' Rb3
    have hlv:r.hlo=true:=HE.out.1
    have hhv:r.hhi=false:=HE.out.2
    have RS0:=RS.below (aK w3)
    have RB0:=A9.below (aK w3)
    have KC0:=dU (R:=R) (F:=F) (L:=[61]) (aK w3) (by omega)
    have KA0:=KA.bel (aK w3) (by omega)
    have hs0:w3.heap.size≤w3.drew.heap.size:=(aK w3).size
    have hcF:(w3.drew.cell? ⟨b9,0,none⟩=some (.bool f4)∧w3.drew.cell? ⟨b9,1,none⟩=some (.slice c4 n4 k4)∧w3.drew.cell? ⟨b9,2,none⟩=some (.slice d4 m4 l4)):=⟨(RB0.cell 0).trans rfl,(RB0.cell 1).trans rfl,(RB0.cell 2).trans rfl⟩
    have HF0:=hcF
    clear hcF
    refine wp_region_noPanic (bI (fun _ w'=>w'.cell? ⟨b9,0,none⟩=some (.bool f4)∧w'.cell? ⟨b9,1,none⟩=some (.slice c4 n4 k4)∧w'.cell? ⟨b9,2,none⟩=some (.slice d4 m4 l4)) (by as_aux_lemma=>kernel_rfl) ?_)
    have hc0:(w3.drew.cell? ⟨b9,0,none⟩=some (.bool f4)∧w3.drew.cell? ⟨b9,1,none⟩=some (.slice c4 n4 k4)∧w3.drew.cell? ⟨b9,2,none⟩=some (.slice d4 m4 l4)):=HF0
    generalize w3.drew=z0 at *
    refine wpAnyG.take 0 (v:=.pointer (some ⟨R,0,none⟩)) (by decide) (by as_aux_lemma=>kernel_rfl) (fun _ _ _ h=>h) 8 _ (by rfl) (fun _ _=>Iff.rfl) (fun _ _ _ h=>h) (by as_aux_lemma=>kernel_rfl) (by as_aux_lemma=>kernel_rfl) (by as_aux_lemma=>kernel_rfl) (by rfl) ?y0 ((fun _ h=>h) _ hc0) (by rfl) ?_
    case y0 =>
     rintro w' ⟨q0,q1,q2⟩
     simp only [lgA,lgZ]
     go_simp
    simp only [lgA,lgZ,Act.put,lsA,lsZ,lsS]
    refine wpAnyG.take 1 (v:=.agg #[.bool f4,.slice c4 n4 k4,.slice d4 m4 l4]) (by decide) (by as_aux_lemma=>kernel_rfl) (fun _ _ _ h=>h) 8 _ (by rfl) (fun _ _=>Iff.rfl) (fun _ _ _ h=>h) (by as_aux_lemma=>kernel_rfl) (by as_aux_lemma=>kernel_rfl) (by as_aux_lemma=>kernel_rfl) (by rfl) ?y1 ((fun _ h=>h) _ hc0) (by rfl) ?_
    case y1 =>
     rintro w' ⟨q0,q1,q2⟩
     simp only [lgA,lgZ,lgS]
     go_simp
    simp only [lgA,lgZ,lgS,Act.put,lsA,lsZ,lsS]
    refine wpAnyG.take 2 (v:=.slice wa wm wc) (by decide) (by as_aux_lemma=>kernel_rfl) (fun _ _ _ h=>h) 7 _ (by rfl) (fun _ _=>Iff.rfl) (fun _ _ _ h=>h) (by as_aux_lemma=>kernel_rfl) (by as_aux_lemma=>kernel_rfl) (by as_aux_lemma=>kernel_rfl) (by rfl) ?y2 ((fun _ h=>h) _ hc0) (by rfl) ?_
    case y2 =>
     rintro w' ⟨q0,q1,q2⟩
     simp only [lgA,lgZ,lgS]
     go_simp
    simp only [lgA,lgZ,lgS,Act.put,lsA,lsZ,lsS]
    refine wpAnyG.take 3 (v:=.pointer (some ⟨R,0,none⟩)) (by decide) (by as_aux_lemma=>kernel_rfl) (fun _ _ _ h=>h) 4 _ (by rfl) (fun _ _=>Iff.rfl) (fun _ _ _ h=>h) (by as_aux_lemma=>kernel_rfl) (by as_aux_lemma=>kernel_rfl) (by as_aux_lemma=>kernel_rfl) (by rfl) ?y3 ((fun _ h=>h) _ hc0) (by rfl) ?_
    case y3 =>
     rintro w' ⟨q0,q1,q2⟩
     simp only [lgA,lgZ,lgS]
     go_simp
    simp only [lgA,lgZ,lgS,Act.put,lsA,lsZ,lsS]
    refine wpAnyG.one 4 (by as_aux_lemma=>kernel_rfl) (by decide) (by rfl) (fun K hK=>?_)
    simp only [lgA,lgZ,lgS]
    go_simp
    refine (lN z0 RS0 (by omega)).mono ?_
    rintro e z1 ⟨rfl,RS1,ON1⟩
    have KC1:=KC0.off RS0 (by simp) ON1
    have KA1:=KA0.off RS0 (by simp) ON1
    have hs1:z1.heap.size=z0.heap.size:=ON1.size
    have RB1:=RB0.kxh ((Kx.refl R F [61] z0).off RS0 (by simp) ON1) (by decide)
    have hcF:(z1.cell? ⟨b9,0,none⟩=some (.bool f4)∧z1.cell? ⟨b9,1,none⟩=some (.slice c4 n4 k4)∧z1.cell? ⟨b9,2,none⟩=some (.slice d4 m4 l4)):=⟨(RB1.cell 0).trans rfl,(RB1.cell 1).trans rfl,(RB1.cell 2).trans rfl⟩
    have hc1:=hcF
    clear hcF
    dsimp only
    refine hK _ _ ((fun _ h=>h) _ hc1) ?_
    clear hK K
    refine wpAnyG.one 5 (by as_aux_lemma=>kernel_rfl) (by decide) (by rfl) (fun K hK=>?_)
    simp only [lgA,lgZ,lgS]
    go_simp
    refine (lessQ1 (c:Nat) z1).mono ?_
    rintro e z2 ⟨f5,c5,n5,k5,d5,m5,l5,rfl,G5,hk2⟩
    have KC2:=KC1.bel hk2 (by omega)
    have KA2:=KA1.bel hk2 (by omega)
    have hs2:=hk2.size
    have RS2:=RS1.below hk2
    have RB2:=RB1.below hk2
    have hcF:(z2.cell? ⟨b9,0,none⟩=some (.bool f4)∧z2.cell? ⟨b9,1,none⟩=some (.slice c4 n4 k4)∧z2.cell? ⟨b9,2,none⟩=some (.slice d4 m4 l4)):=⟨(RB2.cell 0).trans rfl,(RB2.cell 1).trans rfl,(RB2.cell 2).trans rfl⟩
    have hc2:=hcF
    clear hcF
    dsimp only
    refine hK _ _ ((fun _ h=>h) _ hc2) ?_
    clear hK K
    refine wpAnyG.one 6 (by as_aux_lemma=>kernel_rfl) (by decide) (by rfl) (fun K hK=>?_)
    simp only [lgA,lgZ,lgS]
    go_simp
    have KC7:=KC2.bel (aI z2 (.cells #[.int .i64 (c:Nat),.bool f5,.slice c5 n5 k5,.slice d5 m5 l5] 52)) (by omega)
    have KA7:=KA2.bel (aI z2 (.cells #[.int .i64 (c:Nat),.bool f5,.slice c5 n5 k5,.slice d5 m5 l5] 52)) (by omega)
    have RS7:=RS2.below (aI z2 (.cells #[.int .i64 (c:Nat),.bool f5,.slice c5 n5 k5,.slice d5 m5 l5] 52))
    have RB7:=RB2.below (aI z2 (.cells #[.int .i64 (c:Nat),.bool f5,.slice c5 n5 k5,.slice d5 m5 l5] 52))
    have BX:=aQ z2 #[.int .i64 (c:Nat),.bool f5,.slice c5 n5 k5,.slice d5 m5 l5] 52
    have hs7:(z2.alloc (.cells #[.int .i64 (c:Nat),.bool f5,.slice c5 n5 k5,.slice d5 m5 l5] 52)).heap.size=z2.heap.size+1:=by simp
    have G57:=((G5.mono (Nat.zero_le _)).below (aI z2 (.cells #[.int .i64 (c:Nat),.bool f5,.slice c5 n5 k5,.slice d5 m5 l5] 52))).le hS1
    have hcF:((z2.alloc (.cells #[.int .i64 (c:Nat),.bool f5,.slice c5 n5 k5,.slice d5 m5 l5] 52)).cell? ⟨b9,0,none⟩=some (.bool f4)∧(z2.alloc (.cells #[.int .i64 (c:Nat),.bool f5,.slice c5 n5 k5,.slice d5 m5 l5] 52)).cell? ⟨b9,1,none⟩=some (.slice c4 n4 k4)∧(z2.alloc (.cells #[.int .i64 (c:Nat),.bool f5,.slice c5 n5 k5,.slice d5 m5 l5] 52)).cell? ⟨b9,2,none⟩=some (.slice d4 m4 l4)):=⟨(RB7.cell 0).trans rfl,(RB7.cell 1).trans rfl,(RB7.cell 2).trans rfl⟩
    generalize z2.alloc (.cells #[.int .i64 (c:Nat),.bool f5,.slice c5 n5 k5,.slice d5 m5 l5] 52)=z7 at *
    refine hK _ _ hcF ?_
    clear hcF
    clear hK K
    refine wpAnyG.one 7 (by as_aux_lemma=>kernel_rfl) (by decide) (by rfl) (fun K hK=>?_)
    simp only [lgA,lgZ,lgS]
    obtain ⟨E,SLU,TE⟩:=TM3
    rw [← HWM.out] at SLU
    have SLZ:=SLU.kxh KC7 (by decide)
    refine dM z7 _ _ 53 52 4 64 rfl Tryz.underlying53 kJ (by decide) (by decide) w.heap.size (.slice wa wm wc) wm E rfl SLZ z2.heap.size 1 rfl [.int .i64 (c:Nat),.bool f5,.slice c5 n5 k5,.slice d5 m5 l5] rfl (fun u hu=>by simp at hu;rcases hu with rfl|rfl|rfl|rfl <;> rfl) BX (by omega) (by omega) _ rfl ?_
    intro g8 cap8 z8 SN hg hat hgl
    have hne:(.slice wa wm wc:Value).ownBlock≠some R:=SLZ.neR RS7 (by decide)
    have RS8:=RS7.kept hg hne
    have KB8:=(KC7.up (L':=[61,52]) (by simp)).grown SLZ (by simp) hF (by omega) hg
    have KG:=(Kx.refl R F [52] z7).grown SLZ (by simp) hF (by omega) hg
    have KA8:=KA7.fresh hg (fun i e=>(SLZ.lt i e).1) hF
    have RB8:=RB7.kxh KG (by decide)
    have TM8:TM z8 F (.slice (some ⟨g8,0,none⟩) (wm+1) cap8) (rowT V r.t r.nt++[⟨(c:Nat),((-1:Int):Rat)⟩]) S:=by
     refine TM.mono (B:=w.heap.size) (TM.app' (m:=wm) (q:=1) (D:=fun _=>[.int .i64 (c:Nat),.bool f5,.slice c5 n5 k5,.slice d5 m5 l5]) HWM.out rfl SN (fun i t ht=>(TE i t ht).kx KB8 (by decide)) (fun i t ht=>?_)) hF
     have:=(List.getElem?_eq_some_iff.1 ht).1
     obtain rfl:i=0:=by simp at this;omega
     simp at ht
     subst ht
     exact ⟨_,_,_,_,_,_,_,rfl,G57.kx KG (by decide)⟩
    have hs8:=hg.size
    have hcF:(z8.cell? ⟨b9,0,none⟩=some (.bool f4)∧z8.cell? ⟨b9,1,none⟩=some (.slice c4 n4 k4)∧z8.cell? ⟨b9,2,none⟩=some (.slice d4 m4 l4)):=⟨(RB8.cell 0).trans rfl,(RB8.cell 1).trans rfl,(RB8.cell 2).trans rfl⟩
    refine hK _ _ hcF ?_
    clear hcF
    clear hK K
    refine wpAnyG.one 8 (by as_aux_lemma=>kernel_rfl) (by decide) (by rfl) (fun K hK=>?_)
    simp only [lgA,lgZ,lgS]
    go_simp
    refine (tK z8 RS8 (hE.kx KA8 (by decide) (by decide) (by decide)) (by omega) (G4.kx KB8 (by decide)) TM8 (by omega)).mono ?_
    rintro e z9 ⟨rfl,ea',ec',RS9,E9,K9⟩
    have RB9:=RB8.kxh K9 (by decide)
    have hcF:(z9.cell? ⟨b9,0,none⟩=some (.bool f4)∧z9.cell? ⟨b9,1,none⟩=some (.slice c4 n4 k4)∧z9.cell? ⟨b9,2,none⟩=some (.slice d4 m4 l4)):=⟨(RB9.cell 0).trans rfl,(RB9.cell 1).trans rfl,(RB9.cell 2).trans rfl⟩
    dsimp only
    refine hK _ _ hcF ?_
    clear hcF
    clear hK K
    refine wpAnyG.done (by as_aux_lemma=>kernel_rfl) (NoPanic.normal ?_)
    have KF:=(KA8.up (L':=[61,74]) (by simp)).trans K9
    go_wp2
    go_ret
    exact ⟨_,_,_,_,_,rfl,RS9,by rw [show (dD V r st c).1=[⟨rowT V r.t r.nt++[⟨(c:Nat),-1⟩],r.lo-st⟩] by unfold dD;simp only [hlv,hhv,if_true,if_false,Bool.false_eq_true]];exact E9,by rw [show (dD V r st c).2=c+1 by unfold dD;simp only [hlv,hhv,if_true,if_false,Bool.false_eq_true]],by rw [hlv,hhv];rfl,KF⟩
   ·have a0:=(A9.cell 0).trans (show _=some (.bool f4) from rfl);have a1:=(A9.cell 1).trans (show _=some (.slice c4 n4 k4) from rfl);have a2x:=(A9.cell 2).trans (show _=some (.slice d4 m4 l4) from rfl)
    have b0:=(A10.cell 0).trans (show _=some (.bool f9) from rfl);have b1:=(A10.cell 1).trans (show _=some (.slice c9 n9 k9) from rfl);have b2:=(A10.cell 2).trans (show _=some (.slice d9 m9 l9) from rfl)
    go_wp2_with fail
    clear z2' z6' Rb3
    have hlv:r.hlo=true:=HE.out.1
    have hhv:r.hhi=true:=HE.out.2
    refine (cmpB _ w3 G4.tr G9.tr (by omega) hS1 hS1 rfl).mono ?_
    rintro e w3b ⟨rfl,hkc⟩
    have hb3b:=aF hb3 hkc
    replace RS:=RS.below hkc
    replace TM3:=TM3.below hkc
    replace A9:=A9.below hkc
    replace A10:=A10.below hkc
    replace G4:=G4.below hkc
    replace G9:=G9.below hkc
    replace KA:=KA.bel hkc (by omega)
    replace a0:=aG hkc a0;replace a1:=aG hkc a1;replace a2x:=aG hkc a2x;replace b0:=aG hkc b0;replace b1:=aG hkc b1;replace b2:=aG hkc b2
    have hs3b:=hkc.size
    clear hkc
    by_cases hce:cs (r.lo-st) (r.hi-st)=0
    ·go_wp2_with fail
     refine (tK w3b RS (hE.kx KA (by decide) (by decide) (by decide)) (by omega) G4 (TM3.mono hF) (by omega)).mono ?_
     rintro e z9 ⟨rfl,ea',ec',RS9,E9,K9⟩
     have KF:=(KA.up (L':=[61,74]) (by simp)).trans K9
     clear a0 a1 a2x b0 b1 b2
     go_wp2
     go_ret
     exact ⟨_,_,_,_,_,rfl,RS9,by rw [show (dD V r st c).1=[⟨rowT V r.t r.nt,r.lo-st⟩] by unfold dD;simp only [hlv,hhv,if_true];rw [if_pos (jQ.1 hce)]];exact E9,by rw [show (dD V r st c).2=c by unfold dD;simp only [hlv,hhv,if_true];rw [if_pos (jQ.1 hce)]],by rw [hlv,hhv];rfl,KF⟩
    ·clear a0 a1 a2x b0 b1 b2
     go_wp2_with fail
     refine (lN w3b RS (by omega)).mono ?_
     rintro e w3c ⟨rfl,RSc,ONc⟩
     have K3c:=(Kx.refl R F [61] w3b).off RS (by simp) ONc
     have KAc:=KA.off RS (by simp) ONc
     have A9c:=A9.kxh K3c (by decide)
     have A10c:=A10.kxh K3c (by decide)
     have G4c:=G4.kx K3c (by decide)
     have G9c:=G9.kx K3c (by decide)
     have TM3c:=TM3.kx K3c (by decide) (by decide)
     have hs3c:w3c.heap.size=w3b.heap.size:=ONc.size
     clear RS KA A9 A10 G4 G9 TM3 K3c ONc
     have RS:=RSc;have KA:=KAc;have A9:=A9c;have A10:=A10c;have G4:=G4c;have G9:=G9c;have TM3:=TM3c
     clear RSc KAc A9c A10c G4c G9c TM3c
     go_wp2_with fail
     have RS0:=RS.below (aK w3c)
     have RB0:=A9.below (aK w3c)
     have KC0:=dU (R:=R) (F:=F) (L:=[61]) (aK w3c) (by omega)
     have KA0:=KA.bel (aK w3c) (by omega)
     have hs0:w3c.heap.size≤w3c.drew.heap.size:=(aK w3c).size
     have hcF:(w3c.drew.cell? ⟨b9,0,none⟩=some (.bool f4)∧w3c.drew.cell? ⟨b9,1,none⟩=some (.slice c4 n4 k4)∧w3c.drew.cell? ⟨b9,2,none⟩=some (.slice d4 m4 l4)):=⟨(RB0.cell 0).trans rfl,(RB0.cell 1).trans rfl,(RB0.cell 2).trans rfl⟩
     have HF0:=hcF
     clear hcF
     refine wp_region_noPanic (bI (fun _ w'=>w'.cell? ⟨b9,0,none⟩=some (.bool f4)∧w'.cell? ⟨b9,1,none⟩=some (.slice c4 n4 k4)∧w'.cell? ⟨b9,2,none⟩=some (.slice d4 m4 l4)) (by as_aux_lemma=>kernel_rfl) ?_)
     have hc0:(w3c.drew.cell? ⟨b9,0,none⟩=some (.bool f4)∧w3c.drew.cell? ⟨b9,1,none⟩=some (.slice c4 n4 k4)∧w3c.drew.cell? ⟨b9,2,none⟩=some (.slice d4 m4 l4)):=HF0
     generalize w3c.drew=z0 at *
     refine wpAnyG.take 0 (v:=.pointer (some ⟨R,0,none⟩)) (by decide) (by as_aux_lemma=>kernel_rfl) (fun _ _ _ h=>h) 7 _ (by rfl) (fun _ _=>Iff.rfl) (fun _ _ _ h=>h) (by as_aux_lemma=>kernel_rfl) (by as_aux_lemma=>kernel_rfl) (by as_aux_lemma=>kernel_rfl) (by rfl) ?y0 ((fun _ h=>h) _ hc0) (by rfl) ?_
     case y0 =>
      rintro w' ⟨q0,q1,q2⟩
      simp only [lgA,lgZ]
      go_simp
     simp only [lgA,lgZ,Act.put,lsA,lsZ,lsS]
     refine wpAnyG.take 1 (v:=.agg #[.bool f4,.slice c4 n4 k4,.slice d4 m4 l4]) (by decide) (by as_aux_lemma=>kernel_rfl) (fun _ _ _ h=>h) 7 _ (by rfl) (fun _ _=>Iff.rfl) (fun _ _ _ h=>h) (by as_aux_lemma=>kernel_rfl) (by as_aux_lemma=>kernel_rfl) (by as_aux_lemma=>kernel_rfl) (by rfl) ?y1 ((fun _ h=>h) _ hc0) (by rfl) ?_
     case y1 =>
      rintro w' ⟨q0,q1,q2⟩
      simp only [lgA,lgZ,lgS]
      go_simp
     simp only [lgA,lgZ,lgS,Act.put,lsA,lsZ,lsS]
     refine wpAnyG.take 2 (v:=.slice wa wm wc) (by decide) (by as_aux_lemma=>kernel_rfl) (fun _ _ _ h=>h) 6 _ (by rfl) (fun _ _=>Iff.rfl) (fun _ _ _ h=>h) (by as_aux_lemma=>kernel_rfl) (by as_aux_lemma=>kernel_rfl) (by as_aux_lemma=>kernel_rfl) (by rfl) ?y2 ((fun _ h=>h) _ hc0) (by rfl) ?_
     case y2 =>
      rintro w' ⟨q0,q1,q2⟩
      simp only [lgA,lgZ,lgS]
      go_simp
     simp only [lgA,lgZ,lgS,Act.put,lsA,lsZ,lsS]
     refine wpAnyG.take 3 (v:=.int .i64 (c:Nat)) (by decide) (by as_aux_lemma=>kernel_rfl) (fun _ _ _ h=>h) 4 _ (by rfl) (fun _ _=>Iff.rfl) (fun _ _ _ h=>h) (by as_aux_lemma=>kernel_rfl) (by as_aux_lemma=>kernel_rfl) (by as_aux_lemma=>kernel_rfl) (by rfl) ?y3 ((fun _ h=>h) _ hc0) (by rfl) ?_
     case y3 =>
      rintro w' ⟨q0,q1,q2⟩
      simp only [lgA,lgZ,lgS]
      go_simp
     simp only [lgA,lgZ,lgS,Act.put,lsA,lsZ,lsS]
     refine wpAnyG.one 4 (by as_aux_lemma=>kernel_rfl) (by decide) (by rfl) (fun K hK=>?_)
     simp only [lgA,lgZ,lgS]
     go_simp
     refine (lessQ1 (c:Nat) z0).mono ?_
     rintro e z1 ⟨f5,c5,n5,k5,d5,m5,l5,rfl,G5,hk1⟩
     have KC1:=KC0.bel hk1 (by omega)
     have KA1:=KA0.bel hk1 (by omega)
     have hs1:=hk1.size
     have RS1:=RS0.below hk1
     have RB1:=RB0.below hk1
     have hcF:(z1.cell? ⟨b9,0,none⟩=some (.bool f4)∧z1.cell? ⟨b9,1,none⟩=some (.slice c4 n4 k4)∧z1.cell? ⟨b9,2,none⟩=some (.slice d4 m4 l4)):=⟨(RB1.cell 0).trans rfl,(RB1.cell 1).trans rfl,(RB1.cell 2).trans rfl⟩
     have hc1:=hcF
     clear hcF
     dsimp only
     refine hK _ _ ((fun _ h=>h) _ hc1) ?_
     clear hK K
     refine wpAnyG.one 5 (by as_aux_lemma=>kernel_rfl) (by decide) (by rfl) (fun K hK=>?_)
     simp only [lgA,lgZ,lgS]
     go_simp
     have KC7:=KC1.bel (aI z1 (.cells #[.int .i64 (c:Nat),.bool f5,.slice c5 n5 k5,.slice d5 m5 l5] 52)) (by omega)
     have KA7:=KA1.bel (aI z1 (.cells #[.int .i64 (c:Nat),.bool f5,.slice c5 n5 k5,.slice d5 m5 l5] 52)) (by omega)
     have RS7:=RS1.below (aI z1 (.cells #[.int .i64 (c:Nat),.bool f5,.slice c5 n5 k5,.slice d5 m5 l5] 52))
     have RB7:=RB1.below (aI z1 (.cells #[.int .i64 (c:Nat),.bool f5,.slice c5 n5 k5,.slice d5 m5 l5] 52))
     have BX:=aQ z1 #[.int .i64 (c:Nat),.bool f5,.slice c5 n5 k5,.slice d5 m5 l5] 52
     have hs7:(z1.alloc (.cells #[.int .i64 (c:Nat),.bool f5,.slice c5 n5 k5,.slice d5 m5 l5] 52)).heap.size=z1.heap.size+1:=by simp
     have G57:=((G5.mono (Nat.zero_le _)).below (aI z1 (.cells #[.int .i64 (c:Nat),.bool f5,.slice c5 n5 k5,.slice d5 m5 l5] 52))).le hS1
     have hcF:((z1.alloc (.cells #[.int .i64 (c:Nat),.bool f5,.slice c5 n5 k5,.slice d5 m5 l5] 52)).cell? ⟨b9,0,none⟩=some (.bool f4)∧(z1.alloc (.cells #[.int .i64 (c:Nat),.bool f5,.slice c5 n5 k5,.slice d5 m5 l5] 52)).cell? ⟨b9,1,none⟩=some (.slice c4 n4 k4)∧(z1.alloc (.cells #[.int .i64 (c:Nat),.bool f5,.slice c5 n5 k5,.slice d5 m5 l5] 52)).cell? ⟨b9,2,none⟩=some (.slice d4 m4 l4)):=⟨(RB7.cell 0).trans rfl,(RB7.cell 1).trans rfl,(RB7.cell 2).trans rfl⟩
     generalize z1.alloc (.cells #[.int .i64 (c:Nat),.bool f5,.slice c5 n5 k5,.slice d5 m5 l5] 52)=z7 at *
     refine hK _ _ hcF ?_
     clear hcF
     clear hK K
     refine wpAnyG.one 6 (by as_aux_lemma=>kernel_rfl) (by decide) (by rfl) (fun K hK=>?_)
     simp only [lgA,lgZ,lgS]
     obtain ⟨E,SLU,TE⟩:=TM3
     rw [← HWM.out] at SLU
     have SLZ:=SLU.kxh KC7 (by decide)
     refine dM z7 _ _ 53 52 4 64 rfl Tryz.underlying53 kJ (by decide) (by decide) w.heap.size (.slice wa wm wc) wm E rfl SLZ z1.heap.size 1 rfl [.int .i64 (c:Nat),.bool f5,.slice c5 n5 k5,.slice d5 m5 l5] rfl (fun u hu=>by simp at hu;rcases hu with rfl|rfl|rfl|rfl <;> rfl) BX (by omega) (by omega) _ rfl ?_
     intro g8 cap8 z8 SN hg hat hgl
     have hne:(.slice wa wm wc:Value).ownBlock≠some R:=SLZ.neR RS7 (by decide)
     have RS8:=RS7.kept hg hne
     have KB8:=(KC7.up (L':=[61,52]) (by simp)).grown SLZ (by simp) hF (by omega) hg
     have KG:=(Kx.refl R F [52] z7).grown SLZ (by simp) hF (by omega) hg
     have KA8:=KA7.fresh hg (fun i e=>(SLZ.lt i e).1) hF
     have RB8:=RB7.kxh KG (by decide)
     have TM8:TM z8 F (.slice (some ⟨g8,0,none⟩) (wm+1) cap8) (rowT V r.t r.nt++[⟨(c:Nat),((-1:Int):Rat)⟩]) S:=by
      refine TM.mono (B:=w.heap.size) (TM.app' (m:=wm) (q:=1) (D:=fun _=>[.int .i64 (c:Nat),.bool f5,.slice c5 n5 k5,.slice d5 m5 l5]) HWM.out rfl SN (fun i t ht=>(TE i t ht).kx KB8 (by decide)) (fun i t ht=>?_)) hF
      have:=(List.getElem?_eq_some_iff.1 ht).1
      obtain rfl:i=0:=by simp at this;omega
      simp at ht
      subst ht
      exact ⟨_,_,_,_,_,_,_,rfl,G57.kx KG (by decide)⟩
     have hs8:=hg.size
     have hcF:(z8.cell? ⟨b9,0,none⟩=some (.bool f4)∧z8.cell? ⟨b9,1,none⟩=some (.slice c4 n4 k4)∧z8.cell? ⟨b9,2,none⟩=some (.slice d4 m4 l4)):=⟨(RB8.cell 0).trans rfl,(RB8.cell 1).trans rfl,(RB8.cell 2).trans rfl⟩
     refine hK _ _ hcF ?_
     clear hcF
     clear hK K
     refine wpAnyG.one 7 (by as_aux_lemma=>kernel_rfl) (by decide) (by rfl) (fun K hK=>?_)
     simp only [lgA,lgZ,lgS]
     go_simp
     refine (tK z8 RS8 (hE.kx KA8 (by decide) (by decide) (by decide)) (by omega) (G4.kx KB8 (by decide)) TM8 (by omega)).mono ?_
     rintro e z9 ⟨rfl,ea',ec',RS9,E9,K9⟩
     have RB9:=RB8.kxh K9 (by decide)
     have hcF:(z9.cell? ⟨b9,0,none⟩=some (.bool f4)∧z9.cell? ⟨b9,1,none⟩=some (.slice c4 n4 k4)∧z9.cell? ⟨b9,2,none⟩=some (.slice d4 m4 l4)):=⟨(RB9.cell 0).trans rfl,(RB9.cell 1).trans rfl,(RB9.cell 2).trans rfl⟩
     dsimp only
     refine hK _ _ hcF ?_
     clear hcF
     clear hK K
     refine wpAnyG.done (by as_aux_lemma=>kernel_rfl) (NoPanic.normal ?_)
     have KF:=(KA8.up (L':=[61,74]) (by simp)).trans K9
     have KB9:=KB8.up (L':=[61,52,74]) (by simp) |>.trans (K9.up (by simp))
     have A9n:=A9.kxh KB9 (by decide)
     have A10n:=A10.kxh KB9 (by decide)
     have G4n:=G4.kx KB9 (by decide)
     have G9n:=G9.kx KB9 (by decide)
     have a0:=(A9n.cell 0).trans (show _=some (.bool f4) from rfl);have a1:=(A9n.cell 1).trans (show _=some (.slice c4 n4 k4) from rfl);have a2x:=(A9n.cell 2).trans (show _=some (.slice d4 m4 l4) from rfl)
     have b0:=(A10n.cell 0).trans (show _=some (.bool f9) from rfl);have b1:=(A10n.cell 1).trans (show _=some (.slice c9 n9 k9) from rfl);have b2:=(A10n.cell 2).trans (show _=some (.slice d9 m9 l9) from rfl)
     have hs9:=K9.size
     have hT9:=(hT.kx KF hTR hTR2)
     go_wp2_with fail
     clear a0 a1 a2x b0 b1 b2
     refine (addWidQ c z9 RS9 E9 (by omega) G4n G9n ⟨hS1,hS7⟩ HZW.out hS1 (by omega) (by omega) hT9).mono ?_
     rintro e z10 ⟨rfl,ea2,ec2,RS10,E10,K10⟩
     have KF2:=KF.trans K10
     go_wp2
     go_ret
     exact ⟨_,_,_,_,_,rfl,RS10,by rw [show (dD V r st c).1=[⟨rowT V r.t r.nt++[⟨(c:Nat),-1⟩],r.lo-st⟩]++[⟨[⟨(c:Nat),1⟩,⟨((c+1:Nat):Int),1⟩],(r.hi-st)-(r.lo-st)⟩] by unfold dD;simp only [hlv,hhv,if_true];rw [if_neg (fun e=>hce (jQ.2 e))];rfl,← List.append_assoc];exact E10,by rw [show (dD V r st c).2=c+2 by unfold dD;simp only [hlv,hhv,if_true];rw [if_neg (fun e=>hce (jQ.2 e))]],by rw [hlv,hhv];rfl,KF2⟩
end Go.Proofs.YtmeimjakdheidaaGreatDoor
