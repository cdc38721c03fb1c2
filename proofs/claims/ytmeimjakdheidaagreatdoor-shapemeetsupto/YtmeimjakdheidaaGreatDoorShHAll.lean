import Derived.Test.YtmeimjakdheidaaGreatDoorShG
set_option maxRecDepth 100000
set_option maxHeartbeats 8000000
namespace Go.Proofs.YtmeimjakdheidaaGreatDoor
open Go.RowKit
theorem trmI:(Tryz.prog.info? 52).map (·.size)=some 4:=by kernel_rfl
theorem infEqn:Inf 74 4 80:=kH (by kernel_rfl)
theorem onceQ (i:Int) (w:World) :
 Calls Tryz.prog 54 #[.int .i64 i] w fun e w'=>∃ f c n k c' n' k',e = .returned (.agg #[.int .i64 i,.bool f,.slice c n k,.slice c' n' k'])∧GR w' w.heap.size f c n k c' n' k' ((1:Int):Rat) 1∧Below w.heap.size w w':=by
 have R0:=Rw.new 52 w #[.int .i64 0,.bool false,.slice none 0 0,.slice none 0 0]
 have hb0:=aI w (.cells #[.int .i64 0,.bool false,.slice none 0 0,.slice none 0 0] 52)
 have hs0:(w.alloc (.cells #[.int .i64 0,.bool false,.slice none 0 0,.slice none 0 0] 52)).heap.size=w.heap.size+1:=by simp
 go_enter Tryz.func54,Tryz.ntmps54
 go_wp2_with fail
 generalize w.alloc (.cells #[.int .i64 0,.bool false,.slice none 0 0,.slice none 0 0] 52)=W0 at *
 refine (ofQ (1) W0 (by decide) (by decide)).mono ?_
 rintro e w1 ⟨f1,c1,n1,k1,d1,m1,l1,rfl,G1,hx⟩
 replace R0:=R0.below hx
 replace hb0:=aF hb0 hx
 have hs1:=Below.size hx
 clear hx
 go_wp2_with (refine R0.put #[.int .i64 i,.bool f1,.slice c1 n1 k1,.slice d1 m1 l1] rfl _ _ rfl rfl rfl trmI rfl (by simp [Value.oneCell']) ?_)
 intro w2 R2 O
 have GF:=(G1.off O (by omega)).mono (B':=w.heap.size) (by omega)
 have hw:=hb0.trans (O.below (by omega))
 clear R0 O G1 hb0
 go_wp2
 refine bodyPost_ret (v:=.agg #[.int .i64 i,.bool f1,.slice c1 n1 k1,.slice d1 m1 l1]) (Rw.ret1 Tryz.results54 _ R2 rfl Tryz.underlying52 trmI) rfl ?_
 exact ⟨_,_,_,_,_,_,_,rfl,GF,hw⟩
theorem lessQ1 (i:Int) (w:World) :
 Calls Tryz.prog 55 #[.int .i64 i] w fun e w'=>∃ f c n k c' n' k',e = .returned (.agg #[.int .i64 i,.bool f,.slice c n k,.slice c' n' k'])∧GR w' w.heap.size f c n k c' n' k' ((-1:Int):Rat) 1∧Below w.heap.size w w':=by
 have R0:=Rw.new 52 w #[.int .i64 0,.bool false,.slice none 0 0,.slice none 0 0]
 have hb0:=aI w (.cells #[.int .i64 0,.bool false,.slice none 0 0,.slice none 0 0] 52)
 have hs0:(w.alloc (.cells #[.int .i64 0,.bool false,.slice none 0 0,.slice none 0 0] 52)).heap.size=w.heap.size+1:=by simp
 go_enter Tryz.func55,Tryz.ntmps55
 go_wp2_with fail
 generalize w.alloc (.cells #[.int .i64 0,.bool false,.slice none 0 0,.slice none 0 0] 52)=W0 at *
 refine (ofQ (-1) W0 (by decide) (by decide)).mono ?_
 rintro e w1 ⟨f1,c1,n1,k1,d1,m1,l1,rfl,G1,hx⟩
 replace R0:=R0.below hx
 replace hb0:=aF hb0 hx
 have hs1:=Below.size hx
 clear hx
 go_wp2_with (refine R0.put #[.int .i64 i,.bool f1,.slice c1 n1 k1,.slice d1 m1 l1] rfl _ _ rfl rfl rfl trmI rfl (by simp [Value.oneCell']) ?_)
 intro w2 R2 O
 have GF:=(G1.off O (by omega)).mono (B':=w.heap.size) (by omega)
 have hw:=hb0.trans (O.below (by omega))
 clear R0 O G1 hb0
 go_wp2
 refine bodyPost_ret (v:=.agg #[.int .i64 i,.bool f1,.slice c1 n1 k1,.slice d1 m1 l1]) (Rw.ret1 Tryz.results55 _ R2 rfl Tryz.underlying52 trmI) rfl ?_
 exact ⟨_,_,_,_,_,_,_,rfl,GF,hw⟩
theorem EM.len {w:World} {B:Nat} {a:Option Addr} {m cap:Nat} {l:List Eqn} {S:Nat} (h:EM w B (.slice a m cap) l S):m=l.length:=by
 obtain ⟨a',c',e,_⟩:=h.form
 simp only [Value.slice.injEq] at e
 exact e.2.1
theorem EM.snoc {w:World} {B:Nat} {v:Value} {l:List Eqn} {S m:Nat} {E:Nat→List Value} {cs:List Value} {e:Eqn} (hm:m=l.length) (h:SL w B 74 4 v (m+1) (fun i=>if i<m then E i else cs)) (hE:∀ i e,l[i]? = some e→EC w B (E i) e S) (hc:EC w B cs e S):EM w B v (l++[e]) S:=by
 subst hm
 refine ⟨_,by rw [List.length_append];exact h,fun i t ht=>?_⟩
 by_cases hi:i<l.length
 ·rw [List.getElem?_append_left hi] at ht
  simp only [hi,if_true]
  exact hE i t ht
 ·rw [List.getElem?_append_right (by omega)] at ht
  have:=(List.getElem?_eq_some_iff.1 ht).1
  have e0:i-l.length=0:=by simp at this;omega
  rw [e0] at ht
  simp at ht
  subst ht
  simp only [hi,if_false]
  exact hc
theorem tK {p:Bool} {a:Option Addr} {na ca:Nat} {d:Option Addr} {nd cd:Nat} {r:Rat} {R F S:Nat} {a0' a1' a2' a3' a4' c6' a7':Value} {ea:Option Addr} {em ec:Nat} {ta:Option Addr} {tm tc:Nat} {l:List Eqn} {tl:List PT} (w:World) (hr:Rw 61 w R #[a0',a1',a2',a3',a4',.slice ea em ec,c6',a7']) (hE:EM w F (.slice ea em ec) l S) (hF:F≤w.heap.size) (hgr:GR w 0 p a na ca d nd cd r S) (ht:TM w F (.slice ta tm tc) tl S) (hl:em≤100000000) :
 Calls Tryz.prog 53 #[.pointer (some ⟨R,0,none⟩),.agg #[.bool p,.slice a na ca,.slice d nd cd],.slice ta tm tc] w fun e w'=>e = .returned (.tuple #[])∧∃ ea' ec',Rw 61 w' R #[a0',a1',a2',a3',a4',.slice ea' (em+1) ec',c6',a7']∧EM w' F (.slice ea' (em+1) ec') (l++[⟨tl,r⟩]) S∧Kx R F [61,74] w w':=by
 have HL:Hid (em=l.length):=hE.len
 have BU:=aQ w #[.bool p,.slice a na ca,.slice d nd cd] 27
 have hb0:=aI w (.cells #[.bool p,.slice a na ca,.slice d nd cd] 27)
 have hs0:(w.alloc (.cells #[.bool p,.slice a na ca,.slice d nd cd] 27)).heap.size=w.heap.size+1:=by simp
 have hRl:=hr.lt
 have RU:=hr.below hb0
 obtain ⟨E,SLU,TE⟩:=hE
 rw [← HL.out] at SLU
 have hbF:(.slice ea em ec:Value).ownBlock≠some w.heap.size:=fun e=>by have:=(SLU.lt _ e).2;omega
 replace SLU:=SLU.below hb0
 go_enter Tryz.func53,Tryz.ntmps53
 go_wp2_with fail
 generalize w.alloc (.cells #[.bool p,.slice a na ca,.slice d nd cd] 27)=W0 at *
 have HBX:∀ w',Below W0.heap.size W0 w'→(w'.cell? ⟨R,5,none⟩=some (.slice ea em ec)∧w'.cell? ⟨w.heap.size,0,none⟩=some (.bool p)∧w'.cell? ⟨w.heap.size,1,none⟩=some (.slice a na ca)∧w'.cell? ⟨w.heap.size,2,none⟩=some (.slice d nd cd)):=fun w' h=>⟨aG h ((RU.cell 5).trans rfl),aG h (BU 0 _ rfl),aG h (BU 1 _ rfl),aG h (BU 2 _ rfl)⟩
 refine wp_region_noPanic (aS 10 HBX (by as_aux_lemma=>kernel_rfl) ?_)
 have hc0:Below W0.heap.size W0 W0.drew:=aK _
 generalize W0.drew=z0 at *
 refine wpAnyG.tT 0 (v:=.pointer (some ⟨R,0,none⟩)) (by decide) 10 (by as_aux_lemma=>kernel_rfl) (by rfl) ?y0 (HBX _ hc0) ?_
 case y0 =>
  rintro w' ⟨q0,q1,q2,q3⟩
  simp only [lgA,lgZ]
  go_simp
 simp only [lgA,lgZ,Act.put,lsA,lsZ,lsS]
 refine wpAnyG.tT 1 (v:=.pointer (some ⟨R,0,none⟩)) (by decide) 10 (by as_aux_lemma=>kernel_rfl) (by rfl) ?y1 (HBX _ hc0) ?_
 case y1 =>
  rintro w' ⟨q0,q1,q2,q3⟩
  simp only [lgA,lgZ,lgS]
  go_simp
 simp only [lgA,lgZ,lgS,Act.put,lsA,lsZ,lsS]
 refine wpAnyG.tT 2 (v:=.pointer (some ⟨R,0,none⟩)) (by decide) 10 (by as_aux_lemma=>kernel_rfl) (by rfl) ?y2 (HBX _ hc0) ?_
 case y2 =>
  rintro w' ⟨q0,q1,q2,q3⟩
  simp only [lgA,lgZ,lgS]
  go_simp
 simp only [lgA,lgZ,lgS,Act.put,lsA,lsZ,lsS]
 refine wpAnyG.tT 3 (v:=.pointer (some ⟨R,5,none⟩)) (by decide) 10 (by as_aux_lemma=>kernel_rfl) (by rfl) ?y3 (HBX _ hc0) ?_
 case y3 =>
  rintro w' ⟨q0,q1,q2,q3⟩
  simp only [lgA,lgZ,lgS]
  go_simp
 simp only [lgA,lgZ,lgS,Act.put,lsA,lsZ,lsS]
 refine wpAnyG.tT 4 (v:=.slice ea em ec) (by decide) 10 (by as_aux_lemma=>kernel_rfl) (by rfl) ?y4 (HBX _ hc0) ?_
 case y4 =>
  rintro w' ⟨q0,q1,q2,q3⟩
  simp only [lgA,lgZ,lgS]
  go_simp
 simp only [lgA,lgZ,lgS,Act.put,lsA,lsZ,lsS]
 refine wpAnyG.tT 5 (v:=.slice ta tm tc) (by decide) 10 (by as_aux_lemma=>kernel_rfl) (by rfl) ?y5 (HBX _ hc0) ?_
 case y5 =>
  rintro w' ⟨q0,q1,q2,q3⟩
  simp only [lgA,lgZ,lgS]
  go_simp
 simp only [lgA,lgZ,lgS,Act.put,lsA,lsZ,lsS]
 refine wpAnyG.tT 6 (v:=.agg #[.bool p,.slice a na ca,.slice d nd cd]) (by decide) 10 (by as_aux_lemma=>kernel_rfl) (by rfl) ?y6 (HBX _ hc0) ?_
 case y6 =>
  rintro w' ⟨q0,q1,q2,q3⟩
  simp only [lgA,lgZ,lgS]
  go_simp
 simp only [lgA,lgZ,lgS,Act.put,lsA,lsZ,lsS]
 refine wpAnyG.tT 7 (v:=.agg #[.slice ta tm tc,.bool p,.slice a na ca,.slice d nd cd]) (by decide) 10 (by as_aux_lemma=>kernel_rfl) (by rfl) ?y7 (HBX _ hc0) ?_
 case y7 =>
  rintro w' ⟨q0,q1,q2,q3⟩
  simp only [lgA,lgZ,lgS]
  go_simp
 simp only [lgA,lgZ,lgS,Act.put,lsA,lsZ,lsS]
 refine wpAnyG.one 8 (by as_aux_lemma=>kernel_rfl) (by decide) (by rfl) (fun K hK=>?_)
 simp only [lgA,lgZ,lgS]
 go_simp
 have hy:Below W0.heap.size W0 (z0.alloc (.cells #[.slice ta tm tc,.bool p,.slice a na ca,.slice d nd cd] 74)):=fB hc0
 have BX:=aQ z0 #[.slice ta tm tc,.bool p,.slice a na ca,.slice d nd cd] 74
 have hs4:(z0.alloc (.cells #[.slice ta tm tc,.bool p,.slice a na ca,.slice d nd cd] 74)).heap.size=z0.heap.size+1:=by simp
 generalize z0.alloc (.cells #[.slice ta tm tc,.bool p,.slice a na ca,.slice d nd cd] 74)=z5 at *
 refine hK _ _ ⟨fun _=>HBX _ hy,fun _=>trivial⟩ ?_
 clear hK K
 refine wpAnyG.one 9 (by as_aux_lemma=>kernel_rfl) (by decide) (by rfl) (fun K hK=>?_)
 simp only [lgA,lgZ,lgS]
 have SLZ:=SLU.below hy
 have RZ:=RU.below hy
 have hsy:=hy.size
 refine dM z5 _ _ 58 74 4 80 rfl Tryz.underlying58 infEqn (by decide) (by decide) F (.slice ea em ec) em E rfl SLZ z0.heap.size 1 rfl [.slice ta tm tc,.bool p,.slice a na ca,.slice d nd cd] rfl (fun u hu=>by simp at hu;rcases hu with rfl|rfl|rfl|rfl <;> rfl) BX (by omega) (by omega) _ rfl ?_
 intro g6 cap6 w6 SN hg hat hgl
 have hne:(.slice ea em ec:Value).ownBlock≠some R:=SLZ.neR RZ (by decide)
 have RZ6:=RZ.kept hg hne
 have KG:=(Kx.refl R F [61,74] z5).grown SLZ (by simp) (Nat.le_refl F) (by omega) hg
 have e0:=(RZ6.cell 5).trans (show _=some (.slice ea em ec) from rfl)
 have e1:=RZ6.frozen 5
 have eb:w6.heap[w.heap.size]? = z5.heap[w.heap.size]?:=hg.block _ (by omega) (fun e=>hbF e.symm)
 refine hK _ _ ⟨fun _=>⟨e0,(World.cell?_of_block (w:=z5) eb).trans (aG hy (BU 0 _ rfl)),(World.cell?_of_block (w:=z5) eb).trans (aG hy (BU 1 _ rfl)),(World.cell?_of_block (w:=z5) eb).trans (aG hy (BU 2 _ rfl))⟩,fun _=>trivial⟩ ?_
 clear hK K
 refine wpAnyG.one 10 (by as_aux_lemma=>kernel_rfl) (by decide) (by rfl) (fun K hK=>?_)
 simp only [lgA,lgZ,lgS]
 go_simp
 refine hK _ _ ⟨fun h=>absurd h (by decide),fun _=>trivial⟩ ?_
 clear hK K
 refine wpAnyG.one 11 (by as_aux_lemma=>kernel_rfl) (by decide) (by rfl) (fun K hK=>?_)
 simp only [lgA,lgZ,lgS]
 go_simp
 refine hK _ _ ⟨fun h=>absurd h (by decide),fun _=>trivial⟩ ?_
 clear hK K
 refine wpAnyG.one 12 (by as_aux_lemma=>kernel_rfl) (by decide) (by rfl) (fun K hK=>?_)
 simp only [lgA,lgZ,lgS]
 go_simp
 refine hK _ _ ⟨fun h=>absurd h (by decide),fun _=>trivial⟩ ?_
 clear hK K
 refine wpAnyG.done (by as_aux_lemma=>kernel_rfl) (NoPanic.normal ?_)
 obtain ⟨RN,ON⟩:=RZ6.set 5 (.slice (some ⟨g6,0,none⟩) (em+1) cap6)
 replace RN:Rw 61 (w6.setCell ⟨R,5,none⟩ (.slice (some ⟨g6,0,none⟩) (em+1) cap6)) R #[a0',a1',a2',a3',a4',.slice (some ⟨g6,0,none⟩) (em+1) cap6,c6',a7']:=by simpa using RN
 have KL:=KG.off RZ6 (by simp) ON
 have K0:Kx R F [61,74] w z5:=(dU (R:=R) (F:=F) (L:=[61,74]) hb0 hF).bel hy (by omega)
 have KN:=K0.trans KL
 have SNN:=SN.kxh ((Kx.refl R F [61] w6).off RZ6 (by simp) ON) (by decide)
 have EN:EM (w6.setCell ⟨R,5,none⟩ (.slice (some ⟨g6,0,none⟩) (em+1) cap6)) F (.slice (some ⟨g6,0,none⟩) (em+1) cap6) (l++[⟨tl,r⟩]) S:=EM.snoc HL.out SNN (fun i e he=>(TE i e he).kx KN (by decide) (by decide)) ⟨_,_,_,_,_,_,_,_,rfl,ht.kx KN (by decide) (by decide),hgr.kx KN (by decide)⟩
 clear RZ RZ6 KG e0 e1 eb ON KL SNN SN hg hat hgl hne SLZ BX HBX hc0 hy SLU BU RU TE K0
 generalize w6.setCell ⟨R,5,none⟩ (.slice (some ⟨g6,0,none⟩) (em+1) cap6)=w7 at *
 go_wp2
 go_end0
 exact ⟨rfl,_,_,RN,EN,KN⟩
theorem SL.newL {w:World} {T:TypeId} {c h n F:Nat} {cs:Array Value} (hr:Rw T w h cs) (hs:cs.size=n*c) (hn:n≤1000) (hF:F≤h):SL w F T c (.slice (some ⟨h,0,none⟩) n n) n (fun i=>(cs.toList.drop (i*c)).take c):=by
 refine ⟨cs.toList,⟨by simpa using hs,.inr ⟨h,n,cs,rfl,hF,hr,Nat.le_refl _,by unfold maxLen;omega,hs,by rw [← hs,← Array.length_toList,List.take_length]⟩⟩,fun i hi j u hu=>?_⟩
 simp only [List.getElem?_take,List.getElem?_drop] at hu
 split at hu
 ·exact ⟨by assumption,hu⟩
 ·cases hu
theorem TM.two {w:World} {h F S:Nat} {i j:Int} {p:Bool} {a:Option Addr} {na ca:Nat} {d:Option Addr} {nd cd:Nat} {r:Rat} {p':Bool} {a':Option Addr} {na' ca':Nat} {d':Option Addr} {nd' cd':Nat} {r':Rat} (hr:Rw 52 w h #[.int .i64 i,.bool p,.slice a na ca,.slice d nd cd,.int .i64 j,.bool p',.slice a' na' ca',.slice d' nd' cd']) (hF:F≤h) (g:GR w 0 p a na ca d nd cd r S) (g':GR w 0 p' a' na' ca' d' nd' cd' r' S):TM w F (.slice (some ⟨h,0,none⟩) 2 2) [⟨i,r⟩,⟨j,r'⟩] S:=by
 refine ⟨_,SL.newL hr rfl (by decide) hF,fun k t hk=>?_⟩
 have:=(List.getElem?_eq_some_iff.1 hk).1
 rcases (by simp at this;omega:k=0∨k=1) with rfl|rfl
 ·simp at hk
  subst hk
  exact ⟨_,_,_,_,_,_,_,rfl,g⟩
 ·simp at hk
  subst hk
  exact ⟨_,_,_,_,_,_,_,rfl,g'⟩
theorem addWidQ {p:Bool} {a:Option Addr} {na ca:Nat} {d:Option Addr} {nd cd:Nat} {r:Rat} {p':Bool} {a':Option Addr} {na' ca':Nat} {d':Option Addr} {nd' cd':Nat} {r':Rat} {R F S Sl c:Nat} {a0' a1' a2' a3' a4' a7':Value} {ea:Option Addr} {em ec:Nat} {l:List Eqn} (u:Nat) (w:World) (hr:Rw 61 w R #[a0',a1',a2',a3',a4',.slice ea em ec,.int .i64 (c:Nat),a7']) (hE:EM w F (.slice ea em ec) l S) (hF:F≤w.heap.size) (hlo:GR w 0 p a na ca d nd cd r Sl) (hhi:GR w 0 p' a' na' ca' d' nd' cd' r' Sl) (hSl:1≤Sl∧Sl+Sl≤6000000) (hz:SzR (r'-r) S) (hS1:1≤S) (hl:em≤100000000) (hc:c≤1000000000) (hT:TB w) :
 Calls Tryz.prog 21 #[.pointer (some ⟨R,0,none⟩),.int .i64 (u:Nat),.agg #[.bool p,.slice a na ca,.slice d nd cd],.agg #[.bool p',.slice a' na' ca',.slice d' nd' cd']] w fun e w'=>e = .returned (.tuple #[])∧∃ ea' ec',Rw 61 w' R #[a0',a1',a2',a3',a4',.slice ea' (em+1) ec',.int .i64 ((c+1:Nat):Int),a7']∧EM w' F (.slice ea' (em+1) ec') (l++[⟨[⟨(u:Nat),1⟩,⟨(c:Nat),1⟩],r'-r⟩]) S∧Kx R F [61,74] w w':=by
 have B0:=aQ w #[.bool p,.slice a na ca,.slice d nd cd] 27
 have hb0:=aI w (.cells #[.bool p,.slice a na ca,.slice d nd cd] 27)
 have hs0:(w.alloc (.cells #[.bool p,.slice a na ca,.slice d nd cd] 27)).heap.size=w.heap.size+1:=by simp
 have B1:=aQ (w.alloc (.cells #[.bool p,.slice a na ca,.slice d nd cd] 27)) #[.bool p',.slice a' na' ca',.slice d' nd' cd'] 27
 rw [hs0] at B1
 have hb1:=aF hb0 (aI (w.alloc (.cells #[.bool p,.slice a na ca,.slice d nd cd] 27)) (.cells #[.bool p',.slice a' na' ca',.slice d' nd' cd'] 27))
 replace B0:=B0.below (aI (w.alloc (.cells #[.bool p,.slice a na ca,.slice d nd cd] 27)) (.cells #[.bool p',.slice a' na' ca',.slice d' nd' cd'] 27))
 have hs1:((w.alloc (.cells #[.bool p,.slice a na ca,.slice d nd cd] 27)).alloc (.cells #[.bool p',.slice a' na' ca',.slice d' nd' cd'] 27)).heap.size=w.heap.size+2:=by simp
 have x0:=B0 0 _ rfl;have x1:=B0 1 _ rfl;have x2:=B0 2 _ rfl
 have y0:=B1 0 _ rfl;have y1:=B1 1 _ rfl;have y2:=B1 2 _ rfl
 go_enter Tryz.func21,Tryz.ntmps21
 go_wp2_with fail
 clear B0 B1 x0 x1 x2 y0 y1 y2 hb0 hs0
 generalize (w.alloc (.cells #[.bool p,.slice a na ca,.slice d nd cd] 27)).alloc (.cells #[.bool p',.slice a' na' ca',.slice d' nd' cd'] 27)=W0 at *
 refine (jB W0 (hhi.below hb1).tr (hlo.below hb1).tr hSl.2 hSl.1 hSl.1 (hT.below hb1)).mono ?_
 rintro e w1 ⟨f1,c1,n1,k1,d1,m1,l1,rfl,G1,hk1⟩
 have hb2:=aF hb1 hk1
 go_wp2_with fail
 refine (onceQ (u:Nat) w1).mono ?_
 rintro e w2 ⟨f2,c2,n2,k2,d2,m2,l2,rfl,G2,hk2⟩
 have hb3:=aF hb2 hk2
 have RW:=hr.below hb3
 have hs2:=hb3.size
 go_wp2_with fail
 refine (lN w2 RW hc).mono ?_
 rintro e w3 ⟨rfl,RN,ON⟩
 have KN:=(dU (R:=R) (F:=F) (L:=[61]) hb3 hF).off RW (by simp) ON
 have K23:=(Kx.refl R F [61] w2).off RW (by simp) ON
 have hs3:w3.heap.size=w2.heap.size:=ON.size
 go_wp2_with fail
 refine (onceQ (c:Nat) w3).mono ?_
 rintro e w4 ⟨f4,c4,n4,k4,d4,m4,l4,rfl,G4,hk4⟩
 have hs4:=hk4.size
 have K4:=KN.bel hk4 (by omega)
 have K24:=K23.bel hk4 (by omega)
 have RN4:=RN.below hk4
 have RT8:=Rw.new 52 w4 #[.int .i64 (u:Nat),.bool f2,.slice c2 n2 k2,.slice d2 m2 l2,.int .i64 (c:Nat),.bool f4,.slice c4 n4 k4,.slice d4 m4 l4]
 have hb8:=aI w4 (.cells #[.int .i64 (u:Nat),.bool f2,.slice c2 n2 k2,.slice d2 m2 l2,.int .i64 (c:Nat),.bool f4,.slice c4 n4 k4,.slice d4 m4 l4] 52)
 have hs8:(w4.alloc (.cells #[.int .i64 (u:Nat),.bool f2,.slice c2 n2 k2,.slice d2 m2 l2,.int .i64 (c:Nat),.bool f4,.slice c4 n4 k4,.slice d4 m4 l4] 52)).heap.size=w4.heap.size+1:=by simp
 have K5:=K4.bel hb8 (by omega)
 have K25:=K24.bel hb8 (by omega)
 have G1':=(((((G1.fit hz).mono (Nat.zero_le _)).below hk2).kx K25 (by decide)))
 have G2':=(((G2.mono (Nat.zero_le _)).kx K25 (by decide)).le hS1)
 have G4':=((G4.mono (Nat.zero_le _)).below hb8).le hS1
 have TM8:=TM.two (F:=F) RT8 (by omega) G2' G4'
 have EM8:=hE.kx K5 (by decide) (by decide) (by decide)
 have RN8:=RN4.below hb8
 go_wp2_with fail
 clear RT8
 generalize w4.alloc (.cells #[.int .i64 (u:Nat),.bool f2,.slice c2 n2 k2,.slice d2 m2 l2,.int .i64 (c:Nat),.bool f4,.slice c4 n4 k4,.slice d4 m4 l4] 52)=W8 at *
 refine (tK W8 RN8 EM8 (by omega) G1' TM8 hl).mono ?_
 rintro e w9 ⟨rfl,ea',ec',R9,E9,K9⟩
 have KF:=(K5.up (L':=[61,74]) (by simp)).trans K9
 clear RW RN RN4 RN8 ON KN K23 K24 K25 K4 K5 K9 G1 G2 G4 G1' G2' G4' TM8 EM8 hE hr hlo hhi hk1 hk2 hk4 hb1 hb2 hb3
 go_wp2
 go_end0
 exact ⟨rfl,_,_,R9,E9,KF⟩
theorem tN (V:Nat→PV) (t:Nat→PT):∀ q,(rowT V t q).length≤2*q
 | 0=>Nat.le_refl _
 | q+1=>by
  show (rowT V t q++spl (V (t q).var.toNat) (clm V (t q).var.toNat) (t q).coef).length≤_
  have:=tN V t q
  have:wid (V (t q).var.toNat)≤2:=by unfold wid;split <;> (try split) <;> omega
  rw [List.length_append,oK]
  omega
theorem kept_b {w w':World} {B g o:Nat} {v:Value} (hb:Below B w w') (hg:g<B) (h:w.cell? ⟨g,o,none⟩=some v):w'.cell? ⟨g,o,none⟩=some v:=(hb.cell (p:=⟨g,o,none⟩) hg).trans h
theorem inColQ {R F:Nat} {V:Nat→PV} {vn S S':Nat} {sa:Option Addr} {sc:Nat} {a1' a2' a3' a4' a5' a6' a7':Value} {ta:Option Addr} {nt tc:Nat} {t:Nat→PT} (w:World) (hr:Rw 61 w R #[.slice sa vn sc,a1',a2',a3',a4',a5',a6',a7']) (hs:StQ w R F V vn S' (.slice sa vn sc)) (hL:LTG w ta nt t S) (hv:∀ q,q<nt→0≤(t q).var∧(t q).var<(vn:Int)) (hnt:nt≤1048576) (hS7:S≤7000000) (hS1:1≤S) (hT:TB w) :
 Calls Tryz.prog 52 #[.pointer (some ⟨R,0,none⟩),.slice ta nt tc] w fun e w'=>∃ a m cap,e = .returned (.slice a m cap)∧TM w' w.heap.size (.slice a m cap) (rowT V t nt) S∧Below w.heap.size w w':=by
 have hRw:=hr.lt
 have HVV:Hid (∀ q,q<nt→0≤(t q).var∧(t q).var<(vn:Int)):=hv
 clear hv
 go_enter Tryz.func52,Tryz.ntmps52
 go_wp2_with fail
 go_loopw [5,10] (fun s5 s wr=>∃ (i:Nat) (la:Option Addr) (lm lc:Nat),i≤nt∧s = .int .i64 i∧s5 = .slice la lm lc∧TM wr w.heap.size (.slice la lm lc) (rowT V t i) S∧Below w.heap.size w wr) (fun _ t _=>nt-(intOf t).toNat)
 case atStart=>exact ⟨0,none,0,0,Nat.zero_le _,rfl,rfl,TM.nil _ _ _,Below.refl _ _⟩
 case round =>
  obtain ⟨i,la,lm,lc,hi,rfl,rfl,TMi,hb⟩:=hrel
  by_cases hlt:i<nt
  ·have hkI:(i:Int)<(nt:Int):=by omega
   have hkI2:(i:Int)*4=((i*4:Nat):Int):=by omega
   have HLM:Hid (lm=(rowT V t i).length):=TMi.len
   have hlm:lm≤2*i:=by rw [HLM.out];exact tN V t i
   have hvi:=HVV.out i hlt
   obtain ⟨v,ev⟩:∃ v:Nat,v=(t i).var.toNat:=⟨_,rfl⟩
   have hvl:v<vn:=by omega
   have hvI:(v:Int)<(vn:Int):=by omega
   have hv0:¬ (v:Int)<0:=by omega
   have hkI3:(v:Int)*5=((v*5:Nat):Int):=by omega
   have hwid:wid (V v)≤2:=by unfold wid;split <;> (try split) <;> omega
   rcases hL.below hb with h00|⟨tg,hta,hel⟩
   ·omega
   obtain ⟨p,a,na,ca,d,nd,cd,r0,r1,r2,r3,GC⟩:=hel i hlt
   rw [show (t i).var=(v:Nat) by omega] at r0
   have HEV:Hid (v=(t i).var.toNat):=ev
   have hta':ta=some ⟨tg,0,none⟩:=hta
   clear hta hel ev hvi
   have BU:=aQ wr #[.int .i64 (v:Nat),.bool p,.slice a na ca,.slice d nd cd] 52
   have hz:=aI wr (.cells #[.int .i64 (v:Nat),.bool p,.slice a na ca,.slice d nd cd] 52)
   have hsW:(wr.alloc (.cells #[.int .i64 (v:Nat),.bool p,.slice a na ca,.slice d nd cd] 52)).heap.size=wr.heap.size+1:=by simp
   have hsw:=hb.size
   obtain ⟨g,c0,c1,c2,c3,c4,hsa,SC,_,_,_,_,_,_,t4⟩:=hs.at hvl
   have hgw:=World.block_lt_of_cell? _ _ t4
   obtain ⟨E,SLU,TE⟩:=TMi
   rw [← HLM.out] at SLU
   have hbF:(.slice la lm lc:Value).ownBlock≠some wr.heap.size:=fun e=>by have:=(SLU.lt _ e).2;omega
   have RU:=(hr.below hb).below hz
   rw [hsa] at RU
   replace SC:=(SC.below hb).below hz
   have SLU2:=SLU.below hz
   have hT2:=(hT.below hb).below hz
   have r4:=aG hz (aG hb t4)
   replace GC:=GC.below hz
   have hb2:=aF hb hz
   have hzz:=hz
   go_wp2_with fail
   clear r0 r1 r2 r3 hz t4
   have SLU:=SLU2
   have fR:=(RU.cell 0).trans (show _=some (.slice (some ⟨g,0,none⟩) vn sc) from rfl)
   generalize wr.alloc (.cells #[.int .i64 (v:Nat),.bool p,.slice a na ca,.slice d nd cd] 52)=W2 at *
   have HBX:∀ w',Below W2.heap.size W2 w'→(w'.cell? ⟨R,0,none⟩=some (.slice (some ⟨g,0,none⟩) vn sc)∧w'.cell? ⟨wr.heap.size,0,none⟩=some (.int .i64 (v:Nat))∧w'.cell? ⟨wr.heap.size,1,none⟩=some (.bool p)∧w'.cell? ⟨wr.heap.size,2,none⟩=some (.slice a na ca)∧w'.cell? ⟨wr.heap.size,3,none⟩=some (.slice d nd cd)∧w'.cell? ⟨g,v*5+4,none⟩=some (c4)):=fun w' h=>⟨aG h fR,aG h (BU 0 _ rfl),aG h (BU 1 _ rfl),aG h (BU 2 _ rfl),aG h (BU 3 _ rfl),aG h r4⟩
   refine wp_region_noPanic (aS 14 HBX (by as_aux_lemma=>kernel_rfl) ?_)
   have hc0:Below W2.heap.size W2 W2.drew:=aK _
   generalize W2.drew=z0 at *
   refine wpAnyG.tT 0 (v:=.slice la lm lc) (by decide) 14 (by as_aux_lemma=>kernel_rfl) (by rfl) ?y0 (HBX _ hc0) ?_
   case y0 =>
    rintro w' ⟨q0,q1,q2,q3,q4,q5⟩
    simp only [lgA,lgZ]
    go_simp
   simp only [lgA,lgZ,Act.put,lsA,lsZ,lsS]
   refine wpAnyG.tT 1 (v:=.pointer (some ⟨R,0,none⟩)) (by decide) 14 (by as_aux_lemma=>kernel_rfl) (by rfl) ?y1 (HBX _ hc0) ?_
   case y1 =>
    rintro w' ⟨q0,q1,q2,q3,q4,q5⟩
    simp only [lgA,lgZ,lgS]
    go_simp
   simp only [lgA,lgZ,lgS,Act.put,lsA,lsZ,lsS]
   refine wpAnyG.tT 2 (v:=.pointer (some ⟨R,0,none⟩)) (by decide) 14 (by as_aux_lemma=>kernel_rfl) (by rfl) ?y2 (HBX _ hc0) ?_
   case y2 =>
    rintro w' ⟨q0,q1,q2,q3,q4,q5⟩
    simp only [lgA,lgZ,lgS]
    go_simp
   simp only [lgA,lgZ,lgS,Act.put,lsA,lsZ,lsS]
   refine wpAnyG.tT 3 (v:=.pointer (some ⟨R,0,none⟩)) (by decide) 14 (by as_aux_lemma=>kernel_rfl) (by rfl) ?y3 (HBX _ hc0) ?_
   case y3 =>
    rintro w' ⟨q0,q1,q2,q3,q4,q5⟩
    simp only [lgA,lgZ,lgS]
    go_simp
   simp only [lgA,lgZ,lgS,Act.put,lsA,lsZ,lsS]
   refine wpAnyG.tT 4 (v:=.slice (some ⟨g,0,none⟩) vn sc) (by decide) 14 (by as_aux_lemma=>kernel_rfl) (by rfl) ?y4 (HBX _ hc0) ?_
   case y4 =>
    rintro w' ⟨q0,q1,q2,q3,q4,q5⟩
    simp only [lgA,lgZ,lgS]
    go_simp
   simp only [lgA,lgZ,lgS,Act.put,lsA,lsZ,lsS]
   refine wpAnyG.tT 5 (v:=.pointer (some ⟨wr.heap.size,0,none⟩)) (by decide) 14 (by as_aux_lemma=>kernel_rfl) (by rfl) ?y5 (HBX _ hc0) ?_
   case y5 =>
    rintro w' ⟨q0,q1,q2,q3,q4,q5⟩
    simp only [lgA,lgZ,lgS]
    go_simp
   simp only [lgA,lgZ,lgS,Act.put,lsA,lsZ,lsS]
   refine wpAnyG.tT 6 (v:=.int .i64 (v:Nat)) (by decide) 14 (by as_aux_lemma=>kernel_rfl) (by rfl) ?y6 (HBX _ hc0) ?_
   case y6 =>
    rintro w' ⟨q0,q1,q2,q3,q4,q5⟩
    simp only [lgA,lgZ,lgS]
    go_simp
   simp only [lgA,lgZ,lgS,Act.put,lsA,lsZ,lsS]
   refine wpAnyG.tT 7 (v:=.pointer (some ⟨g,v*5,none⟩)) (by decide) 14 (by as_aux_lemma=>kernel_rfl) (by rfl) ?y7 (HBX _ hc0) ?_
   case y7 =>
    rintro w' ⟨q0,q1,q2,q3,q4,q5⟩
    simp only [lgA,lgZ,lgS]
    go_simp
   simp only [lgA,lgZ,lgS,Act.put,lsA,lsZ,lsS]
   refine wpAnyG.tT 8 (v:=.pointer (some ⟨g,v*5+4,none⟩)) (by decide) 14 (by as_aux_lemma=>kernel_rfl) (by rfl) ?y8 (HBX _ hc0) ?_
   case y8 =>
    rintro w' ⟨q0,q1,q2,q3,q4,q5⟩
    simp only [lgA,lgZ,lgS]
    go_simp
   simp only [lgA,lgZ,lgS,Act.put,lsA,lsZ,lsS]
   refine wpAnyG.tT 9 (v:=c4) (by decide) 14 (by as_aux_lemma=>kernel_rfl) (by rfl) ?y9 (HBX _ hc0) ?_
   case y9 =>
    rintro w' ⟨q0,q1,q2,q3,q4,q5⟩
    simp only [lgA,lgZ,lgS]
    go_simp
   simp only [lgA,lgZ,lgS,Act.put,lsA,lsZ,lsS]
   refine wpAnyG.tT 10 (v:=.pointer (some ⟨wr.heap.size,1,none⟩)) (by decide) 14 (by as_aux_lemma=>kernel_rfl) (by rfl) ?y10 (HBX _ hc0) ?_
   case y10 =>
    rintro w' ⟨q0,q1,q2,q3,q4,q5⟩
    simp only [lgA,lgZ,lgS]
    go_simp
   simp only [lgA,lgZ,lgS,Act.put,lsA,lsZ,lsS]
   refine wpAnyG.tT 11 (v:=.agg #[.bool p,.slice a na ca,.slice d nd cd]) (by decide) 14 (by as_aux_lemma=>kernel_rfl) (by rfl) ?y11 (HBX _ hc0) ?_
   case y11 =>
    rintro w' ⟨q0,q1,q2,q3,q4,q5⟩
    simp only [lgA,lgZ,lgS]
    go_simp
   simp only [lgA,lgZ,lgS,Act.put,lsA,lsZ,lsS]
   refine wpAnyG.one 12 (by as_aux_lemma=>kernel_rfl) (by decide) (by rfl) (fun K hK=>?_)
   simp only [lgA,lgZ,lgS]
   refine tJ _ _ _ rfl (SC.below hc0) rfl rfl rfl (GC.below hc0) hS7 hS1 (hT2.below hc0) ?_
   intro z2 h SPh hk2
   have hc2:Below W2.heap.size W2 z2:=aF hc0 hk2
   refine hK _ _ ⟨fun _=>HBX _ hc2,fun _=>trivial⟩ ?_
   clear hK K
   refine wpAnyG.one 13 (by as_aux_lemma=>kernel_rfl) (by decide) (by rfl) (fun K hK=>?_)
   simp only [lgA,lgZ,lgS]
   obtain ⟨hl,hq,cs,D,hcs,hD,h1s,hbox,hTC⟩:=SPh
   have SLZ:=SLU.below hc2
   have hs2:=hc2.size
   refine nP z2 _ _ 53 52 4 64 (wid (V v)) rfl Tryz.underlying53 kJ (by decide) (by decide) hq w.heap.size (.slice la lm lc) lm E rfl SLZ h _ rfl D cs hcs hD h1s hbox (by omega) (by omega) _ rfl ?_
   intro g6 cap6 w6 SN hg hat hgl
   have hB6:Below w.heap.size z2 w6:=grown_below hg (by omega) (fun k e=>(SLZ.lt k e).1)
   refine hK _ _ ⟨fun h=>(by exact ⟨kept_b hB6 hRw ((aG hc2 fR)),(World.cell?_of_block (w:=z2) (hg.block wr.heap.size (by omega) (fun e=>hbF e.symm))).trans (aG hc2 (BU 0 _ rfl)),(World.cell?_of_block (w:=z2) (hg.block wr.heap.size (by omega) (fun e=>hbF e.symm))).trans (aG hc2 (BU 1 _ rfl)),(World.cell?_of_block (w:=z2) (hg.block wr.heap.size (by omega) (fun e=>hbF e.symm))).trans (aG hc2 (BU 2 _ rfl)),(World.cell?_of_block (w:=z2) (hg.block wr.heap.size (by omega) (fun e=>hbF e.symm))).trans (aG hc2 (BU 3 _ rfl)),kept_b hB6 hgw (aG hc2 r4)⟩),fun _=>trivial⟩ ?_
   clear hK K
   refine wpAnyG.one 14 (by as_aux_lemma=>kernel_rfl) (by decide) (by rfl) (fun K hK=>?_)
   simp only [lgA,lgZ,lgS]
   go_simp
   refine hK _ _ ⟨fun h=>absurd h (by decide),fun _=>trivial⟩ ?_
   clear hK K
   refine wpAnyG.done (by as_aux_lemma=>kernel_rfl) (NoPanic.normal ?_)
   have hbN:Below w.heap.size w w6:=(aF hb2 hc2).trans hB6
   have KG:=(Kx.refl 0 0 [52] z2).grown SLZ (by simp) (Nat.zero_le _) (Nat.zero_le _) hg
   have KW:Kx 0 0 [52] wr w6:=(dU (R:=0) (F:=0) (L:=[52]) (Below.refl _ wr) (Nat.zero_le _)).bel hzz (Nat.zero_le _) |>.bel hc2 (Nat.zero_le _) |>.trans KG
   have TMN:TM w6 w.heap.size (.slice (some ⟨g6,0,none⟩) (lm+wid (V v)) cap6) (rowT V t (i+1)) S:=by
    refine TM.app' (m:=lm) (q:=wid (V v)) HLM.out (by rw [oK,HEV.out]) SN (fun k t ht=>(TE k t ht).kx KW (by decide)) (fun k t ht=>?_)
    rw [← HEV.out] at ht
    exact (hTC k t ht).kx KG (by decide)
   clear KG KW SN hg hat hgl SLZ hbox hTC hD h1s hcs hl hq HBX hc0 hc2 hk2 SLU SLU2 BU RU SC TE hs2 r4 fR hB6
   try rw [← hta']
   clear hta'
   go_wp2
   go_roundw
   case rel=>first|exact ⟨i+1,_,_,_,by omega,by go_num,rfl,TMN,hbN⟩|((repeat apply Exists.intro);refine ⟨?_,rfl⟩;exact ⟨i+1,_,_,_,by omega,by go_num,rfl,TMN,hbN⟩)
   case measure=>simp [intOf];omega
  ·have hkI:¬ (i:Int)<(nt:Int):=by omega
   obtain rfl:i=nt:=by omega
   go_wp2
   go_ret
   exact ⟨_,_,_,rfl,TMi,hb⟩
end Go.Proofs.YtmeimjakdheidaaGreatDoor
