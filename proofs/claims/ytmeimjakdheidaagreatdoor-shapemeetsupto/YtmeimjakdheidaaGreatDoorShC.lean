import Derived.Test.YtmeimjakdheidaaGreatDoorShB
set_option maxRecDepth 100000
set_option maxHeartbeats 4000000
namespace Go.Proofs.YtmeimjakdheidaaGreatDoor
open Go.RowKit
def GRv (w:World) (B:Nat) (v:Value) (r:Rat) (S:Nat):Prop:=∃ f c n k c' n' k',v = .agg #[.bool f,.slice c n k,.slice c' n' k']∧GR w B f c n k c' n' k' r S
def SPL (w:World) (h q:Nat) (l:List PT) (S:Nat):Prop :=
 l.length=q∧(0<q∧q≤10)∧∃ (cs:List Value) (D:Nat→List Value),cs.length=q*4∧(∀ i,i<q→∀ j u,(D i)[j]? = some u→j<4∧cs[i*4+j]? = some u)∧(∀ u ∈ cs,u.oneCell'=true)∧BoxC w h cs∧∀ i t,l[i]? = some t→TC w 0 (D i) t S
theorem SPL.one {w:World} {h:Nat} {i:Int} {p:Bool} {a:Option Addr} {na ca:Nat} {d:Option Addr} {nd cd:Nat} {r:Rat} {S:Nat} (hb:BoxC w h [.int .i64 i,.bool p,.slice a na ca,.slice d nd cd]) (hr:GR w 0 p a na ca d nd cd r S):SPL w h 1 [⟨i,r⟩] S:=by
 refine ⟨rfl,by decide,_,fun _=>[.int .i64 i,.bool p,.slice a na ca,.slice d nd cd],rfl,fun k hk j u hu=>?_,fun u hu=>?_,hb,fun k t hk=>?_⟩
 ·obtain rfl:k=0:=by omega
  have:=(List.getElem?_eq_some_iff.1 hu).1
  exact ⟨by simpa using this,by simpa using hu⟩
 ·simp at hu
  rcases hu with rfl|rfl|rfl|rfl <;> rfl
 ·have:=(List.getElem?_eq_some_iff.1 hk).1
  obtain rfl:k=0:=by simp at this;omega
  simp at hk
  subst hk
  exact ⟨_,_,_,_,_,_,_,rfl,hr⟩
theorem SPL.two {w:World} {h:Nat} {i j:Int} {p:Bool} {a:Option Addr} {na ca:Nat} {d:Option Addr} {nd cd:Nat} {r:Rat} {S:Nat} {p':Bool} {a':Option Addr} {na' ca':Nat} {d':Option Addr} {nd' cd':Nat} {r':Rat} (hb:BoxC w h [.int .i64 i,.bool p,.slice a na ca,.slice d nd cd,.int .i64 j,.bool p',.slice a' na' ca',.slice d' nd' cd']) (hr:GR w 0 p a na ca d nd cd r S) (hr':GR w 0 p' a' na' ca' d' nd' cd' r' S):SPL w h 2 [⟨i,r⟩,⟨j,r'⟩] S:=by
 refine ⟨rfl,by decide,_,fun k=>if k=0 then [.int .i64 i,.bool p,.slice a na ca,.slice d nd cd] else [.int .i64 j,.bool p',.slice a' na' ca',.slice d' nd' cd'],rfl,fun k hk q u hu=>?_,fun u hu=>?_,hb,fun k t hk=>?_⟩
 ·rcases (by omega:k=0∨k=1) with rfl|rfl
  ·simp only [if_true] at hu
   have:=(List.getElem?_eq_some_iff.1 hu).1
   have hq:q<4:=by simpa using this
   refine ⟨hq,?_⟩
   rcases (by omega:q=0∨q=1∨q=2∨q=3) with rfl|rfl|rfl|rfl <;> simpa using hu
  ·simp only [Nat.one_ne_zero,if_false] at hu
   have:=(List.getElem?_eq_some_iff.1 hu).1
   have hq:q<4:=by simpa using this
   refine ⟨hq,?_⟩
   rcases (by omega:q=0∨q=1∨q=2∨q=3) with rfl|rfl|rfl|rfl <;> simpa using hu
 ·simp at hu
  rcases hu with rfl|rfl|rfl|rfl|rfl|rfl|rfl|rfl <;> rfl
 ·have:=(List.getElem?_eq_some_iff.1 hk).1
  rcases (by simp at this;omega:k=0∨k=1) with rfl|rfl
  ·simp at hk
   subst hk
   exact ⟨_,_,_,_,_,_,_,rfl,hr⟩
  ·simp at hk
   subst hk
   exact ⟨_,_,_,_,_,_,_,rfl,hr'⟩
theorem up3 {p:Bool} {a:Option Addr} {na ca:Nat} {d:Option Addr} {nd cd:Nat} {r:Rat} {S:Nat} {bu:Nat} (u:Nat) (w:World) (hu:Rw 3 w bu #[.int .i64 (u:Nat)]) (hr:GR w 0 p a na ca d nd cd r S) :
 Calls Tryz.prog 81 #[.agg #[.bool p,.slice a na ca,.slice d nd cd],.pointer (some ⟨bu,0,none⟩)] w fun e w'=>∃ h,e = .returned (.slice (some ⟨h,0,none⟩) 1 1)∧SPL w' h 1 ([⟨(u:Nat),r⟩]) S∧Below w.heap.size w w':=by
 have N:=aQ w #[.bool p,.slice a na ca,.slice d nd cd] 27
 have n0:=N 0 _ rfl
 have n1:=N 1 _ rfl
 have n2:=N 2 _ rfl
 have hb0:=aI w (.cells #[.bool p,.slice a na ca,.slice d nd cd] 27)
 have x3:=((hu.below hb0).cell 0).trans (show _=some (.int .i64 (u:Nat)) from rfl)
 replace hr:=hr.below hb0
 go_enter Tryz.func81,Tryz.ntmps81
 go_wp2_with fail
 have M:=aQ (w.alloc (.cells #[.bool p,.slice a na ca,.slice d nd cd] 27)) #[.int .i64 (u:Nat),.bool p,.slice a na ca,.slice d nd cd] 52
 rw [show (w.alloc (.cells #[.bool p,.slice a na ca,.slice d nd cd] 27)).heap.size=w.heap.size+1 by simp] at M
 have hb1:=fB (o:=.cells #[.int .i64 (u:Nat),.bool p,.slice a na ca,.slice d nd cd] 52) hb0
 have GN:=hr.below (aI (w.alloc (.cells #[.bool p,.slice a na ca,.slice d nd cd] 27)) (.cells #[.int .i64 (u:Nat),.bool p,.slice a na ca,.slice d nd cd] 52))
 go_ret
 exact ⟨_,rfl,SPL.one M GN,hb1⟩
theorem dn3 {p:Bool} {a:Option Addr} {na ca:Nat} {d:Option Addr} {nd cd:Nat} {r:Rat} {S:Nat} {bu:Nat} (u:Nat) (w:World) (hu:Rw 3 w bu #[.int .i64 (u:Nat)]) (hr:GR w 0 p a na ca d nd cd r S) (hS:S≤7000000) (hS1:1≤S) (hT:TB w) :
 Calls Tryz.prog 84 #[.agg #[.bool p,.slice a na ca,.slice d nd cd],.pointer (some ⟨bu,0,none⟩)] w fun e w'=>∃ h,e = .returned (.slice (some ⟨h,0,none⟩) 1 1)∧SPL w' h 1 ([⟨(u:Nat),-r⟩]) S∧Below w.heap.size w w':=by
 have N:=aQ w #[.bool p,.slice a na ca,.slice d nd cd] 27
 have n0:=N 0 _ rfl
 have n1:=N 1 _ rfl
 have n2:=N 2 _ rfl
 have hb0:=aI w (.cells #[.bool p,.slice a na ca,.slice d nd cd] 27)
 replace hr:=hr.below hb0
 replace hT:=hT.below hb0
 have x3:=((hu.below hb0).cell 0).trans (show _=some (.int .i64 (u:Nat)) from rfl)
 go_enter Tryz.func84,Tryz.ntmps84
 go_wp2_with fail
 have hs0:w.heap.size≤(w.alloc (.cells #[.bool p,.slice a na ca,.slice d nd cd] 27)).heap.size:=by simp
 generalize w.alloc (.cells #[.bool p,.slice a na ca,.slice d nd cd] 27)=W0 at *
 have HBX:∀ w',Below W0.heap.size W0 w'→(w'.cell? ⟨w.heap.size,0,none⟩=some (.bool p)∧w'.cell? ⟨w.heap.size,1,none⟩=some (.slice a na ca)∧w'.cell? ⟨w.heap.size,2,none⟩=some (.slice d nd cd)∧w'.cell? ⟨bu,0,none⟩=some (.int .i64 (u:Nat))):=fun w' h=>⟨aG h n0,aG h n1,aG h n2,aG h x3⟩
 refine wp_region_noPanic (aS 5 HBX (by as_aux_lemma=>kernel_rfl) ?_)
 have hc0:Below W0.heap.size W0 W0.drew:=aK _
 generalize W0.drew=z0 at *
 refine wpAnyG.tT 0 (v:=.int .i64 (u:Nat)) (by decide) 5 (by as_aux_lemma=>kernel_rfl) (by rfl) ?y0 (HBX _ hc0) ?_
 case y0 =>
  rintro w' ⟨q0,q1,q2,q3⟩
  simp only [lgA,lgZ]
  go_simp
 simp only [lgA,lgZ,Act.put,lsA,lsZ,lsS]
 refine wpAnyG.tT 1 (v:=.agg #[.bool p,.slice a na ca,.slice d nd cd]) (by decide) 5 (by as_aux_lemma=>kernel_rfl) (by rfl) ?y1 (HBX _ hc0) ?_
 case y1 =>
  rintro w' ⟨q0,q1,q2,q3⟩
  simp only [lgA,lgZ,lgS]
  go_simp
 simp only [lgA,lgZ,lgS,Act.put,lsA,lsZ,lsS]
 refine wpAnyG.one 2 (by as_aux_lemma=>kernel_rfl) (by decide) (by rfl) (fun K hK=>?_)
 simp only [lgA,lgZ,lgS]
 go_simp
 refine (negQ z0 (hr.tr.below hc0) hS hS1 (hT.below hc0)).mono ?_
 rintro e z1 ⟨f1,c1,n1,k1,d1,m1,l1,rfl,G1,hk1⟩
 have hc1:Below W0.heap.size W0 z1:=aF hc0 hk1
 dsimp only
 refine hK _ _ ⟨fun _=>HBX _ hc1,fun _=>trivial⟩ ?_
 clear hK K
 refine wpAnyG.tT 3 (v:=.agg #[.int .i64 (u:Nat),.bool f1,.slice c1 n1 k1,.slice d1 m1 l1]) (by decide) 5 (by as_aux_lemma=>kernel_rfl) (by rfl) ?y3 (HBX _ hc1) ?_
 case y3 =>
  rintro w' ⟨q0,q1,q2,q3⟩
  simp only [lgA,lgZ,lgS]
  go_simp
 simp only [lgA,lgZ,lgS,Act.put,lsA,lsZ,lsS]
 refine wpAnyG.one 4 (by as_aux_lemma=>kernel_rfl) (by decide) (by rfl) (fun K hK=>?_)
 simp only [lgA,lgZ,lgS]
 go_simp
 have hy:Below W0.heap.size W0 (z1.alloc (.cells #[.int .i64 (u:Nat),.bool f1,.slice c1 n1 k1,.slice d1 m1 l1] 52)):=fB hc1
 have M:=aQ z1 #[.int .i64 (u:Nat),.bool f1,.slice c1 n1 k1,.slice d1 m1 l1] 52
 have GN:=(G1.mono (Nat.zero_le _)).below (aI z1 (.cells #[.int .i64 (u:Nat),.bool f1,.slice c1 n1 k1,.slice d1 m1 l1] 52))
 refine hK _ _ ⟨fun _=>HBX _ hy,fun _=>trivial⟩ ?_
 clear hK K
 refine wpAnyG.one 5 (by as_aux_lemma=>kernel_rfl) (by decide) (by rfl) (fun K hK=>?_)
 simp only [lgA,lgZ,lgS]
 go_simp
 refine hK _ _ ⟨fun h=>absurd h (by decide),fun _=>trivial⟩ ?_
 clear hK K
 refine wpAnyG.done (by as_aux_lemma=>kernel_rfl) (NoPanic.normal ?_)
 go_wp2
 go_ret
 exact ⟨_,rfl,SPL.one M GN,hb0.trans (hy.mono hs0)⟩
theorem fr2 {p:Bool} {a:Option Addr} {na ca:Nat} {d:Option Addr} {nd cd:Nat} {r:Rat} {S:Nat} {bp bm:Nat} (u:Nat) (w:World) (hp:Rw 3 w bp #[.int .i64 (u:Nat)]) (hm:Rw 3 w bm #[.int .i64 ((u+1:Nat):Int)]) (hr:GR w 0 p a na ca d nd cd r S) (hS:S≤7000000) (hS1:1≤S) (hT:TB w) :
 Calls Tryz.prog 86 #[.agg #[.bool p,.slice a na ca,.slice d nd cd],.pointer (some ⟨bp,0,none⟩),.pointer (some ⟨bm,0,none⟩)] w fun e w'=>∃ h,e = .returned (.slice (some ⟨h,0,none⟩) 2 2)∧SPL w' h 2 ([⟨(u:Nat),r⟩,⟨((u+1:Nat):Int),-r⟩]) S∧Below w.heap.size w w':=by
 have N:=aQ w #[.bool p,.slice a na ca,.slice d nd cd] 27
 have n0:=N 0 _ rfl
 have n1:=N 1 _ rfl
 have n2:=N 2 _ rfl
 have hb0:=aI w (.cells #[.bool p,.slice a na ca,.slice d nd cd] 27)
 replace hr:=hr.below hb0
 replace hT:=hT.below hb0
 have x3:=((hp.below hb0).cell 0).trans (show _=some (.int .i64 (u:Nat)) from rfl)
 have x4:=((hm.below hb0).cell 0).trans (show _=some (.int .i64 ((u+1:Nat):Int)) from rfl)
 go_enter Tryz.func86,Tryz.ntmps86
 go_wp2_with fail
 have hs0:w.heap.size≤(w.alloc (.cells #[.bool p,.slice a na ca,.slice d nd cd] 27)).heap.size:=by simp
 generalize w.alloc (.cells #[.bool p,.slice a na ca,.slice d nd cd] 27)=W0 at *
 have HBX:∀ w',Below W0.heap.size W0 w'→(w'.cell? ⟨w.heap.size,0,none⟩=some (.bool p)∧w'.cell? ⟨w.heap.size,1,none⟩=some (.slice a na ca)∧w'.cell? ⟨w.heap.size,2,none⟩=some (.slice d nd cd)∧w'.cell? ⟨bp,0,none⟩=some (.int .i64 (u:Nat))∧w'.cell? ⟨bm,0,none⟩=some (.int .i64 ((u+1:Nat):Int))):=fun w' h=>⟨aG h n0,aG h n1,aG h n2,aG h x3,aG h x4⟩
 refine wp_region_noPanic (aS 8 HBX (by as_aux_lemma=>kernel_rfl) ?_)
 have hc0:Below W0.heap.size W0 W0.drew:=aK _
 generalize W0.drew=z0 at *
 refine wpAnyG.tT 0 (v:=.int .i64 (u:Nat)) (by decide) 8 (by as_aux_lemma=>kernel_rfl) (by rfl) ?y0 (HBX _ hc0) ?_
 case y0 =>
  rintro w' ⟨q0,q1,q2,q3,q4⟩
  simp only [lgA,lgZ]
  go_simp
 simp only [lgA,lgZ,Act.put,lsA,lsZ,lsS]
 refine wpAnyG.tT 1 (v:=.agg #[.bool p,.slice a na ca,.slice d nd cd]) (by decide) 8 (by as_aux_lemma=>kernel_rfl) (by rfl) ?y1 (HBX _ hc0) ?_
 case y1 =>
  rintro w' ⟨q0,q1,q2,q3,q4⟩
  simp only [lgA,lgZ,lgS]
  go_simp
 simp only [lgA,lgZ,lgS,Act.put,lsA,lsZ,lsS]
 refine wpAnyG.tT 2 (v:=.agg #[.int .i64 (u:Nat),.bool p,.slice a na ca,.slice d nd cd]) (by decide) 8 (by as_aux_lemma=>kernel_rfl) (by rfl) ?y2 (HBX _ hc0) ?_
 case y2 =>
  rintro w' ⟨q0,q1,q2,q3,q4⟩
  simp only [lgA,lgZ,lgS]
  go_simp
 simp only [lgA,lgZ,lgS,Act.put,lsA,lsZ,lsS]
 refine wpAnyG.tT 3 (v:=.int .i64 ((u+1:Nat):Int)) (by decide) 8 (by as_aux_lemma=>kernel_rfl) (by rfl) ?y3 (HBX _ hc0) ?_
 case y3 =>
  rintro w' ⟨q0,q1,q2,q3,q4⟩
  simp only [lgA,lgZ,lgS]
  go_simp
 simp only [lgA,lgZ,lgS,Act.put,lsA,lsZ,lsS]
 refine wpAnyG.tT 4 (v:=.agg #[.bool p,.slice a na ca,.slice d nd cd]) (by decide) 8 (by as_aux_lemma=>kernel_rfl) (by rfl) ?y4 (HBX _ hc0) ?_
 case y4 =>
  rintro w' ⟨q0,q1,q2,q3,q4⟩
  simp only [lgA,lgZ,lgS]
  go_simp
 simp only [lgA,lgZ,lgS,Act.put,lsA,lsZ,lsS]
 refine wpAnyG.one 5 (by as_aux_lemma=>kernel_rfl) (by decide) (by rfl) (fun K hK=>?_)
 simp only [lgA,lgZ,lgS]
 go_simp
 refine (negQ z0 (hr.tr.below hc0) hS hS1 (hT.below hc0)).mono ?_
 rintro e z1 ⟨f1,c1,n1,k1,d1,m1,l1,rfl,G1,hk1⟩
 have hc1:Below W0.heap.size W0 z1:=aF hc0 hk1
 dsimp only
 refine hK _ _ ⟨fun _=>HBX _ hc1,fun _=>trivial⟩ ?_
 clear hK K
 refine wpAnyG.tT 6 (v:=.agg #[.int .i64 ((u+1:Nat):Int),.bool f1,.slice c1 n1 k1,.slice d1 m1 l1]) (by decide) 8 (by as_aux_lemma=>kernel_rfl) (by rfl) ?y6 (HBX _ hc1) ?_
 case y6 =>
  rintro w' ⟨q0,q1,q2,q3,q4⟩
  simp only [lgA,lgZ,lgS]
  go_simp
 simp only [lgA,lgZ,lgS,Act.put,lsA,lsZ,lsS]
 refine wpAnyG.one 7 (by as_aux_lemma=>kernel_rfl) (by decide) (by rfl) (fun K hK=>?_)
 simp only [lgA,lgZ,lgS]
 go_simp
 have hy:Below W0.heap.size W0 (z1.alloc (.cells #[.int .i64 (u:Nat),.bool p,.slice a na ca,.slice d nd cd,.int .i64 ((u+1:Nat):Int),.bool f1,.slice c1 n1 k1,.slice d1 m1 l1] 52)):=fB hc1
 have M:=aQ z1 #[.int .i64 (u:Nat),.bool p,.slice a na ca,.slice d nd cd,.int .i64 ((u+1:Nat):Int),.bool f1,.slice c1 n1 k1,.slice d1 m1 l1] 52
 have GN:=(G1.mono (Nat.zero_le _)).below (aI z1 (.cells #[.int .i64 (u:Nat),.bool p,.slice a na ca,.slice d nd cd,.int .i64 ((u+1:Nat):Int),.bool f1,.slice c1 n1 k1,.slice d1 m1 l1] 52))
 have GM:=(hr.below hc1).below (aI z1 (.cells #[.int .i64 (u:Nat),.bool p,.slice a na ca,.slice d nd cd,.int .i64 ((u+1:Nat):Int),.bool f1,.slice c1 n1 k1,.slice d1 m1 l1] 52))
 refine hK _ _ ⟨fun _=>HBX _ hy,fun _=>trivial⟩ ?_
 clear hK K
 refine wpAnyG.one 8 (by as_aux_lemma=>kernel_rfl) (by decide) (by rfl) (fun K hK=>?_)
 simp only [lgA,lgZ,lgS]
 go_simp
 refine hK _ _ ⟨fun h=>absurd h (by decide),fun _=>trivial⟩ ?_
 clear hK K
 refine wpAnyG.done (by as_aux_lemma=>kernel_rfl) (NoPanic.normal ?_)
 go_wp2
 go_ret
 exact ⟨_,rfl,SPL.two M GM GN,hb0.trans (hy.mono hs0)⟩
def StC (w:World) (R F:Nat) (v:PV) (u S:Nat) (cs:List Value):Prop :=
 (v.hlo=true∧∃ bl bu p a na ca d nd cd,cs=[.int .i64 (u:Nat),.int .i64 (-1),.func (.func 78) #[] #[.pointer (some ⟨bl,0,none⟩),.pointer (some ⟨bu,0,none⟩)],.func (.func 80) #[] #[.pointer (some ⟨bu,0,none⟩)],.func (.func 81) #[] #[.pointer (some ⟨bu,0,none⟩)]]∧Rw 27 w bl #[.bool p,.slice a na ca,.slice d nd cd]∧GR w 0 p a na ca d nd cd v.lo S∧Rw 3 w bu #[.int .i64 (u:Nat)]∧R<bl∧bl<F∧R<bu∧bu<F) ∨
 (v.hlo=false∧v.hhi=true∧∃ bl bu p a na ca d nd cd,cs=[.int .i64 (u:Nat),.int .i64 (-1),.func (.func 82) #[] #[.pointer (some ⟨bl,0,none⟩),.pointer (some ⟨bu,0,none⟩)],.func (.func 83) #[] #[.pointer (some ⟨bu,0,none⟩)],.func (.func 84) #[] #[.pointer (some ⟨bu,0,none⟩)]]∧Rw 27 w bl #[.bool p,.slice a na ca,.slice d nd cd]∧GR w 0 p a na ca d nd cd v.hi S∧Rw 3 w bu #[.int .i64 (u:Nat)]∧R<bl∧bl<F∧R<bu∧bu<F) ∨
 (v.hlo=false∧v.hhi=false∧∃ bp bm,cs=[.int .i64 (u:Nat),.int .i64 ((u+1:Nat):Int),.func (.func 85) #[] #[.pointer (some ⟨bp,0,none⟩),.pointer (some ⟨bm,0,none⟩)],.func (.func 85) #[] #[.pointer (some ⟨bp,0,none⟩),.pointer (some ⟨bm,0,none⟩)],.func (.func 86) #[] #[.pointer (some ⟨bp,0,none⟩),.pointer (some ⟨bm,0,none⟩)]]∧Rw 3 w bp #[.int .i64 (u:Nat)]∧Rw 3 w bm #[.int .i64 ((u+1:Nat):Int)]∧R<bp∧bp<F∧R<bm∧bm<F)
theorem StC.up {w:World} {R F F':Nat} {v:PV} {u S:Nat} {cs:List Value} (h:StC w R F v u S cs) (hF:F≤F'):StC w R F' v u S cs:=by
 rcases h with ⟨h0,bl,bu,p,a,na,ca,d,nd,cd,e,h1,h2,h3,h4,h5,h6,h7⟩|⟨h0,h0',bl,bu,p,a,na,ca,d,nd,cd,e,h1,h2,h3,h4,h5,h6,h7⟩|⟨h0,h0',bp,bm,e,h1,h3,h4,h5,h6,h7⟩
 ·exact .inl ⟨h0,bl,bu,p,a,na,ca,d,nd,cd,e,h1,h2,h3,h4,by omega,h6,by omega⟩
 ·exact .inr (.inl ⟨h0,h0',bl,bu,p,a,na,ca,d,nd,cd,e,h1,h2,h3,h4,by omega,h6,by omega⟩)
 ·exact .inr (.inr ⟨h0,h0',bp,bm,e,h1,h3,h4,by omega,h6,by omega⟩)
theorem StC.kxh {w w':World} {R F R' F':Nat} {L:List TypeId} {v:PV} {u S:Nat} {cs:List Value} (h:StC w R F v u S cs) (k:Kx R' F' L w w') (hL:118 ∉ L) (hL2:27 ∉ L) (hL3:3 ∉ L):StC w' R F v u S cs:=by
 rcases h with ⟨h0,bl,bu,p,a,na,ca,d,nd,cd,e,h1,h2,h3,h4⟩|⟨h0,h0',bl,bu,p,a,na,ca,d,nd,cd,e,h1,h2,h3,h4⟩|⟨h0,h0',bp,bm,e,h1,h3,h4⟩
 ·exact .inl ⟨h0,bl,bu,p,a,na,ca,d,nd,cd,e,h1.kxh k hL2,h2.kx k hL,h3.kxh k hL3,h4⟩
 ·exact .inr (.inl ⟨h0,h0',bl,bu,p,a,na,ca,d,nd,cd,e,h1.kxh k hL2,h2.kx k hL,h3.kxh k hL3,h4⟩)
 ·exact .inr (.inr ⟨h0,h0',bp,bm,e,h1.kxh k hL3,h3.kxh k hL3,h4⟩)
theorem StC.kxl {w w':World} {R F:Nat} {L:List TypeId} {v:PV} {u S:Nat} {cs:List Value} (h:StC w R F v u S cs) (k:Kx R F L w w') (hL:118 ∉ L):StC w' R F v u S cs:=by
 rcases h with ⟨h0,bl,bu,p,a,na,ca,d,nd,cd,e,h1,h2,h3,h4,h5,h6,h7⟩|⟨h0,h0',bl,bu,p,a,na,ca,d,nd,cd,e,h1,h2,h3,h4,h5,h6,h7⟩|⟨h0,h0',bp,bm,e,h1,h3,h4,h5,h6,h7⟩
 ·exact .inl ⟨h0,bl,bu,p,a,na,ca,d,nd,cd,e,h1.kxl k h5 (by omega),h2.kx k hL,h3.kxl k h7 (by omega),h4,h5,h6,h7⟩
 ·exact .inr (.inl ⟨h0,h0',bl,bu,p,a,na,ca,d,nd,cd,e,h1.kxl k h5 (by omega),h2.kx k hL,h3.kxl k h7 (by omega),h4,h5,h6,h7⟩)
 ·exact .inr (.inr ⟨h0,h0',bp,bm,e,h1.kxl k h5 (by omega),h3.kxl k h7 (by omega),h4,h5,h6,h7⟩)
theorem StC.below {w w':World} {R F:Nat} {v:PV} {u S:Nat} {cs:List Value} (h:StC w R F v u S cs) (hb:Below w.heap.size w w'):StC w' R F v u S cs :=
 h.kxh (dU (R:=0) (F:=0) (L:=[]) hb (Nat.zero_le _)) (by simp) (by simp) (by simp)
theorem wX {o:Oper} {ops:Array Oper} {rest:List Oper} {a:Act} {w:World} {Q:Exit→Act→World→Prop} {R F:Nat} {v:PV} {u S:Nat} {cs:List Value} {fv:Value} {xa:Option Addr} {n xc:Nat} {X:Nat→Rat} {T:Nat} (hgd:o.guard=none) (x y:Operand) (ats:Array TypeId) (ho:o.op = .call { callee:=.value x,args:=#[y],argTypes:=ats }) (hs:StC w R F v u S cs) (hi:cs[2]? = some fv) (hx:a.eval x=fv) (hy:a.eval y = .slice xa n xc)
 (hq:LQ w xa n X (fun _=>T)) (hT1:1≤T) (hST:S+T≤6000000∧T+T≤6000000) (hS1:1≤S) (hT:TB w)
 (hK:∀ w' x,GRv w' w.heap.size x (ptv v u (zn n X)) (S+T+T+1)→Below w.heap.size w w'→wpList Tryz.prog ops Q rest (a.put o.dst x) w'):wpList Tryz.prog ops Q (o::rest) a w:=by
 rcases hs with ⟨h0,bl,bu,p,a1,na,ca,d,nd,cd,e,h1,h2,h3,_⟩|⟨h0,h0',bl,bu,p,a1,na,ca,d,nd,cd,e,h1,h2,h3,_⟩|⟨h0,h0',bp,bm,e,h1,h3,_⟩ <;> subst e
 ·refine kM hgd x #[y] ats _ #[.pointer (some ⟨bl,0,none⟩),.pointer (some ⟨bu,0,none⟩)] ho (by rw [hx];exact (Option.some.inj hi).symm) fe1 (Post:=fun e w'=>∃ f c m k c' m' k',e = .returned (.agg #[.bool f,.slice c m k,.slice c' m' k'])∧GR w' w.heap.size f c m k c' m' k' (ptv v u (zn n X)) (S+T+T+1)∧Below w.heap.size w w') ?_ ?_
  ·have e3:(#[y].map a.eval ++ #[.pointer (some ⟨bl,0,none⟩),.pointer (some ⟨bu,0,none⟩)]) = #[.slice xa n xc,.pointer (some ⟨bl,0,none⟩),.pointer (some ⟨bu,0,none⟩)]:=by simp [hy]
   rw [e3,show ptv v u (zn n X)=_ from by unfold ptv;simp only [h0,if_true];rfl]
   exact up1 u w h1 h2 h3 hq hT1 hST hS1 hT
  ·rintro e w' ⟨f,c,m,k,c',m',k',rfl,g,hb⟩
   exact ⟨_,rfl,hK _ _ ⟨_,_,_,_,_,_,_,rfl,g⟩ hb⟩
 ·refine kM hgd x #[y] ats _ #[.pointer (some ⟨bl,0,none⟩),.pointer (some ⟨bu,0,none⟩)] ho (by rw [hx];exact (Option.some.inj hi).symm) fe4 (Post:=fun e w'=>∃ f c m k c' m' k',e = .returned (.agg #[.bool f,.slice c m k,.slice c' m' k'])∧GR w' w.heap.size f c m k c' m' k' (ptv v u (zn n X)) (S+T+T+1)∧Below w.heap.size w w') ?_ ?_
  ·have e3:(#[y].map a.eval ++ #[.pointer (some ⟨bl,0,none⟩),.pointer (some ⟨bu,0,none⟩)]) = #[.slice xa n xc,.pointer (some ⟨bl,0,none⟩),.pointer (some ⟨bu,0,none⟩)]:=by simp [hy]
   rw [e3,show ptv v u (zn n X)=_ from by unfold ptv;simp only [h0,h0',if_true,if_false,Bool.false_eq_true];rfl]
   exact dn1 u w h1 h2 h3 hq hT1 hST hS1 hT
  ·rintro e w' ⟨f,c,m,k,c',m',k',rfl,g,hb⟩
   exact ⟨_,rfl,hK _ _ ⟨_,_,_,_,_,_,_,rfl,g⟩ hb⟩
 ·refine kM hgd x #[y] ats _ #[.pointer (some ⟨bp,0,none⟩),.pointer (some ⟨bm,0,none⟩)] ho (by rw [hx];exact (Option.some.inj hi).symm) fe7 (Post:=fun e w'=>∃ f c m k c' m' k',e = .returned (.agg #[.bool f,.slice c m k,.slice c' m' k'])∧GR w' w.heap.size f c m k c' m' k' (ptv v u (zn n X)) (S+T+T+1)∧Below w.heap.size w w') ?_ ?_
  ·have e3:(#[y].map a.eval ++ #[.pointer (some ⟨bp,0,none⟩),.pointer (some ⟨bm,0,none⟩)]) = #[.slice xa n xc,.pointer (some ⟨bp,0,none⟩),.pointer (some ⟨bm,0,none⟩)]:=by simp [hy]
   rw [e3,show ptv v u (zn n X)=_ from by unfold ptv;simp only [h0,h0',if_false,Bool.false_eq_true];rfl]
   exact fr1 (S:=S) u w h1 h3 hq hT1 hST hS1 hT
  ·rintro e w' ⟨f,c,m,k,c',m',k',rfl,g,hb⟩
   exact ⟨_,rfl,hK _ _ ⟨_,_,_,_,_,_,_,rfl,g⟩ hb⟩
theorem tJ {o:Oper} {a:Act} {w:World} {K:Act→World→Prop} {Q:Exit→Act→World→Prop} {R F:Nat} {v:PV} {u S S':Nat} {cs:List Value} {fv:Value} {p:Bool} {a0:Option Addr} {na ca:Nat} {d:Option Addr} {nd cd:Nat} {r:Rat} (x y:Operand) (ats:Array TypeId) (ho:o.op = .call { callee:=.value x,args:=#[y],argTypes:=ats }) (hs:StC w R F v u S' cs) (hi:cs[4]? = some fv) (hx:a.eval x=fv) (hy:a.eval y = .agg #[.bool p,.slice a0 na ca,.slice d nd cd])
 (hr:GR w 0 p a0 na ca d nd cd r S) (hS:S≤7000000) (hS1:1≤S) (hT:TB w)
 (hK:∀ w' h,SPL w' h (wid v) (spl v u r) S→Below w.heap.size w w'→K (a.put o.dst (.slice (some ⟨h,0,none⟩) (wid v) (wid v))) w'):Oper.wp Tryz.prog o a w K Q:=by
 rcases hs with ⟨h0,bl,bu,p1,a1,na1,ca1,d1,nd1,cd1,e,h1,h2,h3,_⟩|⟨h0,h0',bl,bu,p1,a1,na1,ca1,d1,nd1,cd1,e,h1,h2,h3,_⟩|⟨h0,h0',bp,bm,e,h1,h3,_⟩ <;> subst e
 ·refine oM x #[y] ats _ #[.pointer (some ⟨bu,0,none⟩)] ho (by rw [hx];exact (Option.some.inj hi).symm) fe3 (Post:=fun e w'=>∃ h,e = .returned (.slice (some ⟨h,0,none⟩) (wid v) (wid v))∧SPL w' h (wid v) (spl v u r) S∧Below w.heap.size w w') ?_ ?_
  ·have e3:(#[y].map a.eval ++ #[.pointer (some ⟨bu,0,none⟩)]) = #[.agg #[.bool p,.slice a0 na ca,.slice d nd cd],.pointer (some ⟨bu,0,none⟩)]:=by simp [hy]
   rw [e3,show spl v u r=_ from by unfold spl;simp only [h0,if_true];rfl,show wid v=_ from by unfold wid;simp only [h0,if_true];rfl]
   exact up3 u w h3 hr
  ·rintro e w' ⟨h,rfl,g,hb⟩
   exact ⟨_,rfl,hK _ _ g hb⟩
 ·refine oM x #[y] ats _ #[.pointer (some ⟨bu,0,none⟩)] ho (by rw [hx];exact (Option.some.inj hi).symm) fe6 (Post:=fun e w'=>∃ h,e = .returned (.slice (some ⟨h,0,none⟩) (wid v) (wid v))∧SPL w' h (wid v) (spl v u r) S∧Below w.heap.size w w') ?_ ?_
  ·have e3:(#[y].map a.eval ++ #[.pointer (some ⟨bu,0,none⟩)]) = #[.agg #[.bool p,.slice a0 na ca,.slice d nd cd],.pointer (some ⟨bu,0,none⟩)]:=by simp [hy]
   rw [e3,show spl v u r=_ from by unfold spl;simp only [h0,h0',if_true,if_false,Bool.false_eq_true];rfl,show wid v=_ from by unfold wid;simp only [h0,h0',if_true,if_false,Bool.false_eq_true];rfl]
   exact dn3 u w h3 hr hS hS1 hT
  ·rintro e w' ⟨h,rfl,g,hb⟩
   exact ⟨_,rfl,hK _ _ g hb⟩
 ·refine oM x #[y] ats _ #[.pointer (some ⟨bp,0,none⟩),.pointer (some ⟨bm,0,none⟩)] ho (by rw [hx];exact (Option.some.inj hi).symm) fe8 (Post:=fun e w'=>∃ h,e = .returned (.slice (some ⟨h,0,none⟩) (wid v) (wid v))∧SPL w' h (wid v) (spl v u r) S∧Below w.heap.size w w') ?_ ?_
  ·have e3:(#[y].map a.eval ++ #[.pointer (some ⟨bp,0,none⟩),.pointer (some ⟨bm,0,none⟩)]) = #[.agg #[.bool p,.slice a0 na ca,.slice d nd cd],.pointer (some ⟨bp,0,none⟩),.pointer (some ⟨bm,0,none⟩)]:=by simp [hy]
   rw [e3,show spl v u r=_ from by unfold spl;simp only [h0,h0',if_false,Bool.false_eq_true];rfl,show wid v=_ from by unfold wid;simp only [h0,h0',if_false,Bool.false_eq_true];rfl]
   exact fr2 u w h1 h3 hr hS hS1 hT
  ·rintro e w' ⟨h,rfl,g,hb⟩
   exact ⟨_,rfl,hK _ _ g hb⟩
end Go.Proofs.YtmeimjakdheidaaGreatDoor
