import Derived.Test.YtmpkgpilfcbdnaaGreatDoorBpK
import Derived.Test.YtmpkgpilfcbdnaaGreatDoorQAll
import Derived.Test.YtmpkgpilfcbdnaaGreatDoorSNAll
namespace Go.Proofs.YtmpkgpilfcbdnaaGreatDoor
open Go.RowKit
theorem cs_slf {r s:Rat} (h:r = s):(0:Int) = cs r s:=by subst h;unfold cs;rw [Int.sub_self];rfl
set_option maxRecDepth 100000 in
set_option maxHeartbeats 8000000 in
theorem sameL {p q:Bool} {a b:Option Addr} {na nb ca cb:Nat} {d e0:Option Addr} {nd ne cd ce:Nat} {r s:Rat} {B B' S R:Nat} (w:World) (hr:GR w B p a na ca d nd cd r S) (hs:GR w B' q b nb cb e0 ne ce s R) (he:r = s) (hSR:S + R≤6000000) (hS1:1≤S) (hR1:1≤R) :
  Calls Tryz.prog 14 #[.agg #[.bool p,.slice a na ca,.slice d nd cd],.agg #[.bool q,.slice b nb cb,.slice e0 ne ce]] w fun e w'=>e = .returned (.bool true)∧Below w.heap.size w w':=by
 obtain ⟨P0,P1,hb0,hsz⟩:=box_rr w (.bool p) (.slice a na ca) (.slice d nd cd) (.bool q) (.slice b nb cb) (.slice e0 ne ce) 29
 replace hr:=hr.below hb0
 replace hs:=hs.below hb0
 have HE:Hid ((0:Int) = cs r s):=cs_slf he
 clear he hsz
 go_enter Tryz.func14,Tryz.ntmps14
 go_wp2_with fail
 generalize (w.alloc (.cells #[.bool p,.slice a na ca,.slice d nd cd] 29)).alloc (.cells #[.bool q,.slice b nb cb,.slice e0 ne ce] 29) = W0 at *
 obtain ⟨p0c0,p0c1,p0c2,p0c3,p0c4,p0c5⟩:=id P0
 obtain ⟨p1c0,p1c1,p1c2,p1c3,p1c4,p1c5⟩:=id P1
 go_wp2_with fail
 refine (cmpD 0 W0 hr.tr hs.tr hSR hS1 hR1 HE.out).mono ?_
 rintro e w1 ⟨rfl,h1⟩
 have hbn:=bel_tr hb0 h1
 clear p0c0 p0c1 p0c2 p0c3 p0c4 p0c5 p1c0 p1c1 p1c2 p1c3 p1c4 p1c5 P0 P1 hr hs h1 hb0
 go_wp2
 go_ret
 exact ⟨rfl,hbn⟩
set_option maxRecDepth 100000 in
set_option maxHeartbeats 8000000 in
theorem isN {p:Bool} {a:Option Addr} {na ca:Nat} {d:Option Addr} {nd cd:Nat} {r:Rat} {B S:Nat} (v:Int) (w:World) (G:GR w B p a na ca d nd cd r S) (hr:r ≠ (v:Rat)) (hv:-9223372036854775808≤v∧v < 9223372036854775808) (hS:S≤100000000):Calls Tryz.prog 22 #[.agg #[.bool p,.slice a na ca,.slice d nd cd],.int .i64 v] w fun e w'=>e = .returned (.bool false)∧Below w.heap.size w w':=by
 have BX:=box_new w #[.bool p,.slice a na ca,.slice d nd cd] 29
 have hb0:=bel_d0 w (.cells #[.bool p,.slice a na ca,.slice d nd cd] 29)
 have G0:=G.below hb0
 go_enter Tryz.func22,Tryz.ntmps22
 go_wp2_with fail
 generalize w.alloc (.cells #[.bool p,.slice a na ca,.slice d nd cd] 29) = W0 at *
 have HBX:∀ w',Below W0.heap.size W0 w'→(w'.cell? ⟨w.heap.size,0,none⟩ = some (.bool p)∧w'.cell? ⟨w.heap.size,1,none⟩ = some (.slice a na ca)∧w'.cell? ⟨w.heap.size,2,none⟩ = some (.slice d nd cd)):=fun w' h=>⟨kept_c h (BX 0 _ rfl),kept_c h (BX 1 _ rfl),kept_c h (BX 2 _ rfl)⟩
 refine wp_region_noPanic (wp_region_guardB HBX (by as_aux_lemma=>kernel_rfl) ?_)
 have hc0:Below W0.heap.size W0 W0.drew:=bel_d1 _
 generalize W0.drew = z0 at *
 refine wpAnyG.tA 0 (v:=.agg #[.bool p,.slice a na ca,.slice d nd cd]) (by decide) 4 (by as_aux_lemma=>kernel_rfl) (by rfl) ?y0 (HBX _ hc0) ?_
 case y0 =>
  rintro w' ⟨q0,q1,q2⟩
  simp only [lgA,lgZ]
  go_simp
 simp only [lgA,lgZ,Act.put,lsA,lsZ,lsS]
 refine wpAnyG.tA 1 (v:=.int .i64 v) (by decide) 4 (by as_aux_lemma=>kernel_rfl) (by rfl) ?y1 (HBX _ hc0) ?_
 case y1 =>
  rintro w' ⟨q0,q1,q2⟩
  simp only [lgA,lgZ,lgS]
  go_simp
 simp only [lgA,lgZ,lgS,Act.put,lsA,lsZ,lsS]
 refine wpAnyG.one 2 (by as_aux_lemma=>kernel_rfl) (by decide) (by rfl) (fun K hK=>?_)
 simp only [lgA,lgZ,lgS]
 go_simp
 refine (ofD v z0 hv.1 hv.2).mono ?_
 rintro e z1 ⟨f2,c2,n2,k2,d2,m2,l2,rfl,G2,hk1⟩
 have hc1:Below W0.heap.size W0 z1:=bel_tr hc0 hk1
 have G1:=G0.below hc1
 dsimp only
 refine hK _ _ (HBX _ hc1) ?_
 clear hK K
 refine wpAnyG.one 3 (by as_aux_lemma=>kernel_rfl) (by decide) (by rfl) (fun K hK=>?_)
 simp only [lgA,lgZ,lgS]
 go_simp
 refine (refSameN z1 G1 G2 hr hS (by decide)).mono ?_
 rintro e z2 ⟨rfl,hk2⟩
 have hc2:Below W0.heap.size W0 z2:=bel_tr hc1 hk2
 dsimp only
 refine hK _ _ (HBX _ hc2) ?_
 clear hK K
 refine wpAnyG.one 4 (by as_aux_lemma=>kernel_rfl) (by decide) (by rfl) (fun K hK=>?_)
 simp only [lgA,lgZ,lgS]
 go_simp
 refine hK _ _ (HBX _ hc2) ?_
 clear hK K
 refine wpAnyG.done (by as_aux_lemma=>kernel_rfl) (NoPanic.normal ?_)
 have hbn:=bel_tr hb0 hc2
 clear HBX BX G0 G1 G2 hc0 hc1 hc2 hk1 hk2
 go_wp2
 go_ret
 exact ⟨rfl,hbn⟩
end Go.Proofs.YtmpkgpilfcbdnaaGreatDoor
