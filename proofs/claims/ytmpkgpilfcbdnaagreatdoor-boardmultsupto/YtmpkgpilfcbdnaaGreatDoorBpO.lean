import Derived.Test.YtmpkgpilfcbdnaaGreatDoorBpIAll
import Derived.Test.YtmpkgpilfcbdnaaGreatDoorBpL0
import Derived.Test.YtmpkgpilfcbdnaaGreatDoorQAll
namespace Go.Proofs.YtmpkgpilfcbdnaaGreatDoor
open Go.RowKit
set_option maxRecDepth 100000 in
set_option maxHeartbeats 8000000 in
theorem plusB {p1:Bool} {a1:Option Addr} {n1 c1:Nat} {d1:Option Addr} {m1 e1:Nat} {r1:Rat} {p2:Bool} {a2:Option Addr} {n2 c2:Nat} {d2:Option Addr} {m2 e2:Nat} {r2:Rat} {p3:Bool} {a3:Option Addr} {n3 c3:Nat} {d3:Option Addr} {m3 e3:Nat} {r3:Rat} {S1 S2 S3:Nat} (w:World) (h1:TR w p1 a1 n1 c1 d1 m1 e1 r1 S1) (h2:TR w p2 a2 n2 c2 d2 m2 e2 r2 S2) (h3:TR w p3 a3 n3 c3 d3 m3 e3 r3 S3) (hS:1≤S1∧1≤S2∧1≤S3) (hSS:S1 + S2 + S3≤6000000) :
  Calls Tryz.prog 8 #[.agg #[.bool p1,.slice a1 n1 c1,.slice d1 m1 e1],.agg #[.bool p2,.slice a2 n2 c2,.slice d2 m2 e2],.agg #[.bool p3,.slice a3 n3 c3,.slice d3 m3 e3]] w fun e w'=>NumP w (r1 + r2 * r3) (S1 + (S2 + S3) + 1) e w':=by
 obtain ⟨V1,V2,V3,V4,hb0,hsz⟩:=box_r3r w (.bool p1) (.slice a1 n1 c1) (.slice d1 m1 e1) (.bool p2) (.slice a2 n2 c2) (.slice d2 m2 e2) (.bool p3) (.slice a3 n3 c3) (.slice d3 m3 e3) (.bool false) (.slice none 0 0) (.slice none 0 0) 29
 replace h1:=h1.below hb0
 replace h2:=h2.below hb0
 replace h3:=h3.below hb0
 go_enter Tryz.func8,Tryz.ntmps8
 go_wp2_with fail
 generalize (((w.alloc (.cells #[.bool p1,.slice a1 n1 c1,.slice d1 m1 e1] 29)).alloc (.cells #[.bool p2,.slice a2 n2 c2,.slice d2 m2 e2] 29)).alloc (.cells #[.bool p3,.slice a3 n3 c3,.slice d3 m3 e3] 29)).alloc (.cells #[.bool false,.slice none 0 0,.slice none 0 0] 29) = W0 at *
 have HBX:∀ w',Below W0.heap.size W0 w'→(w'.cell? ⟨w.heap.size,0,none⟩ = some (.bool p1)∧w'.cell? ⟨w.heap.size,1,none⟩ = some (.slice a1 n1 c1)∧w'.cell? ⟨w.heap.size,2,none⟩ = some (.slice d1 m1 e1)∧w'.cell? ⟨w.heap.size + 1,0,none⟩ = some (.bool p2)∧w'.cell? ⟨w.heap.size + 1,1,none⟩ = some (.slice a2 n2 c2)∧w'.cell? ⟨w.heap.size + 1,2,none⟩ = some (.slice d2 m2 e2)∧w'.cell? ⟨w.heap.size + 2,0,none⟩ = some (.bool p3)∧w'.cell? ⟨w.heap.size + 2,1,none⟩ = some (.slice a3 n3 c3)∧w'.cell? ⟨w.heap.size + 2,2,none⟩ = some (.slice d3 m3 e3)):=fun w' h=>⟨kept_c h V1.c0,kept_c h V1.c1,kept_c h V1.c2,kept_c h V2.c0,kept_c h V2.c1,kept_c h V2.c2,kept_c h V3.c0,kept_c h V3.c1,kept_c h V3.c2⟩
 refine wp_region_noPanic (wp_region_guardT 5 HBX (by as_aux_lemma=>kernel_rfl) ?_)
 have hc0:Below W0.heap.size W0 W0.drew:=bel_d1 _
 generalize W0.drew = z0 at *
 refine wpAnyG.tT 0 (v:=.agg #[.bool p1,.slice a1 n1 c1,.slice d1 m1 e1]) (by decide) 5 (by as_aux_lemma=>kernel_rfl) (by rfl) ?y0 (HBX _ hc0) ?_
 case y0 =>
  rintro w' ⟨q0,q1,q2,q3,q4,q5,q6,q7,q8⟩
  simp only [lgA,lgZ]
  go_simp
 simp only [lgA,lgZ,Act.put,lsA,lsZ,lsS]
 refine wpAnyG.tT 1 (v:=.agg #[.bool p2,.slice a2 n2 c2,.slice d2 m2 e2]) (by decide) 5 (by as_aux_lemma=>kernel_rfl) (by rfl) ?y1 (HBX _ hc0) ?_
 case y1 =>
  rintro w' ⟨q0,q1,q2,q3,q4,q5,q6,q7,q8⟩
  simp only [lgA,lgZ,lgS]
  go_simp
 simp only [lgA,lgZ,lgS,Act.put,lsA,lsZ,lsS]
 refine wpAnyG.tT 2 (v:=.agg #[.bool p3,.slice a3 n3 c3,.slice d3 m3 e3]) (by decide) 5 (by as_aux_lemma=>kernel_rfl) (by rfl) ?y2 (HBX _ hc0) ?_
 case y2 =>
  rintro w' ⟨q0,q1,q2,q3,q4,q5,q6,q7,q8⟩
  simp only [lgA,lgZ,lgS]
  go_simp
 simp only [lgA,lgZ,lgS,Act.put,lsA,lsZ,lsS]
 refine wpAnyG.one 3 (by as_aux_lemma=>kernel_rfl) (by decide) (by rfl) (fun K hK=>?_)
 simp only [lgA,lgZ,lgS]
 go_simp
 refine (mulD z0 (h2.below hc0) (h3.below hc0) (by omega) hS.2.1 hS.2.2).mono ?_
 rintro e z1 ⟨g4,u4,i4,j4,o4,t4,x4,rfl,G4,hk1⟩
 have hc1:Below W0.heap.size W0 z1:=bel_tr hc0 hk1
 dsimp only
 refine hK _ _ ⟨fun _=>HBX _ hc1,fun _=>trivial⟩ ?_
 clear hK K
 refine wpAnyG.one 4 (by as_aux_lemma=>kernel_rfl) (by decide) (by rfl) (fun K hK=>?_)
 simp only [lgA,lgZ,lgS]
 go_simp
 refine (addD z1 (h1.below hc1) G4.tr (by omega) hS.1 (by omega)).mono ?_
 rintro e z2 ⟨g5,u5,i5,j5,o5,t5,x5,rfl,G5,hk2⟩
 have hc2:Below W0.heap.size W0 z2:=bel_tr hc1 hk2
 dsimp only
 refine hK _ _ ⟨fun _=>HBX _ hc2,fun _=>trivial⟩ ?_
 clear hK K
 refine wpAnyG.one 5 (by as_aux_lemma=>kernel_rfl) (by decide) (by rfl) (fun K hK=>?_)
 simp only [lgA,lgZ,lgS]
 have VS:=V4.below hc2
 obtain ⟨y0,y1,y2,y3,y4,y5⟩:=id VS
 go_simp
 refine hK _ _ ⟨fun h=>absurd h (by decide),fun _=>trivial⟩ ?_
 clear hK K
 refine wpAnyG.done (by as_aux_lemma=>kernel_rfl) (NoPanic.normal ?_)
 obtain ⟨V',O⟩:=VS.set (.bool g5) (.slice u5 i5 j5) (.slice o5 t5 x5)
 have hs1:=hc1.size
 have GN:=(G5.off O (by omega)).mono (B':=w.heap.size) (by omega)
 have hw:=(bel_tr hb0 hc2).trans (O.below (by omega))
 clear V1 V2 V3 V4 VS G4 G5 hc0 hc1 hc2 hk1 hk2 h1 h2 h3 HBX O y0 y1 y2 y3 y4 y5
 go_wp2
 exact bodyPost_ret (v:=.agg #[.bool g5,.slice u5 i5 j5,.slice o5 t5 x5]) (by simp [results,Tryz.results8,go_sem,V'.c0,V'.c1,V'.c2]) rfl ⟨_,_,_,_,_,_,_,rfl,GN,hw⟩
end Go.Proofs.YtmpkgpilfcbdnaaGreatDoor
