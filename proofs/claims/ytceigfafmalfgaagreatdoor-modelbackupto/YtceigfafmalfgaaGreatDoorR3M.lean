import Derived.Test.YtceigfafmalfgaaGreatDoorRatAll
namespace Go.Proofs.YtceigfafmalfgaaGreatDoor
open Go.RowKit
theorem TR.neg {w:World} {p:Bool} {a:Option Addr} {na ca:Nat} {d:Option Addr} {nd cd:Nat} {r:Rat} {S:Nat} (h:TR w p a na ca d nd cd r S):TR w (!p) a na ca d nd cd (-r) S:=by
 obtain ⟨x,y,⟨m,h1,h2⟩,h3,h4⟩:=h
 exact ⟨-x,y,⟨m,h1,by rw [ws_not,h2]⟩,h3,by rw [← h4,Rat.neg_divInt]⟩
set_option maxHeartbeats 4000000 in
theorem subQ {p q:Bool} {a b:Option Addr} {na nb ca cb:Nat} {d e0:Option Addr} {nd ne cd ce:Nat} {r s:Rat} {S R:Nat} (w:World) (hr:TR w p a na ca d nd cd r S) (hs:TR w q b nb cb e0 ne ce s R) (hSR:S+R≤6000000) (hS1:1≤S) (hR1:1≤R) (hT:TB w) :
  Calls Tryz.prog 50 #[.agg #[.bool p,.slice a na ca,.slice d nd cd],.agg #[.bool q,.slice b nb cb,.slice e0 ne ce]] w fun e w'=>∃ f c n k c' n' k',e = .returned (.agg #[.bool f,.slice c n k,.slice c' n' k'])∧GR w' w.heap.size f c n k c' n' k' (r-s) (S+R+1)∧Below w.heap.size w w':=by
 replace hs:=hs.neg
 obtain ⟨P0,P1,R0,hb0,hsz⟩:=box_rrr w (.bool p) (.slice a na ca) (.slice d nd cd) (.bool !q) (.slice b nb cb) (.slice e0 ne ce) (.bool false) (.slice none 0 0) (.slice none 0 0) 27
 replace hr:=hr.below hb0
 replace hs:=hs.below hb0
 replace hT:=hT.below hb0
 go_enter Tryz.func50,Tryz.ntmps50
 obtain ⟨p0c0,p0c1,p0c2,p0c3,p0c4,p0c5⟩:=id P0
 obtain ⟨p1c0,p1c1,p1c2,p1c3,p1c4,p1c5⟩:=id P1
 go_wp2_with fail
 generalize ((w.alloc (.cells #[.bool p,.slice a na ca,.slice d nd cd] 27)).alloc (.cells #[.bool !q,.slice b nb cb,.slice e0 ne ce] 27)).alloc (.cells #[.bool false,.slice none 0 0,.slice none 0 0] 27)=W0 at *
 refine (addQ _ hr hs (by omega) (by omega) (by omega) hT).mono ?_
 rintro e w1 ⟨g5,u5,m5,l5,u6,m6,l6,rfl,GG,hx⟩
 clear p0c0 p0c1 p0c2 p0c3 p0c4 p0c5 p1c0 p1c1 p1c2 p1c3 p1c4 p1c5
 replace hr:=hr.below hx
 replace hs:=hs.below hx
 replace hT:=hT.below hx
 replace R0:=R0.below hx
 replace P0:=P0.below hx
 replace P1:=P1.below hx
 replace hb0:=bel_tr hb0 hx
 have hsw1:W0.heap.size≤w1.heap.size:=Below.size hx
 clear hx
 replace GG:=GG.val (Rat.sub_eq_add_neg r s).symm
 obtain ⟨p0c0,p0c1,p0c2,p0c3,p0c4,p0c5⟩:=id P0
 obtain ⟨p1c0,p1c1,p1c2,p1c3,p1c4,p1c5⟩:=id P1
 clear p0c0 p0c1 p0c2 p0c3 p0c4 p0c5 p1c0 p1c1 p1c2 p1c3 p1c4 p1c5
 clear P0 P1 hr hs hT
 obtain ⟨z0,z1,z2,z3,z4,z5⟩:=id R0
 obtain ⟨V,O⟩:=R0.set (.bool g5) (.slice u5 m5 l5) (.slice u6 m6 l6)
 have GF:=(GG.mono (B':=w.heap.size+3) (by omega)).off O (by omega)
 have hw:=hb0.trans (O.below (by omega))
 clear R0 O GG hb0
 go_wp2
 refine bodyPost_ret (v:=.agg #[.bool g5,.slice u5 m5 l5,.slice u6 m6 l6]) (by simp [results,Tryz.results50,go_sem,V.c0,V.c1,V.c2]) rfl ⟨_,_,_,_,_,_,_,rfl,GF.mono (by omega),hw⟩
set_option maxHeartbeats 4000000 in
theorem ofQ (v:Int) (w:World) (h0:-9223372036854775808≤v) (h1:v<9223372036854775808) :
  Calls Tryz.prog 42 #[.int .i64 v] w fun e w'=>∃ f c n k c' n' k',e = .returned (.agg #[.bool f,.slice c n k,.slice c' n' k'])∧GR w' w.heap.size f c n k c' n' k' ((v:Rat)) (1)∧Below w.heap.size w w':=by
 have R0:=var3_new w (.bool false) (.slice none 0 0) (.slice none 0 0) 27
 have hb0:=bel_d0 w (.cells #[.bool false,.slice none 0 0,.slice none 0 0] 27)
 have hsz:(w.alloc (.cells #[.bool false,.slice none 0 0,.slice none 0 0] 27)).heap.size=w.heap.size+1:=by simp
 go_enter Tryz.func42,Tryz.ntmps42
 go_wp2_with fail
 generalize w.alloc (.cells #[.bool false,.slice none 0 0,.slice none 0 0] 27)=W0 at *
 refine (ofT v _ h0 h1).mono ?_
 rintro e w1 ⟨g5,u5,m5,l5,rfl,K1,hx⟩
 replace R0:=R0.below hx
 replace hb0:=bel_tr hb0 hx
 have hsw1:W0.heap.size≤w1.heap.size:=Below.size hx
 clear hx
 go_wp2_with fail
 refine (ofG 1 _ (by decide) (by decide)).mono ?_
 rintro e w2 ⟨u6,m6,l6,rfl,K2,hx⟩
 have HNE:=NB.of K1.parts.2 K2 (Nat.le_refl _)
 replace R0:=R0.below hx
 replace K1:=K1.below hx
 replace hb0:=bel_tr hb0 hx
 have hsw2:w1.heap.size≤w2.heap.size:=Below.size hx
 clear hx
 have GG:GR w2 (w.heap.size+1) g5 u5 m5 l5 u6 m6 l6 (v:Rat) 1:=⟨K1.mono (by omega),K2.mono (by omega),HNE⟩
 clear K1 K2
 obtain ⟨z0,z1,z2,z3,z4,z5⟩:=id R0
 obtain ⟨V,O⟩:=R0.set (.bool g5) (.slice u5 m5 l5) (.slice u6 m6 l6)
 have GF:=(GG.mono (B':=w.heap.size+1) (by omega)).off O (by omega)
 have hw:=hb0.trans (O.below (by omega))
 clear R0 O GG hb0
 go_wp2
 refine bodyPost_ret (v:=.agg #[.bool g5,.slice u5 m5 l5,.slice u6 m6 l6]) (by simp [results,Tryz.results42,go_sem,V.c0,V.c1,V.c2]) rfl ⟨_,_,_,_,_,_,_,rfl,GF.mono (by omega),hw⟩
end Go.Proofs.YtceigfafmalfgaaGreatDoor
