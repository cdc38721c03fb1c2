import Derived.Test.YtjiodidemimgmaaGreatDoorBpUAll
namespace Go.Proofs.YtjiodidemimgmaaGreatDoor
open Go.RowKit
structure ExB (U w:World) (f:Bf) (s:StD) (X:Nat→RoD) (b:Nat→Nat) (lc:List (Nat × Rat)) (R:Nat):Prop where
 g:Gam w U.heap.size f s X b lc 19 20
 s:ExS s
 e:f.b = R
 bl:Below U.heap.size U w
variable {U w:World} {f:Bf} {s:StD} {X:Nat→RoD} {b:Nat→Nat} {lc:List (Nat × Rat)} {R:Nat}
theorem ExB.m (h:ExB U w f s X b lc R):f.m = 2:=h.g.m.trans h.s.bn
theorem ExB.d (h:ExB U w f s X b lc R):BD w U.heap.size f 3 X lc 19 20:=by have:=h.g.bd;rw [h.s.cn] at this;exact this
theorem ExB.below {w':World} (h:ExB U w f s X b lc R) (hb:Below w.heap.size w w'):ExB U w' f s X b lc R:=⟨⟨h.g.bd.below hb,h.g.m,h.g.p,h.g.c⟩,h.s,h.e,bel_tr h.bl hb⟩
theorem ExB.hN (h:ExB U w f s X b lc R):3 + f.m≤3000000:=by rw [h.m];decide
def NewE (w:World) (s:StD) (e:Ending) (w':World):Prop:=∃ f X R,e = .returned (.pointer (some ⟨R,0,none⟩))∧ExX X∧ExB w w' f s X (fun i=>s.cn + i) [] R
theorem ex_new (w:World) {s:StD} (hs:StQ w s 1) (hS:ExS s) (hT:TB w):Calls Tryz.prog 12 #[.agg #[.slice s.aa s.an s.ac,.slice s.ba s.bn s.bc,.slice s.ca s.cn s.cc,.bool s.zp,.slice s.za s.zn s.zc,.slice s.zd s.zm s.ze]] w fun e w'=>NewE w s e w':=by
 refine (newB (S:=19) w (hs.up (by decide)) (by decide) (by rw [hS.cn,hS.bn];decide) hT).mono ?_
 rintro e w1 ⟨f,X,rfl,hm,B,hX,hb⟩
 exact ⟨f,X,_,rfl,hS.x hX,⟨B.leC (by decide),hm,Ply.first hX,csz_nil _ _⟩,hS,rfl,hb⟩
theorem ex_rows (h:ExB U w f s X b lc R):Calls Tryz.prog 14 #[.pointer (some ⟨R,0,none⟩)] w fun e w'=>e = .returned (.int .i64 2)∧w' = w:=by
 have k:=rowsB w h.d
 rw [h.m,h.e] at k
 exact k
theorem ex_cols (h:ExB U w f s X b lc R):Calls Tryz.prog 15 #[.pointer (some ⟨R,0,none⟩)] w fun e w'=>e = .returned (.int .i64 5)∧Below w.heap.size w w':=by
 have k:=colsB w h.d h.hN
 rw [h.m,h.e] at k
 exact k
theorem ex_turned0 (h:ExB U w f s X b lc R) (x:ExX X):Calls Tryz.prog 16 #[.pointer (some ⟨R,0,none⟩),.int .i64 0] w fun e w'=>e = .returned (.bool false)∧w' = w:=by
 have k:=turnedB 0 w h.d
 have e:btu X f.m 0 = false:=by unfold btu;rw [h.m,if_pos (by decide)];exact x.t0
 rw [e,h.e] at k
 exact k
theorem ex_turned1 (h:ExB U w f s X b lc R) (x:ExX X):Calls Tryz.prog 16 #[.pointer (some ⟨R,0,none⟩),.int .i64 1] w fun e w'=>e = .returned (.bool true)∧w' = w:=by
 have k:=turnedB 1 w h.d
 have e:btu X f.m 1 = true:=by unfold btu;rw [h.m,if_pos (by decide)];exact x.t1
 rw [e,h.e] at k
 exact k
def CstE (U:World) (s:StD) (X:Nat→RoD) (b:Nat→Nat) (lc:List (Nat × Rat)) (R:Nat) (e:Ending) (w':World):Prop:=e = .returned (.tuple #[])∧∃ f,ExB U w' f s X b lc R
theorem ex_cost {g:Nat} {p:Bool} {a:Option Addr} {na ca:Nat} {d:Option Addr} {nd cd:Nat} {p':Bool} {a':Option Addr} {na' ca':Nat} {d':Option Addr} {nd' cd':Nat} (h:ExB U w f s X b lc R) (hT:TB U) (B:Rw 29 w g #[.bool false,.slice none 0 0,.slice none 0 0,.bool false,.slice none 0 0,.slice none 0 0,.bool false,.slice none 0 0,.slice none 0 0,.bool p,.slice a na ca,.slice d nd cd,.bool p',.slice a' na' ca',.slice d' nd' cd']) (hg:∀ k,f.has k→k < g) (G:GR w 0 p a na ca d nd cd 1 1) (G':GR w 0 p' a' na' ca' d' nd' cd' 1 1) :
  Calls Tryz.prog 17 #[.pointer (some ⟨R,0,none⟩),.slice (some ⟨g,0,none⟩) 5 5] w fun e w'=>CstE U s X b (lco yC 5) R e w':=by
 have hn:=h.d.noU
 have k:=costB (Sc':=20) (ga:=some ⟨g,0,none⟩) (gn:=5) (gc:=5) (Y:=yC) w h.d (fun C' w' hk=>by
  have B':=B.kf hk (fun hc=>Nat.lt_irrefl _ (hg g hc))
  have H:=G.kf hk hn
  have H':=G'.kf hk hn
  refine .inr ⟨g,0,rfl,fun i hi=>?_⟩
  rcases (by omega:i = 0∨i = 1∨i = 2∨i = 3∨i = 4) with rfl | rfl | rfl | rfl | rfl
  ·exact ⟨_,_,_,_,_,_,_,(B'.cell 0).trans rfl,(B'.cell 1).trans rfl,(B'.cell 2).trans rfl,TR.zero w' 20⟩
  ·exact ⟨_,_,_,_,_,_,_,(B'.cell 3).trans rfl,(B'.cell 4).trans rfl,(B'.cell 5).trans rfl,TR.zero w' 20⟩
  ·exact ⟨_,_,_,_,_,_,_,(B'.cell 6).trans rfl,(B'.cell 7).trans rfl,(B'.cell 8).trans rfl,TR.zero w' 20⟩
  ·exact ⟨_,_,_,_,_,_,_,(B'.cell 9).trans rfl,(B'.cell 10).trans rfl,(B'.cell 11).trans rfl,H.tr.up (by decide)⟩
  ·exact ⟨_,_,_,_,_,_,_,(B'.cell 12).trans rfl,(B'.cell 13).trans rfl,(B'.cell 14).trans rfl,H'.tr.up (by decide)⟩) (by decide) (by decide) h.hN (by decide) (hT.below h.bl) hT.2 h.bl.size
 rw [h.m,h.e] at k
 refine k.mono ?_
 rintro e w' ⟨rfl,cv,B2,K2⟩
 refine ⟨rfl,{ f with cv:=cv },⟨⟨?_,h.g.m,h.g.p,?_⟩,h.s,h.e,h.bl.trans (K2.below (fun k hk=>(h.d.lt k hk).1) h.bl.size)⟩⟩
 ·rw [h.s.cn];exact B2
 ·rw [h.s.cn,h.s.bn];exact yC_csz
theorem ExB.rz (h:ExB U w f s X b lc R) (a:Nat) (ha:a < 5):RdZ X lc f.m 40 (a:Int):=h.g.rz h.s.z a (by rw [h.s.cn,h.m];exact ha)
def NumE (w:World) (r:Rat) (e:Ending) (w':World):Prop:=∃ p a na ca d nd cd,e = .returned (.agg #[.bool p,.slice a na ca,.slice d nd cd])∧GR w' 0 p a na ca d nd cd r 100∧Below w.heap.size w w'
theorem NumP.ne {w w':World} {r r':Rat} {T:Nat} {e:Ending} (h:NumP w r T e w') (hr:r = r') (hT:T≤100):NumE w r' e w':=by
 obtain ⟨p,a,na,ca,d,nd,cd,e,G,hb⟩:=h
 exact ⟨p,a,na,ca,d,nd,cd,e,((G.mono (Nat.zero_le _)).le hT).val hr,hb⟩
theorem ex_red (h:ExB U w f s X b (lco yC 5) R) (x:ExX X) (hT:TB w):Calls Tryz.prog 19 #[.pointer (some ⟨R,0,none⟩),.int .i64 0] w fun e w'=>NumE w ((-2:Int):Rat) e w':=by
 have k:=reducedB (T:=40) 0 w h.d (by decide) (by decide) (by decide) (h.rz 0 (by decide)) h.hN hT
 rw [h.e,h.m] at k
 exact k.mono fun e w' hn=>hn.ne x.red (by decide)
theorem ex_wor (h:ExB U w f s X b (lco yC 5) R) (x:ExX X) (hT:TB w):Calls Tryz.prog 20 #[.pointer (some ⟨R,0,none⟩)] w fun e w'=>NumE w ((6:Int):Rat) e w':=by
 have k:=worthB (T:=40) w h.d (by decide) (by decide) (by decide) (fun k hk=>x.worZ k (by rw [h.m] at hk;exact hk)) h.hN hT
 rw [h.e,h.m] at k
 exact k.mono fun e w' hn=>hn.ne x.wor.2 (by decide)
theorem ex_ent (h:ExB U w f s X b (lco yC 5) R) (x:ExX X) (hT:TB w):Calls Tryz.prog 21 #[.pointer (some ⟨R,0,none⟩),.int .i64 3] w fun e w'=>e = .returned (.int .i64 0)∧Below w.heap.size w w':=by
 have k:=enterB (T:=40) 3 w h.d (by decide) (by decide) (by decide) (fun a ha=>h.rz a (by rw [h.m] at ha;exact ha)) h.hN hT
 rw [h.e,h.m] at k
 refine k.mono ?_
 rintro e w' ⟨i,rfl,hi,hb⟩
 refine ⟨?_,hb⟩
 rcases hi with ⟨_,hn⟩ | ⟨a,_,rfl,_,hl⟩
 ·exact absurd x.ent (hn 0 (by decide))
 ·rcases Nat.eq_zero_or_pos a with rfl | h0
  ·rfl
  ·exact absurd x.ent (hl 0 h0)
theorem ex_lv (h:ExB U w f s X b (lco yC 5) R) (x:ExX X) (hT:TB w):Calls Tryz.prog 22 #[.pointer (some ⟨R,0,none⟩),.int .i64 0] w fun e w'=>e = .returned (.int .i64 1)∧Below w.heap.size w w':=by
 have k:=leaveB 0 w h.d (by decide) h.hN hT
 rw [h.e,h.m] at k
 refine k.mono ?_
 rintro e w' ⟨rfl,hb⟩
 exact ⟨by rw [x.lv],hb⟩
def PivE (U:World) (s:StD) (lc:List (Nat × Rat)) (R:Nat) (e:Ending) (w':World):Prop:=e = .returned .nilIface∧∃ f X b,ExY X∧ExB U w' f s X b lc R
theorem ex_piv {ev0 ev1 ev2:Value} (h:ExB U w f s X b (lco yC 5) R) (x:ExX X) (hT:TB U) (E0:Errs w 0 ev0) (E1:Errs w 1 ev1) (E2:Errs w 2 ev2):Calls Tryz.prog 23 #[.pointer (some ⟨R,0,none⟩),.int .i64 1,.int .i64 0] w fun e w'=>PivE U s (lco yC 5) R e w':=by
 have k:=pivotB 1 0 w h.d (fun a c ha hb hc=>h.g.pz h.s.z a c ha hb (by rw [h.s.cn];exact hc)) (by decide) h.hN (hT.below h.bl) hT.2 h.bl.size E0 E1 E2
 rw [h.e] at k
 refine k.mono ?_
 have ht:thr X f.m 1 = true:=by unfold thr;rw [h.m,show (1:Int).toNat = 1 from rfl,x.b1];rfl
 have h0:lat (X 1).l 0 ≠ 0:=by rw [x.l1];decide +kernel
 rintro e w' (⟨hn | hn,_⟩ | ⟨_,_,hn,_⟩ | ⟨_,_,_,rfl,f',X',e1,e2,e3,e4,B2,K2,P⟩)
 ·rw [ht] at hn;cases hn
 ·exact absurd ⟨by decide,by rw [h.m];decide⟩ hn
 ·exact absurd hn h0
 ·have P':PivR X X' s.bn 1 0:=by rw [h.s.bn,← h.m];exact P
  have hY:ExY X':=x.piv (by rw [h.m] at P;exact P)
  refine ⟨rfl,f',X',_,hY,⟨⟨?_,e3.trans h.g.m,h.g.p.pivot P' (by rw [h.s.bn];decide) (by rw [h.s.bn,h.s.cn];decide) h0,h.g.c⟩,h.s,e1.trans h.e,h.bl.trans (K2.below (fun k hk=>(h.d.lt k hk).1) h.bl.size)⟩⟩
  rw [h.s.cn];exact B2
theorem ex_right (h:ExB U w f s X b lc R) (x:ExY X) (hT:TB w):Calls Tryz.prog 10 #[.pointer (some ⟨R,0,none⟩),.int .i64 0] w fun e w'=>NumE w ((2:Int):Rat) e w':=by
 have k:=rightB 0 w h.d (by decide) hT
 rw [h.e,h.m] at k
 exact k.mono fun e w' hn=>NumP.ne hn x.right (by decide)
theorem ex_at4 (h:ExB U w f s X b lc R) (x:ExY X) (hT:TB w):Calls Tryz.prog 8 #[.pointer (some ⟨R,0,none⟩),.int .i64 0,.int .i64 4] w fun e w'=>NumE w ((-1:Int):Rat) e w':=by
 have k:=atBB 0 4 w h.d h.hN (by decide) hT
 rw [h.e,h.m] at k
 exact k.mono fun e w' hn=>NumP.ne hn x.at4 (by decide)
theorem ex_mu0 (h:ExB U w f s X b (lco yC 5) R) (x:ExY X) (hT:TB w):Calls Tryz.prog 24 #[.pointer (some ⟨R,0,none⟩),.int .i64 0] w fun e w'=>NumE w ((1:Int):Rat) e w':=by
 have k:=multB (T:=40) 0 w h.d (by rw [h.m];decide) (by decide) (by decide) (by decide) (h.rz 3 (by decide)) (by rw [h.m,x.mu.1];exact ⟨by decide +kernel,by decide +kernel⟩) h.hN hT
 rw [h.e,h.m] at k
 exact k.mono fun e w' hn=>hn.ne x.mu0 (by decide)
theorem ex_mu1 (h:ExB U w f s X b (lco yC 5) R) (x:ExY X) (hT:TB w):Calls Tryz.prog 24 #[.pointer (some ⟨R,0,none⟩),.int .i64 1] w fun e w'=>NumE w ((1:Int):Rat) e w':=by
 have k:=multB (T:=40) 1 w h.d (by rw [h.m];decide) (by decide) (by decide) (by decide) (h.rz 4 (by decide)) (by rw [h.m,x.mu.2];exact ⟨by decide +kernel,by decide +kernel⟩) h.hN hT
 rw [h.e,h.m] at k
 exact k.mono fun e w' hn=>hn.ne x.mu1 (by decide)
def DrpE (U:World) (s:StD) (X:Nat→RoD) (b:Nat→Nat) (lc:List (Nat × Rat)) (R:Nat) (e:Ending) (w':World):Prop:=e = .returned .nilIface∧∃ f,ExB U w' f s (upR X 0 { X 0 with bas:=-1 }) b lc R
theorem ex_drop {ev0:Value} (h:ExB U w f s X b lc R) (x:ExY X) (E0:Errs w 0 ev0):Calls Tryz.prog 25 #[.pointer (some ⟨R,0,none⟩),.int .i64 0] w fun e w'=>DrpE U s X b lc R e w':=by
 have k:=dropB 0 w h.d E0
 rw [h.e] at k
 refine k.mono ?_
 have ht:thr X f.m 0 = true:=by unfold thr;rw [h.m,show (0:Int).toNat = 0 from rfl,x.b0];rfl
 rintro e w' (⟨hn,_⟩ | ⟨_,rfl,B2,K2⟩)
 ·rw [ht] at hn;cases hn
 ·refine ⟨rfl,f,⟨⟨?_,h.g.m,h.g.p.drop 0,h.g.c⟩,h.s,h.e,h.bl.trans (K2.below (fun k hk=>(h.d.lt k hk).1) h.bl.size)⟩⟩
  rw [h.s.cn];exact B2
def BasE (w:World) (e:Ending) (w':World):Prop:=∃ g,e = .returned (.slice (some ⟨g,0,none⟩) 2 2)∧w'.cell? ⟨g,0,none⟩ = some (.int .i64 (-1))∧w'.cell? ⟨g,1,none⟩ = some (.int .i64 0)∧Below w.heap.size w w'
theorem ex_bas (h:ExB U w f s (upR X 0 { X 0 with bas:=-1 }) b lc R) (x:ExY X):Calls Tryz.prog 26 #[.pointer (some ⟨R,0,none⟩)] w fun e w'=>BasE w e w':=by
 have k:=basisL w h.d h.hN
 rw [h.e,h.m] at k
 refine k.mono ?_
 rintro e w' ⟨g,rfl,_,hr,hb⟩
 refine ⟨g,rfl,(hr.cell (by decide)).trans rfl,(hr.cell (by decide)).trans ?_,hb⟩
 show some (Value.int .i64 (X 1).bas) = _
 rw [x.b1]
theorem ex_at1 (h:ExB U w f s (upR X 0 { X 0 with bas:=-1 }) b lc R) (x:ExY X) (hT:TB w):Calls Tryz.prog 8 #[.pointer (some ⟨R,0,none⟩),.int .i64 0,.int .i64 1] w fun e w'=>NumE w ((2:Int):Rat) e w':=by
 have k:=atBB 0 1 w h.d h.hN (by decide) hT
 rw [h.e,h.m] at k
 exact k.mono fun e w' hn=>NumP.ne hn x.at1 (by decide)
end Go.Proofs.YtjiodidemimgmaaGreatDoor
namespace Go.Proofs.YtjiodidemimgmaaGreatDoor
open Go.RowKit
set_option maxRecDepth 100000 in
set_option maxHeartbeats 8000000 in
theorem awake11 {ev0 ev1 ev2:Value} (w:World) (hT:TB w) (E0:Errs w 0 ev0) (E1:Errs w 1 ev1) (E2:Errs w 2 ev2):Calls Tryz.prog 4 #[] w fun e w'=>e = .returned (.bool true)∧Below w.heap.size w w':=by
 go_enter Tryz.func4,Tryz.ntmps4
 go_wp2_with fail
 refine (exampleB w).mono ?_
 intro e w1 hP
 obtain ⟨s,rfl,hs,a1,a2,a3,a4,a5,a6,a7,a8,hb1⟩:=exm_std hP
 have hS:ExS s:=⟨a1,a2,a3,a4,a5,a6,a7,a8⟩
 clear a1 a2 a3 a4 a5 a6 a7 a8 hP
 have hT1:=hT.below hb1
 go_wp2_with fail
 refine (ex_new w1 hs hS hT1).mono ?_
 rintro e w2 ⟨f,X,R,rfl,x,h2⟩
 clear hs
 go_wp2_with fail
 refine (ex_rows h2).mono ?_
 rintro e w' ⟨rfl,rfl⟩
 go_wp2_with fail
 refine (ex_cols h2).mono ?_
 rintro e w3 ⟨rfl,k3⟩
 replace h2:=h2.below k3
 clear k3
 go_wp2_with fail
 refine (ex_turned0 h2 x).mono ?_
 rintro e w' ⟨rfl,rfl⟩
 go_wp2_with fail
 refine (ex_turned1 h2 x).mono ?_
 rintro e w' ⟨rfl,rfl⟩
 go_wp2_with fail
 refine (ofD 1 _ (by decide) (by decide)).mono ?_
 rintro e w4 ⟨p1,a1,n1,c1,d1,m1,e1,rfl,G1,k4⟩
 go_wp2_with fail
 refine (ofD 1 w4 (by decide) (by decide)).mono ?_
 rintro e w5 ⟨p2,a2,n2,c2,d2,m2,e2,rfl,G2,k5⟩
 have h5:=(h2.below k4).below k5
 have k6:=bel_d0 w5 (.cells #[.bool false,.slice none 0 0,.slice none 0 0,.bool false,.slice none 0 0,.slice none 0 0,.bool false,.slice none 0 0,.slice none 0 0,.bool p1,.slice a1 n1 c1,.slice d1 m1 e1,.bool p2,.slice a2 n2 c2,.slice d2 m2 e2] 29)
 have B6:=Rw.new 29 w5 #[.bool false,.slice none 0 0,.slice none 0 0,.bool false,.slice none 0 0,.slice none 0 0,.bool false,.slice none 0 0,.slice none 0 0,.bool p1,.slice a1 n1 c1,.slice d1 m1 e1,.bool p2,.slice a2 n2 c2,.slice d2 m2 e2]
 have hcost:=ex_cost (h5.below k6) hT1 B6 (fun k hk=>(h5.d.lt k hk).2) (((G1.below k5).below k6).mono (Nat.zero_le _)) ((G2.below k6).mono (Nat.zero_le _))
 clear B6 G1 G2 k4 k5 k6 h5 h2
 go_wp2_with fail
 refine hcost.mono ?_
 clear hcost
 rintro e w6 ⟨rfl,f6,h6⟩
 go_wp2_with fail
 refine (ex_red h6 x (hT1.below h6.bl)).mono ?_
 rintro e w7 ⟨p3,a3,n3,c3,d3,m3,e3,rfl,G3,k7⟩
 replace h6:=h6.below k7
 go_wp2_with fail
 refine (isB (-2) w7 G3 rfl (by decide) (by decide)).mono ?_
 rintro e w8 ⟨rfl,k8⟩
 replace h6:=h6.below k8
 clear G3 k7 k8
 go_wp2_with fail
 refine (ex_wor h6 x (hT1.below h6.bl)).mono ?_
 rintro e w9 ⟨p3,a3,n3,c3,d3,m3,e3,rfl,G3,k7⟩
 replace h6:=h6.below k7
 go_wp2_with fail
 refine (isB 6 w9 G3 rfl (by decide) (by decide)).mono ?_
 rintro e w10 ⟨rfl,k8⟩
 replace h6:=h6.below k8
 clear G3 k7 k8
 go_wp2_with fail
 refine (ex_ent h6 x (hT1.below h6.bl)).mono ?_
 rintro e w11 ⟨rfl,k8⟩
 replace h6:=h6.below k8
 clear k8
 go_wp2_with fail
 refine (ex_lv h6 x (hT1.below h6.bl)).mono ?_
 rintro e w12 ⟨rfl,k8⟩
 replace h6:=h6.below k8
 clear k8
 go_wp2_with fail
 refine (ex_piv h6 x hT1 ((E0.below hb1).below h6.bl) ((E1.below hb1).below h6.bl) ((E2.below hb1).below h6.bl)).mono ?_
 rintro e w13 ⟨rfl,f7,X7,b7,y,h7⟩
 clear h6 x
 go_wp2_with fail
 refine (ex_right h7 y (hT1.below h7.bl)).mono ?_
 rintro e w14 ⟨p3,a3,n3,c3,d3,m3,e3,rfl,G3,k7⟩
 replace h7:=h7.below k7
 go_wp2_with fail
 refine (isB 2 w14 G3 rfl (by decide) (by decide)).mono ?_
 rintro e w15 ⟨rfl,k8⟩
 replace h7:=h7.below k8
 clear G3 k7 k8
 go_wp2_with fail
 refine (ex_at4 h7 y (hT1.below h7.bl)).mono ?_
 rintro e w16 ⟨p3,a3,n3,c3,d3,m3,e3,rfl,G3,k7⟩
 replace h7:=h7.below k7
 go_wp2_with fail
 refine (isB (-1) w16 G3 rfl (by decide) (by decide)).mono ?_
 rintro e w17 ⟨rfl,k8⟩
 replace h7:=h7.below k8
 clear G3 k7 k8
 go_wp2_with fail
 refine (ex_mu0 h7 y (hT1.below h7.bl)).mono ?_
 rintro e w18 ⟨p3,a3,n3,c3,d3,m3,e3,rfl,G3,k7⟩
 replace h7:=h7.below k7
 go_wp2_with fail
 refine (isB 1 w18 G3 rfl (by decide) (by decide)).mono ?_
 rintro e w19 ⟨rfl,k8⟩
 replace h7:=h7.below k8
 clear G3 k7 k8
 go_wp2_with fail
 refine (ex_mu1 h7 y (hT1.below h7.bl)).mono ?_
 rintro e w20 ⟨p3,a3,n3,c3,d3,m3,e3,rfl,G3,k7⟩
 replace h7:=h7.below k7
 go_wp2_with fail
 refine (isB 1 w20 G3 rfl (by decide) (by decide)).mono ?_
 rintro e w21 ⟨rfl,k8⟩
 replace h7:=h7.below k8
 clear G3 k7 k8
 go_wp2_with fail
 refine (ex_drop h7 y ((E0.below hb1).below h7.bl)).mono ?_
 rintro e w22 ⟨rfl,f8,h8⟩
 clear h7
 go_wp2_with fail
 refine (ex_bas h8 y).mono ?_
 rintro e w23 ⟨g,rfl,c0,c1,k8⟩
 replace h8:=h8.below k8
 clear k8
 go_wp2_with fail
 refine (ex_at1 h8 y (hT1.below h8.bl)).mono ?_
 rintro e w24 ⟨p3,a3,n3,c3,d3,m3,e3,rfl,G3,k7⟩
 replace h8:=h8.below k7
 clear c0 c1
 go_wp2_with fail
 refine (isB 2 w24 G3 rfl (by decide) (by decide)).mono ?_
 rintro e w25 ⟨rfl,k8⟩
 replace h8:=h8.below k8
 have hbn:=bel_tr hb1 h8.bl
 clear G3 k7 k8 h8
 go_wp2
 go_ret
 exact ⟨rfl,hbn⟩
end Go.Proofs.YtjiodidemimgmaaGreatDoor
