import Derived.Test.YtjiodidemimgmaaGreatDoorBoBAll
namespace Go.Proofs.YtjiodidemimgmaaGreatDoor
open Go.RowKit
set_option maxRecDepth 100000 in
set_option maxHeartbeats 4000000 in
theorem atB {B S:Nat} {va:Option Addr} {n vc:Nat} {l:List (Nat × Rat)} (k:Int) (w:World) (hL:LnE w B (.slice va n vc) l S) (hR:Rise l) (hn:l.length≤100000000) :
  Calls Tryz.prog 35 #[.slice va n vc,.int .i64 k] w fun e w'=>∃ p a na ca d nd cd,e = .returned (.agg #[.bool p,.slice a na ca,.slice d nd cd])∧NZ w' p a na ca d nd cd (latI l k) S∧Below w.heap.size w w':=by
 have R0:=var3_new w (.bool false) (.slice none 0 0) (.slice none 0 0) 29
 have hb0:=bel_d0 w (.cells #[.bool false,.slice none 0 0,.slice none 0 0] 29)
 have hL0:=hL.below hb0
 have HL:Hid (LnE w B (.slice va n vc) l S):=hL
 have HR:Hid (Rise l):=hR
 have HN:Hid (n = l.length):=by
  obtain ⟨a',c',e,_⟩:=hL.form
  simp only [Value.slice.injEq] at e
  exact e.2.1
 clear hL
 go_enter Tryz.func35,Tryz.ntmps35
 go_wp2_with fail
 generalize w.alloc (.cells #[.bool false,.slice none 0 0,.slice none 0 0] 29) = W0 at *
 refine (searchB k W0 hL0 hR hn).mono ?_
 rintro e w1 ⟨i,f,rfl,h1,h2,hb1⟩
 replace R0:=R0.below hb1
 replace hb0:=bel_tr hb0 hb1
 obtain ⟨r0,r1,r2,r3,r4,r5⟩:=id R0
 cases f with
 | false =>
  obtain ⟨V,O⟩:=R0.set (.bool false) (.slice none 0 0) (.slice none 0 0)
  have hw:=hb0.trans (O.below (Nat.le_refl _))
  have HV:Hid (latI l k = 0):=latI_none (h2 rfl)
  clear h1 h2 hL0 hR hn hb1
  go_wp2
  exact bodyPost_ret (v:=.agg #[.bool false,.slice none 0 0,.slice none 0 0]) (by simp [results,Tryz.results35,go_sem,V.c0,V.c1,V.c2]) rfl ⟨_,_,_,_,_,_,_,rfl,by rw [HV.out];exact NZ.zero _ _,hw⟩
 | true =>
  obtain ⟨x,hx,hk⟩:=h1 rfl
  obtain ⟨g,p,b,nb,cb,d,nd,cd,hva,y0,y1,y2,y3,G⟩:=HL.out.get hx
  have hil:i < l.length:=(List.getElem?_eq_some_iff.1 hx).1
  have hiI:(i:Int) < (n:Int):=by have:=HN.out;omega
  have hi4:(i:Int) * 4 = ((i * 4:Nat):Int):=by omega
  replace y1:=kept_c hb0 y1
  replace y2:=kept_c hb0 y2
  replace y3:=kept_c hb0 y3
  subst hva
  obtain ⟨V,O⟩:=R0.set (.bool p) (.slice b nb cb) (.slice d nd cd)
  have hw:=hb0.trans (O.below (Nat.le_refl _))
  have HV:Hid (latI l k = x.2):=latI_at HR.out hx hk
  have TW:NZ _ p b nb cb d nd cd x.2 S:=.inr (G.below hw)
  clear h1 h2 hL0 hR hn hb1 y0 G hx hk
  go_wp2
  exact bodyPost_ret (v:=.agg #[.bool p,.slice b nb cb,.slice d nd cd]) (by simp [results,Tryz.results35,go_sem,V.c0,V.c1,V.c2]) rfl ⟨_,_,_,_,_,_,_,rfl,by rw [HV.out];exact TW,hw⟩
theorem box_r3r (w:World) (u1 v1 z1 u2 v2 z2 u3 v3 z3 u4 v4 z4:Value) (t:TypeId):Var3 ((((w.alloc (.cells #[u1,v1,z1] t)).alloc (.cells #[u2,v2,z2] t)).alloc (.cells #[u3,v3,z3] t)).alloc (.cells #[u4,v4,z4] t)) w.heap.size u1 v1 z1∧Var3 ((((w.alloc (.cells #[u1,v1,z1] t)).alloc (.cells #[u2,v2,z2] t)).alloc (.cells #[u3,v3,z3] t)).alloc (.cells #[u4,v4,z4] t)) (w.heap.size + 1) u2 v2 z2 ∧
  Var3 ((((w.alloc (.cells #[u1,v1,z1] t)).alloc (.cells #[u2,v2,z2] t)).alloc (.cells #[u3,v3,z3] t)).alloc (.cells #[u4,v4,z4] t)) (w.heap.size + 2) u3 v3 z3∧Var3 ((((w.alloc (.cells #[u1,v1,z1] t)).alloc (.cells #[u2,v2,z2] t)).alloc (.cells #[u3,v3,z3] t)).alloc (.cells #[u4,v4,z4] t)) (w.heap.size + 3) u4 v4 z4 ∧
  Below w.heap.size w ((((w.alloc (.cells #[u1,v1,z1] t)).alloc (.cells #[u2,v2,z2] t)).alloc (.cells #[u3,v3,z3] t)).alloc (.cells #[u4,v4,z4] t))∧((((w.alloc (.cells #[u1,v1,z1] t)).alloc (.cells #[u2,v2,z2] t)).alloc (.cells #[u3,v3,z3] t)).alloc (.cells #[u4,v4,z4] t)).heap.size = w.heap.size + 4:=by
 have V1:=((var3_new w u1 v1 z1 t).alloc (.cells #[u2,v2,z2] t)).alloc (.cells #[u3,v3,z3] t) |>.alloc (.cells #[u4,v4,z4] t)
 have V2:=(var3_new (w.alloc (.cells #[u1,v1,z1] t)) u2 v2 z2 t).alloc (.cells #[u3,v3,z3] t) |>.alloc (.cells #[u4,v4,z4] t)
 have V3:=(var3_new ((w.alloc (.cells #[u1,v1,z1] t)).alloc (.cells #[u2,v2,z2] t)) u3 v3 z3 t).alloc (.cells #[u4,v4,z4] t)
 have V4:=var3_new (((w.alloc (.cells #[u1,v1,z1] t)).alloc (.cells #[u2,v2,z2] t)).alloc (.cells #[u3,v3,z3] t)) u4 v4 z4 t
 simp only [World.size_alloc,Nat.add_assoc,Nat.reduceAdd] at V1 V2 V3 V4 ⊢
 exact ⟨V1,V2,V3,V4,bel_a (bel_a (bel_a (bel_d0 _ _))),trivial⟩
set_option maxRecDepth 100000 in
set_option maxHeartbeats 4000000 in
theorem takB {p1:Bool} {a1:Option Addr} {n1 c1:Nat} {d1:Option Addr} {m1 e1:Nat} {r1:Rat} {p2:Bool} {a2:Option Addr} {n2 c2:Nat} {d2:Option Addr} {m2 e2:Nat} {r2:Rat} {p3:Bool} {a3:Option Addr} {n3 c3:Nat} {d3:Option Addr} {m3 e3:Nat} {r3:Rat} {S1 S2 S3 K:Nat} (w:World) (h1:TR w p1 a1 n1 c1 d1 m1 e1 r1 S1) (h2:TR w p2 a2 n2 c2 d2 m2 e2 r2 S2) (h3:TR w p3 a3 n3 c3 d3 m3 e3 r3 S3) (hS:1≤S1∧1≤S2∧1≤S3) (hSS:S1 + S2 + S3≤6000000) (hK:SzR (r1 - r2 * r3) K) (hT:TB w) :
  Calls Tryz.prog 87 #[.agg #[.bool p1,.slice a1 n1 c1,.slice d1 m1 e1],.agg #[.bool p2,.slice a2 n2 c2,.slice d2 m2 e2],.agg #[.bool p3,.slice a3 n3 c3,.slice d3 m3 e3]] w fun e w'=>∃ f c n k c' n' k',e = .returned (.agg #[.bool f,.slice c n k,.slice c' n' k'])∧GR w' w.heap.size f c n k c' n' k' (r1 - r2 * r3) K∧Below w.heap.size w w':=by
 obtain ⟨V1,V2,V3,V4,hb0,hsz⟩:=box_r3r w (.bool p1) (.slice a1 n1 c1) (.slice d1 m1 e1) (.bool p2) (.slice a2 n2 c2) (.slice d2 m2 e2) (.bool p3) (.slice a3 n3 c3) (.slice d3 m3 e3) (.bool false) (.slice none 0 0) (.slice none 0 0) 29
 replace h1:=h1.below hb0
 replace h2:=h2.below hb0
 replace h3:=h3.below hb0
 replace hT:=hT.below hb0
 have HK0:Hid (SzR (r1 - r2 * r3) K):=hK
 clear hK
 go_enter Tryz.func87,Tryz.ntmps87
 go_wp2_with fail
 generalize (((w.alloc (.cells #[.bool p1,.slice a1 n1 c1,.slice d1 m1 e1] 29)).alloc (.cells #[.bool p2,.slice a2 n2 c2,.slice d2 m2 e2] 29)).alloc (.cells #[.bool p3,.slice a3 n3 c3,.slice d3 m3 e3] 29)).alloc (.cells #[.bool false,.slice none 0 0,.slice none 0 0] 29) = W0 at *
 have HBX:∀ w',Below W0.heap.size W0 w'→(w'.cell? ⟨w.heap.size,0,none⟩ = some (.bool p1)∧w'.cell? ⟨w.heap.size,1,none⟩ = some (.slice a1 n1 c1)∧w'.cell? ⟨w.heap.size,2,none⟩ = some (.slice d1 m1 e1)∧w'.cell? ⟨w.heap.size + 1,0,none⟩ = some (.bool p2)∧w'.cell? ⟨w.heap.size + 1,1,none⟩ = some (.slice a2 n2 c2)∧w'.cell? ⟨w.heap.size + 1,2,none⟩ = some (.slice d2 m2 e2)∧w'.cell? ⟨w.heap.size + 2,0,none⟩ = some (.bool p3)∧w'.cell? ⟨w.heap.size + 2,1,none⟩ = some (.slice a3 n3 c3)∧w'.cell? ⟨w.heap.size + 2,2,none⟩ = some (.slice d3 m3 e3)):=fun w' h=>⟨kept_c h V1.c0,kept_c h V1.c1,kept_c h V1.c2,kept_c h V2.c0,kept_c h V2.c1,kept_c h V2.c2,kept_c h V3.c0,kept_c h V3.c1,kept_c h V3.c2⟩
 refine wp_region_noPanic (wp_region_guardT 5 HBX (by as_aux_lemma=>kernel_rfl) ?_)
 have hc0:Below W0.heap.size W0 W0.drew:=bel_d1 _
 generalize W0.drew = z0 at *
 refine wpAnyG.tT 0 (v:=.agg #[.bool p1,.slice a1 n1 c1,.slice d1 m1 e1]) (by decide) 5 (by as_aux_lemma=>kernel_rfl) (by rfl) ?y0 (HBX _ hc0) ?_
 case y0 =>
  rintro w' ⟨q0,q1,q2,q3,q4,q5,q6,q7,q8⟩
  simp only [lgA,lgZ]
  go_simp
 simp only [lgA,lgZ,Act.put,lsA,lsZ,lsS]
 refine wpAnyG.tT 1 (v:=.agg #[.bool p2,.slice a2 n2 c2,.slice d2 m2 e2]) (by decide) 5 (by as_aux_lemma=>kernel_rfl) (by rfl) ?y1 (HBX _ hc0) ?_
 case y1 =>
  rintro w' ⟨q0,q1,q2,q3,q4,q5,q6,q7,q8⟩
  simp only [lgA,lgZ,lgS]
  go_simp
 simp only [lgA,lgZ,lgS,Act.put,lsA,lsZ,lsS]
 refine wpAnyG.tT 2 (v:=.agg #[.bool p3,.slice a3 n3 c3,.slice d3 m3 e3]) (by decide) 5 (by as_aux_lemma=>kernel_rfl) (by rfl) ?y2 (HBX _ hc0) ?_
 case y2 =>
  rintro w' ⟨q0,q1,q2,q3,q4,q5,q6,q7,q8⟩
  simp only [lgA,lgZ,lgS]
  go_simp
 simp only [lgA,lgZ,lgS,Act.put,lsA,lsZ,lsS]
 refine wpAnyG.one 3 (by as_aux_lemma=>kernel_rfl) (by decide) (by rfl) (fun K hK=>?_)
 simp only [lgA,lgZ,lgS]
 go_simp
 refine (mulQ z0 (h2.below hc0) (h3.below hc0) (by omega) hS.2.1 hS.2.2 (hT.below hc0)).mono ?_
 rintro e z1 ⟨g4,u4,i4,j4,o4,t4,x4,rfl,G4,hk1⟩
 have hc1:Below W0.heap.size W0 z1:=bel_tr hc0 hk1
 dsimp only
 refine hK _ _ ⟨fun _=>HBX _ hc1,fun _=>trivial⟩ ?_
 clear hK K
 refine wpAnyG.one 4 (by as_aux_lemma=>kernel_rfl) (by decide) (by rfl) (fun K hK=>?_)
 simp only [lgA,lgZ,lgS]
 go_simp
 refine (subQ z1 (h1.below hc1) G4.tr (by omega) hS.1 (by omega) (hT.below hc1)).mono ?_
 rintro e z2 ⟨g5,u5,i5,j5,o5,t5,x5,rfl,G5,hk2⟩
 have hc2:Below W0.heap.size W0 z2:=bel_tr hc1 hk2
 dsimp only
 refine hK _ _ ⟨fun _=>HBX _ hc2,fun _=>trivial⟩ ?_
 clear hK K
 refine wpAnyG.one 5 (by as_aux_lemma=>kernel_rfl) (by decide) (by rfl) (fun K hK=>?_)
 simp only [lgA,lgZ,lgS]
 have VS:=V4.below hc2
 obtain ⟨y0,y1,y2,y3,y4,y5⟩:=id VS
 go_simp
 refine hK _ _ ⟨fun h=>absurd h (by decide),fun _=>trivial⟩ ?_
 clear hK K
 refine wpAnyG.done (by as_aux_lemma=>kernel_rfl) (NoPanic.normal ?_)
 obtain ⟨V',O⟩:=VS.set (.bool g5) (.slice u5 i5 j5) (.slice o5 t5 x5)
 have hs1:=hc1.size
 have GN:=((G5.fit HK0.out).off O (by omega)).mono (B':=w.heap.size) (by omega)
 have hw:=(bel_tr hb0 hc2).trans (O.below (by omega))
 clear V1 V2 V3 V4 VS G4 G5 hc0 hc1 hc2 hk1 hk2 h1 h2 h3 hT HBX O y0 y1 y2 y3 y4 y5
 go_wp2
 exact bodyPost_ret (v:=.agg #[.bool g5,.slice u5 i5 j5,.slice o5 t5 x5]) (by simp [results,Tryz.results87,go_sem,V'.c0,V'.c1,V'.c2]) rfl ⟨_,_,_,_,_,_,_,rfl,GN,hw⟩
theorem grown_tr {a b c:World} {row:Option Nat} (h:a.grownBy b row) (k:b.grownBy c row):a.grownBy c row :=
 ⟨k.os.trans h.os,k.tape.trans h.tape,k.output.trans h.output,Nat.le_trans h.size k.size,fun i hi hn=>(k.block i (Nat.lt_of_lt_of_le hi h.size) hn).trans (h.block i hi hn)⟩
theorem grown_refl (w:World) (row:Option Nat):w.grownBy w row:=bel_grown (Below.refl _ _)
theorem ltim_step {l:List (Nat × Rat)} {i:Nat} {e:Nat × Rat} (r:Rat) (he:l[i]? = some e):(ltim (l.take i) r ++ l.drop i).set i (e.1,e.2 * r) = ltim (l.take (i + 1)) r ++ l.drop (i + 1):=by
 have hi:i < l.length:=(List.getElem?_eq_some_iff.1 he).1
 have hl:(ltim (l.take i) r).length = i:=by unfold ltim;rw [List.length_map,List.length_take];omega
 rw [List.set_append_right _ _ (by omega),hl,Nat.sub_self,List.drop_eq_getElem_cons hi,List.set_cons_zero]
 have e2:l[i] = e:=(List.getElem?_eq_some_iff.1 he).2
 rw [List.take_add_one,he]
 unfold ltim
 simp
theorem ltim_at {l:List (Nat × Rat)} {i:Nat} (r:Rat) (hi:i < l.length):(ltim (l.take i) r ++ l.drop i)[i]? = l[i]?:=by
 have hl:(ltim (l.take i) r).length = i:=by unfold ltim;rw [List.length_map,List.length_take];omega
 rw [List.getElem?_append_right (by omega),hl,Nat.sub_self,List.getElem?_drop,Nat.add_zero]
set_option maxRecDepth 100000 in
set_option maxHeartbeats 8000000 in
theorem mulLB {p:Bool} {a:Option Addr} {na ca:Nat} {d:Option Addr} {nd cd:Nat} {r:Rat} {B S R:Nat} {va:Option Addr} {n vc:Nat} {l:List (Nat × Rat)} (w:World) (hL:LnE w B (.slice va n vc) l S) (hf:GR w 0 p a na ca d nd cd r R) (hS:1≤S∧1≤R∧S + R≤6000000) (hz:∀ e ∈ l,SzR (e.2 * r) S) (hT:TB w) (hTB:4 < B) (hB:B≤w.heap.size) (hl:l.length≤100000000) :
  Calls Tryz.prog 85 #[.slice va n vc,.agg #[.bool p,.slice a na ca,.slice d nd cd]] w fun e w'=>e = .returned (.tuple #[])∧LnE w' B (.slice va n vc) (ltim l r) S∧w.grownBy w' (.slice va n vc:Value).ownBlock:=by
 have HN:Hid (n = l.length):=by
  obtain ⟨a',c',e,_⟩:=hL.form
  simp only [Value.slice.injEq] at e
  exact e.2.1
 have hnl:n≤100000000:=by rw [HN.out];exact hl
 have HZ:Hid (∀ e ∈ l,SzR (e.2 * r) S):=hz
 have HL:Hid (LnE w B (.slice va n vc) l S):=hL
 have hNW:NoW w (.slice va n vc:Value).ownBlock:=by
  obtain ⟨E,s1,_⟩:=hL
  exact s1.noW (show 97 ≠ 85 by decide)
 have HLT:Hid (∀ k,(.slice va n vc:Value).ownBlock = some k→B≤k∧k < w.heap.size):=hL.lt
 clear hz hl
 have BU:=box_new w #[.bool p,.slice a na ca,.slice d nd cd] 29
 have hb0:=bel_d0 w (.cells #[.bool p,.slice a na ca,.slice d nd cd] 29)
 have hs0:(w.alloc (.cells #[.bool p,.slice a na ca,.slice d nd cd] 29)).heap.size = w.heap.size + 1:=by simp
 have hL0:=hL.below hb0
 have hG0:w.grownBy (w.alloc (.cells #[.bool p,.slice a na ca,.slice d nd cd] 29)) (.slice va n vc:Value).ownBlock:=bel_grown hb0
 clear hL
 go_enter Tryz.func85,Tryz.ntmps85
 go_wp2
 generalize w.alloc (.cells #[.bool p,.slice a na ca,.slice d nd cd] 29) = W0 at *
 go_loopw [7] (fun sq wr=>∃ i:Nat,i≤n∧sq = .int .i64 i∧LnE wr B (.slice va n vc) (ltim (l.take i) r ++ l.drop i) S∧w.grownBy wr (.slice va n vc:Value).ownBlock∧BoxC wr w.heap.size [.bool p,.slice a na ca,.slice d nd cd]) (fun x _=>n - (intOf x).toNat)
 case atStart=>exact ⟨0,Nat.zero_le _,rfl,hL0,hG0,BU⟩
 case round =>
  clear hL0 hG0 BU hs0 hb0
  obtain ⟨i,hi,rfl,LQ,KU,BU⟩:=hrel
  by_cases hlt:i < n
  ·have hkI:(i:Int) < (n:Int):=by omega
   have hk0:¬ (i:Int) < 0:=by omega
   have hkI2:(i:Int) * 4 = ((i * 4:Nat):Int):=by omega
   obtain ⟨e,he⟩:∃ e,l[i]? = some e:=⟨l[i]'(by have:=HN.out;omega),List.getElem?_eq_getElem (by have:=HN.out;omega)⟩
   have he2:(ltim (l.take i) r ++ l.drop i)[i]? = some e:=by rw [ltim_at r (by have:=HN.out;omega)];exact he
   obtain ⟨g,p1,a1,n1,c1,d1,m1,e1,hva,y0,y1,y2,y3,G⟩:=LQ.get he2
   have HE:Hid (l[i]? = some e):=he
   have HE2:Hid ((ltim (l.take i) r ++ l.drop i)[i]? = some e):=he2
   subst hva
   have hgl:=HLT.out g rfl
   have hfr:=hf.keep hNW KU
   have hTr:=hT.bF hTB (grown_below KU hB (fun k hk=>(HLT.out k hk).1))
   have hsU:=KU.size
   obtain ⟨q,eq⟩:∃ q,q = e.2:=⟨_,rfl⟩
   rw [← eq] at G
   have HQ:Hid (q = e.2):=eq
   clear he he2 eq y0
   have HBX:∀ w',Below wr.heap.size wr w'→(w'.cell? ⟨w.heap.size,0,none⟩ = some (.bool p)∧w'.cell? ⟨w.heap.size,1,none⟩ = some (.slice a na ca)∧w'.cell? ⟨w.heap.size,2,none⟩ = some (.slice d nd cd)∧w'.cell? ⟨g,i * 4 + 1,none⟩ = some (.bool p1)∧w'.cell? ⟨g,i * 4 + 1 + 1,none⟩ = some (.slice a1 n1 c1)∧w'.cell? ⟨g,i * 4 + 1 + 2,none⟩ = some (.slice d1 m1 e1)):=fun w' h=>⟨kept_c h (BU 0 _ rfl),kept_c h (BU 1 _ rfl),kept_c h (BU 2 _ rfl),kept_c h y1,kept_c h y2,kept_c h y3⟩
   go_wp2_with fail
   refine wp_region_noPanic (wp_region_guardT 11 HBX (by as_aux_lemma=>kernel_rfl) ?_)
   have hc0:Below wr.heap.size wr wr.drew:=bel_d1 _
   generalize wr.drew = z0 at *
   refine wpAnyG.tT 0 (v:=.slice (some ⟨g,0,none⟩) n vc) (by decide) 11 (by as_aux_lemma=>kernel_rfl) (by rfl) ?y0 (HBX _ hc0) ?_
   case y0 =>
    rintro w' ⟨q0,q1,q2,q3,q4,q5⟩
    simp only [lgA,lgZ]
    go_simp
   simp only [lgA,lgZ,Act.put,lsA,lsZ,lsS]
   refine wpAnyG.tT 1 (v:=.int .i64 (i:Int)) (by decide) 11 (by as_aux_lemma=>kernel_rfl) (by rfl) ?y1 (HBX _ hc0) ?_
   case y1 =>
    rintro w' ⟨q0,q1,q2,q3,q4,q5⟩
    simp only [lgA,lgZ,lgS]
    go_simp
   simp only [lgA,lgZ,lgS,Act.put,lsA,lsZ,lsS]
   refine wpAnyG.tT 2 (v:=.slice (some ⟨g,0,none⟩) n vc) (by decide) 11 (by as_aux_lemma=>kernel_rfl) (by rfl) ?y2 (HBX _ hc0) ?_
   case y2 =>
    rintro w' ⟨q0,q1,q2,q3,q4,q5⟩
    simp only [lgA,lgZ,lgS]
    go_simp
   simp only [lgA,lgZ,lgS,Act.put,lsA,lsZ,lsS]
   refine wpAnyG.tT 3 (v:=.int .i64 (i:Int)) (by decide) 11 (by as_aux_lemma=>kernel_rfl) (by rfl) ?y3 (HBX _ hc0) ?_
   case y3 =>
    rintro w' ⟨q0,q1,q2,q3,q4,q5⟩
    simp only [lgA,lgZ,lgS]
    go_simp
   simp only [lgA,lgZ,lgS,Act.put,lsA,lsZ,lsS]
   refine wpAnyG.tT 4 (v:=.pointer (some ⟨g,i * 4,none⟩)) (by decide) 11 (by as_aux_lemma=>kernel_rfl) (by rfl) ?y4 (HBX _ hc0) ?_
   case y4 =>
    rintro w' ⟨q0,q1,q2,q3,q4,q5⟩
    simp only [lgA,lgZ,lgS]
    go_simp
   simp only [lgA,lgZ,lgS,Act.put,lsA,lsZ,lsS]
   refine wpAnyG.tT 5 (v:=.pointer (some ⟨g,i * 4 + 1,none⟩)) (by decide) 11 (by as_aux_lemma=>kernel_rfl) (by rfl) ?y5 (HBX _ hc0) ?_
   case y5 =>
    rintro w' ⟨q0,q1,q2,q3,q4,q5⟩
    simp only [lgA,lgZ,lgS]
    go_simp
   simp only [lgA,lgZ,lgS,Act.put,lsA,lsZ,lsS]
   refine wpAnyG.tT 6 (v:=.agg #[.bool p1,.slice a1 n1 c1,.slice d1 m1 e1]) (by decide) 11 (by as_aux_lemma=>kernel_rfl) (by rfl) ?y6 (HBX _ hc0) ?_
   case y6 =>
    rintro w' ⟨q0,q1,q2,q3,q4,q5⟩
    simp only [lgA,lgZ,lgS]
    go_simp
   simp only [lgA,lgZ,lgS,Act.put,lsA,lsZ,lsS]
   refine wpAnyG.tT 7 (v:=.agg #[.bool p,.slice a na ca,.slice d nd cd]) (by decide) 11 (by as_aux_lemma=>kernel_rfl) (by rfl) ?y7 (HBX _ hc0) ?_
   case y7 =>
    rintro w' ⟨q0,q1,q2,q3,q4,q5⟩
    simp only [lgA,lgZ,lgS]
    go_simp
   simp only [lgA,lgZ,lgS,Act.put,lsA,lsZ,lsS]
   refine wpAnyG.one 8 (by as_aux_lemma=>kernel_rfl) (by decide) (by rfl) (fun K hK=>?_)
   simp only [lgA,lgZ,lgS]
   go_simp
   refine (mulQ z0 (G.tr.below hc0) (hfr.tr.below hc0) hS.2.2 hS.1 hS.2.1 (hTr.below hc0)).mono ?_
   rintro e z1 ⟨g2,u2,i2,j2,o2,t2,x2,rfl,G2,hk1⟩
   have hc1:Below wr.heap.size wr z1:=bel_tr hc0 hk1
   dsimp only
   refine hK _ _ ⟨fun _=>HBX _ hc1,fun _=>trivial⟩ ?_
   clear hK K
   refine wpAnyG.one 9 (by as_aux_lemma=>kernel_rfl) (by decide) (by rfl) (fun K hK=>?_)
   simp only [lgA,lgZ,lgS]
   go_simp
   refine hK _ _ ⟨fun _=>HBX _ hc1,fun _=>trivial⟩ ?_
   clear hK K
   refine wpAnyG.tT 10 (v:=.pointer (some ⟨g,i * 4 + 1,none⟩)) (by decide) 11 (by as_aux_lemma=>kernel_rfl) (by rfl) ?y10 (HBX _ hc1) ?_
   case y10 =>
    rintro w' ⟨q0,q1,q2,q3,q4,q5⟩
    simp only [lgA,lgZ,lgS]
    go_simp
   simp only [lgA,lgZ,lgS,Act.put,lsA,lsZ,lsS]
   refine wpAnyG.one 11 (by as_aux_lemma=>kernel_rfl) (by decide) (by rfl) (fun K hK=>?_)
   simp only [lgA,lgZ,lgS]
   have LZ:=LQ.below hc1
   obtain ⟨cur,hcur⟩:=LZ.typ (g:=g) rfl
   have f1:=frozen_of_row z1 g (i * 4 + 1) cur 97 hcur
   have f2:=frozen_of_row z1 g (i * 4 + 1 + 1) cur 97 hcur
   have f3:=frozen_of_row z1 g (i * 4 + 1 + 2) cur 97 hcur
   have k1:=kept_c hc1 y1
   have k2:=kept_c hc1 y2
   have k3:=kept_c hc1 y3
   go_simp
   refine hK _ _ ⟨fun h=>absurd h (by decide),fun _=>trivial⟩ ?_
   clear hK K
   refine wpAnyG.done (by as_aux_lemma=>kernel_rfl) (NoPanic.normal ?_)
   have hz1:SzR (q * r) S:=by rw [HQ.out];exact HZ.out e (List.mem_of_getElem? HE.out)
   obtain ⟨LN,O⟩:=LZ.put HE2.out ((G2.fit hz1).mono (Nat.zero_le _))
   rw [HQ.out,ltim_step r HE.out] at LN
   have KN:w.grownBy _ (.slice (some ⟨g,0,none⟩) n vc:Value).ownBlock:=grown_tr (grown_tr KU (bel_grown hc1)) O.grown
   have BN:BoxC _ w.heap.size [.bool p,.slice a na ca,.slice d nd cd]:=fun j u hu=>(World.cell?_of_block (w:=z1) (O.block w.heap.size (by omega))).trans (kept_c hc1 (BU j u hu))
   clear LQ KU BU LZ O G G2 hc0 hc1 hk1 HBX hfr hTr y1 y2 y3 k1 k2 k3 f1 f2 f3 hcur
   go_wp2
   go_roundw
   case rel=>first | exact ⟨i + 1,by omega,by go_num,LN,KN,BN⟩ | ((repeat apply Exists.intro);refine ⟨?_,rfl⟩;exact ⟨i + 1,by omega,by go_num,LN,KN,BN⟩)
   case measure=>simp [intOf];omega
  ·have hkI:¬ (i:Int) < (n:Int):=by omega
   obtain rfl:i = n:=by omega
   have LN:LnE wr B (.slice va i vc) (ltim l r) S:=by
    have e:=HN.out
    rw [e,List.take_length,List.drop_length,List.append_nil,← e] at LQ
    exact LQ
   clear LQ
   go_wp2
   go_end0
   exact ⟨rfl,LN,KU⟩
end Go.Proofs.YtjiodidemimgmaaGreatDoor
