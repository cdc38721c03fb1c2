import Derived.Test.YtjiodidemimgmaaGreatDoorQ3OAll
namespace Go.Proofs.YtjiodidemimgmaaGreatDoor
open Go.RowKit
theorem wpOp_of {P:Program} {ops:Array Oper} {Q:Exit→Act→World→Prop} {i:Nat} {o:Oper} {K:Act→World→Prop} {a:Act} {w:World} (ho:ops[i]? = some o) (hw:Region.wanted o (yielded ops a.tmps) = true) (h:o.wp P a w K Q):wpOp P ops Q i K a w:=by
 unfold wpOp
 rw [ho]
 simp only [hw,if_true]
 exact .inl h
theorem came_not {L:Array Bool} {i:Nat} (h:L.getD i true = false):¬ L.getD i false = true:=by
 by_cases hi:i < L.size
 ·simp only [Array.getD,hi,dif_pos] at h ⊢
  rw [h]
  decide
 ·simp only [Array.getD,hi,dif_neg,not_false_eq_true] at h
  cases h
def NumV (w:World) (v:Value) (r:Rat):Prop:=∃ p a na ca d nd cd,v = .agg #[.bool p,.slice a na ca,.slice d nd cd]∧GR w 0 p a na ca d nd cd r 1
theorem NumV.below {w w':World} {v:Value} {r:Rat} (h:NumV w v r) (hb:Below w.heap.size w w'):NumV w' v r:=by
 obtain ⟨p,a,na,ca,d,nd,cd,e,g⟩:=h
 exact ⟨p,a,na,ca,d,nd,cd,e,g.below hb⟩
def LstV (w:World) (v:Value) (n:Nat) (Y:Nat→Rat):Prop:=∃ g cs,v = .slice (some ⟨g,0,none⟩) n n∧Rw 29 w g cs∧∀ i,i < n→∃ p a na ca d nd cd,cs[i * 3]? = some (.bool p)∧cs[i * 3 + 1]? = some (.slice a na ca)∧cs[i * 3 + 2]? = some (.slice d nd cd)∧GR w 0 p a na ca d nd cd (Y i) 1
theorem LstV.below {w w':World} {v:Value} {n:Nat} {Y:Nat→Rat} (h:LstV w v n Y) (hb:Below w.heap.size w w'):LstV w' v n Y:=by
 obtain ⟨g,cs,e,r,l⟩:=h
 exact ⟨g,cs,e,r.below hb,fun i hi=>by
  obtain ⟨p,a,na,ca,d,nd,cd,h0,h1,h2,h3⟩:=l i hi
  exact ⟨p,a,na,ca,d,nd,cd,h0,h1,h2,h3.below hb⟩⟩
theorem rw_ne {t u:TypeId} {w:World} {g R:Nat} {cs ds:Array Value} (h:Rw t w g cs) (k:Rw u w R ds) (ht:t ≠ u):g ≠ R:=fun e=>by
 subst e
 unfold Rw at h k
 rw [h] at k
 simp only [Option.some.injEq,Obj.cells.injEq] at k
 exact ht k.2.1
theorem LstV.off {w w':World} {v:Value} {n:Nat} {Y:Nat→Rat} {R:Nat} {ds:Array Value} (h:LstV w v n Y) (hR:Rw 31 w R ds) (O:Off R w w'):LstV w' v n Y:=by
 obtain ⟨g,cs,e,r,l⟩:=h
 exact ⟨g,cs,e,r.off O (rw_ne r hR (by decide)),fun i hi=>by
  obtain ⟨p,a,na,ca,d,nd,cd,h0,h1,h2,h3⟩:=l i hi
  exact ⟨p,a,na,ca,d,nd,cd,h0,h1,h2,h3.keep (hR.noW (by decide)) O.grown⟩⟩
theorem LstV.lq {w:World} {v:Value} {n:Nat} {Y:Nat→Rat} (h:LstV w v n Y):∃ a,v = .slice a n n∧LQ w a n Y (fun _=>1):=by
 obtain ⟨g,cs,e,r,l⟩:=h
 refine ⟨_,e,.inr ⟨g,0,rfl,fun i hi=>?_⟩⟩
 obtain ⟨p,a,na,ca,d,nd,cd,h0,h1,h2,h3⟩:=l i hi
 exact ⟨p,a,na,ca,d,nd,cd,by rw [Nat.zero_add];exact (r.cell _).trans h0,by rw [Nat.zero_add];exact (r.cell _).trans h1,by rw [Nat.zero_add];exact (r.cell _).trans h2,h3.tr⟩
def yA0 (i:Nat):Rat:=if i = 2 then 0 else 1
def yA1 (i:Nat):Rat:=if i = 0 then -1 else 1
def yB (i:Nat):Rat:=if i = 0 then 4 else -2
def MatV (w:World) (v:Value):Prop:=∃ g s0 s1,v = .slice (some ⟨g,0,none⟩) 2 2∧Rw 23 w g #[s0,s1]∧LstV w s0 3 yA0∧LstV w s1 2 yA1
theorem MatV.below {w w':World} {v:Value} (h:MatV w v) (hb:Below w.heap.size w w'):MatV w' v:=by
 obtain ⟨g,s0,s1,e,r,h2,h3⟩:=h
 exact ⟨g,s0,s1,e,r.below hb,h2.below hb,h3.below hb⟩
theorem MatV.off {w w':World} {v:Value} {R:Nat} {ds:Array Value} (h:MatV w v) (hR:Rw 31 w R ds) (O:Off R w w'):MatV w' v:=by
 obtain ⟨g,s0,s1,e,r,h2,h3⟩:=h
 exact ⟨g,s0,s1,e,r.off O (rw_ne r hR (by decide)),h2.off hR O,h3.off hR O⟩
theorem lst3 {p q r:Bool} {a b c:Option Addr} {na nb nc ca cb cc:Nat} {d e f:Option Addr} {nd ne nf cd ce cf:Nat} {x y z:Rat} (w:World) (h1:GR w 0 p a na ca d nd cd x 1) (h2:GR w 0 q b nb cb e ne ce y 1) (h3:GR w 0 r c nc cc f nf cf z 1) (Y:Nat→Rat) (hY:Y 0 = x∧Y 1 = y∧Y 2 = z):LstV (w.alloc (.cells #[.bool p,.slice a na ca,.slice d nd cd,.bool q,.slice b nb cb,.slice e ne ce,.bool r,.slice c nc cc,.slice f nf cf] 29)) (.slice (some ⟨w.heap.size,0,none⟩) 3 3) 3 Y:=by
 have B:=Rw.new 29 w #[.bool p,.slice a na ca,.slice d nd cd,.bool q,.slice b nb cb,.slice e ne ce,.bool r,.slice c nc cc,.slice f nf cf]
 have hb:=bel_d0 w (.cells #[.bool p,.slice a na ca,.slice d nd cd,.bool q,.slice b nb cb,.slice e ne ce,.bool r,.slice c nc cc,.slice f nf cf] 29)
 refine ⟨_,_,rfl,B,fun i hi=>?_⟩
 rcases (by omega:i = 0∨i = 1∨i = 2) with rfl | rfl | rfl
 ·exact ⟨p,a,na,ca,d,nd,cd,rfl,rfl,rfl,by rw [hY.1];exact (h1.below hb)⟩
 ·exact ⟨q,b,nb,cb,e,ne,ce,rfl,rfl,rfl,by rw [hY.2.1];exact (h2.below hb)⟩
 ·exact ⟨r,c,nc,cc,f,nf,cf,rfl,rfl,rfl,by rw [hY.2.2];exact (h3.below hb)⟩
theorem lst2 {p q:Bool} {a b:Option Addr} {na nb ca cb:Nat} {d e:Option Addr} {nd ne cd ce:Nat} {x y:Rat} (w:World) (h1:GR w 0 p a na ca d nd cd x 1) (h2:GR w 0 q b nb cb e ne ce y 1) (Y:Nat→Rat) (hY:Y 0 = x∧Y 1 = y):LstV (w.alloc (.cells #[.bool p,.slice a na ca,.slice d nd cd,.bool q,.slice b nb cb,.slice e ne ce] 29)) (.slice (some ⟨w.heap.size,0,none⟩) 2 2) 2 Y:=by
 have B:=Rw.new 29 w #[.bool p,.slice a na ca,.slice d nd cd,.bool q,.slice b nb cb,.slice e ne ce]
 have hb:=bel_d0 w (.cells #[.bool p,.slice a na ca,.slice d nd cd,.bool q,.slice b nb cb,.slice e ne ce] 29)
 refine ⟨_,_,rfl,B,fun i hi=>?_⟩
 rcases (by omega:i = 0∨i = 1) with rfl | rfl
 ·exact ⟨p,a,na,ca,d,nd,cd,rfl,rfl,rfl,by rw [hY.1];exact (h1.below hb)⟩
 ·exact ⟨q,b,nb,cb,e,ne,ce,rfl,rfl,rfl,by rw [hY.2];exact (h2.below hb)⟩
theorem mat2 (w:World) {s0 s1:Value} (h0:LstV w s0 3 yA0) (h1:LstV w s1 2 yA1):MatV (w.alloc (.cells #[s0,s1] 23)) (.slice (some ⟨w.heap.size,0,none⟩) 2 2):=by
 have hb:=bel_d0 w (.cells #[s0,s1] 23)
 exact ⟨_,_,_,rfl,Rw.new 23 w #[s0,s1],h0.below hb,h1.below hb⟩
theorem wp_gen {P:Program} {Q:Exit→Act→World→Prop} {o:Oper} {a:Act} {w:World} {I:Act→World→Prop} (h:∀ K:Act→World→Prop,(∀ a' w',I a' w'→K a' w')→o.wp P a w K Q):o.wp P a w I Q:=h _ fun _ _ h=>h
def ExmP (w:World) (e:Ending) (w':World):Prop:=∃ va vb vc,e = .returned (.agg #[va,vb,vc,.bool false,.slice none 0 0,.slice none 0 0])∧MatV w' va∧LstV w' vb 2 yB∧LstV w' vc 3 yA0∧Below w.heap.size w w'
set_option maxRecDepth 100000 in
set_option maxHeartbeats 8000000 in
theorem exampleB (w:World):Calls Tryz.prog 13 #[] w fun e w'=>ExmP w e w':=by
 have R0:=Rw.new 31 w #[.slice none 0 0,.slice none 0 0,.slice none 0 0,.bool false,.slice none 0 0,.slice none 0 0]
 have hb0:=bel_d0 w (.cells #[.slice none 0 0,.slice none 0 0,.slice none 0 0,.bool false,.slice none 0 0,.slice none 0 0] 31)
 have hs0:(w.alloc (.cells #[.slice none 0 0,.slice none 0 0,.slice none 0 0,.bool false,.slice none 0 0,.slice none 0 0] 31)).heap.size = w.heap.size + 1:=by simp
 go_enter Tryz.func13,Tryz.ntmps13
 go_wp2_with fail
 generalize w.alloc (.cells #[.slice none 0 0,.slice none 0 0,.slice none 0 0,.bool false,.slice none 0 0,.slice none 0 0] 31) = W0 at *
 refine (ofD 1 W0 (by decide) (by decide)).mono ?_
 rintro e w1 ⟨p1,a1,n1,c1,d1,m1,e1,rfl,G1,h1⟩
 have hz1:=bel_d0 w1 (.cells #[.bool p1,.slice a1 n1 c1,.slice d1 m1 e1] 29)
 have B1:=box_new w1 #[.bool p1,.slice a1 n1 c1,.slice d1 m1 e1] 29
 have hs1:(w1.alloc (.cells #[.bool p1,.slice a1 n1 c1,.slice d1 m1 e1] 29)).heap.size = w1.heap.size + 1:=by simp
 obtain ⟨r1,er1⟩:∃ r1,r1 = w1.heap.size:=⟨_,rfl⟩
 rw [← er1] at B1
 have G1':=(G1.mono (Nat.zero_le _)).below hz1
 have h1s:=h1.size
 have hb1:=bel_tr (bel_tr hb0 h1) hz1
 have h01:=bel_tr h1 hz1
 go_wp2_with fail
 try rw [← er1]
 clear er1
 generalize w1.alloc (.cells #[.bool p1,.slice a1 n1 c1,.slice d1 m1 e1] 29) = W1 at *
 refine (ofD (-1) W1 (by decide) (by decide)).mono ?_
 rintro e w2 ⟨p2,a2,n2,c2,d2,m2,e2,rfl,G2,h2⟩
 have hz2:=bel_d0 w2 (.cells #[.bool p2,.slice a2 n2 c2,.slice d2 m2 e2] 29)
 have B2:=box_new w2 #[.bool p2,.slice a2 n2 c2,.slice d2 m2 e2] 29
 have hs2:(w2.alloc (.cells #[.bool p2,.slice a2 n2 c2,.slice d2 m2 e2] 29)).heap.size = w2.heap.size + 1:=by simp
 obtain ⟨r2,er2⟩:∃ r2,r2 = w2.heap.size:=⟨_,rfl⟩
 rw [← er2] at B2
 have G2':=(G2.mono (Nat.zero_le _)).below hz2
 have h12:=bel_tr h2 hz2
 have G1'':=G1'.below h12
 have B1':=B1.below h12
 have R2:=R0.below (bel_tr h01 h12)
 have hb2:=bel_tr hb1 h12
 clear G1 G2 h1 h2 hz1 hz2 G1' B1 R0 hb0 hb1 h01 h12
 go_wp2_with fail
 try rw [← er2]
 clear er2
 generalize w2.alloc (.cells #[.bool p2,.slice a2 n2 c2,.slice d2 m2 e2] 29) = U at *
 refine wp_cutB (fun _ a' w'=>∃ u5 u6 u7 u8 u9 u10 u11 u12 u13 u14 u15 u16 u17 u18 u19 u20,a' = (⟨#[.pointer (some ⟨w.heap.size,0,none⟩),.pointer (some ⟨r1,0,none⟩),.pointer (some ⟨r2,0,none⟩),(.agg #[.bool p1,.slice a1 n1 c1,.slice d1 m1 e1]),(.agg #[.bool p2,.slice a2 n2 c2,.slice d2 m2 e2]),u5,u6,u7,u8,u9,u10,u11,u12,u13,u14,u15,u16,u17,u18,u19,u20],[]⟩:Act)∧∃ va vb vc,Rw 31 w' w.heap.size #[va,vb,vc,.bool false,.slice none 0 0,.slice none 0 0]∧MatV w' va∧LstV w' vb 2 yB∧LstV w' vc 3 yA0∧Below w.heap.size w w') ?_ ?_
 ·refine wp_region_any (by as_aux_lemma=>kernel_rfl) (wpAny.inv (fun L a w'=>L.size = 17∧∃ u5 u6 u7 u8 u9 u10 u11 u12 u13 u14 u15 u16 u17 u18 u19 u20,a = ⟨#[.pointer (some ⟨w.heap.size,0,none⟩),.pointer (some ⟨r1,0,none⟩),.pointer (some ⟨r2,0,none⟩),(.agg #[.bool p1,.slice a1 n1 c1,.slice d1 m1 e1]),(.agg #[.bool p2,.slice a2 n2 c2,.slice d2 m2 e2]),u5,u6,u7,u8,u9,u10,u11,u12,u13,u14,u15,u16,u17,u18,u19,u20],[]⟩∧(L.getD 16 false = false→Below U.heap.size U w'∧(L.getD 0 false = true→u5 = (.agg #[.bool p1,.slice a1 n1 c1,.slice d1 m1 e1]))∧(L.getD 1 false = true→u6 = (.agg #[.bool p1,.slice a1 n1 c1,.slice d1 m1 e1]))∧(L.getD 2 false = true→NumV w' u7 ((0:Int):Rat))∧(L.getD 3 false = true→LstV w' u8 3 yA0)∧(L.getD 4 false = true→u9 = (.agg #[.bool p2,.slice a2 n2 c2,.slice d2 m2 e2]))∧(L.getD 5 false = true→u10 = (.agg #[.bool p1,.slice a1 n1 c1,.slice d1 m1 e1]))∧(L.getD 6 false = true→LstV w' u11 2 yA1)∧(L.getD 7 false = true→MatV w' u12)∧(L.getD 8 false = true→NumV w' u13 ((4:Int):Rat))∧(L.getD 9 false = true→NumV w' u14 (((-2):Int):Rat))∧(L.getD 10 false = true→LstV w' u15 2 yB)∧(L.getD 11 false = true→u16 = (.agg #[.bool p1,.slice a1 n1 c1,.slice d1 m1 e1]))∧(L.getD 12 false = true→u17 = (.agg #[.bool p1,.slice a1 n1 c1,.slice d1 m1 e1]))∧(L.getD 13 false = true→NumV w' u18 ((0:Int):Rat))∧(L.getD 14 false = true→LstV w' u19 3 yA0)∧(L.getD 15 false = true→∃ va vb vc,u20 = .agg #[va,vb,vc,.bool false,.slice none 0 0,.slice none 0 0]∧MatV w' va∧LstV w' vb 2 yB∧LstV w' vc 3 yA0))∧(L.getD 16 false = true→(∀ k,k < 16→L.getD k false = true)∧∃ va vb vc,Rw 31 w' w.heap.size #[va,vb,vc,.bool false,.slice none 0 0,.slice none 0 0]∧MatV w' va∧LstV w' vb 2 yB∧LstV w' vc 3 yA0∧Below w.heap.size w w')) ?_ ?_ _ _ _ _ (by decide) ?_)
  ·rintro L a v i ⟨hsz,u5,u6,u7,u8,u9,u10,u11,u12,u13,u14,u15,u16,u17,u18,u19,u20,rfl,hA,hB⟩ hi
   have hi0:=(mem_ready.1 hi).1
   obtain ⟨o,ho,hdep⟩:=(mem_ready.1 hi).2
   have hlt:i < 17:=(Array.getElem?_eq_some_iff.1 ho).1
   rcases (by omega:i = 0∨i = 1∨i = 2∨i = 3∨i = 4∨i = 5∨i = 6∨i = 7∨i = 8∨i = 9∨i = 10∨i = 11∨i = 12∨i = 13∨i = 14∨i = 15∨i = 16) with rfl | rfl | rfl | rfl | rfl | rfl | rfl | rfl | rfl | rfl | rfl | rfl | rfl | rfl | rfl | rfl | rfl
   ·skip
    have h16:L.getD 16 false = false:=by
     cases h:L.getD 16 false with
     | false=>rfl
     | true=>exact absurd ((hB h).1 0 (by decide)) (came_not hi0)
    obtain ⟨hb,f0,f1,f2,f3,f4,f5,f6,f7,f8,f9,f10,f11,f12,f13,f14,f15⟩:=hA h16
    refine wpOp_of ho (by rw [← Option.some.inj ho];rfl) (wp_gen fun K hK=>?_)
    obtain rfl:=Option.some.inj ho
    have c0:=kept_c hb (B1' 0 _ rfl)
    have c1':=kept_c hb (B1' 1 _ rfl)
    have c2':=kept_c hb (B1' 2 _ rfl)
    go_simp
    exact hK _ _ ⟨by simpa using hsz,_,_,_,_,_,_,_,_,_,_,_,_,_,_,_,_,rfl,fun _=>⟨hb,fun _=>rfl,fun h=>(set_came h).elim (fun e=>absurd e (by decide)) (fun h=>f1 h),fun h=>(set_came h).elim (fun e=>absurd e (by decide)) (fun h=>f2 h),fun h=>(set_came h).elim (fun e=>absurd e (by decide)) (fun h=>f3 h),fun h=>(set_came h).elim (fun e=>absurd e (by decide)) (fun h=>f4 h),fun h=>(set_came h).elim (fun e=>absurd e (by decide)) (fun h=>f5 h),fun h=>(set_came h).elim (fun e=>absurd e (by decide)) (fun h=>f6 h),fun h=>(set_came h).elim (fun e=>absurd e (by decide)) (fun h=>f7 h),fun h=>(set_came h).elim (fun e=>absurd e (by decide)) (fun h=>f8 h),fun h=>(set_came h).elim (fun e=>absurd e (by decide)) (fun h=>f9 h),fun h=>(set_came h).elim (fun e=>absurd e (by decide)) (fun h=>f10 h),fun h=>(set_came h).elim (fun e=>absurd e (by decide)) (fun h=>f11 h),fun h=>(set_came h).elim (fun e=>absurd e (by decide)) (fun h=>f12 h),fun h=>(set_came h).elim (fun e=>absurd e (by decide)) (fun h=>f13 h),fun h=>(set_came h).elim (fun e=>absurd e (by decide)) (fun h=>f14 h),fun h=>(set_came h).elim (fun e=>absurd e (by decide)) (fun h=>f15 h)⟩,fun h=>(set_came h).elim (fun e=>absurd e (by decide)) (fun h=>absurd h (by rw [h16];decide))⟩
   ·skip
    have h16:L.getD 16 false = false:=by
     cases h:L.getD 16 false with
     | false=>rfl
     | true=>exact absurd ((hB h).1 1 (by decide)) (came_not hi0)
    obtain ⟨hb,f0,f1,f2,f3,f4,f5,f6,f7,f8,f9,f10,f11,f12,f13,f14,f15⟩:=hA h16
    refine wpOp_of ho (by rw [← Option.some.inj ho];rfl) (wp_gen fun K hK=>?_)
    obtain rfl:=Option.some.inj ho
    have c0:=kept_c hb (B1' 0 _ rfl)
    have c1':=kept_c hb (B1' 1 _ rfl)
    have c2':=kept_c hb (B1' 2 _ rfl)
    go_simp
    exact hK _ _ ⟨by simpa using hsz,_,_,_,_,_,_,_,_,_,_,_,_,_,_,_,_,rfl,fun _=>⟨hb,fun h=>(set_came h).elim (fun e=>absurd e (by decide)) (fun h=>f0 h),fun _=>rfl,fun h=>(set_came h).elim (fun e=>absurd e (by decide)) (fun h=>f2 h),fun h=>(set_came h).elim (fun e=>absurd e (by decide)) (fun h=>f3 h),fun h=>(set_came h).elim (fun e=>absurd e (by decide)) (fun h=>f4 h),fun h=>(set_came h).elim (fun e=>absurd e (by decide)) (fun h=>f5 h),fun h=>(set_came h).elim (fun e=>absurd e (by decide)) (fun h=>f6 h),fun h=>(set_came h).elim (fun e=>absurd e (by decide)) (fun h=>f7 h),fun h=>(set_came h).elim (fun e=>absurd e (by decide)) (fun h=>f8 h),fun h=>(set_came h).elim (fun e=>absurd e (by decide)) (fun h=>f9 h),fun h=>(set_came h).elim (fun e=>absurd e (by decide)) (fun h=>f10 h),fun h=>(set_came h).elim (fun e=>absurd e (by decide)) (fun h=>f11 h),fun h=>(set_came h).elim (fun e=>absurd e (by decide)) (fun h=>f12 h),fun h=>(set_came h).elim (fun e=>absurd e (by decide)) (fun h=>f13 h),fun h=>(set_came h).elim (fun e=>absurd e (by decide)) (fun h=>f14 h),fun h=>(set_came h).elim (fun e=>absurd e (by decide)) (fun h=>f15 h)⟩,fun h=>(set_came h).elim (fun e=>absurd e (by decide)) (fun h=>absurd h (by rw [h16];decide))⟩
   ·skip
    have h16:L.getD 16 false = false:=by
     cases h:L.getD 16 false with
     | false=>rfl
     | true=>exact absurd ((hB h).1 2 (by decide)) (came_not hi0)
    obtain ⟨hb,f0,f1,f2,f3,f4,f5,f6,f7,f8,f9,f10,f11,f12,f13,f14,f15⟩:=hA h16
    refine wpOp_of ho (by rw [← Option.some.inj ho];rfl) (wp_gen fun K hK=>?_)
    obtain rfl:=Option.some.inj ho
    go_simp
    refine (ofD 0 v (by decide) (by decide)).mono ?_
    rintro e v' ⟨p,a,na,ca,d,nd,cd,rfl,G,hk⟩
    dsimp only
    exact hK _ _ ⟨by simpa using hsz,_,_,_,_,_,_,_,_,_,_,_,_,_,_,_,_,rfl,fun _=>⟨bel_tr hb hk,fun h=>(set_came h).elim (fun e=>absurd e (by decide)) (fun h=>f0 h),fun h=>(set_came h).elim (fun e=>absurd e (by decide)) (fun h=>f1 h),fun _=>⟨p,a,na,ca,d,nd,cd,rfl,G.mono (Nat.zero_le _)⟩,fun h=>(set_came h).elim (fun e=>absurd e (by decide)) (fun h=>(f3 h).below hk),fun h=>(set_came h).elim (fun e=>absurd e (by decide)) (fun h=>f4 h),fun h=>(set_came h).elim (fun e=>absurd e (by decide)) (fun h=>f5 h),fun h=>(set_came h).elim (fun e=>absurd e (by decide)) (fun h=>(f6 h).below hk),fun h=>(set_came h).elim (fun e=>absurd e (by decide)) (fun h=>(f7 h).below hk),fun h=>(set_came h).elim (fun e=>absurd e (by decide)) (fun h=>(f8 h).below hk),fun h=>(set_came h).elim (fun e=>absurd e (by decide)) (fun h=>(f9 h).below hk),fun h=>(set_came h).elim (fun e=>absurd e (by decide)) (fun h=>(f10 h).below hk),fun h=>(set_came h).elim (fun e=>absurd e (by decide)) (fun h=>f11 h),fun h=>(set_came h).elim (fun e=>absurd e (by decide)) (fun h=>f12 h),fun h=>(set_came h).elim (fun e=>absurd e (by decide)) (fun h=>(f13 h).below hk),fun h=>(set_came h).elim (fun e=>absurd e (by decide)) (fun h=>(f14 h).below hk),fun h=>(set_came h).elim (fun e=>absurd e (by decide)) (fun h=>(by obtain ⟨va,vb,vc,e,h1,h2,h3⟩:=f15 h;exact ⟨va,vb,vc,e,h1.below hk,h2.below hk,h3.below hk⟩))⟩,fun h=>(set_came h).elim (fun e=>absurd e (by decide)) (fun h=>absurd h (by rw [h16];decide))⟩
   ·skip
    have h16:L.getD 16 false = false:=by
     cases h:L.getD 16 false with
     | false=>rfl
     | true=>exact absurd ((hB h).1 3 (by decide)) (came_not hi0)
    obtain ⟨hb,f0,f1,f2,f3,f4,f5,f6,f7,f8,f9,f10,f11,f12,f13,f14,f15⟩:=hA h16
    have d0:=f0 (hdep ⟨0,.data⟩ (by rw [← Option.some.inj ho];simp) rfl)
    have d1:=f1 (hdep ⟨1,.data⟩ (by rw [← Option.some.inj ho];simp) rfl)
    have d2:=f2 (hdep ⟨2,.data⟩ (by rw [← Option.some.inj ho];simp) rfl)
    refine wpOp_of ho (by rw [← Option.some.inj ho];rfl) (wp_gen fun K hK=>?_)
    obtain rfl:=Option.some.inj ho
    obtain ⟨p,a,na,ca,d,nd,cd,e3,G3⟩:=d2
    subst d0 d1 e3
    have LV:=lst3 v (G1''.below hb) (G1''.below hb) G3 yA0 ⟨rfl,rfl,rfl⟩
    have hk:=bel_d0 v (.cells #[.bool p1,.slice a1 n1 c1,.slice d1 m1 e1,.bool p1,.slice a1 n1 c1,.slice d1 m1 e1,.bool p,.slice a na ca,.slice d nd cd] 29)
    go_simp
    exact hK _ _ ⟨by simpa using hsz,_,_,_,_,_,_,_,_,_,_,_,_,_,_,_,_,rfl,fun _=>⟨bel_tr hb hk,fun h=>(set_came h).elim (fun e=>absurd e (by decide)) (fun h=>f0 h),fun h=>(set_came h).elim (fun e=>absurd e (by decide)) (fun h=>f1 h),fun h=>(set_came h).elim (fun e=>absurd e (by decide)) (fun h=>(f2 h).below hk),fun _=>LV,fun h=>(set_came h).elim (fun e=>absurd e (by decide)) (fun h=>f4 h),fun h=>(set_came h).elim (fun e=>absurd e (by decide)) (fun h=>f5 h),fun h=>(set_came h).elim (fun e=>absurd e (by decide)) (fun h=>(f6 h).below hk),fun h=>(set_came h).elim (fun e=>absurd e (by decide)) (fun h=>(f7 h).below hk),fun h=>(set_came h).elim (fun e=>absurd e (by decide)) (fun h=>(f8 h).below hk),fun h=>(set_came h).elim (fun e=>absurd e (by decide)) (fun h=>(f9 h).below hk),fun h=>(set_came h).elim (fun e=>absurd e (by decide)) (fun h=>(f10 h).below hk),fun h=>(set_came h).elim (fun e=>absurd e (by decide)) (fun h=>f11 h),fun h=>(set_came h).elim (fun e=>absurd e (by decide)) (fun h=>f12 h),fun h=>(set_came h).elim (fun e=>absurd e (by decide)) (fun h=>(f13 h).below hk),fun h=>(set_came h).elim (fun e=>absurd e (by decide)) (fun h=>(f14 h).below hk),fun h=>(set_came h).elim (fun e=>absurd e (by decide)) (fun h=>(by obtain ⟨va,vb,vc,e,h1,h2,h3⟩:=f15 h;exact ⟨va,vb,vc,e,h1.below hk,h2.below hk,h3.below hk⟩))⟩,fun h=>(set_came h).elim (fun e=>absurd e (by decide)) (fun h=>absurd h (by rw [h16];decide))⟩
   ·skip
    have h16:L.getD 16 false = false:=by
     cases h:L.getD 16 false with
     | false=>rfl
     | true=>exact absurd ((hB h).1 4 (by decide)) (came_not hi0)
    obtain ⟨hb,f0,f1,f2,f3,f4,f5,f6,f7,f8,f9,f10,f11,f12,f13,f14,f15⟩:=hA h16
    refine wpOp_of ho (by rw [← Option.some.inj ho];rfl) (wp_gen fun K hK=>?_)
    obtain rfl:=Option.some.inj ho
    have c0:=kept_c hb (B2 0 _ rfl)
    have c1':=kept_c hb (B2 1 _ rfl)
    have c2':=kept_c hb (B2 2 _ rfl)
    go_simp
    exact hK _ _ ⟨by simpa using hsz,_,_,_,_,_,_,_,_,_,_,_,_,_,_,_,_,rfl,fun _=>⟨hb,fun h=>(set_came h).elim (fun e=>absurd e (by decide)) (fun h=>f0 h),fun h=>(set_came h).elim (fun e=>absurd e (by decide)) (fun h=>f1 h),fun h=>(set_came h).elim (fun e=>absurd e (by decide)) (fun h=>f2 h),fun h=>(set_came h).elim (fun e=>absurd e (by decide)) (fun h=>f3 h),fun _=>rfl,fun h=>(set_came h).elim (fun e=>absurd e (by decide)) (fun h=>f5 h),fun h=>(set_came h).elim (fun e=>absurd e (by decide)) (fun h=>f6 h),fun h=>(set_came h).elim (fun e=>absurd e (by decide)) (fun h=>f7 h),fun h=>(set_came h).elim (fun e=>absurd e (by decide)) (fun h=>f8 h),fun h=>(set_came h).elim (fun e=>absurd e (by decide)) (fun h=>f9 h),fun h=>(set_came h).elim (fun e=>absurd e (by decide)) (fun h=>f10 h),fun h=>(set_came h).elim (fun e=>absurd e (by decide)) (fun h=>f11 h),fun h=>(set_came h).elim (fun e=>absurd e (by decide)) (fun h=>f12 h),fun h=>(set_came h).elim (fun e=>absurd e (by decide)) (fun h=>f13 h),fun h=>(set_came h).elim (fun e=>absurd e (by decide)) (fun h=>f14 h),fun h=>(set_came h).elim (fun e=>absurd e (by decide)) (fun h=>f15 h)⟩,fun h=>(set_came h).elim (fun e=>absurd e (by decide)) (fun h=>absurd h (by rw [h16];decide))⟩
   ·skip
    have h16:L.getD 16 false = false:=by
     cases h:L.getD 16 false with
     | false=>rfl
     | true=>exact absurd ((hB h).1 5 (by decide)) (came_not hi0)
    obtain ⟨hb,f0,f1,f2,f3,f4,f5,f6,f7,f8,f9,f10,f11,f12,f13,f14,f15⟩:=hA h16
    refine wpOp_of ho (by rw [← Option.some.inj ho];rfl) (wp_gen fun K hK=>?_)
    obtain rfl:=Option.some.inj ho
    have c0:=kept_c hb (B1' 0 _ rfl)
    have c1':=kept_c hb (B1' 1 _ rfl)
    have c2':=kept_c hb (B1' 2 _ rfl)
    go_simp
    exact hK _ _ ⟨by simpa using hsz,_,_,_,_,_,_,_,_,_,_,_,_,_,_,_,_,rfl,fun _=>⟨hb,fun h=>(set_came h).elim (fun e=>absurd e (by decide)) (fun h=>f0 h),fun h=>(set_came h).elim (fun e=>absurd e (by decide)) (fun h=>f1 h),fun h=>(set_came h).elim (fun e=>absurd e (by decide)) (fun h=>f2 h),fun h=>(set_came h).elim (fun e=>absurd e (by decide)) (fun h=>f3 h),fun h=>(set_came h).elim (fun e=>absurd e (by decide)) (fun h=>f4 h),fun _=>rfl,fun h=>(set_came h).elim (fun e=>absurd e (by decide)) (fun h=>f6 h),fun h=>(set_came h).elim (fun e=>absurd e (by decide)) (fun h=>f7 h),fun h=>(set_came h).elim (fun e=>absurd e (by decide)) (fun h=>f8 h),fun h=>(set_came h).elim (fun e=>absurd e (by decide)) (fun h=>f9 h),fun h=>(set_came h).elim (fun e=>absurd e (by decide)) (fun h=>f10 h),fun h=>(set_came h).elim (fun e=>absurd e (by decide)) (fun h=>f11 h),fun h=>(set_came h).elim (fun e=>absurd e (by decide)) (fun h=>f12 h),fun h=>(set_came h).elim (fun e=>absurd e (by decide)) (fun h=>f13 h),fun h=>(set_came h).elim (fun e=>absurd e (by decide)) (fun h=>f14 h),fun h=>(set_came h).elim (fun e=>absurd e (by decide)) (fun h=>f15 h)⟩,fun h=>(set_came h).elim (fun e=>absurd e (by decide)) (fun h=>absurd h (by rw [h16];decide))⟩
   ·skip
    have h16:L.getD 16 false = false:=by
     cases h:L.getD 16 false with
     | false=>rfl
     | true=>exact absurd ((hB h).1 6 (by decide)) (came_not hi0)
    obtain ⟨hb,f0,f1,f2,f3,f4,f5,f6,f7,f8,f9,f10,f11,f12,f13,f14,f15⟩:=hA h16
    have d4:=f4 (hdep ⟨4,.data⟩ (by rw [← Option.some.inj ho];simp) rfl)
    have d5:=f5 (hdep ⟨5,.data⟩ (by rw [← Option.some.inj ho];simp) rfl)
    refine wpOp_of ho (by rw [← Option.some.inj ho];rfl) (wp_gen fun K hK=>?_)
    obtain rfl:=Option.some.inj ho
    subst d4 d5
    have LV:=lst2 v (G2'.below hb) (G1''.below hb) yA1 ⟨rfl,rfl⟩
    have hk:=bel_d0 v (.cells #[.bool p2,.slice a2 n2 c2,.slice d2 m2 e2,.bool p1,.slice a1 n1 c1,.slice d1 m1 e1] 29)
    go_simp
    exact hK _ _ ⟨by simpa using hsz,_,_,_,_,_,_,_,_,_,_,_,_,_,_,_,_,rfl,fun _=>⟨bel_tr hb hk,fun h=>(set_came h).elim (fun e=>absurd e (by decide)) (fun h=>f0 h),fun h=>(set_came h).elim (fun e=>absurd e (by decide)) (fun h=>f1 h),fun h=>(set_came h).elim (fun e=>absurd e (by decide)) (fun h=>(f2 h).below hk),fun h=>(set_came h).elim (fun e=>absurd e (by decide)) (fun h=>(f3 h).below hk),fun h=>(set_came h).elim (fun e=>absurd e (by decide)) (fun h=>f4 h),fun h=>(set_came h).elim (fun e=>absurd e (by decide)) (fun h=>f5 h),fun _=>LV,fun h=>(set_came h).elim (fun e=>absurd e (by decide)) (fun h=>(f7 h).below hk),fun h=>(set_came h).elim (fun e=>absurd e (by decide)) (fun h=>(f8 h).below hk),fun h=>(set_came h).elim (fun e=>absurd e (by decide)) (fun h=>(f9 h).below hk),fun h=>(set_came h).elim (fun e=>absurd e (by decide)) (fun h=>(f10 h).below hk),fun h=>(set_came h).elim (fun e=>absurd e (by decide)) (fun h=>f11 h),fun h=>(set_came h).elim (fun e=>absurd e (by decide)) (fun h=>f12 h),fun h=>(set_came h).elim (fun e=>absurd e (by decide)) (fun h=>(f13 h).below hk),fun h=>(set_came h).elim (fun e=>absurd e (by decide)) (fun h=>(f14 h).below hk),fun h=>(set_came h).elim (fun e=>absurd e (by decide)) (fun h=>(by obtain ⟨va,vb,vc,e,h1,h2,h3⟩:=f15 h;exact ⟨va,vb,vc,e,h1.below hk,h2.below hk,h3.below hk⟩))⟩,fun h=>(set_came h).elim (fun e=>absurd e (by decide)) (fun h=>absurd h (by rw [h16];decide))⟩
   ·skip
    have h16:L.getD 16 false = false:=by
     cases h:L.getD 16 false with
     | false=>rfl
     | true=>exact absurd ((hB h).1 7 (by decide)) (came_not hi0)
    obtain ⟨hb,f0,f1,f2,f3,f4,f5,f6,f7,f8,f9,f10,f11,f12,f13,f14,f15⟩:=hA h16
    have d3:=f3 (hdep ⟨3,.data⟩ (by rw [← Option.some.inj ho];simp) rfl)
    have d6:=f6 (hdep ⟨6,.data⟩ (by rw [← Option.some.inj ho];simp) rfl)
    refine wpOp_of ho (by rw [← Option.some.inj ho];rfl) (wp_gen fun K hK=>?_)
    obtain rfl:=Option.some.inj ho
    have MV:=mat2 v d3 d6
    obtain ⟨g3,cs3,e3,_,_⟩:=d3
    obtain ⟨g6,cs6,e6,_,_⟩:=d6
    subst e3 e6
    have hk:=bel_d0 v (.cells #[.slice (some ⟨g3,0,none⟩) 3 3,.slice (some ⟨g6,0,none⟩) 2 2] 23)
    go_simp
    exact hK _ _ ⟨by simpa using hsz,_,_,_,_,_,_,_,_,_,_,_,_,_,_,_,_,rfl,fun _=>⟨bel_tr hb hk,fun h=>(set_came h).elim (fun e=>absurd e (by decide)) (fun h=>f0 h),fun h=>(set_came h).elim (fun e=>absurd e (by decide)) (fun h=>f1 h),fun h=>(set_came h).elim (fun e=>absurd e (by decide)) (fun h=>(f2 h).below hk),fun h=>(set_came h).elim (fun e=>absurd e (by decide)) (fun h=>(f3 h).below hk),fun h=>(set_came h).elim (fun e=>absurd e (by decide)) (fun h=>f4 h),fun h=>(set_came h).elim (fun e=>absurd e (by decide)) (fun h=>f5 h),fun h=>(set_came h).elim (fun e=>absurd e (by decide)) (fun h=>(f6 h).below hk),fun _=>MV,fun h=>(set_came h).elim (fun e=>absurd e (by decide)) (fun h=>(f8 h).below hk),fun h=>(set_came h).elim (fun e=>absurd e (by decide)) (fun h=>(f9 h).below hk),fun h=>(set_came h).elim (fun e=>absurd e (by decide)) (fun h=>(f10 h).below hk),fun h=>(set_came h).elim (fun e=>absurd e (by decide)) (fun h=>f11 h),fun h=>(set_came h).elim (fun e=>absurd e (by decide)) (fun h=>f12 h),fun h=>(set_came h).elim (fun e=>absurd e (by decide)) (fun h=>(f13 h).below hk),fun h=>(set_came h).elim (fun e=>absurd e (by decide)) (fun h=>(f14 h).below hk),fun h=>(set_came h).elim (fun e=>absurd e (by decide)) (fun h=>(by obtain ⟨va,vb,vc,e,h1,h2,h3⟩:=f15 h;exact ⟨va,vb,vc,e,h1.below hk,h2.below hk,h3.below hk⟩))⟩,fun h=>(set_came h).elim (fun e=>absurd e (by decide)) (fun h=>absurd h (by rw [h16];decide))⟩
   ·skip
    have h16:L.getD 16 false = false:=by
     cases h:L.getD 16 false with
     | false=>rfl
     | true=>exact absurd ((hB h).1 8 (by decide)) (came_not hi0)
    obtain ⟨hb,f0,f1,f2,f3,f4,f5,f6,f7,f8,f9,f10,f11,f12,f13,f14,f15⟩:=hA h16
    refine wpOp_of ho (by rw [← Option.some.inj ho];rfl) (wp_gen fun K hK=>?_)
    obtain rfl:=Option.some.inj ho
    go_simp
    refine (ofD 4 v (by decide) (by decide)).mono ?_
    rintro e v' ⟨p,a,na,ca,d,nd,cd,rfl,G,hk⟩
    dsimp only
    exact hK _ _ ⟨by simpa using hsz,_,_,_,_,_,_,_,_,_,_,_,_,_,_,_,_,rfl,fun _=>⟨bel_tr hb hk,fun h=>(set_came h).elim (fun e=>absurd e (by decide)) (fun h=>f0 h),fun h=>(set_came h).elim (fun e=>absurd e (by decide)) (fun h=>f1 h),fun h=>(set_came h).elim (fun e=>absurd e (by decide)) (fun h=>(f2 h).below hk),fun h=>(set_came h).elim (fun e=>absurd e (by decide)) (fun h=>(f3 h).below hk),fun h=>(set_came h).elim (fun e=>absurd e (by decide)) (fun h=>f4 h),fun h=>(set_came h).elim (fun e=>absurd e (by decide)) (fun h=>f5 h),fun h=>(set_came h).elim (fun e=>absurd e (by decide)) (fun h=>(f6 h).below hk),fun h=>(set_came h).elim (fun e=>absurd e (by decide)) (fun h=>(f7 h).below hk),fun _=>⟨p,a,na,ca,d,nd,cd,rfl,G.mono (Nat.zero_le _)⟩,fun h=>(set_came h).elim (fun e=>absurd e (by decide)) (fun h=>(f9 h).below hk),fun h=>(set_came h).elim (fun e=>absurd e (by decide)) (fun h=>(f10 h).below hk),fun h=>(set_came h).elim (fun e=>absurd e (by decide)) (fun h=>f11 h),fun h=>(set_came h).elim (fun e=>absurd e (by decide)) (fun h=>f12 h),fun h=>(set_came h).elim (fun e=>absurd e (by decide)) (fun h=>(f13 h).below hk),fun h=>(set_came h).elim (fun e=>absurd e (by decide)) (fun h=>(f14 h).below hk),fun h=>(set_came h).elim (fun e=>absurd e (by decide)) (fun h=>(by obtain ⟨va,vb,vc,e,h1,h2,h3⟩:=f15 h;exact ⟨va,vb,vc,e,h1.below hk,h2.below hk,h3.below hk⟩))⟩,fun h=>(set_came h).elim (fun e=>absurd e (by decide)) (fun h=>absurd h (by rw [h16];decide))⟩
   ·skip
    have h16:L.getD 16 false = false:=by
     cases h:L.getD 16 false with
     | false=>rfl
     | true=>exact absurd ((hB h).1 9 (by decide)) (came_not hi0)
    obtain ⟨hb,f0,f1,f2,f3,f4,f5,f6,f7,f8,f9,f10,f11,f12,f13,f14,f15⟩:=hA h16
    refine wpOp_of ho (by rw [← Option.some.inj ho];rfl) (wp_gen fun K hK=>?_)
    obtain rfl:=Option.some.inj ho
    go_simp
    refine (ofD (-2) v (by decide) (by decide)).mono ?_
    rintro e v' ⟨p,a,na,ca,d,nd,cd,rfl,G,hk⟩
    dsimp only
    exact hK _ _ ⟨by simpa using hsz,_,_,_,_,_,_,_,_,_,_,_,_,_,_,_,_,rfl,fun _=>⟨bel_tr hb hk,fun h=>(set_came h).elim (fun e=>absurd e (by decide)) (fun h=>f0 h),fun h=>(set_came h).elim (fun e=>absurd e (by decide)) (fun h=>f1 h),fun h=>(set_came h).elim (fun e=>absurd e (by decide)) (fun h=>(f2 h).below hk),fun h=>(set_came h).elim (fun e=>absurd e (by decide)) (fun h=>(f3 h).below hk),fun h=>(set_came h).elim (fun e=>absurd e (by decide)) (fun h=>f4 h),fun h=>(set_came h).elim (fun e=>absurd e (by decide)) (fun h=>f5 h),fun h=>(set_came h).elim (fun e=>absurd e (by decide)) (fun h=>(f6 h).below hk),fun h=>(set_came h).elim (fun e=>absurd e (by decide)) (fun h=>(f7 h).below hk),fun h=>(set_came h).elim (fun e=>absurd e (by decide)) (fun h=>(f8 h).below hk),fun _=>⟨p,a,na,ca,d,nd,cd,rfl,G.mono (Nat.zero_le _)⟩,fun h=>(set_came h).elim (fun e=>absurd e (by decide)) (fun h=>(f10 h).below hk),fun h=>(set_came h).elim (fun e=>absurd e (by decide)) (fun h=>f11 h),fun h=>(set_came h).elim (fun e=>absurd e (by decide)) (fun h=>f12 h),fun h=>(set_came h).elim (fun e=>absurd e (by decide)) (fun h=>(f13 h).below hk),fun h=>(set_came h).elim (fun e=>absurd e (by decide)) (fun h=>(f14 h).below hk),fun h=>(set_came h).elim (fun e=>absurd e (by decide)) (fun h=>(by obtain ⟨va,vb,vc,e,h1,h2,h3⟩:=f15 h;exact ⟨va,vb,vc,e,h1.below hk,h2.below hk,h3.below hk⟩))⟩,fun h=>(set_came h).elim (fun e=>absurd e (by decide)) (fun h=>absurd h (by rw [h16];decide))⟩
   ·skip
    have h16:L.getD 16 false = false:=by
     cases h:L.getD 16 false with
     | false=>rfl
     | true=>exact absurd ((hB h).1 10 (by decide)) (came_not hi0)
    obtain ⟨hb,f0,f1,f2,f3,f4,f5,f6,f7,f8,f9,f10,f11,f12,f13,f14,f15⟩:=hA h16
    have d8:=f8 (hdep ⟨8,.data⟩ (by rw [← Option.some.inj ho];simp) rfl)
    have d9:=f9 (hdep ⟨9,.data⟩ (by rw [← Option.some.inj ho];simp) rfl)
    refine wpOp_of ho (by rw [← Option.some.inj ho];rfl) (wp_gen fun K hK=>?_)
    obtain rfl:=Option.some.inj ho
    obtain ⟨p,a,na,ca,d,nd,cd,e3,G3⟩:=d8
    obtain ⟨q,a',na',ca',d',nd',cd',e4,G4⟩:=d9
    subst e3 e4
    have LV:=lst2 v G3 G4 yB ⟨rfl,rfl⟩
    have hk:=bel_d0 v (.cells #[.bool p,.slice a na ca,.slice d nd cd,.bool q,.slice a' na' ca',.slice d' nd' cd'] 29)
    go_simp
    exact hK _ _ ⟨by simpa using hsz,_,_,_,_,_,_,_,_,_,_,_,_,_,_,_,_,rfl,fun _=>⟨bel_tr hb hk,fun h=>(set_came h).elim (fun e=>absurd e (by decide)) (fun h=>f0 h),fun h=>(set_came h).elim (fun e=>absurd e (by decide)) (fun h=>f1 h),fun h=>(set_came h).elim (fun e=>absurd e (by decide)) (fun h=>(f2 h).below hk),fun h=>(set_came h).elim (fun e=>absurd e (by decide)) (fun h=>(f3 h).below hk),fun h=>(set_came h).elim (fun e=>absurd e (by decide)) (fun h=>f4 h),fun h=>(set_came h).elim (fun e=>absurd e (by decide)) (fun h=>f5 h),fun h=>(set_came h).elim (fun e=>absurd e (by decide)) (fun h=>(f6 h).below hk),fun h=>(set_came h).elim (fun e=>absurd e (by decide)) (fun h=>(f7 h).below hk),fun h=>(set_came h).elim (fun e=>absurd e (by decide)) (fun h=>(f8 h).below hk),fun h=>(set_came h).elim (fun e=>absurd e (by decide)) (fun h=>(f9 h).below hk),fun _=>LV,fun h=>(set_came h).elim (fun e=>absurd e (by decide)) (fun h=>f11 h),fun h=>(set_came h).elim (fun e=>absurd e (by decide)) (fun h=>f12 h),fun h=>(set_came h).elim (fun e=>absurd e (by decide)) (fun h=>(f13 h).below hk),fun h=>(set_came h).elim (fun e=>absurd e (by decide)) (fun h=>(f14 h).below hk),fun h=>(set_came h).elim (fun e=>absurd e (by decide)) (fun h=>(by obtain ⟨va,vb,vc,e,h1,h2,h3⟩:=f15 h;exact ⟨va,vb,vc,e,h1.below hk,h2.below hk,h3.below hk⟩))⟩,fun h=>(set_came h).elim (fun e=>absurd e (by decide)) (fun h=>absurd h (by rw [h16];decide))⟩
   ·skip
    have h16:L.getD 16 false = false:=by
     cases h:L.getD 16 false with
     | false=>rfl
     | true=>exact absurd ((hB h).1 11 (by decide)) (came_not hi0)
    obtain ⟨hb,f0,f1,f2,f3,f4,f5,f6,f7,f8,f9,f10,f11,f12,f13,f14,f15⟩:=hA h16
    refine wpOp_of ho (by rw [← Option.some.inj ho];rfl) (wp_gen fun K hK=>?_)
    obtain rfl:=Option.some.inj ho
    have c0:=kept_c hb (B1' 0 _ rfl)
    have c1':=kept_c hb (B1' 1 _ rfl)
    have c2':=kept_c hb (B1' 2 _ rfl)
    go_simp
    exact hK _ _ ⟨by simpa using hsz,_,_,_,_,_,_,_,_,_,_,_,_,_,_,_,_,rfl,fun _=>⟨hb,fun h=>(set_came h).elim (fun e=>absurd e (by decide)) (fun h=>f0 h),fun h=>(set_came h).elim (fun e=>absurd e (by decide)) (fun h=>f1 h),fun h=>(set_came h).elim (fun e=>absurd e (by decide)) (fun h=>f2 h),fun h=>(set_came h).elim (fun e=>absurd e (by decide)) (fun h=>f3 h),fun h=>(set_came h).elim (fun e=>absurd e (by decide)) (fun h=>f4 h),fun h=>(set_came h).elim (fun e=>absurd e (by decide)) (fun h=>f5 h),fun h=>(set_came h).elim (fun e=>absurd e (by decide)) (fun h=>f6 h),fun h=>(set_came h).elim (fun e=>absurd e (by decide)) (fun h=>f7 h),fun h=>(set_came h).elim (fun e=>absurd e (by decide)) (fun h=>f8 h),fun h=>(set_came h).elim (fun e=>absurd e (by decide)) (fun h=>f9 h),fun h=>(set_came h).elim (fun e=>absurd e (by decide)) (fun h=>f10 h),fun _=>rfl,fun h=>(set_came h).elim (fun e=>absurd e (by decide)) (fun h=>f12 h),fun h=>(set_came h).elim (fun e=>absurd e (by decide)) (fun h=>f13 h),fun h=>(set_came h).elim (fun e=>absurd e (by decide)) (fun h=>f14 h),fun h=>(set_came h).elim (fun e=>absurd e (by decide)) (fun h=>f15 h)⟩,fun h=>(set_came h).elim (fun e=>absurd e (by decide)) (fun h=>absurd h (by rw [h16];decide))⟩
   ·skip
    have h16:L.getD 16 false = false:=by
     cases h:L.getD 16 false with
     | false=>rfl
     | true=>exact absurd ((hB h).1 12 (by decide)) (came_not hi0)
    obtain ⟨hb,f0,f1,f2,f3,f4,f5,f6,f7,f8,f9,f10,f11,f12,f13,f14,f15⟩:=hA h16
    refine wpOp_of ho (by rw [← Option.some.inj ho];rfl) (wp_gen fun K hK=>?_)
    obtain rfl:=Option.some.inj ho
    have c0:=kept_c hb (B1' 0 _ rfl)
    have c1':=kept_c hb (B1' 1 _ rfl)
    have c2':=kept_c hb (B1' 2 _ rfl)
    go_simp
    exact hK _ _ ⟨by simpa using hsz,_,_,_,_,_,_,_,_,_,_,_,_,_,_,_,_,rfl,fun _=>⟨hb,fun h=>(set_came h).elim (fun e=>absurd e (by decide)) (fun h=>f0 h),fun h=>(set_came h).elim (fun e=>absurd e (by decide)) (fun h=>f1 h),fun h=>(set_came h).elim (fun e=>absurd e (by decide)) (fun h=>f2 h),fun h=>(set_came h).elim (fun e=>absurd e (by decide)) (fun h=>f3 h),fun h=>(set_came h).elim (fun e=>absurd e (by decide)) (fun h=>f4 h),fun h=>(set_came h).elim (fun e=>absurd e (by decide)) (fun h=>f5 h),fun h=>(set_came h).elim (fun e=>absurd e (by decide)) (fun h=>f6 h),fun h=>(set_came h).elim (fun e=>absurd e (by decide)) (fun h=>f7 h),fun h=>(set_came h).elim (fun e=>absurd e (by decide)) (fun h=>f8 h),fun h=>(set_came h).elim (fun e=>absurd e (by decide)) (fun h=>f9 h),fun h=>(set_came h).elim (fun e=>absurd e (by decide)) (fun h=>f10 h),fun h=>(set_came h).elim (fun e=>absurd e (by decide)) (fun h=>f11 h),fun _=>rfl,fun h=>(set_came h).elim (fun e=>absurd e (by decide)) (fun h=>f13 h),fun h=>(set_came h).elim (fun e=>absurd e (by decide)) (fun h=>f14 h),fun h=>(set_came h).elim (fun e=>absurd e (by decide)) (fun h=>f15 h)⟩,fun h=>(set_came h).elim (fun e=>absurd e (by decide)) (fun h=>absurd h (by rw [h16];decide))⟩
   ·skip
    have h16:L.getD 16 false = false:=by
     cases h:L.getD 16 false with
     | false=>rfl
     | true=>exact absurd ((hB h).1 13 (by decide)) (came_not hi0)
    obtain ⟨hb,f0,f1,f2,f3,f4,f5,f6,f7,f8,f9,f10,f11,f12,f13,f14,f15⟩:=hA h16
    refine wpOp_of ho (by rw [← Option.some.inj ho];rfl) (wp_gen fun K hK=>?_)
    obtain rfl:=Option.some.inj ho
    go_simp
    refine (ofD 0 v (by decide) (by decide)).mono ?_
    rintro e v' ⟨p,a,na,ca,d,nd,cd,rfl,G,hk⟩
    dsimp only
    exact hK _ _ ⟨by simpa using hsz,_,_,_,_,_,_,_,_,_,_,_,_,_,_,_,_,rfl,fun _=>⟨bel_tr hb hk,fun h=>(set_came h).elim (fun e=>absurd e (by decide)) (fun h=>f0 h),fun h=>(set_came h).elim (fun e=>absurd e (by decide)) (fun h=>f1 h),fun h=>(set_came h).elim (fun e=>absurd e (by decide)) (fun h=>(f2 h).below hk),fun h=>(set_came h).elim (fun e=>absurd e (by decide)) (fun h=>(f3 h).below hk),fun h=>(set_came h).elim (fun e=>absurd e (by decide)) (fun h=>f4 h),fun h=>(set_came h).elim (fun e=>absurd e (by decide)) (fun h=>f5 h),fun h=>(set_came h).elim (fun e=>absurd e (by decide)) (fun h=>(f6 h).below hk),fun h=>(set_came h).elim (fun e=>absurd e (by decide)) (fun h=>(f7 h).below hk),fun h=>(set_came h).elim (fun e=>absurd e (by decide)) (fun h=>(f8 h).below hk),fun h=>(set_came h).elim (fun e=>absurd e (by decide)) (fun h=>(f9 h).below hk),fun h=>(set_came h).elim (fun e=>absurd e (by decide)) (fun h=>(f10 h).below hk),fun h=>(set_came h).elim (fun e=>absurd e (by decide)) (fun h=>f11 h),fun h=>(set_came h).elim (fun e=>absurd e (by decide)) (fun h=>f12 h),fun _=>⟨p,a,na,ca,d,nd,cd,rfl,G.mono (Nat.zero_le _)⟩,fun h=>(set_came h).elim (fun e=>absurd e (by decide)) (fun h=>(f14 h).below hk),fun h=>(set_came h).elim (fun e=>absurd e (by decide)) (fun h=>(by obtain ⟨va,vb,vc,e,h1,h2,h3⟩:=f15 h;exact ⟨va,vb,vc,e,h1.below hk,h2.below hk,h3.below hk⟩))⟩,fun h=>(set_came h).elim (fun e=>absurd e (by decide)) (fun h=>absurd h (by rw [h16];decide))⟩
   ·skip
    have h16:L.getD 16 false = false:=by
     cases h:L.getD 16 false with
     | false=>rfl
     | true=>exact absurd ((hB h).1 14 (by decide)) (came_not hi0)
    obtain ⟨hb,f0,f1,f2,f3,f4,f5,f6,f7,f8,f9,f10,f11,f12,f13,f14,f15⟩:=hA h16
    have d11:=f11 (hdep ⟨11,.data⟩ (by rw [← Option.some.inj ho];simp) rfl)
    have d12:=f12 (hdep ⟨12,.data⟩ (by rw [← Option.some.inj ho];simp) rfl)
    have d13:=f13 (hdep ⟨13,.data⟩ (by rw [← Option.some.inj ho];simp) rfl)
    refine wpOp_of ho (by rw [← Option.some.inj ho];rfl) (wp_gen fun K hK=>?_)
    obtain rfl:=Option.some.inj ho
    obtain ⟨p,a,na,ca,d,nd,cd,e3,G3⟩:=d13
    subst d11 d12 e3
    have LV:=lst3 v (G1''.below hb) (G1''.below hb) G3 yA0 ⟨rfl,rfl,rfl⟩
    have hk:=bel_d0 v (.cells #[.bool p1,.slice a1 n1 c1,.slice d1 m1 e1,.bool p1,.slice a1 n1 c1,.slice d1 m1 e1,.bool p,.slice a na ca,.slice d nd cd] 29)
    go_simp
    exact hK _ _ ⟨by simpa using hsz,_,_,_,_,_,_,_,_,_,_,_,_,_,_,_,_,rfl,fun _=>⟨bel_tr hb hk,fun h=>(set_came h).elim (fun e=>absurd e (by decide)) (fun h=>f0 h),fun h=>(set_came h).elim (fun e=>absurd e (by decide)) (fun h=>f1 h),fun h=>(set_came h).elim (fun e=>absurd e (by decide)) (fun h=>(f2 h).below hk),fun h=>(set_came h).elim (fun e=>absurd e (by decide)) (fun h=>(f3 h).below hk),fun h=>(set_came h).elim (fun e=>absurd e (by decide)) (fun h=>f4 h),fun h=>(set_came h).elim (fun e=>absurd e (by decide)) (fun h=>f5 h),fun h=>(set_came h).elim (fun e=>absurd e (by decide)) (fun h=>(f6 h).below hk),fun h=>(set_came h).elim (fun e=>absurd e (by decide)) (fun h=>(f7 h).below hk),fun h=>(set_came h).elim (fun e=>absurd e (by decide)) (fun h=>(f8 h).below hk),fun h=>(set_came h).elim (fun e=>absurd e (by decide)) (fun h=>(f9 h).below hk),fun h=>(set_came h).elim (fun e=>absurd e (by decide)) (fun h=>(f10 h).below hk),fun h=>(set_came h).elim (fun e=>absurd e (by decide)) (fun h=>f11 h),fun h=>(set_came h).elim (fun e=>absurd e (by decide)) (fun h=>f12 h),fun h=>(set_came h).elim (fun e=>absurd e (by decide)) (fun h=>(f13 h).below hk),fun _=>LV,fun h=>(set_came h).elim (fun e=>absurd e (by decide)) (fun h=>(by obtain ⟨va,vb,vc,e,h1,h2,h3⟩:=f15 h;exact ⟨va,vb,vc,e,h1.below hk,h2.below hk,h3.below hk⟩))⟩,fun h=>(set_came h).elim (fun e=>absurd e (by decide)) (fun h=>absurd h (by rw [h16];decide))⟩
   ·skip
    have h16:L.getD 16 false = false:=by
     cases h:L.getD 16 false with
     | false=>rfl
     | true=>exact absurd ((hB h).1 15 (by decide)) (came_not hi0)
    obtain ⟨hb,f0,f1,f2,f3,f4,f5,f6,f7,f8,f9,f10,f11,f12,f13,f14,f15⟩:=hA h16
    have d7:=f7 (hdep ⟨7,.data⟩ (by rw [← Option.some.inj ho];simp) rfl)
    have d10:=f10 (hdep ⟨10,.data⟩ (by rw [← Option.some.inj ho];simp) rfl)
    have d14:=f14 (hdep ⟨14,.data⟩ (by rw [← Option.some.inj ho];simp) rfl)
    refine wpOp_of ho (by rw [← Option.some.inj ho];rfl) (wp_gen fun K hK=>?_)
    obtain rfl:=Option.some.inj ho
    have q7:=d7
    have q10:=d10
    have q14:=d14
    obtain ⟨g7,x7,y7,e7,_,_,_⟩:=d7
    obtain ⟨g8,cs8,e8,_,_⟩:=d10
    obtain ⟨g9,cs9,e9,_,_⟩:=d14
    subst e7 e8 e9
    go_simp
    exact hK _ _ ⟨by simpa using hsz,_,_,_,_,_,_,_,_,_,_,_,_,_,_,_,_,rfl,fun _=>⟨hb,fun h=>(set_came h).elim (fun e=>absurd e (by decide)) (fun h=>f0 h),fun h=>(set_came h).elim (fun e=>absurd e (by decide)) (fun h=>f1 h),fun h=>(set_came h).elim (fun e=>absurd e (by decide)) (fun h=>f2 h),fun h=>(set_came h).elim (fun e=>absurd e (by decide)) (fun h=>f3 h),fun h=>(set_came h).elim (fun e=>absurd e (by decide)) (fun h=>f4 h),fun h=>(set_came h).elim (fun e=>absurd e (by decide)) (fun h=>f5 h),fun h=>(set_came h).elim (fun e=>absurd e (by decide)) (fun h=>f6 h),fun h=>(set_came h).elim (fun e=>absurd e (by decide)) (fun h=>f7 h),fun h=>(set_came h).elim (fun e=>absurd e (by decide)) (fun h=>f8 h),fun h=>(set_came h).elim (fun e=>absurd e (by decide)) (fun h=>f9 h),fun h=>(set_came h).elim (fun e=>absurd e (by decide)) (fun h=>f10 h),fun h=>(set_came h).elim (fun e=>absurd e (by decide)) (fun h=>f11 h),fun h=>(set_came h).elim (fun e=>absurd e (by decide)) (fun h=>f12 h),fun h=>(set_came h).elim (fun e=>absurd e (by decide)) (fun h=>f13 h),fun h=>(set_came h).elim (fun e=>absurd e (by decide)) (fun h=>f14 h),fun _=>⟨_,_,_,rfl,q7,q10,q14⟩⟩,fun h=>(set_came h).elim (fun e=>absurd e (by decide)) (fun h=>absurd h (by rw [h16];decide))⟩
   ·have h16:L.getD 16 false = false:=by
     cases h:L.getD 16 false with
     | false=>rfl
     | true=>exact absurd h (came_not hi0)
    obtain ⟨hb,f0,f1,f2,f3,f4,f5,f6,f7,f8,f9,f10,f11,f12,f13,f14,f15⟩:=hA h16
    have hall:∀ k,k < 16→L.getD k false = true:=fun k hk=>by
     rcases (by omega:k = 0∨k = 1∨k = 2∨k = 3∨k = 4∨k = 5∨k = 6∨k = 7∨k = 8∨k = 9∨k = 10∨k = 11∨k = 12∨k = 13∨k = 14∨k = 15) with rfl | rfl | rfl | rfl | rfl | rfl | rfl | rfl | rfl | rfl | rfl | rfl | rfl | rfl | rfl | rfl
     ·exact hdep ⟨0,.phase⟩ (by rw [← Option.some.inj ho];simp) rfl
     ·exact hdep ⟨1,.phase⟩ (by rw [← Option.some.inj ho];simp) rfl
     ·exact hdep ⟨2,.phase⟩ (by rw [← Option.some.inj ho];simp) rfl
     ·exact hdep ⟨3,.phase⟩ (by rw [← Option.some.inj ho];simp) rfl
     ·exact hdep ⟨4,.phase⟩ (by rw [← Option.some.inj ho];simp) rfl
     ·exact hdep ⟨5,.phase⟩ (by rw [← Option.some.inj ho];simp) rfl
     ·exact hdep ⟨6,.phase⟩ (by rw [← Option.some.inj ho];simp) rfl
     ·exact hdep ⟨7,.phase⟩ (by rw [← Option.some.inj ho];simp) rfl
     ·exact hdep ⟨8,.phase⟩ (by rw [← Option.some.inj ho];simp) rfl
     ·exact hdep ⟨9,.phase⟩ (by rw [← Option.some.inj ho];simp) rfl
     ·exact hdep ⟨10,.phase⟩ (by rw [← Option.some.inj ho];simp) rfl
     ·exact hdep ⟨11,.phase⟩ (by rw [← Option.some.inj ho];simp) rfl
     ·exact hdep ⟨12,.phase⟩ (by rw [← Option.some.inj ho];simp) rfl
     ·exact hdep ⟨13,.phase⟩ (by rw [← Option.some.inj ho];simp) rfl
     ·exact hdep ⟨14,.phase⟩ (by rw [← Option.some.inj ho];simp) rfl
     ·exact hdep ⟨15,.phase⟩ (by rw [← Option.some.inj ho];simp) rfl
    obtain ⟨va,vb,vc,e15,M,LB,LCC⟩:=f15 (hall 15 (by decide))
    have qa:=M
    have qb:=LB
    have qc:=LCC
    obtain ⟨g7,x7,y7,e7,_,_,_⟩:=qa
    obtain ⟨g8,cs8,e8,_,_⟩:=qb
    obtain ⟨g9,cs9,e9,_,_⟩:=qc
    subst e7 e8 e9 e15
    have RV:=R2.below hb
    have k0:=(RV.cell 0).trans (show _ = some (.slice none 0 0) from rfl)
    have k1:=(RV.cell 1).trans (show _ = some (.slice none 0 0) from rfl)
    have k2:=(RV.cell 2).trans (show _ = some (.slice none 0 0) from rfl)
    have k3:=(RV.cell 3).trans (show _ = some (.bool false) from rfl)
    have k4:=(RV.cell 4).trans (show _ = some (.slice none 0 0) from rfl)
    have k5:=(RV.cell 5).trans (show _ = some (.slice none 0 0) from rfl)
    have y0:=RV.frozen 0
    have y1:=RV.frozen 1
    have y2:=RV.frozen 2
    have y3:=RV.frozen 3
    have y4:=RV.frozen 4
    have y5:=RV.frozen 5
    obtain ⟨RN,O⟩:=RV.set6 (.slice (some ⟨g7,0,none⟩) 2 2) (.slice (some ⟨g8,0,none⟩) 2 2) (.slice (some ⟨g9,0,none⟩) 3 3) (.bool false) (.slice none 0 0) (.slice none 0 0)
    refine wpOp_of ho (by rw [← Option.some.inj ho];rfl) (wp_gen fun K hK=>?_)
    obtain rfl:=Option.some.inj ho
    go_simp
    refine hK _ _ ⟨by simpa using hsz,_,_,_,_,_,_,_,_,_,_,_,_,_,_,_,_,rfl,fun h=>?_,fun _=>⟨fun k hk=>?_,_,_,_,RN,M.off RV O,LB.off RV O,LCC.off RV O,(bel_tr hb2 hb).trans (O.below (Nat.le_refl _))⟩⟩
    ·have h17:(L.setIfInBounds 16 true).getD 16 false = true:=by simp [Array.getD,hsz]
     rw [h17] at h
     cases h
    ·have h1:=hall k hk
     have hkL:k < L.size:=by omega
     simp only [Array.getD,Array.size_setIfInBounds,hkL,dif_pos,Array.getInternal_eq_getElem] at h1 ⊢
     rw [Array.getElem_setIfInBounds_ne hkL (by omega)]
     exact h1
  ·rintro L a v ⟨hsz,u5,u6,u7,u8,u9,u10,u11,u12,u13,u14,u15,u16,u17,u18,u19,u20,rfl,hA,hB⟩ hr
   have h16:=ready_nil (by rw [hsz];rfl) (fun k o ho e he _=>by
    have hlt:k < 17:=(Array.getElem?_eq_some_iff.1 ho).1
    rcases (by omega:k = 0∨k = 1∨k = 2∨k = 3∨k = 4∨k = 5∨k = 6∨k = 7∨k = 8∨k = 9∨k = 10∨k = 11∨k = 12∨k = 13∨k = 14∨k = 15∨k = 16) with rfl | rfl | rfl | rfl | rfl | rfl | rfl | rfl | rfl | rfl | rfl | rfl | rfl | rfl | rfl | rfl | rfl
    ·obtain rfl:=Option.some.inj ho
     exact of_decide_eq_true (Array.all_eq_true_iff_forall_mem.1 (show Array.all _ (fun x:Edge=>decide (x.on < 0)) = true by kernel_rfl) e he)
    ·obtain rfl:=Option.some.inj ho
     exact of_decide_eq_true (Array.all_eq_true_iff_forall_mem.1 (show Array.all _ (fun x:Edge=>decide (x.on < 1)) = true by kernel_rfl) e he)
    ·obtain rfl:=Option.some.inj ho
     exact of_decide_eq_true (Array.all_eq_true_iff_forall_mem.1 (show Array.all _ (fun x:Edge=>decide (x.on < 2)) = true by kernel_rfl) e he)
    ·obtain rfl:=Option.some.inj ho
     exact of_decide_eq_true (Array.all_eq_true_iff_forall_mem.1 (show Array.all _ (fun x:Edge=>decide (x.on < 3)) = true by kernel_rfl) e he)
    ·obtain rfl:=Option.some.inj ho
     exact of_decide_eq_true (Array.all_eq_true_iff_forall_mem.1 (show Array.all _ (fun x:Edge=>decide (x.on < 4)) = true by kernel_rfl) e he)
    ·obtain rfl:=Option.some.inj ho
     exact of_decide_eq_true (Array.all_eq_true_iff_forall_mem.1 (show Array.all _ (fun x:Edge=>decide (x.on < 5)) = true by kernel_rfl) e he)
    ·obtain rfl:=Option.some.inj ho
     exact of_decide_eq_true (Array.all_eq_true_iff_forall_mem.1 (show Array.all _ (fun x:Edge=>decide (x.on < 6)) = true by kernel_rfl) e he)
    ·obtain rfl:=Option.some.inj ho
     exact of_decide_eq_true (Array.all_eq_true_iff_forall_mem.1 (show Array.all _ (fun x:Edge=>decide (x.on < 7)) = true by kernel_rfl) e he)
    ·obtain rfl:=Option.some.inj ho
     exact of_decide_eq_true (Array.all_eq_true_iff_forall_mem.1 (show Array.all _ (fun x:Edge=>decide (x.on < 8)) = true by kernel_rfl) e he)
    ·obtain rfl:=Option.some.inj ho
     exact of_decide_eq_true (Array.all_eq_true_iff_forall_mem.1 (show Array.all _ (fun x:Edge=>decide (x.on < 9)) = true by kernel_rfl) e he)
    ·obtain rfl:=Option.some.inj ho
     exact of_decide_eq_true (Array.all_eq_true_iff_forall_mem.1 (show Array.all _ (fun x:Edge=>decide (x.on < 10)) = true by kernel_rfl) e he)
    ·obtain rfl:=Option.some.inj ho
     exact of_decide_eq_true (Array.all_eq_true_iff_forall_mem.1 (show Array.all _ (fun x:Edge=>decide (x.on < 11)) = true by kernel_rfl) e he)
    ·obtain rfl:=Option.some.inj ho
     exact of_decide_eq_true (Array.all_eq_true_iff_forall_mem.1 (show Array.all _ (fun x:Edge=>decide (x.on < 12)) = true by kernel_rfl) e he)
    ·obtain rfl:=Option.some.inj ho
     exact of_decide_eq_true (Array.all_eq_true_iff_forall_mem.1 (show Array.all _ (fun x:Edge=>decide (x.on < 13)) = true by kernel_rfl) e he)
    ·obtain rfl:=Option.some.inj ho
     exact of_decide_eq_true (Array.all_eq_true_iff_forall_mem.1 (show Array.all _ (fun x:Edge=>decide (x.on < 14)) = true by kernel_rfl) e he)
    ·obtain rfl:=Option.some.inj ho
     exact of_decide_eq_true (Array.all_eq_true_iff_forall_mem.1 (show Array.all _ (fun x:Edge=>decide (x.on < 15)) = true by kernel_rfl) e he)
    ·obtain rfl:=Option.some.inj ho
     exact of_decide_eq_true (Array.all_eq_true_iff_forall_mem.1 (show Array.all _ (fun x:Edge=>decide (x.on < 16)) = true by kernel_rfl) e he)) hr 16 (by decide)
   obtain ⟨_,va,vb,vc,h1,h2,h3,h4,h5⟩:=hB h16
   exact ⟨rfl,_,_,_,_,_,_,_,_,_,_,_,_,_,_,_,_,rfl,va,vb,vc,h1,h2,h3,h4,h5⟩
  ·refine ⟨by simp,_,_,_,_,_,_,_,_,_,_,_,_,_,_,_,_,rfl,fun _=>⟨bel_d1 _,fun h=>absurd h (by decide),fun h=>absurd h (by decide),fun h=>absurd h (by decide),fun h=>absurd h (by decide),fun h=>absurd h (by decide),fun h=>absurd h (by decide),fun h=>absurd h (by decide),fun h=>absurd h (by decide),fun h=>absurd h (by decide),fun h=>absurd h (by decide),fun h=>absurd h (by decide),fun h=>absurd h (by decide),fun h=>absurd h (by decide),fun h=>absurd h (by decide),fun h=>absurd h (by decide),fun h=>absurd h (by decide)⟩,fun h=>absurd h (by decide)⟩
 ·rintro a' w' ⟨u5,u6,u7,u8,u9,u10,u11,u12,u13,u14,u15,u16,u17,u18,u19,u20,rfl,va,vb,vc,RN,M,LB,LCC,hbn⟩
  have HP:ExmP w (.returned (.agg #[va,vb,vc,.bool false,.slice none 0 0,.slice none 0 0])) w':=⟨_,_,_,rfl,M,LB,LCC,hbn⟩
  have j0:=(RN.cell 0).trans (show _ = some va from rfl)
  have j1:=(RN.cell 1).trans (show _ = some vb from rfl)
  have j2:=(RN.cell 2).trans (show _ = some vc from rfl)
  have j3:=(RN.cell 3).trans (show _ = some (.bool false) from rfl)
  have j4:=(RN.cell 4).trans (show _ = some (.slice none 0 0) from rfl)
  have j5:=(RN.cell 5).trans (show _ = some (.slice none 0 0) from rfl)
  clear M LB LCC hbn RN
  go_wp2
  exact bodyPost_ret (v:=.agg #[va,vb,vc,.bool false,.slice none 0 0,.slice none 0 0]) (by simp [results,Tryz.results13,go_sem,j0,j1,j2,j3,j4,j5]) rfl HP
end Go.Proofs.YtjiodidemimgmaaGreatDoor
