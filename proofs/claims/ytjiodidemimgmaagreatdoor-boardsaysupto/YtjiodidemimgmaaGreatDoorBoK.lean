import Derived.Test.YtjiodidemimgmaaGreatDoorBoHAll
namespace Go.Proofs.YtjiodidemimgmaaGreatDoor
open Go.RowKit
theorem infoEntry:(Tryz.prog.info? 97).map (fun i=>(i.zero.map (·.cells),i.size,i.bytes)) = some (some #[.int .i64 0,.bool false,.slice none 0 0,.slice none 0 0],4,64):=by kernel_rfl
theorem wpList_makeE (w:World) {ops:Array Oper} {rest:List Oper} {o:Oper} {a:Act} {Q:Exit→Act→World→Prop} (hg:o.guard = none) (l c:Operand) (hop:o.op = Op.makeSlice 65 l c) (S n:Nat) (hl:a.eval l = .int .i64 0) (hc:a.eval c = .int .i64 (n:Int)) (hn:n≤10000000)
  (h:∀ w',LnE w' w.heap.size (.slice (some ⟨w.heap.size,0,none⟩) 0 n) [] S→Below w.heap.size w w'→w'.heap.size = w.heap.size + 1→wpList Tryz.prog ops Q rest (a.put o.dst (.slice (some ⟨w.heap.size,0,none⟩) 0 n)) w'):wpList Tryz.prog ops Q (o :: rest) a w:=by
 obtain ⟨i0,hi,hx⟩:=Option.map_eq_some_iff.1 infoEntry
 simp only [Prod.mk.injEq] at hx
 obtain ⟨h1,h2,h3⟩:=hx
 obtain ⟨z,hz,h4⟩:=Option.map_eq_some_iff.1 h1
 have hr:=run_make (P:=Tryz.prog) w 65 97 i0 z Tryz.underlying65 hi hz .i64 .i64 0 (n:Int) (by omega) (by omega) (by rw [h3];omega) (by omega)
 simp only [Int.toNat_natCast,Int.toNat_zero] at hr
 refine wpList_plain hg fun K hK'=>?_
 unfold Oper.wp execOp
 simp only [hop,Sem.run_bind,Sem.run_pure,Result.andThen_ok,hl,hc,hr]
 refine hK' _ _ (h _ ?_ (bel_d0 w _) (by simp))
 rw [h4,h2]
 refine ⟨fun _=>[],⟨[],⟨by simp,.inr ⟨w.heap.size,n,_,rfl,Nat.le_refl _,heap_alloc_new w _,Nat.zero_le _,by unfold maxLen;omega,by rw [size_madeCells],by simp⟩⟩,fun i hi=>by simp at hi⟩,fun i e he=>by simp at he⟩
theorem Mrg.valR {t:Rat} {W:Nat→Rat} {acc l o:List (Nat × Rat)} {f:Nat × Rat} (h:Mrg t W acc l (f :: o)) (hlt:∀ e ∈ l,f.1 < e.1):W f.1 = 0 - f.2 * t:=by
 have h1:=h.eq f.1
 rw [lat_cons,if_pos rfl,(h.ao f (by simp)).lat (Nat.le_refl _),lat_none (fun i e he=>by have:=hlt e (List.mem_of_getElem? he);omega)] at h1
 grind
theorem Mrg.valB {t:Rat} {W:Nat→Rat} {acc l o:List (Nat × Rat)} {e f:Nat × Rat} (h:Mrg t W acc (e :: l) (f :: o)) (he:e.1 = f.1):W e.1 = e.2 - f.2 * t:=by
 have h1:=h.eq e.1
 rw [lat_cons,lat_cons,if_pos rfl,if_pos he.symm,(h.al e (by simp)).lat (Nat.le_refl _)] at h1
 grind
theorem blw_lwithN {l:List (Nat × Rat)} {N c:Nat} (h:Blw l N) (hc:c < N) (r:Rat):Blw (lwith l c r) N:=fun e he=>by
 unfold lwith at he
 split at he
 ·exact h e he
 ·rcases List.mem_append.1 he with h1 | h1
  ·exact h e h1
  ·rw [List.mem_singleton.1 h1];exact hc
theorem Rise.len {l:List (Nat × Rat)} (h:Rise l):∀ N,Blw l N→l.length≤N:=by
 have hk:∀ k,k≤l.length→∀ N,(∀ e ∈ l.take k,e.1 < N)→k≤N:=by
  intro k
  induction k with
  | zero=>intro _ N _;omega
  | succ k ih =>
   intro hk N hN
   have hkl:k < l.length:=by omega
   have he:l[k]? = some l[k]:=List.getElem?_eq_getElem hkl
   have h1:=ih (by omega) l[k].1 (fun e he'=>by
    obtain ⟨j,hj⟩:=List.getElem?_of_mem he'
    rw [List.getElem?_take] at hj
    split at hj
    ·rename_i hjk
     exact h j k e l[k] hj he hjk
    ·cases hj)
   have h2:=hN l[k] (by
    rw [List.mem_iff_getElem?]
    exact ⟨k,by rw [List.getElem?_take,if_pos (by omega)];exact he⟩)
   omega
 intro N hN
 exact hk l.length (Nat.le_refl _) N (by rw [List.take_length];exact hN)
def lnV:Value→Nat
 | .slice _ n _=>n
 | _=>0
def LesP (w:World) (l o:List (Nat × Rat)) (t:Rat) (N S:Nat) (e:Ending) (w':World):Prop:=∃ v' l',e = .returned v'∧LnE w' w.heap.size v' l' S∧Rise l'∧Blw l' N∧(∀ c,lat l' c = lat l c - t * lat o c)∧Below w.heap.size w w'
set_option maxRecDepth 100000 in
set_option maxHeartbeats 16000000 in
theorem lessB {p:Bool} {a:Option Addr} {na ca:Nat} {d:Option Addr} {nd cd:Nat} {t:Rat} {S R N:Nat} {a1 a2:Option Addr} {n1 n2 c1 c2:Nat} {l o:List (Nat × Rat)} (w:World) (hl:LnS w a1 l S) (ho:LnS w a2 o S) (hn1:n1 = l.length∧n1≤c1) (hn2:n2 = o.length∧n2≤c2) (hlr:Rise l∧Blw l N) (hor:Rise o∧Blw o N) (ht:TR w p a na ca d nd cd t R) (hS:1≤S∧1≤R∧S + S + R≤6000000) (hz:∀ c,SzR (lat l c - t * lat o c) S) (hN:N≤3000000) (hT:TB w) :
  Calls Tryz.prog 86 #[.slice a1 n1 c1,.slice a2 n2 c2,.agg #[.bool p,.slice a na ca,.slice d nd cd]] w fun e w'=>LesP w l o t N S e w':=by
 obtain ⟨e1,hc1'⟩:=hn1
 obtain ⟨e2,hc2'⟩:=hn2
 have HL:Hid (Mrg t (fun c=>lat l c - t * lat o c) [] l o∧Blw [] N∧Blw l N∧Blw o N):=⟨Mrg.start hlr.1 hor.1,fun e he=>by simp at he,hlr.2,hor.2⟩
 have HZ:Hid (∀ c,SzR (lat l c - t * lat o c) S):=hz
 have hb1:n1≤3000000:=by have:=hlr.1.len N hlr.2;omega
 have hb2:n2≤3000000:=by have:=hor.1.len N hor.2;omega
 have HE1:Hid (n1 = l.length):=e1
 have HE2:Hid (n2 = o.length):=e2
 clear hz hlr hor e1 e2
 have BU:=box_new w #[.bool p,.slice a na ca,.slice d nd cd] 29
 have hb0:=bel_d0 w (.cells #[.bool p,.slice a na ca,.slice d nd cd] 29)
 have hs0:(w.alloc (.cells #[.bool p,.slice a na ca,.slice d nd cd] 29)).heap.size = w.heap.size + 1:=by simp
 replace hl:=hl.below hb0
 replace ho:=ho.below hb0
 replace ht:=ht.below hb0
 replace hT:=hT.below hb0
 obtain ⟨mx,emx⟩:∃ mx:Nat,mx = max n1 n2:=⟨_,rfl⟩
 have hmx:max (n1:Int) (n2:Int) = (mx:Int):=by omega
 have hmxl:mx≤3000000:=by omega
 clear emx
 go_enter Tryz.func86,Tryz.ntmps86
 go_wp2_with (first
  | (refine wpList_makeE _ rfl _ _ rfl S mx rfl rfl (by omega) ?_;intro w1 L1 hb1' hs1)
  | fail)
 generalize w.alloc (.cells #[.bool p,.slice a na ca,.slice d nd cd] 29) = W0 at *
 go_loopw [0,1,7] (fun s0 s1 s7 wr=>∃ (acc l' o':List (Nat × Rat)) (a1':Option Addr) (c1':Nat) (a2':Option Addr) (c2':Nat),s0 = .slice a1' l'.length c1'∧s1 = .slice a2' o'.length c2'∧l'.length≤c1'∧o'.length≤c2'∧LnS W0 a1' l' S∧LnS W0 a2' o' S∧LnE wr W0.heap.size s7 acc S∧Hid (Mrg t (fun c=>lat l c - t * lat o c) acc l' o'∧Blw acc N∧Blw l' N∧Blw o' N)∧Below W0.heap.size W0 wr) (fun x y _ _=>lnV x + lnV y)
 case atStart =>
  have L1':LnE w1 W0.heap.size (.slice (some ⟨w.heap.size + 1,0,none⟩) 0 mx) [] S:=by
   have h:=L1
   rw [hs0] at h ⊢
   exact h
  exact ⟨[],l,o,a1,c1,a2,c2,by rw [HE1.out],by rw [HE2.out],by rw [← HE1.out];exact hc1',by rw [← HE2.out];exact hc2',hl,ho,L1',HL,hb1'⟩
 case round =>
  clear L1 hb1' hs1 HL hl ho HE1 HE2 hb1 hb2 hmx hmxl hc1' hc2'
  obtain ⟨acc,l',o',x1,z1,x2,z2,rfl,rfl,hz1,hz2,LS1,LS2,LN,HM,hbW⟩:=hrel
  obtain ⟨ua,uc,e7,huc⟩:=LN.form
  obtain ⟨um,eum⟩:∃ um,um = acc.length:=⟨_,rfl⟩
  have HUM:Hid (um = acc.length):=eum
  have hum:um≤3000000:=by have:=HM.out.1.ra.len N HM.out.2.1;omega
  rw [← eum] at e7
  subst e7
  clear eum huc
  rcases l' with _ | ⟨⟨h1,v1⟩,t1⟩
  ·rcases o' with _ | ⟨⟨h2,v2⟩,t2⟩
   ·obtain ⟨r1,r2⟩:=HM.out.1.done
    have hw:=bel_tr hb0 hbW
    go_wp2
    go_ret
    exact ⟨_,acc,rfl,LN.mono (by omega),r1,HM.out.2.1,r2,hw⟩
   ·skip
    obtain ⟨g2,o2,pp2,bb2,nn2,ee2,dd2,mm2,ll2,rfl,y20,y21,y22,y23,G2,LT2⟩:=LS2.uncons
    obtain ⟨k2,ek2⟩:∃ k,k = (((h2,v2):Nat × Rat) :: t2).length:=⟨_,rfl⟩
    have HK2:Hid (k2 = t2.length + 1):=by show k2 = _;rw [ek2];rfl
    rw [← ek2] at hz2 ⊢
    have hkp2:0 < k2:=by rw [HK2.out];omega
    have hkI2:(0:Int) < (k2:Int):=by omega
    have hkN2:¬ (k2:Int) = 0:=by omega
    have hkE2:((k2:Int) == 0) = false:=by simpa using hkN2
    have hkL2:(1:Int)≤(k2:Int):=by omega
    have hkZ2:(k2:Int)≤(z2:Int):=by omega
    dsimp only at y20 G2
    obtain ⟨A2,hA2⟩:∃ A:Addr,(if z2 = 1 then some (⟨g2,o2,none⟩:Addr) else some ⟨g2,o2 + 4,none⟩) = some A:=by split <;> exact ⟨_,rfl⟩
    have LA2:LnS W0 (some A2) t2 S:=by
     rw [← hA2]
     by_cases hz:z2 = 1
     ·exact .inl (List.eq_nil_of_length_eq_zero (by have:=HK2.out;omega))
     ·rw [if_neg hz];exact LT2
    clear ek2 LS2 LT2
    have HBX:∀ w',Below W0.heap.size W0 w'→(w'.cell? ⟨w.heap.size,0,none⟩ = some (.bool p)∧w'.cell? ⟨w.heap.size,1,none⟩ = some (.slice a na ca)∧w'.cell? ⟨w.heap.size,2,none⟩ = some (.slice d nd cd)∧w'.cell? ⟨g2,o2,none⟩ = some (.int .i64 (h2:Nat))∧w'.cell? ⟨g2,o2 + 1,none⟩ = some (.bool pp2)∧w'.cell? ⟨g2,o2 + 1 + 1,none⟩ = some (.slice bb2 nn2 ee2)∧w'.cell? ⟨g2,o2 + 1 + 2,none⟩ = some (.slice dd2 mm2 ll2)):=fun w' h=>⟨kept_c h (BU 0 _ rfl),kept_c h (BU 1 _ rfl),kept_c h (BU 2 _ rfl),kept_c h y20,kept_c h y21,kept_c h y22,kept_c h y23⟩
    have HSZ:Hid (SzR (0 - v2 * t) S):=by
     have h:=HZ.out h2
     have e:=HM.out.1.valR (fun e he=>by simp at he)
     dsimp only at e
     rw [e] at h
     exact h
    go_wp2_with fail
    have hd0:=bel_d1 wr
    have LD:=LN.below hd0
    refine wp_region_noPanic (wp_region_guardB HBX (by as_aux_lemma=>kernel_rfl) ?_)
    have hc0:Below W0.heap.size W0 wr.drew:=bel_tr hbW (bel_d1 _)
    generalize wr.drew = z0 at *
    refine wpAnyG.tA 0 (v:=.slice (some ⟨g2,o2,none⟩) k2 z2) (by decide) 1 (by as_aux_lemma=>kernel_rfl) (by rfl) ?y0 (HBX _ hc0) ?_
    case y0 =>
     rintro w' ⟨q0,q1,q2,q3,q4,q5,q6⟩
     simp only [lgA,lgZ]
     go_simp
    simp only [lgA,lgZ,Act.put,lsA,lsZ,lsS]
    refine wpAnyG.tA 1 (v:=.int .i64 (k2:Int)) (by decide) 2 (by as_aux_lemma=>kernel_rfl) (by rfl) ?y1 (HBX _ hc0) ?_
    case y1 =>
     rintro w' ⟨q0,q1,q2,q3,q4,q5,q6⟩
     simp only [lgA,lgZ,lgS]
     go_simp
    simp only [lgA,lgZ,lgS,Act.put,lsA,lsZ,lsS]
    refine wpAnyG.tA 2 (v:=.bool false) (by decide) 3 (by as_aux_lemma=>kernel_rfl) (by rfl) ?y2 (HBX _ hc0) ?_
    case y2 =>
     rintro w' ⟨q0,q1,q2,q3,q4,q5,q6⟩
     simp only [lgA,lgZ,lgS]
     go_simp
    simp only [lgA,lgZ,lgS,Act.put,lsA,lsZ,lsS]
    refine wpAnyG.tA 3 (v:=.bool false) (by decide) 18 (by as_aux_lemma=>kernel_rfl) (by rfl) ?y3 (HBX _ hc0) ?_
    case y3 =>
     rintro w' ⟨q0,q1,q2,q3,q4,q5,q6⟩
     simp only [lgA,lgZ,lgS]
     go_simp
    simp only [lgA,lgZ,lgS,Act.put,lsA,lsZ,lsS]
    refine wpAnyG.tA 4 (v:=.slice x1 0 z1) (by decide) 5 (by as_aux_lemma=>kernel_rfl) (by rfl) ?y4 (HBX _ hc0) ?_
    case y4 =>
     rintro w' ⟨q0,q1,q2,q3,q4,q5,q6⟩
     simp only [lgA,lgZ,lgS]
     go_simp
    simp only [lgA,lgZ,lgS,Act.put,lsA,lsZ,lsS]
    refine wpAnyG.tA 5 (v:=.int .i64 0) (by decide) 6 (by as_aux_lemma=>kernel_rfl) (by rfl) ?y5 (HBX _ hc0) ?_
    case y5 =>
     rintro w' ⟨q0,q1,q2,q3,q4,q5,q6⟩
     simp only [lgA,lgZ,lgS]
     go_simp
    simp only [lgA,lgZ,lgS,Act.put,lsA,lsZ,lsS]
    refine wpAnyG.tA 6 (v:=.bool false) (by decide) 7 (by as_aux_lemma=>kernel_rfl) (by rfl) ?y6 (HBX _ hc0) ?_
    case y6 =>
     rintro w' ⟨q0,q1,q2,q3,q4,q5,q6⟩
     simp only [lgA,lgZ,lgS]
     go_simp
    simp only [lgA,lgZ,lgS,Act.put,lsA,lsZ,lsS]
    refine wpAnyG.tA 7 (v:=.bool false) (by decide) 19 (by as_aux_lemma=>kernel_rfl) (by rfl) ?y7 (HBX _ hc0) ?_
    case y7 =>
     rintro w' ⟨q0,q1,q2,q3,q4,q5,q6⟩
     simp only [lgA,lgZ,lgS]
     go_simp
    simp only [lgA,lgZ,lgS,Act.put,lsA,lsZ,lsS]
    refine wpAnyG.skip 8 (by decide) (by as_aux_lemma=>kernel_rfl) (fun _ _ _ h=>h) 9 (by rfl) (fun _ _=>Iff.rfl) (by as_aux_lemma=>kernel_rfl) (by as_aux_lemma=>kernel_rfl) (by as_aux_lemma=>kernel_rfl) (by rfl) (HBX _ hc0) (by rfl) ?_
    simp only [lgA,lgZ,lgS,Act.put,lsA,lsZ,lsS]
    refine wpAnyG.skip 9 (by decide) (by as_aux_lemma=>kernel_rfl) (fun _ _ _ h=>h) 10 (by rfl) (fun _ _=>Iff.rfl) (by as_aux_lemma=>kernel_rfl) (by as_aux_lemma=>kernel_rfl) (by as_aux_lemma=>kernel_rfl) (by rfl) (HBX _ hc0) (by rfl) ?_
    simp only [lgA,lgZ,lgS,Act.put,lsA,lsZ,lsS]
    refine wpAnyG.skip 10 (by decide) (by as_aux_lemma=>kernel_rfl) (fun _ _ _ h=>h) 11 (by rfl) (fun _ _=>Iff.rfl) (by as_aux_lemma=>kernel_rfl) (by as_aux_lemma=>kernel_rfl) (by as_aux_lemma=>kernel_rfl) (by rfl) (HBX _ hc0) (by rfl) ?_
    simp only [lgA,lgZ,lgS,Act.put,lsA,lsZ,lsS]
    refine wpAnyG.skip 11 (by decide) (by as_aux_lemma=>kernel_rfl) (fun _ _ _ h=>h) 16 (by rfl) (fun _ _=>Iff.rfl) (by as_aux_lemma=>kernel_rfl) (by as_aux_lemma=>kernel_rfl) (by as_aux_lemma=>kernel_rfl) (by rfl) (HBX _ hc0) (by rfl) ?_
    simp only [lgA,lgZ,lgS,Act.put,lsA,lsZ,lsS]
    refine wpAnyG.skip 12 (by decide) (by as_aux_lemma=>kernel_rfl) (fun _ _ _ h=>h) 13 (by rfl) (fun _ _=>Iff.rfl) (by as_aux_lemma=>kernel_rfl) (by as_aux_lemma=>kernel_rfl) (by as_aux_lemma=>kernel_rfl) (by rfl) (HBX _ hc0) (by rfl) ?_
    simp only [lgA,lgZ,lgS,Act.put,lsA,lsZ,lsS]
    refine wpAnyG.skip 13 (by decide) (by as_aux_lemma=>kernel_rfl) (fun _ _ _ h=>h) 14 (by rfl) (fun _ _=>Iff.rfl) (by as_aux_lemma=>kernel_rfl) (by as_aux_lemma=>kernel_rfl) (by as_aux_lemma=>kernel_rfl) (by rfl) (HBX _ hc0) (by rfl) ?_
    simp only [lgA,lgZ,lgS,Act.put,lsA,lsZ,lsS]
    refine wpAnyG.skip 14 (by decide) (by as_aux_lemma=>kernel_rfl) (fun _ _ _ h=>h) 15 (by rfl) (fun _ _=>Iff.rfl) (by as_aux_lemma=>kernel_rfl) (by as_aux_lemma=>kernel_rfl) (by as_aux_lemma=>kernel_rfl) (by rfl) (HBX _ hc0) (by rfl) ?_
    simp only [lgA,lgZ,lgS,Act.put,lsA,lsZ,lsS]
    refine wpAnyG.skip 15 (by decide) (by as_aux_lemma=>kernel_rfl) (fun _ _ _ h=>h) 16 (by rfl) (fun _ _=>Iff.rfl) (by as_aux_lemma=>kernel_rfl) (by as_aux_lemma=>kernel_rfl) (by as_aux_lemma=>kernel_rfl) (by rfl) (HBX _ hc0) (by rfl) ?_
    simp only [lgA,lgZ,lgS,Act.put,lsA,lsZ,lsS]
    refine wpAnyG.skip 16 (by decide) (by as_aux_lemma=>kernel_rfl) (fun _ _ _ h=>h) 17 (by rfl) (fun _ _=>Iff.rfl) (by as_aux_lemma=>kernel_rfl) (by as_aux_lemma=>kernel_rfl) (by as_aux_lemma=>kernel_rfl) (by rfl) (HBX _ hc0) (by rfl) ?_
    simp only [lgA,lgZ,lgS,Act.put,lsA,lsZ,lsS]
    refine wpAnyG.tA 17 (v:=.bool false) (by decide) 18 (by as_aux_lemma=>kernel_rfl) (by rfl) ?y17 (HBX _ hc0) ?_
    case y17 =>
     rintro w' ⟨q0,q1,q2,q3,q4,q5,q6⟩
     simp only [lgA,lgZ,lgS]
     go_simp
    simp only [lgA,lgZ,lgS,Act.put,lsA,lsZ,lsS]
    refine wpAnyG.tA 18 (v:=.bool false) (by decide) 19 (by as_aux_lemma=>kernel_rfl) (by rfl) ?y18 (HBX _ hc0) ?_
    case y18 =>
     rintro w' ⟨q0,q1,q2,q3,q4,q5,q6⟩
     simp only [lgA,lgZ,lgS]
     go_simp
    simp only [lgA,lgZ,lgS,Act.put,lsA,lsZ,lsS]
    refine wpAnyG.one 19 (by as_aux_lemma=>kernel_rfl) (by decide) (by rfl) (fun K hK=>?_)
    simp only [lgA,lgZ,lgS]
    go_simp
    refine hK _ _ (HBX _ hc0) ?_
    clear hK K
    refine wpAnyG.done (by as_aux_lemma=>kernel_rfl) (NoPanic.normal ?_)
    have hcz:Below W0.heap.size W0 z0:=hc0
    clear hc0 hd0
    have hd1:=bel_d1 z0
    replace LD:=LD.below hd1
    go_wp2_with fail
    refine wp_region_noPanic (wp_region_guardB HBX (by as_aux_lemma=>kernel_rfl) ?_)
    have hc0:Below W0.heap.size W0 z0.drew:=bel_tr hcz (bel_d1 _)
    generalize z0.drew = y0 at *
    refine wpAnyG.tA 0 (v:=.slice x1 0 z1) (by decide) 1 (by as_aux_lemma=>kernel_rfl) (by rfl) ?y0 (HBX _ hc0) ?_
    case y0 =>
     rintro w' ⟨q0,q1,q2,q3,q4,q5,q6⟩
     simp only [lgA,lgZ]
     go_simp
    simp only [lgA,lgZ,Act.put,lsA,lsZ,lsS]
    refine wpAnyG.tA 1 (v:=.int .i64 0) (by decide) 2 (by as_aux_lemma=>kernel_rfl) (by rfl) ?y1 (HBX _ hc0) ?_
    case y1 =>
     rintro w' ⟨q0,q1,q2,q3,q4,q5,q6⟩
     simp only [lgA,lgZ,lgS]
     go_simp
    simp only [lgA,lgZ,lgS,Act.put,lsA,lsZ,lsS]
    refine wpAnyG.tA 2 (v:=.bool true) (by decide) 3 (by as_aux_lemma=>kernel_rfl) (by rfl) ?y2 (HBX _ hc0) ?_
    case y2 =>
     rintro w' ⟨q0,q1,q2,q3,q4,q5,q6⟩
     simp only [lgA,lgZ,lgS]
     go_simp
    simp only [lgA,lgZ,lgS,Act.put,lsA,lsZ,lsS]
    refine wpAnyG.tA 3 (v:=.bool true) (by decide) 14 (by as_aux_lemma=>kernel_rfl) (by rfl) ?y3 (HBX _ hc0) ?_
    case y3 =>
     rintro w' ⟨q0,q1,q2,q3,q4,q5,q6⟩
     simp only [lgA,lgZ,lgS]
     go_simp
    simp only [lgA,lgZ,lgS,Act.put,lsA,lsZ,lsS]
    refine wpAnyG.skip 4 (by decide) (by as_aux_lemma=>kernel_rfl) (fun _ _ _ h=>h) 5 (by rfl) (fun _ _=>Iff.rfl) (by as_aux_lemma=>kernel_rfl) (by as_aux_lemma=>kernel_rfl) (by as_aux_lemma=>kernel_rfl) (by rfl) (HBX _ hc0) (by rfl) ?_
    simp only [lgA,lgZ,lgS,Act.put,lsA,lsZ,lsS]
    refine wpAnyG.skip 5 (by decide) (by as_aux_lemma=>kernel_rfl) (fun _ _ _ h=>h) 6 (by rfl) (fun _ _=>Iff.rfl) (by as_aux_lemma=>kernel_rfl) (by as_aux_lemma=>kernel_rfl) (by as_aux_lemma=>kernel_rfl) (by rfl) (HBX _ hc0) (by rfl) ?_
    simp only [lgA,lgZ,lgS,Act.put,lsA,lsZ,lsS]
    refine wpAnyG.skip 6 (by decide) (by as_aux_lemma=>kernel_rfl) (fun _ _ _ h=>h) 7 (by rfl) (fun _ _=>Iff.rfl) (by as_aux_lemma=>kernel_rfl) (by as_aux_lemma=>kernel_rfl) (by as_aux_lemma=>kernel_rfl) (by rfl) (HBX _ hc0) (by rfl) ?_
    simp only [lgA,lgZ,lgS,Act.put,lsA,lsZ,lsS]
    refine wpAnyG.skip 7 (by decide) (by as_aux_lemma=>kernel_rfl) (fun _ _ _ h=>h) 12 (by rfl) (fun _ _=>Iff.rfl) (by as_aux_lemma=>kernel_rfl) (by as_aux_lemma=>kernel_rfl) (by as_aux_lemma=>kernel_rfl) (by rfl) (HBX _ hc0) (by rfl) ?_
    simp only [lgA,lgZ,lgS,Act.put,lsA,lsZ,lsS]
    refine wpAnyG.skip 8 (by decide) (by as_aux_lemma=>kernel_rfl) (fun _ _ _ h=>h) 9 (by rfl) (fun _ _=>Iff.rfl) (by as_aux_lemma=>kernel_rfl) (by as_aux_lemma=>kernel_rfl) (by as_aux_lemma=>kernel_rfl) (by rfl) (HBX _ hc0) (by rfl) ?_
    simp only [lgA,lgZ,lgS,Act.put,lsA,lsZ,lsS]
    refine wpAnyG.skip 9 (by decide) (by as_aux_lemma=>kernel_rfl) (fun _ _ _ h=>h) 10 (by rfl) (fun _ _=>Iff.rfl) (by as_aux_lemma=>kernel_rfl) (by as_aux_lemma=>kernel_rfl) (by as_aux_lemma=>kernel_rfl) (by rfl) (HBX _ hc0) (by rfl) ?_
    simp only [lgA,lgZ,lgS,Act.put,lsA,lsZ,lsS]
    refine wpAnyG.skip 10 (by decide) (by as_aux_lemma=>kernel_rfl) (fun _ _ _ h=>h) 11 (by rfl) (fun _ _=>Iff.rfl) (by as_aux_lemma=>kernel_rfl) (by as_aux_lemma=>kernel_rfl) (by as_aux_lemma=>kernel_rfl) (by rfl) (HBX _ hc0) (by rfl) ?_
    simp only [lgA,lgZ,lgS,Act.put,lsA,lsZ,lsS]
    refine wpAnyG.skip 11 (by decide) (by as_aux_lemma=>kernel_rfl) (fun _ _ _ h=>h) 12 (by rfl) (fun _ _=>Iff.rfl) (by as_aux_lemma=>kernel_rfl) (by as_aux_lemma=>kernel_rfl) (by as_aux_lemma=>kernel_rfl) (by rfl) (HBX _ hc0) (by rfl) ?_
    simp only [lgA,lgZ,lgS,Act.put,lsA,lsZ,lsS]
    refine wpAnyG.skip 12 (by decide) (by as_aux_lemma=>kernel_rfl) (fun _ _ _ h=>h) 13 (by rfl) (fun _ _=>Iff.rfl) (by as_aux_lemma=>kernel_rfl) (by as_aux_lemma=>kernel_rfl) (by as_aux_lemma=>kernel_rfl) (by rfl) (HBX _ hc0) (by rfl) ?_
    simp only [lgA,lgZ,lgS,Act.put,lsA,lsZ,lsS]
    refine wpAnyG.tA 13 (v:=.bool true) (by decide) 14 (by as_aux_lemma=>kernel_rfl) (by rfl) ?y13 (HBX _ hc0) ?_
    case y13 =>
     rintro w' ⟨q0,q1,q2,q3,q4,q5,q6⟩
     simp only [lgA,lgZ,lgS]
     go_simp
    simp only [lgA,lgZ,lgS,Act.put,lsA,lsZ,lsS]
    refine wpAnyG.one 14 (by as_aux_lemma=>kernel_rfl) (by decide) (by rfl) (fun K hK=>?_)
    simp only [lgA,lgZ,lgS]
    go_simp
    refine hK _ _ (HBX _ hc0) ?_
    clear hK K
    refine wpAnyG.done (by as_aux_lemma=>kernel_rfl) (NoPanic.normal ?_)
    have hcy:Below W0.heap.size W0 y0:=hc0
    clear hc0 hcz hd1
    have hd1:=bel_d1 y0
    replace LD:=LD.below hd1
    go_wp2_with fail
    refine wp_region_noPanic (wp_region_guardB HBX (by as_aux_lemma=>kernel_rfl) ?_)
    have hc0:Below W0.heap.size W0 y0.drew:=bel_tr hcy (bel_d1 _)
    generalize y0.drew = u0 at *
    refine wpAnyG.tA 0 (v:=.slice ua um uc) (by decide) 13 (by as_aux_lemma=>kernel_rfl) (by rfl) ?y0 (HBX _ hc0) ?_
    case y0 =>
     rintro w' ⟨q0,q1,q2,q3,q4,q5,q6⟩
     simp only [lgA,lgZ]
     go_simp
    simp only [lgA,lgZ,Act.put,lsA,lsZ,lsS]
    refine wpAnyG.tA 1 (v:=.slice (some ⟨g2,o2,none⟩) k2 z2) (by decide) 13 (by as_aux_lemma=>kernel_rfl) (by rfl) ?y1 (HBX _ hc0) ?_
    case y1 =>
     rintro w' ⟨q0,q1,q2,q3,q4,q5,q6⟩
     simp only [lgA,lgZ,lgS]
     go_simp
    simp only [lgA,lgZ,lgS,Act.put,lsA,lsZ,lsS]
    refine wpAnyG.tA 2 (v:=.pointer (some ⟨g2,o2,none⟩)) (by decide) 13 (by as_aux_lemma=>kernel_rfl) (by rfl) ?y2 (HBX _ hc0) ?_
    case y2 =>
     rintro w' ⟨q0,q1,q2,q3,q4,q5,q6⟩
     simp only [lgA,lgZ,lgS]
     go_simp
    simp only [lgA,lgZ,lgS,Act.put,lsA,lsZ,lsS]
    refine wpAnyG.tA 3 (v:=.pointer (some ⟨g2,o2,none⟩)) (by decide) 13 (by as_aux_lemma=>kernel_rfl) (by rfl) ?y3 (HBX _ hc0) ?_
    case y3 =>
     rintro w' ⟨q0,q1,q2,q3,q4,q5,q6⟩
     simp only [lgA,lgZ,lgS]
     go_simp
    simp only [lgA,lgZ,lgS,Act.put,lsA,lsZ,lsS]
    refine wpAnyG.tA 4 (v:=.int .i64 (h2:Nat)) (by decide) 13 (by as_aux_lemma=>kernel_rfl) (by rfl) ?y4 (HBX _ hc0) ?_
    case y4 =>
     rintro w' ⟨q0,q1,q2,q3,q4,q5,q6⟩
     simp only [lgA,lgZ,lgS]
     go_simp
    simp only [lgA,lgZ,lgS,Act.put,lsA,lsZ,lsS]
    refine wpAnyG.tA 5 (v:=.agg #[.bool false,.slice none 0 0,.slice none 0 0]) (by decide) 13 (by as_aux_lemma=>kernel_rfl) (by rfl) ?y5 (HBX _ hc0) ?_
    case y5 =>
     rintro w' ⟨q0,q1,q2,q3,q4,q5,q6⟩
     simp only [lgA,lgZ,lgS]
     go_simp
    simp only [lgA,lgZ,lgS,Act.put,lsA,lsZ,lsS]
    refine wpAnyG.tA 6 (v:=.slice (some ⟨g2,o2,none⟩) k2 z2) (by decide) 13 (by as_aux_lemma=>kernel_rfl) (by rfl) ?y6 (HBX _ hc0) ?_
    case y6 =>
     rintro w' ⟨q0,q1,q2,q3,q4,q5,q6⟩
     simp only [lgA,lgZ,lgS]
     go_simp
    simp only [lgA,lgZ,lgS,Act.put,lsA,lsZ,lsS]
    refine wpAnyG.tA 7 (v:=.pointer (some ⟨g2,o2,none⟩)) (by decide) 13 (by as_aux_lemma=>kernel_rfl) (by rfl) ?y7 (HBX _ hc0) ?_
    case y7 =>
     rintro w' ⟨q0,q1,q2,q3,q4,q5,q6⟩
     simp only [lgA,lgZ,lgS]
     go_simp
    simp only [lgA,lgZ,lgS,Act.put,lsA,lsZ,lsS]
    refine wpAnyG.tA 8 (v:=.pointer (some ⟨g2,o2 + 1,none⟩)) (by decide) 13 (by as_aux_lemma=>kernel_rfl) (by rfl) ?y8 (HBX _ hc0) ?_
    case y8 =>
     rintro w' ⟨q0,q1,q2,q3,q4,q5,q6⟩
     simp only [lgA,lgZ,lgS]
     go_simp
    simp only [lgA,lgZ,lgS,Act.put,lsA,lsZ,lsS]
    refine wpAnyG.tA 9 (v:=.agg #[.bool pp2,.slice bb2 nn2 ee2,.slice dd2 mm2 ll2]) (by decide) 13 (by as_aux_lemma=>kernel_rfl) (by rfl) ?y9 (HBX _ hc0) ?_
    case y9 =>
     rintro w' ⟨q0,q1,q2,q3,q4,q5,q6⟩
     simp only [lgA,lgZ,lgS]
     go_simp
    simp only [lgA,lgZ,lgS,Act.put,lsA,lsZ,lsS]
    refine wpAnyG.tA 10 (v:=.agg #[.bool p,.slice a na ca,.slice d nd cd]) (by decide) 13 (by as_aux_lemma=>kernel_rfl) (by rfl) ?y10 (HBX _ hc0) ?_
    case y10 =>
     rintro w' ⟨q0,q1,q2,q3,q4,q5,q6⟩
     simp only [lgA,lgZ,lgS]
     go_simp
    simp only [lgA,lgZ,lgS,Act.put,lsA,lsZ,lsS]
    refine wpAnyG.one 11 (by as_aux_lemma=>kernel_rfl) (by decide) (by rfl) (fun K hK=>?_)
    simp only [lgA,lgZ,lgS]
    go_simp
    refine (takB (K:=S) u0 (TR.zero _ S) (G2.tr.below hc0) (ht.below hc0) ⟨hS.1,hS.1,hS.2.1⟩ (by omega) HSZ.out (hT.below hc0)).mono ?_
    rintro e u1 ⟨f5,u5,i5,j5,x5,t5,w5,rfl,G5,hk1⟩
    have hc1:Below W0.heap.size W0 u1:=bel_tr hc0 hk1
    have L1:=LD.below hk1
    dsimp only
    refine hK _ _ (HBX _ hc1) ?_
    clear hK K
    refine wpAnyG.one 12 (by as_aux_lemma=>kernel_rfl) (by decide) (by rfl) (fun K hK=>?_)
    simp only [lgA,lgZ,lgS]
    go_simp
    refine (withB h2 u1 L1 (Below.size hc1) (G5.mono (Nat.zero_le _)) ⟨hS.1,by omega⟩ (by have:=HUM.out;omega)).mono ?_
    rintro e u2 ⟨v9,rfl,L9,hg9,ho9⟩
    have hc2:Below W0.heap.size W0 u2:=hc1.grown hg9 hc1.size (fun k hk=>(L1.lt k hk).1)
    dsimp only
    refine hK _ _ (HBX _ hc2) ?_
    clear hK K
    refine wpAnyG.one 13 (by as_aux_lemma=>kernel_rfl) (by decide) (by rfl) (fun K hK=>?_)
    simp only [lgA,lgZ,lgS]
    go_simp
    refine hK _ _ (HBX _ hc2) ?_
    clear hK K
    refine wpAnyG.done (by as_aux_lemma=>kernel_rfl) (NoPanic.normal ?_)
    have HM2:Hid (Mrg t (fun c=>lat l c - t * lat o c) (lwith acc h2 (0 - v2 * t)) [] t2∧Blw (lwith acc h2 (0 - v2 * t)) N∧Blw [] N∧Blw t2 N):=⟨HM.out.1.right (fun e he=>by simp at he),blw_lwithN HM.out.2.1 (HM.out.2.2.2 (h2,v2) (by simp)) _,HM.out.2.2.1,fun e he=>HM.out.2.2.2 e (by simp [he])⟩
    clear HM LD hc0 hc1 HBX LN hbW L1 hg9 ho9 hk1 G5 HSZ
    go_wp2
    go_roundw
    case rel =>
     have ek:k2 - 1 = t2.length:=by rw [HK2.out];rfl
     skip
     first | exact ⟨lwith acc h2 (0 - v2 * t),[],t2,_,_,_,_,rfl,by rw [ek],hz1,by rw [← ek];omega,LS1,LA2,L9,HM2,hc2⟩ | ((repeat apply Exists.intro);refine ⟨?_,rfl⟩;exact ⟨lwith acc h2 (0 - v2 * t),[],t2,_,_,_,_,rfl,by rw [ek],hz1,by rw [← ek];omega,LS1,LA2,L9,HM2,hc2⟩)
    case measure=>simp [lnV];omega
  ·rcases o' with _ | ⟨⟨h2,v2⟩,t2⟩
   ·skip
    obtain ⟨g1,o1,pp1,bb1,nn1,ee1,dd1,mm1,ll1,rfl,y10,y11,y12,y13,G1,LT1⟩:=LS1.uncons
    obtain ⟨k1,ek1⟩:∃ k,k = (((h1,v1):Nat × Rat) :: t1).length:=⟨_,rfl⟩
    have HK1:Hid (k1 = t1.length + 1):=by show k1 = _;rw [ek1];rfl
    rw [← ek1] at hz1 ⊢
    have hkp1:0 < k1:=by rw [HK1.out];omega
    have hkI1:(0:Int) < (k1:Int):=by omega
    have hkN1:¬ (k1:Int) = 0:=by omega
    have hkE1:((k1:Int) == 0) = false:=by simpa using hkN1
    have hkL1:(1:Int)≤(k1:Int):=by omega
    have hkZ1:(k1:Int)≤(z1:Int):=by omega
    dsimp only at y10 G1
    obtain ⟨A1,hA1⟩:∃ A:Addr,(if z1 = 1 then some (⟨g1,o1,none⟩:Addr) else some ⟨g1,o1 + 4,none⟩) = some A:=by split <;> exact ⟨_,rfl⟩
    have LA1:LnS W0 (some A1) t1 S:=by
     rw [← hA1]
     by_cases hz:z1 = 1
     ·exact .inl (List.eq_nil_of_length_eq_zero (by have:=HK1.out;omega))
     ·rw [if_neg hz];exact LT1
    clear ek1 LS1 LT1
    have HBX:∀ w',Below W0.heap.size W0 w'→(w'.cell? ⟨w.heap.size,0,none⟩ = some (.bool p)∧w'.cell? ⟨w.heap.size,1,none⟩ = some (.slice a na ca)∧w'.cell? ⟨w.heap.size,2,none⟩ = some (.slice d nd cd)∧w'.cell? ⟨g1,o1,none⟩ = some (.int .i64 (h1:Nat))∧w'.cell? ⟨g1,o1 + 1,none⟩ = some (.bool pp1)∧w'.cell? ⟨g1,o1 + 1 + 1,none⟩ = some (.slice bb1 nn1 ee1)∧w'.cell? ⟨g1,o1 + 1 + 2,none⟩ = some (.slice dd1 mm1 ll1)):=fun w' h=>⟨kept_c h (BU 0 _ rfl),kept_c h (BU 1 _ rfl),kept_c h (BU 2 _ rfl),kept_c h y10,kept_c h y11,kept_c h y12,kept_c h y13⟩
    go_wp2_with fail
    have hd0:=bel_d1 wr
    have LD:=LN.below hd0
    refine wp_region_noPanic (wp_region_guardB HBX (by as_aux_lemma=>kernel_rfl) ?_)
    have hc0:Below W0.heap.size W0 wr.drew:=bel_tr hbW (bel_d1 _)
    generalize wr.drew = z0 at *
    refine wpAnyG.tA 0 (v:=.slice x2 0 z2) (by decide) 1 (by as_aux_lemma=>kernel_rfl) (by rfl) ?y0 (HBX _ hc0) ?_
    case y0 =>
     rintro w' ⟨q0,q1,q2,q3,q4,q5,q6⟩
     simp only [lgA,lgZ]
     go_simp
    simp only [lgA,lgZ,Act.put,lsA,lsZ,lsS]
    refine wpAnyG.tA 1 (v:=.int .i64 0) (by decide) 2 (by as_aux_lemma=>kernel_rfl) (by rfl) ?y1 (HBX _ hc0) ?_
    case y1 =>
     rintro w' ⟨q0,q1,q2,q3,q4,q5,q6⟩
     simp only [lgA,lgZ,lgS]
     go_simp
    simp only [lgA,lgZ,lgS,Act.put,lsA,lsZ,lsS]
    refine wpAnyG.tA 2 (v:=.bool true) (by decide) 3 (by as_aux_lemma=>kernel_rfl) (by rfl) ?y2 (HBX _ hc0) ?_
    case y2 =>
     rintro w' ⟨q0,q1,q2,q3,q4,q5,q6⟩
     simp only [lgA,lgZ,lgS]
     go_simp
    simp only [lgA,lgZ,lgS,Act.put,lsA,lsZ,lsS]
    refine wpAnyG.tA 3 (v:=.bool true) (by decide) 18 (by as_aux_lemma=>kernel_rfl) (by rfl) ?y3 (HBX _ hc0) ?_
    case y3 =>
     rintro w' ⟨q0,q1,q2,q3,q4,q5,q6⟩
     simp only [lgA,lgZ,lgS]
     go_simp
    simp only [lgA,lgZ,lgS,Act.put,lsA,lsZ,lsS]
    refine wpAnyG.skip 4 (by decide) (by as_aux_lemma=>kernel_rfl) (fun _ _ _ h=>h) 5 (by rfl) (fun _ _=>Iff.rfl) (by as_aux_lemma=>kernel_rfl) (by as_aux_lemma=>kernel_rfl) (by as_aux_lemma=>kernel_rfl) (by rfl) (HBX _ hc0) (by rfl) ?_
    simp only [lgA,lgZ,lgS,Act.put,lsA,lsZ,lsS]
    refine wpAnyG.skip 5 (by decide) (by as_aux_lemma=>kernel_rfl) (fun _ _ _ h=>h) 6 (by rfl) (fun _ _=>Iff.rfl) (by as_aux_lemma=>kernel_rfl) (by as_aux_lemma=>kernel_rfl) (by as_aux_lemma=>kernel_rfl) (by rfl) (HBX _ hc0) (by rfl) ?_
    simp only [lgA,lgZ,lgS,Act.put,lsA,lsZ,lsS]
    refine wpAnyG.skip 6 (by decide) (by as_aux_lemma=>kernel_rfl) (fun _ _ _ h=>h) 7 (by rfl) (fun _ _=>Iff.rfl) (by as_aux_lemma=>kernel_rfl) (by as_aux_lemma=>kernel_rfl) (by as_aux_lemma=>kernel_rfl) (by rfl) (HBX _ hc0) (by rfl) ?_
    simp only [lgA,lgZ,lgS,Act.put,lsA,lsZ,lsS]
    refine wpAnyG.skip 7 (by decide) (by as_aux_lemma=>kernel_rfl) (fun _ _ _ h=>h) 19 (by rfl) (fun _ _=>Iff.rfl) (by as_aux_lemma=>kernel_rfl) (by as_aux_lemma=>kernel_rfl) (by as_aux_lemma=>kernel_rfl) (by rfl) (HBX _ hc0) (by rfl) ?_
    simp only [lgA,lgZ,lgS,Act.put,lsA,lsZ,lsS]
    refine wpAnyG.skip 8 (by decide) (by as_aux_lemma=>kernel_rfl) (fun _ _ _ h=>h) 9 (by rfl) (fun _ _=>Iff.rfl) (by as_aux_lemma=>kernel_rfl) (by as_aux_lemma=>kernel_rfl) (by as_aux_lemma=>kernel_rfl) (by rfl) (HBX _ hc0) (by rfl) ?_
    simp only [lgA,lgZ,lgS,Act.put,lsA,lsZ,lsS]
    refine wpAnyG.skip 9 (by decide) (by as_aux_lemma=>kernel_rfl) (fun _ _ _ h=>h) 10 (by rfl) (fun _ _=>Iff.rfl) (by as_aux_lemma=>kernel_rfl) (by as_aux_lemma=>kernel_rfl) (by as_aux_lemma=>kernel_rfl) (by rfl) (HBX _ hc0) (by rfl) ?_
    simp only [lgA,lgZ,lgS,Act.put,lsA,lsZ,lsS]
    refine wpAnyG.skip 10 (by decide) (by as_aux_lemma=>kernel_rfl) (fun _ _ _ h=>h) 11 (by rfl) (fun _ _=>Iff.rfl) (by as_aux_lemma=>kernel_rfl) (by as_aux_lemma=>kernel_rfl) (by as_aux_lemma=>kernel_rfl) (by rfl) (HBX _ hc0) (by rfl) ?_
    simp only [lgA,lgZ,lgS,Act.put,lsA,lsZ,lsS]
    refine wpAnyG.skip 11 (by decide) (by as_aux_lemma=>kernel_rfl) (fun _ _ _ h=>h) 16 (by rfl) (fun _ _=>Iff.rfl) (by as_aux_lemma=>kernel_rfl) (by as_aux_lemma=>kernel_rfl) (by as_aux_lemma=>kernel_rfl) (by rfl) (HBX _ hc0) (by rfl) ?_
    simp only [lgA,lgZ,lgS,Act.put,lsA,lsZ,lsS]
    refine wpAnyG.skip 12 (by decide) (by as_aux_lemma=>kernel_rfl) (fun _ _ _ h=>h) 13 (by rfl) (fun _ _=>Iff.rfl) (by as_aux_lemma=>kernel_rfl) (by as_aux_lemma=>kernel_rfl) (by as_aux_lemma=>kernel_rfl) (by rfl) (HBX _ hc0) (by rfl) ?_
    simp only [lgA,lgZ,lgS,Act.put,lsA,lsZ,lsS]
    refine wpAnyG.skip 13 (by decide) (by as_aux_lemma=>kernel_rfl) (fun _ _ _ h=>h) 14 (by rfl) (fun _ _=>Iff.rfl) (by as_aux_lemma=>kernel_rfl) (by as_aux_lemma=>kernel_rfl) (by as_aux_lemma=>kernel_rfl) (by rfl) (HBX _ hc0) (by rfl) ?_
    simp only [lgA,lgZ,lgS,Act.put,lsA,lsZ,lsS]
    refine wpAnyG.skip 14 (by decide) (by as_aux_lemma=>kernel_rfl) (fun _ _ _ h=>h) 15 (by rfl) (fun _ _=>Iff.rfl) (by as_aux_lemma=>kernel_rfl) (by as_aux_lemma=>kernel_rfl) (by as_aux_lemma=>kernel_rfl) (by rfl) (HBX _ hc0) (by rfl) ?_
    simp only [lgA,lgZ,lgS,Act.put,lsA,lsZ,lsS]
    refine wpAnyG.skip 15 (by decide) (by as_aux_lemma=>kernel_rfl) (fun _ _ _ h=>h) 16 (by rfl) (fun _ _=>Iff.rfl) (by as_aux_lemma=>kernel_rfl) (by as_aux_lemma=>kernel_rfl) (by as_aux_lemma=>kernel_rfl) (by rfl) (HBX _ hc0) (by rfl) ?_
    simp only [lgA,lgZ,lgS,Act.put,lsA,lsZ,lsS]
    refine wpAnyG.skip 16 (by decide) (by as_aux_lemma=>kernel_rfl) (fun _ _ _ h=>h) 17 (by rfl) (fun _ _=>Iff.rfl) (by as_aux_lemma=>kernel_rfl) (by as_aux_lemma=>kernel_rfl) (by as_aux_lemma=>kernel_rfl) (by rfl) (HBX _ hc0) (by rfl) ?_
    simp only [lgA,lgZ,lgS,Act.put,lsA,lsZ,lsS]
    refine wpAnyG.skip 17 (by decide) (by as_aux_lemma=>kernel_rfl) (fun _ _ _ h=>h) 18 (by rfl) (fun _ _=>Iff.rfl) (by as_aux_lemma=>kernel_rfl) (by as_aux_lemma=>kernel_rfl) (by as_aux_lemma=>kernel_rfl) (by rfl) (HBX _ hc0) (by rfl) ?_
    simp only [lgA,lgZ,lgS,Act.put,lsA,lsZ,lsS]
    refine wpAnyG.tA 18 (v:=.bool true) (by decide) 19 (by as_aux_lemma=>kernel_rfl) (by rfl) ?y18 (HBX _ hc0) ?_
    case y18 =>
     rintro w' ⟨q0,q1,q2,q3,q4,q5,q6⟩
     simp only [lgA,lgZ,lgS]
     go_simp
    simp only [lgA,lgZ,lgS,Act.put,lsA,lsZ,lsS]
    refine wpAnyG.one 19 (by as_aux_lemma=>kernel_rfl) (by decide) (by rfl) (fun K hK=>?_)
    simp only [lgA,lgZ,lgS]
    go_simp
    refine hK _ _ (HBX _ hc0) ?_
    clear hK K
    refine wpAnyG.done (by as_aux_lemma=>kernel_rfl) (NoPanic.normal ?_)
    have hcz:Below W0.heap.size W0 z0:=hc0
    clear hc0 hd0
    have hd1:=bel_d1 z0
    replace LD:=LD.below hd1
    go_wp2_with fail
    refine wp_region_noPanic (wp_region_guardB HBX (by as_aux_lemma=>kernel_rfl) ?_)
    have hc0:Below W0.heap.size W0 z0.drew:=bel_tr hcz (bel_d1 _)
    generalize z0.drew = y0 at *
    refine wpAnyG.tA 0 (v:=.slice ua um uc) (by decide) 9 (by as_aux_lemma=>kernel_rfl) (by rfl) ?y0 (HBX _ hc0) ?_
    case y0 =>
     rintro w' ⟨q0,q1,q2,q3,q4,q5,q6⟩
     simp only [lgA,lgZ]
     go_simp
    simp only [lgA,lgZ,Act.put,lsA,lsZ,lsS]
    refine wpAnyG.tA 1 (v:=.slice (some ⟨g1,o1,none⟩) k1 z1) (by decide) 9 (by as_aux_lemma=>kernel_rfl) (by rfl) ?y1 (HBX _ hc0) ?_
    case y1 =>
     rintro w' ⟨q0,q1,q2,q3,q4,q5,q6⟩
     simp only [lgA,lgZ,lgS]
     go_simp
    simp only [lgA,lgZ,lgS,Act.put,lsA,lsZ,lsS]
    refine wpAnyG.tA 2 (v:=.pointer (some ⟨g1,o1,none⟩)) (by decide) 9 (by as_aux_lemma=>kernel_rfl) (by rfl) ?y2 (HBX _ hc0) ?_
    case y2 =>
     rintro w' ⟨q0,q1,q2,q3,q4,q5,q6⟩
     simp only [lgA,lgZ,lgS]
     go_simp
    simp only [lgA,lgZ,lgS,Act.put,lsA,lsZ,lsS]
    refine wpAnyG.tA 3 (v:=.agg #[.int .i64 (h1:Nat),.bool pp1,.slice bb1 nn1 ee1,.slice dd1 mm1 ll1]) (by decide) 9 (by as_aux_lemma=>kernel_rfl) (by rfl) ?y3 (HBX _ hc0) ?_
    case y3 =>
     rintro w' ⟨q0,q1,q2,q3,q4,q5,q6⟩
     simp only [lgA,lgZ,lgS]
     go_simp
    simp only [lgA,lgZ,lgS,Act.put,lsA,lsZ,lsS]
    refine wpAnyG.tA 6 (v:=.slice (some ⟨g1,o1,none⟩) k1 z1) (by decide) 9 (by as_aux_lemma=>kernel_rfl) (by rfl) ?y6 (HBX _ hc0) ?_
    case y6 =>
     rintro w' ⟨q0,q1,q2,q3,q4,q5,q6⟩
     simp only [lgA,lgZ,lgS]
     go_simp
    simp only [lgA,lgZ,lgS,Act.put,lsA,lsZ,lsS]
    refine wpAnyG.tA 7 (v:=.slice (some A1) (k1 - 1) (z1 - 1)) (by decide) 9 (by as_aux_lemma=>kernel_rfl) (by rfl) ?y7 (HBX _ hc0) ?_
    case y7 =>
     rintro w' ⟨q0,q1,q2,q3,q4,q5,q6⟩
     simp only [lgA,lgZ,lgS]
     go_simp
    simp only [lgA,lgZ,lgS,Act.put,lsA,lsZ,lsS]
    refine wpAnyG.one 4 (by as_aux_lemma=>kernel_rfl) (by decide) (by rfl) (fun K hK=>?_)
    simp only [lgA,lgZ,lgS]
    go_simp
    have hy:Below y0.heap.size y0 (y0.alloc (.cells #[.int .i64 (h1:Nat),.bool pp1,.slice bb1 nn1 ee1,.slice dd1 mm1 ll1] 97)):=bel_d0 _ _
    have BX:=box_new y0 #[.int .i64 (h1:Nat),.bool pp1,.slice bb1 nn1 ee1,.slice dd1 mm1 ll1] 97
    have hs4:(y0.alloc (.cells #[.int .i64 (h1:Nat),.bool pp1,.slice bb1 nn1 ee1,.slice dd1 mm1 ll1] 97)).heap.size = y0.heap.size + 1:=by simp
    generalize y0.alloc (.cells #[.int .i64 (h1:Nat),.bool pp1,.slice bb1 nn1 ee1,.slice dd1 mm1 ll1] 97) = y5 at *
    have hc5:=bel_tr hc0 hy
    refine hK _ _ (HBX _ hc5) ?_
    clear hK K
    refine wpAnyG.one 5 (by as_aux_lemma=>kernel_rfl) (by decide) (by rfl) (fun K hK=>?_)
    simp only [lgA,lgZ,lgS]
    obtain ⟨E,SLZ0,TE⟩:=LD.below hy
    have hsy:=hy.size
    have hsc:=hc0.size
    have SLZ:SL y5 W0.heap.size 97 4 (.slice ua um uc) um E:=by have h:=SLZ0;rw [← HUM.out] at h;exact h
    clear SLZ0
    refine wp_appendS y5 _ _ 65 97 4 64 rfl Tryz.underlying65 infEntry (by decide) (by decide) W0.heap.size (.slice ua um uc) um E rfl SLZ y0.heap.size 1 rfl [.int .i64 (h1:Nat),.bool pp1,.slice bb1 nn1 ee1,.slice dd1 mm1 ll1] rfl (fun u hu=>by simp at hu;rcases hu with rfl | rfl | rfl | rfl <;> rfl) BX (by omega) (by omega) _ rfl ?_
    intro g6 cap6 w8 SN hg hat hgl
    have hc6:Below W0.heap.size W0 w8:=hc5.grown hg hc5.size (fun k hk=>(SLZ.lt k hk).1)
    refine hK _ _ (HBX _ hc6) ?_
    clear hK K
    refine wpAnyG.one 8 (by as_aux_lemma=>kernel_rfl) (by decide) (by rfl) (fun K hK=>?_)
    simp only [lgA,lgZ,lgS]
    go_simp
    refine hK _ _ (HBX _ hc6) ?_
    clear hK K
    refine wpAnyG.one 9 (by as_aux_lemma=>kernel_rfl) (by decide) (by rfl) (fun K hK=>?_)
    simp only [lgA,lgZ,lgS]
    go_simp
    refine hK _ _ (HBX _ hc6) ?_
    clear hK K
    refine wpAnyG.done (by as_aux_lemma=>kernel_rfl) (NoPanic.normal ?_)
    have LN2:=LnE.snoc (e:=(h1,v1)) HUM.out SN (fun i e he=>(TE i e he).keep (SLZ.noW (show 97 ≠ 85 by decide)) hg) ⟨_,_,_,_,_,_,_,rfl,((G1.below (bel_tr hc0 hy)).keep (SLZ.noW (show 97 ≠ 85 by decide)) hg)⟩
    have HM2:Hid (Mrg t (fun c=>lat l c - t * lat o c) (acc ++ [(h1,v1)]) t1 []∧Blw (acc ++ [(h1,v1)]) N∧Blw t1 N∧Blw [] N):=⟨HM.out.1.left (fun f hf=>by simp at hf),fun e he=>by
     rcases List.mem_append.1 he with h | h
     ·exact HM.out.2.1 e h
     ·rw [List.mem_singleton.1 h];exact HM.out.2.2.1 _ (by simp),fun e he=>HM.out.2.2.1 e (by simp [he]),HM.out.2.2.2⟩
    clear HM SN TE SLZ hg hat hgl BX LD hc0 hc5 hy HBX LN hbW hcz
    go_wp2
    go_roundw
    case rel =>
     have ek:k1 - 1 = t1.length:=by rw [HK1.out];rfl
     skip
     first | exact ⟨acc ++ [(h1,v1)],t1,[],_,_,_,_,by rw [ek],rfl,by rw [← ek];omega,hz2,LA1,LS2,LN2,HM2,hc6⟩ | ((repeat apply Exists.intro);refine ⟨?_,rfl⟩;exact ⟨acc ++ [(h1,v1)],t1,[],_,_,_,_,by rw [ek],rfl,by rw [← ek];omega,hz2,LA1,LS2,LN2,HM2,hc6⟩)
    case measure=>simp [lnV];omega
   ·have LS1':=LS1
    have LS2':=LS2
    obtain ⟨g1,o1,pp1,bb1,nn1,ee1,dd1,mm1,ll1,rfl,y10,y11,y12,y13,G1,LT1⟩:=LS1.uncons
    obtain ⟨k1,ek1⟩:∃ k,k = (((h1,v1):Nat × Rat) :: t1).length:=⟨_,rfl⟩
    have HK1:Hid (k1 = t1.length + 1):=by show k1 = _;rw [ek1];rfl
    rw [← ek1] at hz1 ⊢
    have hkp1:0 < k1:=by rw [HK1.out];omega
    have hkI1:(0:Int) < (k1:Int):=by omega
    have hkN1:¬ (k1:Int) = 0:=by omega
    have hkE1:((k1:Int) == 0) = false:=by simpa using hkN1
    have hkL1:(1:Int)≤(k1:Int):=by omega
    have hkZ1:(k1:Int)≤(z1:Int):=by omega
    dsimp only at y10 G1
    obtain ⟨A1,hA1⟩:∃ A:Addr,(if z1 = 1 then some (⟨g1,o1,none⟩:Addr) else some ⟨g1,o1 + 4,none⟩) = some A:=by split <;> exact ⟨_,rfl⟩
    have LA1:LnS W0 (some A1) t1 S:=by
     rw [← hA1]
     by_cases hz:z1 = 1
     ·exact .inl (List.eq_nil_of_length_eq_zero (by have:=HK1.out;omega))
     ·rw [if_neg hz];exact LT1
    clear ek1 LS1 LT1
    obtain ⟨g2,o2,pp2,bb2,nn2,ee2,dd2,mm2,ll2,rfl,y20,y21,y22,y23,G2,LT2⟩:=LS2.uncons
    obtain ⟨k2,ek2⟩:∃ k,k = (((h2,v2):Nat × Rat) :: t2).length:=⟨_,rfl⟩
    have HK2:Hid (k2 = t2.length + 1):=by show k2 = _;rw [ek2];rfl
    rw [← ek2] at hz2 ⊢
    have hkp2:0 < k2:=by rw [HK2.out];omega
    have hkI2:(0:Int) < (k2:Int):=by omega
    have hkN2:¬ (k2:Int) = 0:=by omega
    have hkE2:((k2:Int) == 0) = false:=by simpa using hkN2
    have hkL2:(1:Int)≤(k2:Int):=by omega
    have hkZ2:(k2:Int)≤(z2:Int):=by omega
    dsimp only at y20 G2
    obtain ⟨A2,hA2⟩:∃ A:Addr,(if z2 = 1 then some (⟨g2,o2,none⟩:Addr) else some ⟨g2,o2 + 4,none⟩) = some A:=by split <;> exact ⟨_,rfl⟩
    have LA2:LnS W0 (some A2) t2 S:=by
     rw [← hA2]
     by_cases hz:z2 = 1
     ·exact .inl (List.eq_nil_of_length_eq_zero (by have:=HK2.out;omega))
     ·rw [if_neg hz];exact LT2
    clear ek2 LS2 LT2
    have HBX:∀ w',Below W0.heap.size W0 w'→(w'.cell? ⟨w.heap.size,0,none⟩ = some (.bool p)∧w'.cell? ⟨w.heap.size,1,none⟩ = some (.slice a na ca)∧w'.cell? ⟨w.heap.size,2,none⟩ = some (.slice d nd cd)∧w'.cell? ⟨g1,o1,none⟩ = some (.int .i64 (h1:Nat))∧w'.cell? ⟨g1,o1 + 1,none⟩ = some (.bool pp1)∧w'.cell? ⟨g1,o1 + 1 + 1,none⟩ = some (.slice bb1 nn1 ee1)∧w'.cell? ⟨g1,o1 + 1 + 2,none⟩ = some (.slice dd1 mm1 ll1)∧w'.cell? ⟨g2,o2,none⟩ = some (.int .i64 (h2:Nat))∧w'.cell? ⟨g2,o2 + 1,none⟩ = some (.bool pp2)∧w'.cell? ⟨g2,o2 + 1 + 1,none⟩ = some (.slice bb2 nn2 ee2)∧w'.cell? ⟨g2,o2 + 1 + 2,none⟩ = some (.slice dd2 mm2 ll2)):=fun w' h=>⟨kept_c h (BU 0 _ rfl),kept_c h (BU 1 _ rfl),kept_c h (BU 2 _ rfl),kept_c h y10,kept_c h y11,kept_c h y12,kept_c h y13,kept_c h y20,kept_c h y21,kept_c h y22,kept_c h y23⟩
    rcases Nat.lt_trichotomy h1 h2 with hlt | heq | hgt
    ·skip
     have hltI:(h1:Int) < (h2:Int):=by omega
     go_wp2_with fail
     have hd0:=bel_d1 wr
     have LD:=LN.below hd0
     refine wp_region_noPanic (wp_region_guardB HBX (by as_aux_lemma=>kernel_rfl) ?_)
     have hc0:Below W0.heap.size W0 wr.drew:=bel_tr hbW (bel_d1 _)
     generalize wr.drew = z0 at *
     refine wpAnyG.tA 0 (v:=.slice (some ⟨g2,o2,none⟩) k2 z2) (by decide) 1 (by as_aux_lemma=>kernel_rfl) (by rfl) ?y0 (HBX _ hc0) ?_
     case y0 =>
      rintro w' ⟨q0,q1,q2,q3,q4,q5,q6,q7,q8,q9,q10⟩
      simp only [lgA,lgZ]
      go_simp
     simp only [lgA,lgZ,Act.put,lsA,lsZ,lsS]
     refine wpAnyG.tA 1 (v:=.int .i64 (k2:Int)) (by decide) 2 (by as_aux_lemma=>kernel_rfl) (by rfl) ?y1 (HBX _ hc0) ?_
     case y1 =>
      rintro w' ⟨q0,q1,q2,q3,q4,q5,q6,q7,q8,q9,q10⟩
      simp only [lgA,lgZ,lgS]
      go_simp
     simp only [lgA,lgZ,lgS,Act.put,lsA,lsZ,lsS]
     refine wpAnyG.tA 2 (v:=.bool false) (by decide) 3 (by as_aux_lemma=>kernel_rfl) (by rfl) ?y2 (HBX _ hc0) ?_
     case y2 =>
      rintro w' ⟨q0,q1,q2,q3,q4,q5,q6,q7,q8,q9,q10⟩
      simp only [lgA,lgZ,lgS]
      go_simp
     simp only [lgA,lgZ,lgS,Act.put,lsA,lsZ,lsS]
     refine wpAnyG.tA 3 (v:=.bool false) (by decide) 18 (by as_aux_lemma=>kernel_rfl) (by rfl) ?y3 (HBX _ hc0) ?_
     case y3 =>
      rintro w' ⟨q0,q1,q2,q3,q4,q5,q6,q7,q8,q9,q10⟩
      simp only [lgA,lgZ,lgS]
      go_simp
     simp only [lgA,lgZ,lgS,Act.put,lsA,lsZ,lsS]
     refine wpAnyG.tA 4 (v:=.slice (some ⟨g1,o1,none⟩) k1 z1) (by decide) 5 (by as_aux_lemma=>kernel_rfl) (by rfl) ?y4 (HBX _ hc0) ?_
     case y4 =>
      rintro w' ⟨q0,q1,q2,q3,q4,q5,q6,q7,q8,q9,q10⟩
      simp only [lgA,lgZ,lgS]
      go_simp
     simp only [lgA,lgZ,lgS,Act.put,lsA,lsZ,lsS]
     refine wpAnyG.tA 5 (v:=.int .i64 (k1:Int)) (by decide) 6 (by as_aux_lemma=>kernel_rfl) (by rfl) ?y5 (HBX _ hc0) ?_
     case y5 =>
      rintro w' ⟨q0,q1,q2,q3,q4,q5,q6,q7,q8,q9,q10⟩
      simp only [lgA,lgZ,lgS]
      go_simp
     simp only [lgA,lgZ,lgS,Act.put,lsA,lsZ,lsS]
     refine wpAnyG.tA 6 (v:=.bool true) (by decide) 7 (by as_aux_lemma=>kernel_rfl) (by rfl) ?y6 (HBX _ hc0) ?_
     case y6 =>
      rintro w' ⟨q0,q1,q2,q3,q4,q5,q6,q7,q8,q9,q10⟩
      simp only [lgA,lgZ,lgS]
      go_simp
     simp only [lgA,lgZ,lgS,Act.put,lsA,lsZ,lsS]
     refine wpAnyG.tA 7 (v:=.bool true) (by decide) 19 (by as_aux_lemma=>kernel_rfl) (by rfl) ?y7 (HBX _ hc0) ?_
     case y7 =>
      rintro w' ⟨q0,q1,q2,q3,q4,q5,q6,q7,q8,q9,q10⟩
      simp only [lgA,lgZ,lgS]
      go_simp
     simp only [lgA,lgZ,lgS,Act.put,lsA,lsZ,lsS]
     refine wpAnyG.tA 8 (v:=.slice (some ⟨g1,o1,none⟩) k1 z1) (by decide) 9 (by as_aux_lemma=>kernel_rfl) (by rfl) ?y8 (HBX _ hc0) ?_
     case y8 =>
      rintro w' ⟨q0,q1,q2,q3,q4,q5,q6,q7,q8,q9,q10⟩
      simp only [lgA,lgZ,lgS]
      go_simp
     simp only [lgA,lgZ,lgS,Act.put,lsA,lsZ,lsS]
     refine wpAnyG.tA 9 (v:=.pointer (some ⟨g1,o1,none⟩)) (by decide) 10 (by as_aux_lemma=>kernel_rfl) (by rfl) ?y9 (HBX _ hc0) ?_
     case y9 =>
      rintro w' ⟨q0,q1,q2,q3,q4,q5,q6,q7,q8,q9,q10⟩
      simp only [lgA,lgZ,lgS]
      go_simp
     simp only [lgA,lgZ,lgS,Act.put,lsA,lsZ,lsS]
     refine wpAnyG.tA 10 (v:=.pointer (some ⟨g1,o1,none⟩)) (by decide) 11 (by as_aux_lemma=>kernel_rfl) (by rfl) ?y10 (HBX _ hc0) ?_
     case y10 =>
      rintro w' ⟨q0,q1,q2,q3,q4,q5,q6,q7,q8,q9,q10⟩
      simp only [lgA,lgZ,lgS]
      go_simp
     simp only [lgA,lgZ,lgS,Act.put,lsA,lsZ,lsS]
     refine wpAnyG.tA 11 (v:=.int .i64 (h1:Nat)) (by decide) 16 (by as_aux_lemma=>kernel_rfl) (by rfl) ?y11 (HBX _ hc0) ?_
     case y11 =>
      rintro w' ⟨q0,q1,q2,q3,q4,q5,q6,q7,q8,q9,q10⟩
      simp only [lgA,lgZ,lgS]
      go_simp
     simp only [lgA,lgZ,lgS,Act.put,lsA,lsZ,lsS]
     refine wpAnyG.tA 12 (v:=.slice (some ⟨g2,o2,none⟩) k2 z2) (by decide) 13 (by as_aux_lemma=>kernel_rfl) (by rfl) ?y12 (HBX _ hc0) ?_
     case y12 =>
      rintro w' ⟨q0,q1,q2,q3,q4,q5,q6,q7,q8,q9,q10⟩
      simp only [lgA,lgZ,lgS]
      go_simp
     simp only [lgA,lgZ,lgS,Act.put,lsA,lsZ,lsS]
     refine wpAnyG.tA 13 (v:=.pointer (some ⟨g2,o2,none⟩)) (by decide) 14 (by as_aux_lemma=>kernel_rfl) (by rfl) ?y13 (HBX _ hc0) ?_
     case y13 =>
      rintro w' ⟨q0,q1,q2,q3,q4,q5,q6,q7,q8,q9,q10⟩
      simp only [lgA,lgZ,lgS]
      go_simp
     simp only [lgA,lgZ,lgS,Act.put,lsA,lsZ,lsS]
     refine wpAnyG.tA 14 (v:=.pointer (some ⟨g2,o2,none⟩)) (by decide) 15 (by as_aux_lemma=>kernel_rfl) (by rfl) ?y14 (HBX _ hc0) ?_
     case y14 =>
      rintro w' ⟨q0,q1,q2,q3,q4,q5,q6,q7,q8,q9,q10⟩
      simp only [lgA,lgZ,lgS]
      go_simp
     simp only [lgA,lgZ,lgS,Act.put,lsA,lsZ,lsS]
     refine wpAnyG.tA 15 (v:=.int .i64 (h2:Nat)) (by decide) 16 (by as_aux_lemma=>kernel_rfl) (by rfl) ?y15 (HBX _ hc0) ?_
     case y15 =>
      rintro w' ⟨q0,q1,q2,q3,q4,q5,q6,q7,q8,q9,q10⟩
      simp only [lgA,lgZ,lgS]
      go_simp
     simp only [lgA,lgZ,lgS,Act.put,lsA,lsZ,lsS]
     refine wpAnyG.tA 16 (v:=.bool true) (by decide) 17 (by as_aux_lemma=>kernel_rfl) (by rfl) ?y16 (HBX _ hc0) ?_
     case y16 =>
      rintro w' ⟨q0,q1,q2,q3,q4,q5,q6,q7,q8,q9,q10⟩
      simp only [lgA,lgZ,lgS]
      go_simp
     simp only [lgA,lgZ,lgS,Act.put,lsA,lsZ,lsS]
     refine wpAnyG.tA 17 (v:=.bool true) (by decide) 18 (by as_aux_lemma=>kernel_rfl) (by rfl) ?y17 (HBX _ hc0) ?_
     case y17 =>
      rintro w' ⟨q0,q1,q2,q3,q4,q5,q6,q7,q8,q9,q10⟩
      simp only [lgA,lgZ,lgS]
      go_simp
     simp only [lgA,lgZ,lgS,Act.put,lsA,lsZ,lsS]
     refine wpAnyG.tA 18 (v:=.bool true) (by decide) 19 (by as_aux_lemma=>kernel_rfl) (by rfl) ?y18 (HBX _ hc0) ?_
     case y18 =>
      rintro w' ⟨q0,q1,q2,q3,q4,q5,q6,q7,q8,q9,q10⟩
      simp only [lgA,lgZ,lgS]
      go_simp
     simp only [lgA,lgZ,lgS,Act.put,lsA,lsZ,lsS]
     refine wpAnyG.one 19 (by as_aux_lemma=>kernel_rfl) (by decide) (by rfl) (fun K hK=>?_)
     simp only [lgA,lgZ,lgS]
     go_simp
     refine hK _ _ (HBX _ hc0) ?_
     clear hK K
     refine wpAnyG.done (by as_aux_lemma=>kernel_rfl) (NoPanic.normal ?_)
     have hcz:Below W0.heap.size W0 z0:=hc0
     clear hc0 hd0
     have hd1:=bel_d1 z0
     replace LD:=LD.below hd1
     go_wp2_with fail
     refine wp_region_noPanic (wp_region_guardB HBX (by as_aux_lemma=>kernel_rfl) ?_)
     have hc0:Below W0.heap.size W0 z0.drew:=bel_tr hcz (bel_d1 _)
     generalize z0.drew = y0 at *
     refine wpAnyG.tA 0 (v:=.slice ua um uc) (by decide) 9 (by as_aux_lemma=>kernel_rfl) (by rfl) ?y0 (HBX _ hc0) ?_
     case y0 =>
      rintro w' ⟨q0,q1,q2,q3,q4,q5,q6,q7,q8,q9,q10⟩
      simp only [lgA,lgZ]
      go_simp
     simp only [lgA,lgZ,Act.put,lsA,lsZ,lsS]
     refine wpAnyG.tA 1 (v:=.slice (some ⟨g1,o1,none⟩) k1 z1) (by decide) 9 (by as_aux_lemma=>kernel_rfl) (by rfl) ?y1 (HBX _ hc0) ?_
     case y1 =>
      rintro w' ⟨q0,q1,q2,q3,q4,q5,q6,q7,q8,q9,q10⟩
      simp only [lgA,lgZ,lgS]
      go_simp
     simp only [lgA,lgZ,lgS,Act.put,lsA,lsZ,lsS]
     refine wpAnyG.tA 2 (v:=.pointer (some ⟨g1,o1,none⟩)) (by decide) 9 (by as_aux_lemma=>kernel_rfl) (by rfl) ?y2 (HBX _ hc0) ?_
     case y2 =>
      rintro w' ⟨q0,q1,q2,q3,q4,q5,q6,q7,q8,q9,q10⟩
      simp only [lgA,lgZ,lgS]
      go_simp
     simp only [lgA,lgZ,lgS,Act.put,lsA,lsZ,lsS]
     refine wpAnyG.tA 3 (v:=.agg #[.int .i64 (h1:Nat),.bool pp1,.slice bb1 nn1 ee1,.slice dd1 mm1 ll1]) (by decide) 9 (by as_aux_lemma=>kernel_rfl) (by rfl) ?y3 (HBX _ hc0) ?_
     case y3 =>
      rintro w' ⟨q0,q1,q2,q3,q4,q5,q6,q7,q8,q9,q10⟩
      simp only [lgA,lgZ,lgS]
      go_simp
     simp only [lgA,lgZ,lgS,Act.put,lsA,lsZ,lsS]
     refine wpAnyG.tA 6 (v:=.slice (some ⟨g1,o1,none⟩) k1 z1) (by decide) 9 (by as_aux_lemma=>kernel_rfl) (by rfl) ?y6 (HBX _ hc0) ?_
     case y6 =>
      rintro w' ⟨q0,q1,q2,q3,q4,q5,q6,q7,q8,q9,q10⟩
      simp only [lgA,lgZ,lgS]
      go_simp
     simp only [lgA,lgZ,lgS,Act.put,lsA,lsZ,lsS]
     refine wpAnyG.tA 7 (v:=.slice (some A1) (k1 - 1) (z1 - 1)) (by decide) 9 (by as_aux_lemma=>kernel_rfl) (by rfl) ?y7 (HBX _ hc0) ?_
     case y7 =>
      rintro w' ⟨q0,q1,q2,q3,q4,q5,q6,q7,q8,q9,q10⟩
      simp only [lgA,lgZ,lgS]
      go_simp
     simp only [lgA,lgZ,lgS,Act.put,lsA,lsZ,lsS]
     refine wpAnyG.one 4 (by as_aux_lemma=>kernel_rfl) (by decide) (by rfl) (fun K hK=>?_)
     simp only [lgA,lgZ,lgS]
     go_simp
     have hy:Below y0.heap.size y0 (y0.alloc (.cells #[.int .i64 (h1:Nat),.bool pp1,.slice bb1 nn1 ee1,.slice dd1 mm1 ll1] 97)):=bel_d0 _ _
     have BX:=box_new y0 #[.int .i64 (h1:Nat),.bool pp1,.slice bb1 nn1 ee1,.slice dd1 mm1 ll1] 97
     have hs4:(y0.alloc (.cells #[.int .i64 (h1:Nat),.bool pp1,.slice bb1 nn1 ee1,.slice dd1 mm1 ll1] 97)).heap.size = y0.heap.size + 1:=by simp
     generalize y0.alloc (.cells #[.int .i64 (h1:Nat),.bool pp1,.slice bb1 nn1 ee1,.slice dd1 mm1 ll1] 97) = y5 at *
     have hc5:=bel_tr hc0 hy
     refine hK _ _ (HBX _ hc5) ?_
     clear hK K
     refine wpAnyG.one 5 (by as_aux_lemma=>kernel_rfl) (by decide) (by rfl) (fun K hK=>?_)
     simp only [lgA,lgZ,lgS]
     obtain ⟨E,SLZ0,TE⟩:=LD.below hy
     have hsy:=hy.size
     have hsc:=hc0.size
     have SLZ:SL y5 W0.heap.size 97 4 (.slice ua um uc) um E:=by have h:=SLZ0;rw [← HUM.out] at h;exact h
     clear SLZ0
     refine wp_appendS y5 _ _ 65 97 4 64 rfl Tryz.underlying65 infEntry (by decide) (by decide) W0.heap.size (.slice ua um uc) um E rfl SLZ y0.heap.size 1 rfl [.int .i64 (h1:Nat),.bool pp1,.slice bb1 nn1 ee1,.slice dd1 mm1 ll1] rfl (fun u hu=>by simp at hu;rcases hu with rfl | rfl | rfl | rfl <;> rfl) BX (by omega) (by omega) _ rfl ?_
     intro g6 cap6 w8 SN hg hat hgl
     have hc6:Below W0.heap.size W0 w8:=hc5.grown hg hc5.size (fun k hk=>(SLZ.lt k hk).1)
     refine hK _ _ (HBX _ hc6) ?_
     clear hK K
     refine wpAnyG.one 8 (by as_aux_lemma=>kernel_rfl) (by decide) (by rfl) (fun K hK=>?_)
     simp only [lgA,lgZ,lgS]
     go_simp
     refine hK _ _ (HBX _ hc6) ?_
     clear hK K
     refine wpAnyG.one 9 (by as_aux_lemma=>kernel_rfl) (by decide) (by rfl) (fun K hK=>?_)
     simp only [lgA,lgZ,lgS]
     go_simp
     refine hK _ _ (HBX _ hc6) ?_
     clear hK K
     refine wpAnyG.done (by as_aux_lemma=>kernel_rfl) (NoPanic.normal ?_)
     have LN2:=LnE.snoc (e:=(h1,v1)) HUM.out SN (fun i e he=>(TE i e he).keep (SLZ.noW (show 97 ≠ 85 by decide)) hg) ⟨_,_,_,_,_,_,_,rfl,((G1.below (bel_tr hc0 hy)).keep (SLZ.noW (show 97 ≠ 85 by decide)) hg)⟩
     have HM2:Hid (Mrg t (fun c=>lat l c - t * lat o c) (acc ++ [(h1,v1)]) t1 ((h2,v2) :: t2)∧Blw (acc ++ [(h1,v1)]) N∧Blw t1 N∧Blw ((h2,v2) :: t2) N):=⟨HM.out.1.left (fun f hf=>by rcases List.mem_cons.1 hf with rfl | hf;exact hlt;have:=HM.out.1.ro.head hf;omega),fun e he=>by
      rcases List.mem_append.1 he with h | h
      ·exact HM.out.2.1 e h
      ·rw [List.mem_singleton.1 h];exact HM.out.2.2.1 _ (by simp),fun e he=>HM.out.2.2.1 e (by simp [he]),HM.out.2.2.2⟩
     clear HM SN TE SLZ hg hat hgl BX LD hc0 hc5 hy HBX LN hbW hcz
     go_wp2
     go_roundw
     case rel =>
      have ek:k1 - 1 = t1.length:=by rw [HK1.out];rfl
      have ek2:k2 = (((h2,v2):Nat × Rat) :: t2).length:=by rw [HK2.out];rfl
      first | exact ⟨acc ++ [(h1,v1)],t1,((h2,v2) :: t2),_,_,_,_,by rw [ek],by rw [ek2],by rw [← ek];omega,by rw [← ek2];exact hz2,LA1,LS2',LN2,HM2,hc6⟩ | ((repeat apply Exists.intro);refine ⟨?_,rfl⟩;exact ⟨acc ++ [(h1,v1)],t1,((h2,v2) :: t2),_,_,_,_,by rw [ek],by rw [ek2],by rw [← ek];omega,by rw [← ek2];exact hz2,LA1,LS2',LN2,HM2,hc6⟩)
     case measure=>simp [lnV];omega
    ·skip
     have hltI:¬ (h1:Int) < (h2:Int):=by omega
     have hgtI:¬ (h2:Int) < (h1:Int):=by omega
     have hgtL:h2≤h1:=by omega
     have hgtM:h1≤h2:=by omega
     have HEQ:Hid (((h1,v1):Nat × Rat).1 = ((h2,v2):Nat × Rat).1):=heq
     clear heq
     have HSZ:Hid (SzR (v1 - v2 * t) S):=by
      have h:=HZ.out h1
      have e:=HM.out.1.valB HEQ.out
      dsimp only at e
      rw [e] at h
      exact h
     go_wp2_with fail
     have hd0:=bel_d1 wr
     have LD:=LN.below hd0
     refine wp_region_noPanic (wp_region_guardB HBX (by as_aux_lemma=>kernel_rfl) ?_)
     have hc0:Below W0.heap.size W0 wr.drew:=bel_tr hbW (bel_d1 _)
     generalize wr.drew = z0 at *
     refine wpAnyG.tA 0 (v:=.slice (some ⟨g2,o2,none⟩) k2 z2) (by decide) 1 (by as_aux_lemma=>kernel_rfl) (by rfl) ?y0 (HBX _ hc0) ?_
     case y0 =>
      rintro w' ⟨q0,q1,q2,q3,q4,q5,q6,q7,q8,q9,q10⟩
      simp only [lgA,lgZ]
      go_simp
     simp only [lgA,lgZ,Act.put,lsA,lsZ,lsS]
     refine wpAnyG.tA 1 (v:=.int .i64 (k2:Int)) (by decide) 2 (by as_aux_lemma=>kernel_rfl) (by rfl) ?y1 (HBX _ hc0) ?_
     case y1 =>
      rintro w' ⟨q0,q1,q2,q3,q4,q5,q6,q7,q8,q9,q10⟩
      simp only [lgA,lgZ,lgS]
      go_simp
     simp only [lgA,lgZ,lgS,Act.put,lsA,lsZ,lsS]
     refine wpAnyG.tA 2 (v:=.bool false) (by decide) 3 (by as_aux_lemma=>kernel_rfl) (by rfl) ?y2 (HBX _ hc0) ?_
     case y2 =>
      rintro w' ⟨q0,q1,q2,q3,q4,q5,q6,q7,q8,q9,q10⟩
      simp only [lgA,lgZ,lgS]
      go_simp
     simp only [lgA,lgZ,lgS,Act.put,lsA,lsZ,lsS]
     refine wpAnyG.tA 3 (v:=.bool false) (by decide) 18 (by as_aux_lemma=>kernel_rfl) (by rfl) ?y3 (HBX _ hc0) ?_
     case y3 =>
      rintro w' ⟨q0,q1,q2,q3,q4,q5,q6,q7,q8,q9,q10⟩
      simp only [lgA,lgZ,lgS]
      go_simp
     simp only [lgA,lgZ,lgS,Act.put,lsA,lsZ,lsS]
     refine wpAnyG.tA 4 (v:=.slice (some ⟨g1,o1,none⟩) k1 z1) (by decide) 5 (by as_aux_lemma=>kernel_rfl) (by rfl) ?y4 (HBX _ hc0) ?_
     case y4 =>
      rintro w' ⟨q0,q1,q2,q3,q4,q5,q6,q7,q8,q9,q10⟩
      simp only [lgA,lgZ,lgS]
      go_simp
     simp only [lgA,lgZ,lgS,Act.put,lsA,lsZ,lsS]
     refine wpAnyG.tA 5 (v:=.int .i64 (k1:Int)) (by decide) 6 (by as_aux_lemma=>kernel_rfl) (by rfl) ?y5 (HBX _ hc0) ?_
     case y5 =>
      rintro w' ⟨q0,q1,q2,q3,q4,q5,q6,q7,q8,q9,q10⟩
      simp only [lgA,lgZ,lgS]
      go_simp
     simp only [lgA,lgZ,lgS,Act.put,lsA,lsZ,lsS]
     refine wpAnyG.tA 6 (v:=.bool true) (by decide) 7 (by as_aux_lemma=>kernel_rfl) (by rfl) ?y6 (HBX _ hc0) ?_
     case y6 =>
      rintro w' ⟨q0,q1,q2,q3,q4,q5,q6,q7,q8,q9,q10⟩
      simp only [lgA,lgZ,lgS]
      go_simp
     simp only [lgA,lgZ,lgS,Act.put,lsA,lsZ,lsS]
     refine wpAnyG.tA 7 (v:=.bool true) (by decide) 19 (by as_aux_lemma=>kernel_rfl) (by rfl) ?y7 (HBX _ hc0) ?_
     case y7 =>
      rintro w' ⟨q0,q1,q2,q3,q4,q5,q6,q7,q8,q9,q10⟩
      simp only [lgA,lgZ,lgS]
      go_simp
     simp only [lgA,lgZ,lgS,Act.put,lsA,lsZ,lsS]
     refine wpAnyG.tA 8 (v:=.slice (some ⟨g1,o1,none⟩) k1 z1) (by decide) 9 (by as_aux_lemma=>kernel_rfl) (by rfl) ?y8 (HBX _ hc0) ?_
     case y8 =>
      rintro w' ⟨q0,q1,q2,q3,q4,q5,q6,q7,q8,q9,q10⟩
      simp only [lgA,lgZ,lgS]
      go_simp
     simp only [lgA,lgZ,lgS,Act.put,lsA,lsZ,lsS]
     refine wpAnyG.tA 9 (v:=.pointer (some ⟨g1,o1,none⟩)) (by decide) 10 (by as_aux_lemma=>kernel_rfl) (by rfl) ?y9 (HBX _ hc0) ?_
     case y9 =>
      rintro w' ⟨q0,q1,q2,q3,q4,q5,q6,q7,q8,q9,q10⟩
      simp only [lgA,lgZ,lgS]
      go_simp
     simp only [lgA,lgZ,lgS,Act.put,lsA,lsZ,lsS]
     refine wpAnyG.tA 10 (v:=.pointer (some ⟨g1,o1,none⟩)) (by decide) 11 (by as_aux_lemma=>kernel_rfl) (by rfl) ?y10 (HBX _ hc0) ?_
     case y10 =>
      rintro w' ⟨q0,q1,q2,q3,q4,q5,q6,q7,q8,q9,q10⟩
      simp only [lgA,lgZ,lgS]
      go_simp
     simp only [lgA,lgZ,lgS,Act.put,lsA,lsZ,lsS]
     refine wpAnyG.tA 11 (v:=.int .i64 (h1:Nat)) (by decide) 16 (by as_aux_lemma=>kernel_rfl) (by rfl) ?y11 (HBX _ hc0) ?_
     case y11 =>
      rintro w' ⟨q0,q1,q2,q3,q4,q5,q6,q7,q8,q9,q10⟩
      simp only [lgA,lgZ,lgS]
      go_simp
     simp only [lgA,lgZ,lgS,Act.put,lsA,lsZ,lsS]
     refine wpAnyG.tA 12 (v:=.slice (some ⟨g2,o2,none⟩) k2 z2) (by decide) 13 (by as_aux_lemma=>kernel_rfl) (by rfl) ?y12 (HBX _ hc0) ?_
     case y12 =>
      rintro w' ⟨q0,q1,q2,q3,q4,q5,q6,q7,q8,q9,q10⟩
      simp only [lgA,lgZ,lgS]
      go_simp
     simp only [lgA,lgZ,lgS,Act.put,lsA,lsZ,lsS]
     refine wpAnyG.tA 13 (v:=.pointer (some ⟨g2,o2,none⟩)) (by decide) 14 (by as_aux_lemma=>kernel_rfl) (by rfl) ?y13 (HBX _ hc0) ?_
     case y13 =>
      rintro w' ⟨q0,q1,q2,q3,q4,q5,q6,q7,q8,q9,q10⟩
      simp only [lgA,lgZ,lgS]
      go_simp
     simp only [lgA,lgZ,lgS,Act.put,lsA,lsZ,lsS]
     refine wpAnyG.tA 14 (v:=.pointer (some ⟨g2,o2,none⟩)) (by decide) 15 (by as_aux_lemma=>kernel_rfl) (by rfl) ?y14 (HBX _ hc0) ?_
     case y14 =>
      rintro w' ⟨q0,q1,q2,q3,q4,q5,q6,q7,q8,q9,q10⟩
      simp only [lgA,lgZ,lgS]
      go_simp
     simp only [lgA,lgZ,lgS,Act.put,lsA,lsZ,lsS]
     refine wpAnyG.tA 15 (v:=.int .i64 (h2:Nat)) (by decide) 16 (by as_aux_lemma=>kernel_rfl) (by rfl) ?y15 (HBX _ hc0) ?_
     case y15 =>
      rintro w' ⟨q0,q1,q2,q3,q4,q5,q6,q7,q8,q9,q10⟩
      simp only [lgA,lgZ,lgS]
      go_simp
     simp only [lgA,lgZ,lgS,Act.put,lsA,lsZ,lsS]
     refine wpAnyG.tA 16 (v:=.bool false) (by decide) 17 (by as_aux_lemma=>kernel_rfl) (by rfl) ?y16 (HBX _ hc0) ?_
     case y16 =>
      rintro w' ⟨q0,q1,q2,q3,q4,q5,q6,q7,q8,q9,q10⟩
      simp only [lgA,lgZ,lgS]
      go_simp
     simp only [lgA,lgZ,lgS,Act.put,lsA,lsZ,lsS]
     refine wpAnyG.tA 17 (v:=.bool false) (by decide) 18 (by as_aux_lemma=>kernel_rfl) (by rfl) ?y17 (HBX _ hc0) ?_
     case y17 =>
      rintro w' ⟨q0,q1,q2,q3,q4,q5,q6,q7,q8,q9,q10⟩
      simp only [lgA,lgZ,lgS]
      go_simp
     simp only [lgA,lgZ,lgS,Act.put,lsA,lsZ,lsS]
     refine wpAnyG.tA 18 (v:=.bool false) (by decide) 19 (by as_aux_lemma=>kernel_rfl) (by rfl) ?y18 (HBX _ hc0) ?_
     case y18 =>
      rintro w' ⟨q0,q1,q2,q3,q4,q5,q6,q7,q8,q9,q10⟩
      simp only [lgA,lgZ,lgS]
      go_simp
     simp only [lgA,lgZ,lgS,Act.put,lsA,lsZ,lsS]
     refine wpAnyG.one 19 (by as_aux_lemma=>kernel_rfl) (by decide) (by rfl) (fun K hK=>?_)
     simp only [lgA,lgZ,lgS]
     go_simp
     refine hK _ _ (HBX _ hc0) ?_
     clear hK K
     refine wpAnyG.done (by as_aux_lemma=>kernel_rfl) (NoPanic.normal ?_)
     have hcz:Below W0.heap.size W0 z0:=hc0
     clear hc0 hd0
     have hd1:=bel_d1 z0
     replace LD:=LD.below hd1
     go_wp2_with fail
     refine wp_region_noPanic (wp_region_guardB HBX (by as_aux_lemma=>kernel_rfl) ?_)
     have hc0:Below W0.heap.size W0 z0.drew:=bel_tr hcz (bel_d1 _)
     generalize z0.drew = y0 at *
     refine wpAnyG.tA 0 (v:=.slice (some ⟨g1,o1,none⟩) k1 z1) (by decide) 1 (by as_aux_lemma=>kernel_rfl) (by rfl) ?y0 (HBX _ hc0) ?_
     case y0 =>
      rintro w' ⟨q0,q1,q2,q3,q4,q5,q6,q7,q8,q9,q10⟩
      simp only [lgA,lgZ]
      go_simp
     simp only [lgA,lgZ,Act.put,lsA,lsZ,lsS]
     refine wpAnyG.tA 1 (v:=.int .i64 (k1:Int)) (by decide) 2 (by as_aux_lemma=>kernel_rfl) (by rfl) ?y1 (HBX _ hc0) ?_
     case y1 =>
      rintro w' ⟨q0,q1,q2,q3,q4,q5,q6,q7,q8,q9,q10⟩
      simp only [lgA,lgZ,lgS]
      go_simp
     simp only [lgA,lgZ,lgS,Act.put,lsA,lsZ,lsS]
     refine wpAnyG.tA 2 (v:=.bool false) (by decide) 3 (by as_aux_lemma=>kernel_rfl) (by rfl) ?y2 (HBX _ hc0) ?_
     case y2 =>
      rintro w' ⟨q0,q1,q2,q3,q4,q5,q6,q7,q8,q9,q10⟩
      simp only [lgA,lgZ,lgS]
      go_simp
     simp only [lgA,lgZ,lgS,Act.put,lsA,lsZ,lsS]
     refine wpAnyG.tA 3 (v:=.bool false) (by decide) 14 (by as_aux_lemma=>kernel_rfl) (by rfl) ?y3 (HBX _ hc0) ?_
     case y3 =>
      rintro w' ⟨q0,q1,q2,q3,q4,q5,q6,q7,q8,q9,q10⟩
      simp only [lgA,lgZ,lgS]
      go_simp
     simp only [lgA,lgZ,lgS,Act.put,lsA,lsZ,lsS]
     refine wpAnyG.tA 4 (v:=.slice (some ⟨g2,o2,none⟩) k2 z2) (by decide) 5 (by as_aux_lemma=>kernel_rfl) (by rfl) ?y4 (HBX _ hc0) ?_
     case y4 =>
      rintro w' ⟨q0,q1,q2,q3,q4,q5,q6,q7,q8,q9,q10⟩
      simp only [lgA,lgZ,lgS]
      go_simp
     simp only [lgA,lgZ,lgS,Act.put,lsA,lsZ,lsS]
     refine wpAnyG.tA 5 (v:=.pointer (some ⟨g2,o2,none⟩)) (by decide) 6 (by as_aux_lemma=>kernel_rfl) (by rfl) ?y5 (HBX _ hc0) ?_
     case y5 =>
      rintro w' ⟨q0,q1,q2,q3,q4,q5,q6,q7,q8,q9,q10⟩
      simp only [lgA,lgZ,lgS]
      go_simp
     simp only [lgA,lgZ,lgS,Act.put,lsA,lsZ,lsS]
     refine wpAnyG.tA 6 (v:=.pointer (some ⟨g2,o2,none⟩)) (by decide) 7 (by as_aux_lemma=>kernel_rfl) (by rfl) ?y6 (HBX _ hc0) ?_
     case y6 =>
      rintro w' ⟨q0,q1,q2,q3,q4,q5,q6,q7,q8,q9,q10⟩
      simp only [lgA,lgZ,lgS]
      go_simp
     simp only [lgA,lgZ,lgS,Act.put,lsA,lsZ,lsS]
     refine wpAnyG.tA 7 (v:=.int .i64 (h2:Nat)) (by decide) 12 (by as_aux_lemma=>kernel_rfl) (by rfl) ?y7 (HBX _ hc0) ?_
     case y7 =>
      rintro w' ⟨q0,q1,q2,q3,q4,q5,q6,q7,q8,q9,q10⟩
      simp only [lgA,lgZ,lgS]
      go_simp
     simp only [lgA,lgZ,lgS,Act.put,lsA,lsZ,lsS]
     refine wpAnyG.tA 8 (v:=.slice (some ⟨g1,o1,none⟩) k1 z1) (by decide) 9 (by as_aux_lemma=>kernel_rfl) (by rfl) ?y8 (HBX _ hc0) ?_
     case y8 =>
      rintro w' ⟨q0,q1,q2,q3,q4,q5,q6,q7,q8,q9,q10⟩
      simp only [lgA,lgZ,lgS]
      go_simp
     simp only [lgA,lgZ,lgS,Act.put,lsA,lsZ,lsS]
     refine wpAnyG.tA 9 (v:=.pointer (some ⟨g1,o1,none⟩)) (by decide) 10 (by as_aux_lemma=>kernel_rfl) (by rfl) ?y9 (HBX _ hc0) ?_
     case y9 =>
      rintro w' ⟨q0,q1,q2,q3,q4,q5,q6,q7,q8,q9,q10⟩
      simp only [lgA,lgZ,lgS]
      go_simp
     simp only [lgA,lgZ,lgS,Act.put,lsA,lsZ,lsS]
     refine wpAnyG.tA 10 (v:=.pointer (some ⟨g1,o1,none⟩)) (by decide) 11 (by as_aux_lemma=>kernel_rfl) (by rfl) ?y10 (HBX _ hc0) ?_
     case y10 =>
      rintro w' ⟨q0,q1,q2,q3,q4,q5,q6,q7,q8,q9,q10⟩
      simp only [lgA,lgZ,lgS]
      go_simp
     simp only [lgA,lgZ,lgS,Act.put,lsA,lsZ,lsS]
     refine wpAnyG.tA 11 (v:=.int .i64 (h1:Nat)) (by decide) 12 (by as_aux_lemma=>kernel_rfl) (by rfl) ?y11 (HBX _ hc0) ?_
     case y11 =>
      rintro w' ⟨q0,q1,q2,q3,q4,q5,q6,q7,q8,q9,q10⟩
      simp only [lgA,lgZ,lgS]
      go_simp
     simp only [lgA,lgZ,lgS,Act.put,lsA,lsZ,lsS]
     refine wpAnyG.tA 12 (v:=.bool false) (by decide) 13 (by as_aux_lemma=>kernel_rfl) (by rfl) ?y12 (HBX _ hc0) ?_
     case y12 =>
      rintro w' ⟨q0,q1,q2,q3,q4,q5,q6,q7,q8,q9,q10⟩
      simp only [lgA,lgZ,lgS]
      go_simp
     simp only [lgA,lgZ,lgS,Act.put,lsA,lsZ,lsS]
     refine wpAnyG.tA 13 (v:=.bool false) (by decide) 14 (by as_aux_lemma=>kernel_rfl) (by rfl) ?y13 (HBX _ hc0) ?_
     case y13 =>
      rintro w' ⟨q0,q1,q2,q3,q4,q5,q6,q7,q8,q9,q10⟩
      simp only [lgA,lgZ,lgS]
      go_simp
     simp only [lgA,lgZ,lgS,Act.put,lsA,lsZ,lsS]
     refine wpAnyG.one 14 (by as_aux_lemma=>kernel_rfl) (by decide) (by rfl) (fun K hK=>?_)
     simp only [lgA,lgZ,lgS]
     go_simp
     refine hK _ _ (HBX _ hc0) ?_
     clear hK K
     refine wpAnyG.done (by as_aux_lemma=>kernel_rfl) (NoPanic.normal ?_)
     have hcy:Below W0.heap.size W0 y0:=hc0
     clear hc0 hcz hd1
     have hd1:=bel_d1 y0
     replace LD:=LD.below hd1
     go_wp2_with fail
     refine wp_region_noPanic (wp_region_guardB HBX (by as_aux_lemma=>kernel_rfl) ?_)
     have hc0:Below W0.heap.size W0 y0.drew:=bel_tr hcy (bel_d1 _)
     generalize y0.drew = u0 at *
     refine wpAnyG.tA 0 (v:=.slice ua um uc) (by decide) 16 (by as_aux_lemma=>kernel_rfl) (by rfl) ?y0 (HBX _ hc0) ?_
     case y0 =>
      rintro w' ⟨q0,q1,q2,q3,q4,q5,q6,q7,q8,q9,q10⟩
      simp only [lgA,lgZ]
      go_simp
     simp only [lgA,lgZ,Act.put,lsA,lsZ,lsS]
     refine wpAnyG.tA 1 (v:=.slice (some ⟨g1,o1,none⟩) k1 z1) (by decide) 16 (by as_aux_lemma=>kernel_rfl) (by rfl) ?y1 (HBX _ hc0) ?_
     case y1 =>
      rintro w' ⟨q0,q1,q2,q3,q4,q5,q6,q7,q8,q9,q10⟩
      simp only [lgA,lgZ,lgS]
      go_simp
     simp only [lgA,lgZ,lgS,Act.put,lsA,lsZ,lsS]
     refine wpAnyG.tA 2 (v:=.pointer (some ⟨g1,o1,none⟩)) (by decide) 16 (by as_aux_lemma=>kernel_rfl) (by rfl) ?y2 (HBX _ hc0) ?_
     case y2 =>
      rintro w' ⟨q0,q1,q2,q3,q4,q5,q6,q7,q8,q9,q10⟩
      simp only [lgA,lgZ,lgS]
      go_simp
     simp only [lgA,lgZ,lgS,Act.put,lsA,lsZ,lsS]
     refine wpAnyG.tA 3 (v:=.pointer (some ⟨g1,o1,none⟩)) (by decide) 16 (by as_aux_lemma=>kernel_rfl) (by rfl) ?y3 (HBX _ hc0) ?_
     case y3 =>
      rintro w' ⟨q0,q1,q2,q3,q4,q5,q6,q7,q8,q9,q10⟩
      simp only [lgA,lgZ,lgS]
      go_simp
     simp only [lgA,lgZ,lgS,Act.put,lsA,lsZ,lsS]
     refine wpAnyG.tA 4 (v:=.int .i64 (h1:Nat)) (by decide) 16 (by as_aux_lemma=>kernel_rfl) (by rfl) ?y4 (HBX _ hc0) ?_
     case y4 =>
      rintro w' ⟨q0,q1,q2,q3,q4,q5,q6,q7,q8,q9,q10⟩
      simp only [lgA,lgZ,lgS]
      go_simp
     simp only [lgA,lgZ,lgS,Act.put,lsA,lsZ,lsS]
     refine wpAnyG.tA 5 (v:=.slice (some ⟨g1,o1,none⟩) k1 z1) (by decide) 16 (by as_aux_lemma=>kernel_rfl) (by rfl) ?y5 (HBX _ hc0) ?_
     case y5 =>
      rintro w' ⟨q0,q1,q2,q3,q4,q5,q6,q7,q8,q9,q10⟩
      simp only [lgA,lgZ,lgS]
      go_simp
     simp only [lgA,lgZ,lgS,Act.put,lsA,lsZ,lsS]
     refine wpAnyG.tA 6 (v:=.pointer (some ⟨g1,o1,none⟩)) (by decide) 16 (by as_aux_lemma=>kernel_rfl) (by rfl) ?y6 (HBX _ hc0) ?_
     case y6 =>
      rintro w' ⟨q0,q1,q2,q3,q4,q5,q6,q7,q8,q9,q10⟩
      simp only [lgA,lgZ,lgS]
      go_simp
     simp only [lgA,lgZ,lgS,Act.put,lsA,lsZ,lsS]
     refine wpAnyG.tA 7 (v:=.pointer (some ⟨g1,o1 + 1,none⟩)) (by decide) 16 (by as_aux_lemma=>kernel_rfl) (by rfl) ?y7 (HBX _ hc0) ?_
     case y7 =>
      rintro w' ⟨q0,q1,q2,q3,q4,q5,q6,q7,q8,q9,q10⟩
      simp only [lgA,lgZ,lgS]
      go_simp
     simp only [lgA,lgZ,lgS,Act.put,lsA,lsZ,lsS]
     refine wpAnyG.tA 8 (v:=.agg #[.bool pp1,.slice bb1 nn1 ee1,.slice dd1 mm1 ll1]) (by decide) 16 (by as_aux_lemma=>kernel_rfl) (by rfl) ?y8 (HBX _ hc0) ?_
     case y8 =>
      rintro w' ⟨q0,q1,q2,q3,q4,q5,q6,q7,q8,q9,q10⟩
      simp only [lgA,lgZ,lgS]
      go_simp
     simp only [lgA,lgZ,lgS,Act.put,lsA,lsZ,lsS]
     refine wpAnyG.tA 9 (v:=.slice (some ⟨g2,o2,none⟩) k2 z2) (by decide) 16 (by as_aux_lemma=>kernel_rfl) (by rfl) ?y9 (HBX _ hc0) ?_
     case y9 =>
      rintro w' ⟨q0,q1,q2,q3,q4,q5,q6,q7,q8,q9,q10⟩
      simp only [lgA,lgZ,lgS]
      go_simp
     simp only [lgA,lgZ,lgS,Act.put,lsA,lsZ,lsS]
     refine wpAnyG.tA 10 (v:=.pointer (some ⟨g2,o2,none⟩)) (by decide) 16 (by as_aux_lemma=>kernel_rfl) (by rfl) ?y10 (HBX _ hc0) ?_
     case y10 =>
      rintro w' ⟨q0,q1,q2,q3,q4,q5,q6,q7,q8,q9,q10⟩
      simp only [lgA,lgZ,lgS]
      go_simp
     simp only [lgA,lgZ,lgS,Act.put,lsA,lsZ,lsS]
     refine wpAnyG.tA 11 (v:=.pointer (some ⟨g2,o2 + 1,none⟩)) (by decide) 16 (by as_aux_lemma=>kernel_rfl) (by rfl) ?y11 (HBX _ hc0) ?_
     case y11 =>
      rintro w' ⟨q0,q1,q2,q3,q4,q5,q6,q7,q8,q9,q10⟩
      simp only [lgA,lgZ,lgS]
      go_simp
     simp only [lgA,lgZ,lgS,Act.put,lsA,lsZ,lsS]
     refine wpAnyG.tA 12 (v:=.agg #[.bool pp2,.slice bb2 nn2 ee2,.slice dd2 mm2 ll2]) (by decide) 16 (by as_aux_lemma=>kernel_rfl) (by rfl) ?y12 (HBX _ hc0) ?_
     case y12 =>
      rintro w' ⟨q0,q1,q2,q3,q4,q5,q6,q7,q8,q9,q10⟩
      simp only [lgA,lgZ,lgS]
      go_simp
     simp only [lgA,lgZ,lgS,Act.put,lsA,lsZ,lsS]
     refine wpAnyG.tA 13 (v:=.agg #[.bool p,.slice a na ca,.slice d nd cd]) (by decide) 16 (by as_aux_lemma=>kernel_rfl) (by rfl) ?y13 (HBX _ hc0) ?_
     case y13 =>
      rintro w' ⟨q0,q1,q2,q3,q4,q5,q6,q7,q8,q9,q10⟩
      simp only [lgA,lgZ,lgS]
      go_simp
     simp only [lgA,lgZ,lgS,Act.put,lsA,lsZ,lsS]
     refine wpAnyG.one 14 (by as_aux_lemma=>kernel_rfl) (by decide) (by rfl) (fun K hK=>?_)
     simp only [lgA,lgZ,lgS]
     go_simp
     refine (takB (K:=S) u0 (G1.tr.below hc0) (G2.tr.below hc0) (ht.below hc0) ⟨hS.1,hS.1,hS.2.1⟩ (by omega) HSZ.out (hT.below hc0)).mono ?_
     rintro e u1 ⟨f5,u5,i5,j5,x5,t5,w5,rfl,G5,hk1⟩
     have hc1:Below W0.heap.size W0 u1:=bel_tr hc0 hk1
     have L1:=LD.below hk1
     dsimp only
     refine hK _ _ (HBX _ hc1) ?_
     clear hK K
     refine wpAnyG.one 15 (by as_aux_lemma=>kernel_rfl) (by decide) (by rfl) (fun K hK=>?_)
     simp only [lgA,lgZ,lgS]
     go_simp
     refine (withB h1 u1 L1 (Below.size hc1) (G5.mono (Nat.zero_le _)) ⟨hS.1,by omega⟩ (by have:=HUM.out;omega)).mono ?_
     rintro e u2 ⟨v9,rfl,L9,hg9,ho9⟩
     have hc2:Below W0.heap.size W0 u2:=hc1.grown hg9 hc1.size (fun k hk=>(L1.lt k hk).1)
     dsimp only
     refine hK _ _ (HBX _ hc2) ?_
     clear hK K
     refine wpAnyG.one 16 (by as_aux_lemma=>kernel_rfl) (by decide) (by rfl) (fun K hK=>?_)
     simp only [lgA,lgZ,lgS]
     go_simp
     refine hK _ _ (HBX _ hc2) ?_
     clear hK K
     refine wpAnyG.done (by as_aux_lemma=>kernel_rfl) (NoPanic.normal ?_)
     clear hc0
     have hcu:=hc2
     clear hc2
     go_wp2_with fail
     have hd2:=bel_d1 u2
     have L9':=L9.below hd2
     refine wp_region_noPanic (wp_region_guardB HBX (by as_aux_lemma=>kernel_rfl) ?_)
     have hc0:Below W0.heap.size W0 u2.drew:=bel_tr hcu (bel_d1 _)
     generalize u2.drew = x0 at *
     refine wpAnyG.tA 0 (v:=.slice (some ⟨g1,o1,none⟩) k1 z1) (by decide) 5 (by as_aux_lemma=>kernel_rfl) (by rfl) ?y0 (HBX _ hc0) ?_
     case y0 =>
      rintro w' ⟨q0,q1,q2,q3,q4,q5,q6,q7,q8,q9,q10⟩
      simp only [lgA,lgZ]
      go_simp
     simp only [lgA,lgZ,Act.put,lsA,lsZ,lsS]
     refine wpAnyG.tA 1 (v:=.slice (some A1) (k1 - 1) (z1 - 1)) (by decide) 5 (by as_aux_lemma=>kernel_rfl) (by rfl) ?y1 (HBX _ hc0) ?_
     case y1 =>
      rintro w' ⟨q0,q1,q2,q3,q4,q5,q6,q7,q8,q9,q10⟩
      simp only [lgA,lgZ,lgS]
      go_simp
     simp only [lgA,lgZ,lgS,Act.put,lsA,lsZ,lsS]
     refine wpAnyG.tA 2 (v:=.slice (some ⟨g2,o2,none⟩) k2 z2) (by decide) 5 (by as_aux_lemma=>kernel_rfl) (by rfl) ?y2 (HBX _ hc0) ?_
     case y2 =>
      rintro w' ⟨q0,q1,q2,q3,q4,q5,q6,q7,q8,q9,q10⟩
      simp only [lgA,lgZ,lgS]
      go_simp
     simp only [lgA,lgZ,lgS,Act.put,lsA,lsZ,lsS]
     refine wpAnyG.tA 3 (v:=.slice (some A2) (k2 - 1) (z2 - 1)) (by decide) 5 (by as_aux_lemma=>kernel_rfl) (by rfl) ?y3 (HBX _ hc0) ?_
     case y3 =>
      rintro w' ⟨q0,q1,q2,q3,q4,q5,q6,q7,q8,q9,q10⟩
      simp only [lgA,lgZ,lgS]
      go_simp
     simp only [lgA,lgZ,lgS,Act.put,lsA,lsZ,lsS]
     refine wpAnyG.tA 4 (v:=.slice (some A1) (k1 - 1) (z1 - 1)) (by decide) 5 (by as_aux_lemma=>kernel_rfl) (by rfl) ?y4 (HBX _ hc0) ?_
     case y4 =>
      rintro w' ⟨q0,q1,q2,q3,q4,q5,q6,q7,q8,q9,q10⟩
      simp only [lgA,lgZ,lgS]
      go_simp
     simp only [List.getElem_toArray,List.getElem_cons_zero,List.getElem_cons_succ,Act.put,List.setIfInBounds_toArray,List.set_cons_zero]
     refine wpAnyG.one 5 (by as_aux_lemma=>kernel_rfl) (by decide) (by rfl) (fun K hK=>?_)
     simp only [lgA,lgZ,lgS]
     go_simp
     refine hK _ _ (HBX _ hc0) ?_
     clear hK K
     refine wpAnyG.done (by as_aux_lemma=>kernel_rfl) (NoPanic.normal ?_)
     have hcv:=hc0
     clear hc0 HBX
     have HM2:Hid (Mrg t (fun c=>lat l c - t * lat o c) (lwith acc h1 (v1 - v2 * t)) t1 t2∧Blw (lwith acc h1 (v1 - v2 * t)) N∧Blw t1 N∧Blw t2 N):=⟨HM.out.1.both HEQ.out,blw_lwithN HM.out.2.1 (HM.out.2.2.1 (h1,v1) (by simp)) _,fun e he=>HM.out.2.2.1 e (by simp [he]),fun e he=>HM.out.2.2.2 e (by simp [he])⟩
     clear HM LD hc1 LN hbW L1 hg9 ho9 hk1 G5 HSZ
     go_wp2
     go_roundw
     case rel =>
      have ek1:k1 - 1 = t1.length:=by rw [HK1.out];rfl
      have ek2:k2 - 1 = t2.length:=by rw [HK2.out];rfl
      first | exact ⟨lwith acc h1 (v1 - v2 * t),t1,t2,_,_,_,_,by rw [ek1],by rw [ek2],by rw [← ek1];omega,by rw [← ek2];omega,LA1,LA2,L9',HM2,hcv⟩ | ((repeat apply Exists.intro);refine ⟨?_,rfl⟩;exact ⟨lwith acc h1 (v1 - v2 * t),t1,t2,_,_,_,_,by rw [ek1],by rw [ek2],by rw [← ek1];omega,by rw [← ek2];omega,LA1,LA2,L9',HM2,hcv⟩)
     case measure=>simp [lnV];omega
    ·skip
     have hltI:¬ (h1:Int) < (h2:Int):=by omega
     have hgtI:(h2:Int) < (h1:Int):=by omega
     have hgtL:h2≤h1:=by omega
     have HSZ:Hid (SzR (0 - v2 * t) S):=by
      have h:=HZ.out h2
      have e:=HM.out.1.valR (fun e he=>by rcases List.mem_cons.1 he with rfl | he;exact hgt;have:=HM.out.1.rl.head he;omega)
      dsimp only at e
      rw [e] at h
      exact h
     go_wp2_with fail
     have hd0:=bel_d1 wr
     have LD:=LN.below hd0
     refine wp_region_noPanic (wp_region_guardB HBX (by as_aux_lemma=>kernel_rfl) ?_)
     have hc0:Below W0.heap.size W0 wr.drew:=bel_tr hbW (bel_d1 _)
     generalize wr.drew = z0 at *
     refine wpAnyG.tA 0 (v:=.slice (some ⟨g2,o2,none⟩) k2 z2) (by decide) 1 (by as_aux_lemma=>kernel_rfl) (by rfl) ?y0 (HBX _ hc0) ?_
     case y0 =>
      rintro w' ⟨q0,q1,q2,q3,q4,q5,q6,q7,q8,q9,q10⟩
      simp only [lgA,lgZ]
      go_simp
     simp only [lgA,lgZ,Act.put,lsA,lsZ,lsS]
     refine wpAnyG.tA 1 (v:=.int .i64 (k2:Int)) (by decide) 2 (by as_aux_lemma=>kernel_rfl) (by rfl) ?y1 (HBX _ hc0) ?_
     case y1 =>
      rintro w' ⟨q0,q1,q2,q3,q4,q5,q6,q7,q8,q9,q10⟩
      simp only [lgA,lgZ,lgS]
      go_simp
     simp only [lgA,lgZ,lgS,Act.put,lsA,lsZ,lsS]
     refine wpAnyG.tA 2 (v:=.bool false) (by decide) 3 (by as_aux_lemma=>kernel_rfl) (by rfl) ?y2 (HBX _ hc0) ?_
     case y2 =>
      rintro w' ⟨q0,q1,q2,q3,q4,q5,q6,q7,q8,q9,q10⟩
      simp only [lgA,lgZ,lgS]
      go_simp
     simp only [lgA,lgZ,lgS,Act.put,lsA,lsZ,lsS]
     refine wpAnyG.tA 3 (v:=.bool false) (by decide) 18 (by as_aux_lemma=>kernel_rfl) (by rfl) ?y3 (HBX _ hc0) ?_
     case y3 =>
      rintro w' ⟨q0,q1,q2,q3,q4,q5,q6,q7,q8,q9,q10⟩
      simp only [lgA,lgZ,lgS]
      go_simp
     simp only [lgA,lgZ,lgS,Act.put,lsA,lsZ,lsS]
     refine wpAnyG.tA 4 (v:=.slice (some ⟨g1,o1,none⟩) k1 z1) (by decide) 5 (by as_aux_lemma=>kernel_rfl) (by rfl) ?y4 (HBX _ hc0) ?_
     case y4 =>
      rintro w' ⟨q0,q1,q2,q3,q4,q5,q6,q7,q8,q9,q10⟩
      simp only [lgA,lgZ,lgS]
      go_simp
     simp only [lgA,lgZ,lgS,Act.put,lsA,lsZ,lsS]
     refine wpAnyG.tA 5 (v:=.int .i64 (k1:Int)) (by decide) 6 (by as_aux_lemma=>kernel_rfl) (by rfl) ?y5 (HBX _ hc0) ?_
     case y5 =>
      rintro w' ⟨q0,q1,q2,q3,q4,q5,q6,q7,q8,q9,q10⟩
      simp only [lgA,lgZ,lgS]
      go_simp
     simp only [lgA,lgZ,lgS,Act.put,lsA,lsZ,lsS]
     refine wpAnyG.tA 6 (v:=.bool true) (by decide) 7 (by as_aux_lemma=>kernel_rfl) (by rfl) ?y6 (HBX _ hc0) ?_
     case y6 =>
      rintro w' ⟨q0,q1,q2,q3,q4,q5,q6,q7,q8,q9,q10⟩
      simp only [lgA,lgZ,lgS]
      go_simp
     simp only [lgA,lgZ,lgS,Act.put,lsA,lsZ,lsS]
     refine wpAnyG.tA 7 (v:=.bool true) (by decide) 19 (by as_aux_lemma=>kernel_rfl) (by rfl) ?y7 (HBX _ hc0) ?_
     case y7 =>
      rintro w' ⟨q0,q1,q2,q3,q4,q5,q6,q7,q8,q9,q10⟩
      simp only [lgA,lgZ,lgS]
      go_simp
     simp only [lgA,lgZ,lgS,Act.put,lsA,lsZ,lsS]
     refine wpAnyG.tA 8 (v:=.slice (some ⟨g1,o1,none⟩) k1 z1) (by decide) 9 (by as_aux_lemma=>kernel_rfl) (by rfl) ?y8 (HBX _ hc0) ?_
     case y8 =>
      rintro w' ⟨q0,q1,q2,q3,q4,q5,q6,q7,q8,q9,q10⟩
      simp only [lgA,lgZ,lgS]
      go_simp
     simp only [lgA,lgZ,lgS,Act.put,lsA,lsZ,lsS]
     refine wpAnyG.tA 9 (v:=.pointer (some ⟨g1,o1,none⟩)) (by decide) 10 (by as_aux_lemma=>kernel_rfl) (by rfl) ?y9 (HBX _ hc0) ?_
     case y9 =>
      rintro w' ⟨q0,q1,q2,q3,q4,q5,q6,q7,q8,q9,q10⟩
      simp only [lgA,lgZ,lgS]
      go_simp
     simp only [lgA,lgZ,lgS,Act.put,lsA,lsZ,lsS]
     refine wpAnyG.tA 10 (v:=.pointer (some ⟨g1,o1,none⟩)) (by decide) 11 (by as_aux_lemma=>kernel_rfl) (by rfl) ?y10 (HBX _ hc0) ?_
     case y10 =>
      rintro w' ⟨q0,q1,q2,q3,q4,q5,q6,q7,q8,q9,q10⟩
      simp only [lgA,lgZ,lgS]
      go_simp
     simp only [lgA,lgZ,lgS,Act.put,lsA,lsZ,lsS]
     refine wpAnyG.tA 11 (v:=.int .i64 (h1:Nat)) (by decide) 16 (by as_aux_lemma=>kernel_rfl) (by rfl) ?y11 (HBX _ hc0) ?_
     case y11 =>
      rintro w' ⟨q0,q1,q2,q3,q4,q5,q6,q7,q8,q9,q10⟩
      simp only [lgA,lgZ,lgS]
      go_simp
     simp only [lgA,lgZ,lgS,Act.put,lsA,lsZ,lsS]
     refine wpAnyG.tA 12 (v:=.slice (some ⟨g2,o2,none⟩) k2 z2) (by decide) 13 (by as_aux_lemma=>kernel_rfl) (by rfl) ?y12 (HBX _ hc0) ?_
     case y12 =>
      rintro w' ⟨q0,q1,q2,q3,q4,q5,q6,q7,q8,q9,q10⟩
      simp only [lgA,lgZ,lgS]
      go_simp
     simp only [lgA,lgZ,lgS,Act.put,lsA,lsZ,lsS]
     refine wpAnyG.tA 13 (v:=.pointer (some ⟨g2,o2,none⟩)) (by decide) 14 (by as_aux_lemma=>kernel_rfl) (by rfl) ?y13 (HBX _ hc0) ?_
     case y13 =>
      rintro w' ⟨q0,q1,q2,q3,q4,q5,q6,q7,q8,q9,q10⟩
      simp only [lgA,lgZ,lgS]
      go_simp
     simp only [lgA,lgZ,lgS,Act.put,lsA,lsZ,lsS]
     refine wpAnyG.tA 14 (v:=.pointer (some ⟨g2,o2,none⟩)) (by decide) 15 (by as_aux_lemma=>kernel_rfl) (by rfl) ?y14 (HBX _ hc0) ?_
     case y14 =>
      rintro w' ⟨q0,q1,q2,q3,q4,q5,q6,q7,q8,q9,q10⟩
      simp only [lgA,lgZ,lgS]
      go_simp
     simp only [lgA,lgZ,lgS,Act.put,lsA,lsZ,lsS]
     refine wpAnyG.tA 15 (v:=.int .i64 (h2:Nat)) (by decide) 16 (by as_aux_lemma=>kernel_rfl) (by rfl) ?y15 (HBX _ hc0) ?_
     case y15 =>
      rintro w' ⟨q0,q1,q2,q3,q4,q5,q6,q7,q8,q9,q10⟩
      simp only [lgA,lgZ,lgS]
      go_simp
     simp only [lgA,lgZ,lgS,Act.put,lsA,lsZ,lsS]
     refine wpAnyG.tA 16 (v:=.bool false) (by decide) 17 (by as_aux_lemma=>kernel_rfl) (by rfl) ?y16 (HBX _ hc0) ?_
     case y16 =>
      rintro w' ⟨q0,q1,q2,q3,q4,q5,q6,q7,q8,q9,q10⟩
      simp only [lgA,lgZ,lgS]
      go_simp
     simp only [lgA,lgZ,lgS,Act.put,lsA,lsZ,lsS]
     refine wpAnyG.tA 17 (v:=.bool false) (by decide) 18 (by as_aux_lemma=>kernel_rfl) (by rfl) ?y17 (HBX _ hc0) ?_
     case y17 =>
      rintro w' ⟨q0,q1,q2,q3,q4,q5,q6,q7,q8,q9,q10⟩
      simp only [lgA,lgZ,lgS]
      go_simp
     simp only [lgA,lgZ,lgS,Act.put,lsA,lsZ,lsS]
     refine wpAnyG.tA 18 (v:=.bool false) (by decide) 19 (by as_aux_lemma=>kernel_rfl) (by rfl) ?y18 (HBX _ hc0) ?_
     case y18 =>
      rintro w' ⟨q0,q1,q2,q3,q4,q5,q6,q7,q8,q9,q10⟩
      simp only [lgA,lgZ,lgS]
      go_simp
     simp only [lgA,lgZ,lgS,Act.put,lsA,lsZ,lsS]
     refine wpAnyG.one 19 (by as_aux_lemma=>kernel_rfl) (by decide) (by rfl) (fun K hK=>?_)
     simp only [lgA,lgZ,lgS]
     go_simp
     refine hK _ _ (HBX _ hc0) ?_
     clear hK K
     refine wpAnyG.done (by as_aux_lemma=>kernel_rfl) (NoPanic.normal ?_)
     have hcz:Below W0.heap.size W0 z0:=hc0
     clear hc0 hd0
     have hd1:=bel_d1 z0
     replace LD:=LD.below hd1
     go_wp2_with fail
     refine wp_region_noPanic (wp_region_guardB HBX (by as_aux_lemma=>kernel_rfl) ?_)
     have hc0:Below W0.heap.size W0 z0.drew:=bel_tr hcz (bel_d1 _)
     generalize z0.drew = y0 at *
     refine wpAnyG.tA 0 (v:=.slice (some ⟨g1,o1,none⟩) k1 z1) (by decide) 1 (by as_aux_lemma=>kernel_rfl) (by rfl) ?y0 (HBX _ hc0) ?_
     case y0 =>
      rintro w' ⟨q0,q1,q2,q3,q4,q5,q6,q7,q8,q9,q10⟩
      simp only [lgA,lgZ]
      go_simp
     simp only [lgA,lgZ,Act.put,lsA,lsZ,lsS]
     refine wpAnyG.tA 1 (v:=.int .i64 (k1:Int)) (by decide) 2 (by as_aux_lemma=>kernel_rfl) (by rfl) ?y1 (HBX _ hc0) ?_
     case y1 =>
      rintro w' ⟨q0,q1,q2,q3,q4,q5,q6,q7,q8,q9,q10⟩
      simp only [lgA,lgZ,lgS]
      go_simp
     simp only [lgA,lgZ,lgS,Act.put,lsA,lsZ,lsS]
     refine wpAnyG.tA 2 (v:=.bool false) (by decide) 3 (by as_aux_lemma=>kernel_rfl) (by rfl) ?y2 (HBX _ hc0) ?_
     case y2 =>
      rintro w' ⟨q0,q1,q2,q3,q4,q5,q6,q7,q8,q9,q10⟩
      simp only [lgA,lgZ,lgS]
      go_simp
     simp only [lgA,lgZ,lgS,Act.put,lsA,lsZ,lsS]
     refine wpAnyG.tA 3 (v:=.bool false) (by decide) 14 (by as_aux_lemma=>kernel_rfl) (by rfl) ?y3 (HBX _ hc0) ?_
     case y3 =>
      rintro w' ⟨q0,q1,q2,q3,q4,q5,q6,q7,q8,q9,q10⟩
      simp only [lgA,lgZ,lgS]
      go_simp
     simp only [lgA,lgZ,lgS,Act.put,lsA,lsZ,lsS]
     refine wpAnyG.tA 4 (v:=.slice (some ⟨g2,o2,none⟩) k2 z2) (by decide) 5 (by as_aux_lemma=>kernel_rfl) (by rfl) ?y4 (HBX _ hc0) ?_
     case y4 =>
      rintro w' ⟨q0,q1,q2,q3,q4,q5,q6,q7,q8,q9,q10⟩
      simp only [lgA,lgZ,lgS]
      go_simp
     simp only [lgA,lgZ,lgS,Act.put,lsA,lsZ,lsS]
     refine wpAnyG.tA 5 (v:=.pointer (some ⟨g2,o2,none⟩)) (by decide) 6 (by as_aux_lemma=>kernel_rfl) (by rfl) ?y5 (HBX _ hc0) ?_
     case y5 =>
      rintro w' ⟨q0,q1,q2,q3,q4,q5,q6,q7,q8,q9,q10⟩
      simp only [lgA,lgZ,lgS]
      go_simp
     simp only [lgA,lgZ,lgS,Act.put,lsA,lsZ,lsS]
     refine wpAnyG.tA 6 (v:=.pointer (some ⟨g2,o2,none⟩)) (by decide) 7 (by as_aux_lemma=>kernel_rfl) (by rfl) ?y6 (HBX _ hc0) ?_
     case y6 =>
      rintro w' ⟨q0,q1,q2,q3,q4,q5,q6,q7,q8,q9,q10⟩
      simp only [lgA,lgZ,lgS]
      go_simp
     simp only [lgA,lgZ,lgS,Act.put,lsA,lsZ,lsS]
     refine wpAnyG.tA 7 (v:=.int .i64 (h2:Nat)) (by decide) 12 (by as_aux_lemma=>kernel_rfl) (by rfl) ?y7 (HBX _ hc0) ?_
     case y7 =>
      rintro w' ⟨q0,q1,q2,q3,q4,q5,q6,q7,q8,q9,q10⟩
      simp only [lgA,lgZ,lgS]
      go_simp
     simp only [lgA,lgZ,lgS,Act.put,lsA,lsZ,lsS]
     refine wpAnyG.tA 8 (v:=.slice (some ⟨g1,o1,none⟩) k1 z1) (by decide) 9 (by as_aux_lemma=>kernel_rfl) (by rfl) ?y8 (HBX _ hc0) ?_
     case y8 =>
      rintro w' ⟨q0,q1,q2,q3,q4,q5,q6,q7,q8,q9,q10⟩
      simp only [lgA,lgZ,lgS]
      go_simp
     simp only [lgA,lgZ,lgS,Act.put,lsA,lsZ,lsS]
     refine wpAnyG.tA 9 (v:=.pointer (some ⟨g1,o1,none⟩)) (by decide) 10 (by as_aux_lemma=>kernel_rfl) (by rfl) ?y9 (HBX _ hc0) ?_
     case y9 =>
      rintro w' ⟨q0,q1,q2,q3,q4,q5,q6,q7,q8,q9,q10⟩
      simp only [lgA,lgZ,lgS]
      go_simp
     simp only [lgA,lgZ,lgS,Act.put,lsA,lsZ,lsS]
     refine wpAnyG.tA 10 (v:=.pointer (some ⟨g1,o1,none⟩)) (by decide) 11 (by as_aux_lemma=>kernel_rfl) (by rfl) ?y10 (HBX _ hc0) ?_
     case y10 =>
      rintro w' ⟨q0,q1,q2,q3,q4,q5,q6,q7,q8,q9,q10⟩
      simp only [lgA,lgZ,lgS]
      go_simp
     simp only [lgA,lgZ,lgS,Act.put,lsA,lsZ,lsS]
     refine wpAnyG.tA 11 (v:=.int .i64 (h1:Nat)) (by decide) 12 (by as_aux_lemma=>kernel_rfl) (by rfl) ?y11 (HBX _ hc0) ?_
     case y11 =>
      rintro w' ⟨q0,q1,q2,q3,q4,q5,q6,q7,q8,q9,q10⟩
      simp only [lgA,lgZ,lgS]
      go_simp
     simp only [lgA,lgZ,lgS,Act.put,lsA,lsZ,lsS]
     refine wpAnyG.tA 12 (v:=.bool true) (by decide) 13 (by as_aux_lemma=>kernel_rfl) (by rfl) ?y12 (HBX _ hc0) ?_
     case y12 =>
      rintro w' ⟨q0,q1,q2,q3,q4,q5,q6,q7,q8,q9,q10⟩
      simp only [lgA,lgZ,lgS]
      go_simp
     simp only [lgA,lgZ,lgS,Act.put,lsA,lsZ,lsS]
     refine wpAnyG.tA 13 (v:=.bool true) (by decide) 14 (by as_aux_lemma=>kernel_rfl) (by rfl) ?y13 (HBX _ hc0) ?_
     case y13 =>
      rintro w' ⟨q0,q1,q2,q3,q4,q5,q6,q7,q8,q9,q10⟩
      simp only [lgA,lgZ,lgS]
      go_simp
     simp only [lgA,lgZ,lgS,Act.put,lsA,lsZ,lsS]
     refine wpAnyG.one 14 (by as_aux_lemma=>kernel_rfl) (by decide) (by rfl) (fun K hK=>?_)
     simp only [lgA,lgZ,lgS]
     go_simp
     refine hK _ _ (HBX _ hc0) ?_
     clear hK K
     refine wpAnyG.done (by as_aux_lemma=>kernel_rfl) (NoPanic.normal ?_)
     have hcy:Below W0.heap.size W0 y0:=hc0
     clear hc0 hcz hd1
     have hd1:=bel_d1 y0
     replace LD:=LD.below hd1
     go_wp2_with fail
     refine wp_region_noPanic (wp_region_guardB HBX (by as_aux_lemma=>kernel_rfl) ?_)
     have hc0:Below W0.heap.size W0 y0.drew:=bel_tr hcy (bel_d1 _)
     generalize y0.drew = u0 at *
     refine wpAnyG.tA 0 (v:=.slice ua um uc) (by decide) 13 (by as_aux_lemma=>kernel_rfl) (by rfl) ?y0 (HBX _ hc0) ?_
     case y0 =>
      rintro w' ⟨q0,q1,q2,q3,q4,q5,q6,q7,q8,q9,q10⟩
      simp only [lgA,lgZ]
      go_simp
     simp only [lgA,lgZ,Act.put,lsA,lsZ,lsS]
     refine wpAnyG.tA 1 (v:=.slice (some ⟨g2,o2,none⟩) k2 z2) (by decide) 13 (by as_aux_lemma=>kernel_rfl) (by rfl) ?y1 (HBX _ hc0) ?_
     case y1 =>
      rintro w' ⟨q0,q1,q2,q3,q4,q5,q6,q7,q8,q9,q10⟩
      simp only [lgA,lgZ,lgS]
      go_simp
     simp only [lgA,lgZ,lgS,Act.put,lsA,lsZ,lsS]
     refine wpAnyG.tA 2 (v:=.pointer (some ⟨g2,o2,none⟩)) (by decide) 13 (by as_aux_lemma=>kernel_rfl) (by rfl) ?y2 (HBX _ hc0) ?_
     case y2 =>
      rintro w' ⟨q0,q1,q2,q3,q4,q5,q6,q7,q8,q9,q10⟩
      simp only [lgA,lgZ,lgS]
      go_simp
     simp only [lgA,lgZ,lgS,Act.put,lsA,lsZ,lsS]
     refine wpAnyG.tA 3 (v:=.pointer (some ⟨g2,o2,none⟩)) (by decide) 13 (by as_aux_lemma=>kernel_rfl) (by rfl) ?y3 (HBX _ hc0) ?_
     case y3 =>
      rintro w' ⟨q0,q1,q2,q3,q4,q5,q6,q7,q8,q9,q10⟩
      simp only [lgA,lgZ,lgS]
      go_simp
     simp only [lgA,lgZ,lgS,Act.put,lsA,lsZ,lsS]
     refine wpAnyG.tA 4 (v:=.int .i64 (h2:Nat)) (by decide) 13 (by as_aux_lemma=>kernel_rfl) (by rfl) ?y4 (HBX _ hc0) ?_
     case y4 =>
      rintro w' ⟨q0,q1,q2,q3,q4,q5,q6,q7,q8,q9,q10⟩
      simp only [lgA,lgZ,lgS]
      go_simp
     simp only [lgA,lgZ,lgS,Act.put,lsA,lsZ,lsS]
     refine wpAnyG.tA 5 (v:=.agg #[.bool false,.slice none 0 0,.slice none 0 0]) (by decide) 13 (by as_aux_lemma=>kernel_rfl) (by rfl) ?y5 (HBX _ hc0) ?_
     case y5 =>
      rintro w' ⟨q0,q1,q2,q3,q4,q5,q6,q7,q8,q9,q10⟩
      simp only [lgA,lgZ,lgS]
      go_simp
     simp only [lgA,lgZ,lgS,Act.put,lsA,lsZ,lsS]
     refine wpAnyG.tA 6 (v:=.slice (some ⟨g2,o2,none⟩) k2 z2) (by decide) 13 (by as_aux_lemma=>kernel_rfl) (by rfl) ?y6 (HBX _ hc0) ?_
     case y6 =>
      rintro w' ⟨q0,q1,q2,q3,q4,q5,q6,q7,q8,q9,q10⟩
      simp only [lgA,lgZ,lgS]
      go_simp
     simp only [lgA,lgZ,lgS,Act.put,lsA,lsZ,lsS]
     refine wpAnyG.tA 7 (v:=.pointer (some ⟨g2,o2,none⟩)) (by decide) 13 (by as_aux_lemma=>kernel_rfl) (by rfl) ?y7 (HBX _ hc0) ?_
     case y7 =>
      rintro w' ⟨q0,q1,q2,q3,q4,q5,q6,q7,q8,q9,q10⟩
      simp only [lgA,lgZ,lgS]
      go_simp
     simp only [lgA,lgZ,lgS,Act.put,lsA,lsZ,lsS]
     refine wpAnyG.tA 8 (v:=.pointer (some ⟨g2,o2 + 1,none⟩)) (by decide) 13 (by as_aux_lemma=>kernel_rfl) (by rfl) ?y8 (HBX _ hc0) ?_
     case y8 =>
      rintro w' ⟨q0,q1,q2,q3,q4,q5,q6,q7,q8,q9,q10⟩
      simp only [lgA,lgZ,lgS]
      go_simp
     simp only [lgA,lgZ,lgS,Act.put,lsA,lsZ,lsS]
     refine wpAnyG.tA 9 (v:=.agg #[.bool pp2,.slice bb2 nn2 ee2,.slice dd2 mm2 ll2]) (by decide) 13 (by as_aux_lemma=>kernel_rfl) (by rfl) ?y9 (HBX _ hc0) ?_
     case y9 =>
      rintro w' ⟨q0,q1,q2,q3,q4,q5,q6,q7,q8,q9,q10⟩
      simp only [lgA,lgZ,lgS]
      go_simp
     simp only [lgA,lgZ,lgS,Act.put,lsA,lsZ,lsS]
     refine wpAnyG.tA 10 (v:=.agg #[.bool p,.slice a na ca,.slice d nd cd]) (by decide) 13 (by as_aux_lemma=>kernel_rfl) (by rfl) ?y10 (HBX _ hc0) ?_
     case y10 =>
      rintro w' ⟨q0,q1,q2,q3,q4,q5,q6,q7,q8,q9,q10⟩
      simp only [lgA,lgZ,lgS]
      go_simp
     simp only [lgA,lgZ,lgS,Act.put,lsA,lsZ,lsS]
     refine wpAnyG.one 11 (by as_aux_lemma=>kernel_rfl) (by decide) (by rfl) (fun K hK=>?_)
     simp only [lgA,lgZ,lgS]
     go_simp
     refine (takB (K:=S) u0 (TR.zero _ S) (G2.tr.below hc0) (ht.below hc0) ⟨hS.1,hS.1,hS.2.1⟩ (by omega) HSZ.out (hT.below hc0)).mono ?_
     rintro e u1 ⟨f5,u5,i5,j5,x5,t5,w5,rfl,G5,hk1⟩
     have hc1:Below W0.heap.size W0 u1:=bel_tr hc0 hk1
     have L1:=LD.below hk1
     dsimp only
     refine hK _ _ (HBX _ hc1) ?_
     clear hK K
     refine wpAnyG.one 12 (by as_aux_lemma=>kernel_rfl) (by decide) (by rfl) (fun K hK=>?_)
     simp only [lgA,lgZ,lgS]
     go_simp
     refine (withB h2 u1 L1 (Below.size hc1) (G5.mono (Nat.zero_le _)) ⟨hS.1,by omega⟩ (by have:=HUM.out;omega)).mono ?_
     rintro e u2 ⟨v9,rfl,L9,hg9,ho9⟩
     have hc2:Below W0.heap.size W0 u2:=hc1.grown hg9 hc1.size (fun k hk=>(L1.lt k hk).1)
     dsimp only
     refine hK _ _ (HBX _ hc2) ?_
     clear hK K
     refine wpAnyG.one 13 (by as_aux_lemma=>kernel_rfl) (by decide) (by rfl) (fun K hK=>?_)
     simp only [lgA,lgZ,lgS]
     go_simp
     refine hK _ _ (HBX _ hc2) ?_
     clear hK K
     refine wpAnyG.done (by as_aux_lemma=>kernel_rfl) (NoPanic.normal ?_)
     have HM2:Hid (Mrg t (fun c=>lat l c - t * lat o c) (lwith acc h2 (0 - v2 * t)) ((h1,v1) :: t1) t2∧Blw (lwith acc h2 (0 - v2 * t)) N∧Blw ((h1,v1) :: t1) N∧Blw t2 N):=⟨HM.out.1.right (fun e he=>by rcases List.mem_cons.1 he with rfl | he;exact hgt;have:=HM.out.1.rl.head he;omega),blw_lwithN HM.out.2.1 (HM.out.2.2.2 (h2,v2) (by simp)) _,HM.out.2.2.1,fun e he=>HM.out.2.2.2 e (by simp [he])⟩
     clear HM LD hc0 hc1 HBX LN hbW L1 hg9 ho9 hk1 G5 HSZ
     go_wp2
     go_roundw
     case rel =>
      have ek:k2 - 1 = t2.length:=by rw [HK2.out];rfl
      have ek1:k1 = (((h1,v1):Nat × Rat) :: t1).length:=by rw [HK1.out];rfl
      first | exact ⟨lwith acc h2 (0 - v2 * t),((h1,v1) :: t1),t2,_,_,_,_,by rw [ek1],by rw [ek],by rw [← ek1];exact hz1,by rw [← ek];omega,LS1',LA2,L9,HM2,hc2⟩ | ((repeat apply Exists.intro);refine ⟨?_,rfl⟩;exact ⟨lwith acc h2 (0 - v2 * t),((h1,v1) :: t1),t2,_,_,_,_,by rw [ek1],by rw [ek],by rw [← ek1];exact hz1,by rw [← ek];omega,LS1',LA2,L9,HM2,hc2⟩)
     case measure=>simp [lnV];omega
end Go.Proofs.YtjiodidemimgmaaGreatDoor
