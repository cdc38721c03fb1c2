import Derived.Test.YtmeimjakdheidaaGreatDoorPvB0All
namespace Go.Proofs.YtmeimjakdheidaaGreatDoor
open Go.RowKit
theorem stdI:(Tryz.prog.info? 39).map (·.size)=some 6:=by kernel_rfl
theorem infLR:Inf 32 1 24:=kH (by kernel_rfl)
theorem infR3:Inf 27 3 56:=kH (by kernel_rfl)
theorem RL.at0 {w:World} {B g m n cap:Nat} {X:Nat→Rat} {S:Nat} (h:RL w B (.slice (some ⟨g,0,none⟩) m cap) n X S):g<w.heap.size:=by
 obtain ⟨vs,h1,_⟩:=h
 exact (World.ownsRow.lt h1 g rfl).2
theorem RL.keepR {w w':World} {B:Nat} {v:Value} {n:Nat} {X:Nat→Rat} {S:Nat} (h:RL w B v n X S) {row:Option Nat} (hn:NoW w row) (hne:row≠v.ownBlock∨v.ownBlock=none) (hg:w.grownBy w' row):RL w' B v n X S:=by
 obtain ⟨vs,h1,h2⟩:=h
 refine ⟨vs,World.ownsRow.kept h1 hg (by
  rcases hne with e|e
  ·exact .inr fun e2=>e e2.symm
  ·exact .inl e),fun i hi=>?_⟩
 obtain ⟨p,a,na,ca,d,nd,cd,g1,g2,g3,g4⟩:=h2 i hi
 exact ⟨p,a,na,ca,d,nd,cd,g1,g2,g3,g4.keep hn hg⟩
def RM (w:World) (B:Nat) (v:Value) (n:Nat) (X:Nat→Rat) (S:Nat):Prop:=∃ E,SL w B 27 3 v n E∧∀ i,i<n→∃ p a na ca d nd cd,E i=[.bool p,.slice a na ca,.slice d nd cd]∧GR w 0 p a na ca d nd cd (X i) S
theorem RM.rl {w:World} {B:Nat} {v:Value} {n:Nat} {X:Nat→Rat} {S:Nat} (h:RM w B v n X S):RL w 0 v n X S:=by
 obtain ⟨E,h1,h2⟩:=h
 obtain ⟨vs,g1,g2⟩:=h1.mono (Nat.zero_le _)
 refine ⟨vs,g1,fun i hi=>?_⟩
 obtain ⟨p,a,na,ca,d,nd,cd,e,g⟩:=h2 i hi
 have hk:=g2 i hi
 rw [e] at hk
 exact ⟨p,a,na,ca,d,nd,cd,by simpa using (hk 0 _ rfl).2,(hk 1 _ rfl).2,(hk 2 _ rfl).2,g⟩
theorem RM.kx {w w':World} {R F:Nat} {L:List TypeId} {B:Nat} {v:Value} {n:Nat} {X:Nat→Rat} {S:Nat} (h:RM w B v n X S) (k:Kx R F L w w') (hL:118 ∉ L) (hL2:27 ∉ L):RM w' B v n X S:=by
 obtain ⟨E,h1,h2⟩:=h
 refine ⟨E,h1.kxh k hL2,fun i hi=>?_⟩
 obtain ⟨p,a,na,ca,d,nd,cd,e,g⟩:=h2 i hi
 exact ⟨p,a,na,ca,d,nd,cd,e,g.kx k hL⟩
def AL (w:World) (B:Nat) (v:Value) (es:List Eqn) (n S:Nat) (bad:Option Nat):Prop:=∃ E,SL w B 32 1 v es.length E∧∀ i e,es[i]? = some e→∃ g,E i=[.slice (some ⟨g,0,none⟩) n n]∧bad≠some g∧RL w 0 (.slice (some ⟨g,0,none⟩) n n) n (bV e.l) S
theorem AL.kx {w w':World} {R F:Nat} {L:List TypeId} {B:Nat} {v:Value} {es:List Eqn} {n S:Nat} {bad:Option Nat} (h:AL w B v es n S bad) (k:Kx R F L w w') (hL:118 ∉ L) (hL2:27 ∉ L) (hL3:32 ∉ L):AL w' B v es n S bad:=by
 obtain ⟨E,h1,h2⟩:=h
 refine ⟨E,h1.kxh k hL3,fun i e he=>?_⟩
 obtain ⟨g,e1,e2,e3⟩:=h2 i e he
 exact ⟨g,e1,e2,e3.kx k hL hL2⟩
theorem AL.len {w:World} {B:Nat} {a:Option Addr} {m cap:Nat} {es:List Eqn} {n S:Nat} {bad:Option Nat} (h:AL w B (.slice a m cap) es n S bad):m=es.length:=by
 obtain ⟨E,h1,h2⟩:=h
 obtain ⟨a',c',e,_⟩:=h1.form
 simp only [Value.slice.injEq] at e
 exact e.2.1
def StdP (w:World) (cl:List PT) (es:List Eqn) (n S:Nat) (rK:Rat) (e:Ending) (w':World):Prop :=
 ∃ aA cA aB cB gC fK cK nK kK dK mK lK,e = .returned (.agg #[.slice aA es.length cA,.slice aB es.length cB,.slice (some ⟨gC,0,none⟩) n n,.bool fK,.slice cK nK kK,.slice dK mK lK])∧AL w' w.heap.size (.slice aA es.length cA) es n S none∧RL w' 0 (.slice aB es.length cB) es.length (fun i=>(es.getD i ⟨[],0⟩).r) S∧RL w' 0 (.slice (some ⟨gC,0,none⟩) n n) n (bV cl) S∧GR w' 0 fK cK nK kK dK mK lK rK S∧Below w.heap.size w w'
set_option maxRecDepth 100000 in
set_option maxHeartbeats 16000000 in
theorem standardQ {R F n S:Nat} {a0' a7':Value} {qa:Option Addr} {qm qc:Nat} {f0:Bool} {c0:Option Addr} {n0 k0:Nat} {d0:Option Addr} {m0 l0:Nat} {rK:Rat} {ea:Option Addr} {em ec:Nat} {cl:List PT} {es:List Eqn} (w:World) (hr:Rw 61 w R #[a0',.slice qa qm qc,.bool f0,.slice c0 n0 k0,.slice d0 m0 l0,.slice ea em ec,.int .i64 (n:Nat),a7']) (hq:TM w F (.slice qa qm qc) cl S) (hk0:GR w 0 f0 c0 n0 k0 d0 m0 l0 rK S) (hE:EM w F (.slice ea em ec) es S)
 (hinC:∀ t ∈ cl,0≤t.var∧t.var<(n:Int)) (hin:∀ e ∈ es,∀ t ∈ e.l,0≤t.var∧t.var<(n:Int)) (hn:n≤100000000) (hcl:cl.length≤100000000) (hel:∀ e ∈ es,e.l.length≤100000000) (hes:es.length≤100000000) (hS7:S≤7000000) (hS1:1≤S) (hT:TB w) :
 Calls Tryz.prog 7 #[.pointer (some ⟨R,0,none⟩)] w fun e w'=>StdP w cl es n S rK e w':=by
 have HINC:Hid (∀ t ∈ cl,0≤t.var∧t.var<(n:Int)):=hinC
 have HIN:Hid (∀ e ∈ es,∀ t ∈ e.l,0≤t.var∧t.var<(n:Int)):=hin
 have HEL:Hid (∀ e ∈ es,e.l.length≤100000000):=hel
 have hqm:qm≤100000000:=by rw [hq.len];exact hcl
 have HEM:Hid (em=es.length):=hE.len
 clear hinC hin hel hcl
 have R0:=Rw.new 39 w #[.slice none 0 0,.slice none 0 0,.slice none 0 0,.bool false,.slice none 0 0,.slice none 0 0]
 have hbU:=aI w (.cells #[.slice none 0 0,.slice none 0 0,.slice none 0 0,.bool false,.slice none 0 0,.slice none 0 0] 39)
 have hsU:(w.alloc (.cells #[.slice none 0 0,.slice none 0 0,.slice none 0 0,.bool false,.slice none 0 0,.slice none 0 0] 39)).heap.size=w.heap.size+1:=by simp
 go_enter Tryz.func7,Tryz.ntmps7
 go_wp2_with fail
 generalize w.alloc (.cells #[.slice none 0 0,.slice none 0 0,.slice none 0 0,.bool false,.slice none 0 0,.slice none 0 0] 39)=U at *
 have HBX:∀ w',Below U.heap.size U w'→(w'.cell? ⟨R,1,none⟩=some (.slice qa qm qc)∧w'.cell? ⟨R,2,none⟩=some (.bool f0)∧w'.cell? ⟨R,3,none⟩=some (.slice c0 n0 k0)∧w'.cell? ⟨R,4,none⟩=some (.slice d0 m0 l0)):=fun w' h=>⟨((hr.below (aF hbU h)).cell 1).trans rfl,((hr.below (aF hbU h)).cell 2).trans rfl,((hr.below (aF hbU h)).cell 3).trans rfl,((hr.below (aF hbU h)).cell 4).trans rfl⟩
 refine xA (fun a0 a' w'=>∃ (u1 u2 u3 u4 u5 u6 u7 u8 u9 u10 u11 u12:Value) (b gC:Nat) (fK:Bool) (cK:Option Addr) (nK kK:Nat) (dK:Option Addr) (mK lK:Nat),a'=(((((((((((((a0.put (some 6) u1).put (some 7) u2).put (some 8) u3).put (some 9) u4).put (some 10) u5).put (some 11) u6).put (some 12) u7).put (some 13) u8).put (some 14) u9).put (some 15) u10).put (some 16) u11).put (some 17) u12).put (some 3) (.pointer (some ⟨b,0,none⟩)))∧Rw 39 w' b #[.slice none 0 0,.slice none 0 0,.slice (some ⟨gC,0,none⟩) n n,.bool fK,.slice cK nK kK,.slice dK mK lK]∧RL w' 0 (.slice (some ⟨gC,0,none⟩) n n) n (bV cl) S∧GR w' 0 fK cK nK kK dK mK lK rK S∧U.heap.size≤b∧gC<w'.heap.size∧Below U.heap.size U w') ?_ ?_
 ·refine wp_region_noPanic (aS 13 HBX (by as_aux_lemma=>kernel_rfl) ?_)
  have hc0:Below U.heap.size U U.drew:=aK _
  generalize U.drew=z0 at *
  refine wpAnyG.tT 0 (v:=.pointer (some ⟨R,0,none⟩)) (by decide) 13 (by as_aux_lemma=>kernel_rfl) (by rfl) ?y0 (HBX _ hc0) ?_
  case y0 =>
   rintro w' ⟨q0,q1,q2,q3⟩
   simp only [lgA,lgZ]
   go_simp
  simp only [lgA,lgZ,Act.put,lsA,lsZ,lsS]
  refine wpAnyG.tT 1 (v:=.pointer (some ⟨R,0,none⟩)) (by decide) 13 (by as_aux_lemma=>kernel_rfl) (by rfl) ?y1 (HBX _ hc0) ?_
  case y1 =>
   rintro w' ⟨q0,q1,q2,q3⟩
   simp only [lgA,lgZ,lgS]
   go_simp
  simp only [lgA,lgZ,lgS,Act.put,lsA,lsZ,lsS]
  refine wpAnyG.tT 2 (v:=.pointer (some ⟨R,0,none⟩)) (by decide) 13 (by as_aux_lemma=>kernel_rfl) (by rfl) ?y2 (HBX _ hc0) ?_
  case y2 =>
   rintro w' ⟨q0,q1,q2,q3⟩
   simp only [lgA,lgZ,lgS]
   go_simp
  simp only [lgA,lgZ,lgS,Act.put,lsA,lsZ,lsS]
  refine wpAnyG.tT 3 (v:=.pointer (some ⟨R,1,none⟩)) (by decide) 13 (by as_aux_lemma=>kernel_rfl) (by rfl) ?y3 (HBX _ hc0) ?_
  case y3 =>
   rintro w' ⟨q0,q1,q2,q3⟩
   simp only [lgA,lgZ,lgS]
   go_simp
  simp only [lgA,lgZ,lgS,Act.put,lsA,lsZ,lsS]
  refine wpAnyG.tT 4 (v:=.slice qa qm qc) (by decide) 13 (by as_aux_lemma=>kernel_rfl) (by rfl) ?y4 (HBX _ hc0) ?_
  case y4 =>
   rintro w' ⟨q0,q1,q2,q3⟩
   simp only [lgA,lgZ,lgS]
   go_simp
  simp only [lgA,lgZ,lgS,Act.put,lsA,lsZ,lsS]
  refine wpAnyG.tT 6 (v:=.pointer (some ⟨R,0,none⟩)) (by decide) 13 (by as_aux_lemma=>kernel_rfl) (by rfl) ?y6 (HBX _ hc0) ?_
  case y6 =>
   rintro w' ⟨q0,q1,q2,q3⟩
   simp only [lgA,lgZ,lgS]
   go_simp
  simp only [lgA,lgZ,lgS,Act.put,lsA,lsZ,lsS]
  refine wpAnyG.tT 7 (v:=.pointer (some ⟨R,0,none⟩)) (by decide) 13 (by as_aux_lemma=>kernel_rfl) (by rfl) ?y7 (HBX _ hc0) ?_
  case y7 =>
   rintro w' ⟨q0,q1,q2,q3⟩
   simp only [lgA,lgZ,lgS]
   go_simp
  simp only [lgA,lgZ,lgS,Act.put,lsA,lsZ,lsS]
  refine wpAnyG.tT 8 (v:=.pointer (some ⟨R,2,none⟩)) (by decide) 13 (by as_aux_lemma=>kernel_rfl) (by rfl) ?y8 (HBX _ hc0) ?_
  case y8 =>
   rintro w' ⟨q0,q1,q2,q3⟩
   simp only [lgA,lgZ,lgS]
   go_simp
  simp only [lgA,lgZ,lgS,Act.put,lsA,lsZ,lsS]
  refine wpAnyG.tT 9 (v:=.agg #[.bool f0,.slice c0 n0 k0,.slice d0 m0 l0]) (by decide) 13 (by as_aux_lemma=>kernel_rfl) (by rfl) ?y9 (HBX _ hc0) ?_
  case y9 =>
   rintro w' ⟨q0,q1,q2,q3⟩
   simp only [lgA,lgZ,lgS]
   go_simp
  simp only [lgA,lgZ,lgS,Act.put,lsA,lsZ,lsS]
  refine wpAnyG.two 5 12 (by as_aux_lemma=>kernel_rfl) (by decide) (by decide) (by rfl) (by rfl) (fun K hK=>?_) (fun K hK=>?_)
  ·simp only [lgA,lgZ,lgS]
   go_simp
   refine (xE z0 (hr.below (aF hbU hc0)) (hq.below (aF hbU hc0)) HINC.out hn (by omega) hS7 hS1 (hT.below (aF hbU hc0))).mono ?_
   rintro e z1 ⟨gC,rfl,RX0,hk⟩
   have hgC0:=RX0.lt
   have RC1:=RX0.rl hn
   have hc1:=aF hc0 hk
   clear RX0
   dsimp only
   refine hK _ _ ⟨fun _=>HBX _ hc1,fun _=>trivial⟩ ?_
   clear hK K hk
   refine wpAnyG.two 10 12 (by as_aux_lemma=>kernel_rfl) (by decide) (by decide) (by rfl) (by rfl) (fun K hK=>?_) (fun K hK=>?_)
   ·simp only [lgA,lgZ,lgS]
    go_simp
    refine (lF z1 (hk0.below (aF hbU hc1)).tr hS7 hS1 (hT.below (aF hbU hc1))).mono ?_
    rintro e z2 ⟨fK,cK,nK,kK,dK,mK,lK,rfl,GK2,hk⟩
    replace GK2:=GK2.mono (B':=0) (Nat.zero_le _)
    have hc2:=aF hc1 hk
    have hgC1:=hk.size
    have RC2:=RC1.below hk
    dsimp only
    refine hK _ _ ⟨fun _=>HBX _ hc2,fun _=>trivial⟩ ?_
    clear hK K hk
    refine wpAnyG.tT 11 (v:=.agg #[.slice none 0 0,.slice none 0 0,.slice (some ⟨gC,0,none⟩) n n,.bool fK,.slice cK nK kK,.slice dK mK lK]) (by decide) 13 (by as_aux_lemma=>kernel_rfl) (by rfl) ?y11 (HBX _ hc2) ?_
    case y11 =>
     rintro w' ⟨q0,q1,q2,q3⟩
     simp only [lgA,lgZ,lgS]
     go_simp
    simp only [lgA,lgZ,lgS,Act.put,lsA,lsZ,lsS]
    refine wpAnyG.one 12 (by as_aux_lemma=>kernel_rfl) (by decide) (by rfl) (fun K hK=>?_)
    simp only [lgA,lgZ,lgS]
    go_simp
    have hx:=aI z2 (.cells #[.slice none 0 0,.slice none 0 0,.slice none 0 0,.bool false,.slice none 0 0,.slice none 0 0] 39)
    have AB3:=Rw.new 39 z2 #[.slice none 0 0,.slice none 0 0,.slice none 0 0,.bool false,.slice none 0 0,.slice none 0 0]
    have hc3:=aF hc2 hx
    have hab:U.heap.size≤z2.heap.size:=hc2.size
    have hab1:=hx.size
    have RC3:=RC2.below hx
    have GK3:=GK2.below hx
    refine hK _ _ ⟨fun _=>HBX _ hc3,fun _=>trivial⟩ ?_
    clear hK K hx
    generalize z2.alloc (.cells #[.slice none 0 0,.slice none 0 0,.slice none 0 0,.bool false,.slice none 0 0,.slice none 0 0] 39)=z3 at *
    refine wpAnyG.one 13 (by as_aux_lemma=>kernel_rfl) (by decide) (by rfl) (fun K hK=>?_)
    simp only [lgA,lgZ,lgS]
    refine wp_store_row 39 _ _ rfl (z2.heap.size) #[.slice none 0 0,.slice none 0 0,.slice (some ⟨gC,0,none⟩) n n,.bool fK,.slice cK nK kK,.slice dK mK lK] rfl rfl 39 _ AB3 stdI rfl (by simp [Value.oneCell']) ?_
    obtain ⟨AB4,O⟩:=AB3.row #[.slice none 0 0,.slice none 0 0,.slice (some ⟨gC,0,none⟩) n n,.bool fK,.slice cK nK kK,.slice dK mK lK]
    have hc4:=hc3.trans (O.below hab)
    have KO:=(Kx.refl (z2.heap.size) 0 [39] z3).off AB3 (by simp) O
    have RC4:=RC3.kx KO (by decide) (by decide)
    have GK4:=GK3.kx KO (by decide)
    have hgC:gC<(z3.setRow (z2.heap.size) #[.slice none 0 0,.slice none 0 0,.slice (some ⟨gC,0,none⟩) n n,.bool fK,.slice cK nK kK,.slice dK mK lK]).heap.size:=by
     have:=O.size
     have:=RC3.at0
     omega
    refine hK _ _ ⟨fun h=>absurd h (by decide),fun _=>trivial⟩ ?_
    clear hK K
    generalize z3.setRow (z2.heap.size) #[.slice none 0 0,.slice none 0 0,.slice (some ⟨gC,0,none⟩) n n,.bool fK,.slice cK nK kK,.slice dK mK lK]=z4 at *
    refine wpAnyG.done (by as_aux_lemma=>kernel_rfl) (NoPanic.normal ?_)
    exact ⟨rfl,_,_,_,_,_,_,_,_,_,_,_,_,z2.heap.size,gC,fK,cK,nK,kK,dK,mK,lK,rfl,AB4,RC4,GK4,hab,hgC,hc4⟩
   ·simp only [lgA,lgZ,lgS]
    go_simp
    have hx:=aI z1 (.cells #[.slice none 0 0,.slice none 0 0,.slice none 0 0,.bool false,.slice none 0 0,.slice none 0 0] 39)
    have AB2:=Rw.new 39 z1 #[.slice none 0 0,.slice none 0 0,.slice none 0 0,.bool false,.slice none 0 0,.slice none 0 0]
    have hc2:=aF hc1 hx
    have hab:U.heap.size≤z1.heap.size:=hc1.size
    have hab1:=hx.size
    have RC2:=RC1.below hx
    refine hK _ _ ⟨fun _=>HBX _ hc2,fun _=>trivial⟩ ?_
    clear hK K hx
    generalize z1.alloc (.cells #[.slice none 0 0,.slice none 0 0,.slice none 0 0,.bool false,.slice none 0 0,.slice none 0 0] 39)=z2 at *
    refine wpAnyG.one 10 (by as_aux_lemma=>kernel_rfl) (by decide) (by rfl) (fun K hK=>?_)
    simp only [lgA,lgZ,lgS]
    go_simp
    refine (lF z2 (hk0.below (aF hbU hc2)).tr hS7 hS1 (hT.below (aF hbU hc2))).mono ?_
    rintro e z3 ⟨fK,cK,nK,kK,dK,mK,lK,rfl,GK3,hk⟩
    replace GK3:=GK3.mono (B':=0) (Nat.zero_le _)
    have hc3:=aF hc2 hk
    have hgC1:=hk.size
    have RC3:=RC2.below hk
    have AB3:=AB2.below hk
    dsimp only
    refine hK _ _ ⟨fun _=>HBX _ hc3,fun _=>trivial⟩ ?_
    clear hK K hk
    refine wpAnyG.tT 11 (v:=.agg #[.slice none 0 0,.slice none 0 0,.slice (some ⟨gC,0,none⟩) n n,.bool fK,.slice cK nK kK,.slice dK mK lK]) (by decide) 13 (by as_aux_lemma=>kernel_rfl) (by rfl) ?y11 (HBX _ hc3) ?_
    case y11 =>
     rintro w' ⟨q0,q1,q2,q3⟩
     simp only [lgA,lgZ,lgS]
     go_simp
    simp only [lgA,lgZ,lgS,Act.put,lsA,lsZ,lsS]
    refine wpAnyG.one 13 (by as_aux_lemma=>kernel_rfl) (by decide) (by rfl) (fun K hK=>?_)
    simp only [lgA,lgZ,lgS]
    refine wp_store_row 39 _ _ rfl (z1.heap.size) #[.slice none 0 0,.slice none 0 0,.slice (some ⟨gC,0,none⟩) n n,.bool fK,.slice cK nK kK,.slice dK mK lK] rfl rfl 39 _ AB3 stdI rfl (by simp [Value.oneCell']) ?_
    obtain ⟨AB4,O⟩:=AB3.row #[.slice none 0 0,.slice none 0 0,.slice (some ⟨gC,0,none⟩) n n,.bool fK,.slice cK nK kK,.slice dK mK lK]
    have hc4:=hc3.trans (O.below hab)
    have KO:=(Kx.refl (z1.heap.size) 0 [39] z3).off AB3 (by simp) O
    have RC4:=RC3.kx KO (by decide) (by decide)
    have GK4:=GK3.kx KO (by decide)
    have hgC:gC<(z3.setRow (z1.heap.size) #[.slice none 0 0,.slice none 0 0,.slice (some ⟨gC,0,none⟩) n n,.bool fK,.slice cK nK kK,.slice dK mK lK]).heap.size:=by
     have:=O.size
     have:=RC3.at0
     omega
    refine hK _ _ ⟨fun h=>absurd h (by decide),fun _=>trivial⟩ ?_
    clear hK K
    generalize z3.setRow (z1.heap.size) #[.slice none 0 0,.slice none 0 0,.slice (some ⟨gC,0,none⟩) n n,.bool fK,.slice cK nK kK,.slice dK mK lK]=z4 at *
    refine wpAnyG.done (by as_aux_lemma=>kernel_rfl) (NoPanic.normal ?_)
    exact ⟨rfl,_,_,_,_,_,_,_,_,_,_,_,_,z1.heap.size,gC,fK,cK,nK,kK,dK,mK,lK,rfl,AB4,RC4,GK4,hab,hgC,hc4⟩
  ·simp only [lgA,lgZ,lgS]
   go_simp
   have hx:=aI z0 (.cells #[.slice none 0 0,.slice none 0 0,.slice none 0 0,.bool false,.slice none 0 0,.slice none 0 0] 39)
   have AB1:=Rw.new 39 z0 #[.slice none 0 0,.slice none 0 0,.slice none 0 0,.bool false,.slice none 0 0,.slice none 0 0]
   have hc1:=aF hc0 hx
   have hab:U.heap.size≤z0.heap.size:=hc0.size
   have hab1:=hx.size
   refine hK _ _ ⟨fun _=>HBX _ hc1,fun _=>trivial⟩ ?_
   clear hK K hx
   generalize z0.alloc (.cells #[.slice none 0 0,.slice none 0 0,.slice none 0 0,.bool false,.slice none 0 0,.slice none 0 0] 39)=z1 at *
   refine wpAnyG.one 5 (by as_aux_lemma=>kernel_rfl) (by decide) (by rfl) (fun K hK=>?_)
   simp only [lgA,lgZ,lgS]
   go_simp
   refine (xE z1 (hr.below (aF hbU hc1)) (hq.below (aF hbU hc1)) HINC.out hn (by omega) hS7 hS1 (hT.below (aF hbU hc1))).mono ?_
   rintro e z2 ⟨gC,rfl,RX0,hk⟩
   have hgC0:=RX0.lt
   have RC2:=RX0.rl hn
   have hc2:=aF hc1 hk
   clear RX0
   have AB2:=AB1.below hk
   dsimp only
   refine hK _ _ ⟨fun _=>HBX _ hc2,fun _=>trivial⟩ ?_
   clear hK K hk
   refine wpAnyG.one 10 (by as_aux_lemma=>kernel_rfl) (by decide) (by rfl) (fun K hK=>?_)
   simp only [lgA,lgZ,lgS]
   go_simp
   refine (lF z2 (hk0.below (aF hbU hc2)).tr hS7 hS1 (hT.below (aF hbU hc2))).mono ?_
   rintro e z3 ⟨fK,cK,nK,kK,dK,mK,lK,rfl,GK3,hk⟩
   replace GK3:=GK3.mono (B':=0) (Nat.zero_le _)
   have hc3:=aF hc2 hk
   have hgC1:=hk.size
   have AB3:=AB2.below hk
   have RC3:=RC2.below hk
   dsimp only
   refine hK _ _ ⟨fun _=>HBX _ hc3,fun _=>trivial⟩ ?_
   clear hK K hk
   refine wpAnyG.tT 11 (v:=.agg #[.slice none 0 0,.slice none 0 0,.slice (some ⟨gC,0,none⟩) n n,.bool fK,.slice cK nK kK,.slice dK mK lK]) (by decide) 13 (by as_aux_lemma=>kernel_rfl) (by rfl) ?y11 (HBX _ hc3) ?_
   case y11 =>
    rintro w' ⟨q0,q1,q2,q3⟩
    simp only [lgA,lgZ,lgS]
    go_simp
   simp only [lgA,lgZ,lgS,Act.put,lsA,lsZ,lsS]
   refine wpAnyG.one 13 (by as_aux_lemma=>kernel_rfl) (by decide) (by rfl) (fun K hK=>?_)
   simp only [lgA,lgZ,lgS]
   refine wp_store_row 39 _ _ rfl (z0.heap.size) #[.slice none 0 0,.slice none 0 0,.slice (some ⟨gC,0,none⟩) n n,.bool fK,.slice cK nK kK,.slice dK mK lK] rfl rfl 39 _ AB3 stdI rfl (by simp [Value.oneCell']) ?_
   obtain ⟨AB4,O⟩:=AB3.row #[.slice none 0 0,.slice none 0 0,.slice (some ⟨gC,0,none⟩) n n,.bool fK,.slice cK nK kK,.slice dK mK lK]
   have hc4:=hc3.trans (O.below hab)
   have KO:=(Kx.refl (z0.heap.size) 0 [39] z3).off AB3 (by simp) O
   have RC4:=RC3.kx KO (by decide) (by decide)
   have GK4:=GK3.kx KO (by decide)
   have hgC:gC<(z3.setRow (z0.heap.size) #[.slice none 0 0,.slice none 0 0,.slice (some ⟨gC,0,none⟩) n n,.bool fK,.slice cK nK kK,.slice dK mK lK]).heap.size:=by
    have:=O.size
    have:=RC3.at0
    omega
   refine hK _ _ ⟨fun h=>absurd h (by decide),fun _=>trivial⟩ ?_
   clear hK K
   generalize z3.setRow (z0.heap.size) #[.slice none 0 0,.slice none 0 0,.slice (some ⟨gC,0,none⟩) n n,.bool fK,.slice cK nK kK,.slice dK mK lK]=z4 at *
   refine wpAnyG.done (by as_aux_lemma=>kernel_rfl) (NoPanic.normal ?_)
   exact ⟨rfl,_,_,_,_,_,_,_,_,_,_,_,_,z0.heap.size,gC,fK,cK,nK,kK,dK,mK,lK,rfl,AB4,RC4,GK4,hab,hgC,hc4⟩
 ·rintro a' w1 ⟨u1,u2,u3,u4,u5,u6,u7,u8,u9,u10,u11,u12,b,gC,fK,cK,nK,kK,dK,mK,lK,rfl,RS1,RC1,GK1,hb1,hgC1,hU1⟩
  have hbw1:=aF hbU hU1
  have hb1':w.heap.size≤b:=by omega
  have R01:=R0.below hU1
  have hr1:=hr.below hbw1
  have y5:=(hr1.cell 5).trans (show _=some (.slice ea em ec) from rfl)
  clear HBX R0 hU1
  go_wp2_with fail
  clear y5
  have hesE:em≤100000000:=by rw [HEM.out];exact hes
  go_loopw [23] (fun s wr=>∃ (i:Nat) (aA:Option Addr) (cA:Nat) (aB:Option Addr) (cB:Nat),i≤es.length∧s = .int .i64 i∧Rw 39 wr b #[.slice aA i cA,.slice aB i cB,.slice (some ⟨gC,0,none⟩) n n,.bool fK,.slice cK nK kK,.slice dK mK lK]∧AL wr w.heap.size (.slice aA i cA) (es.take i) n S (.slice aB i cB:Value).ownBlock∧RM wr w.heap.size (.slice aB i cB) i (fun q=>(es.getD q ⟨[],0⟩).r) S∧(.slice aB i cB:Value).ownBlock≠some gC∧RL wr 0 (.slice (some ⟨gC,0,none⟩) n n) n (bV cl) S∧GR wr 0 fK cK nK kK dK mK lK rK S∧Below w.heap.size w wr∧Rw 39 wr w.heap.size #[.slice none 0 0,.slice none 0 0,.slice none 0 0,.bool false,.slice none 0 0,.slice none 0 0]) (fun t _=>es.length-(intOf t).toNat)
  case atStart=>exact ⟨0,none,0,none,0,Nat.zero_le _,rfl,RS1,⟨fun _=>[],SL.nil _ _ _ _ _,fun i e h=>by simp at h⟩,⟨fun _=>[],SL.nil _ _ _ _ _,fun i hi=>by omega⟩,by simp [Value.ownBlock],RC1,GK1,hbw1,R01⟩
  case round =>
   clear RS1 RC1 GK1 hbw1 R01 hr1
   obtain ⟨i,aA,cA,aB,cB,hi,rfl,RW,ALi,BLi,hgB,RCi,GKi,hbr,R0r⟩:=hrel
   have HAi:Hid (i=(es.take i).length):=ALi.len
   by_cases hlt:i<es.length
   ·have hkI:(i:Int)<(em:Int):=by rw [HEM.out];omega
    have hkI4:(i:Int)*4=((i*4:Nat):Int):=by omega
    have hei:es[i]? = some (es.getD i ⟨[],0⟩):=by rw [List.getD_eq_getElem?_getD,List.getElem?_eq_getElem hlt];rfl
    have hmem:=List.mem_of_getElem? hei
    obtain ⟨EE,SLE,hEE⟩:=hE
    rcases SLE.cell with h0|⟨eg,hea,hcell⟩
    ·omega
    obtain ⟨tv,p,a,na,ca,d,nd,cd,e1,TMw,GRw⟩:=hEE i _ hei
    obtain ⟨ta,tc,rfl,_⟩:=TMw.form
    obtain ⟨tm,htm0⟩:∃ tm,tm=(es.getD i ⟨[],0⟩).l.length:=⟨_,rfl⟩
    rw [← htm0] at TMw e1
    have htm:tm≤100000000:=by rw [htm0];exact HEL.out _ hmem
    clear htm0
    have hk:=hcell i hlt
    rw [e1] at hk
    have r0:=aG hbr (hk 0 _ rfl);have r1:=aG hbr (hk 1 _ rfl);have r2:=aG hbr (hk 2 _ rfl);have r3:=aG hbr (hk 3 _ rfl)
    rw [Nat.add_zero] at r0
    have hea':ea=some ⟨eg,0,none⟩:=hea
    clear hea hk hcell e1
    have hz:=aI wr (.cells #[.slice ta tm tc,.bool p,.slice a na ca,.slice d nd cd] 74)
    have hsW:(wr.alloc (.cells #[.slice ta tm tc,.bool p,.slice a na ca,.slice d nd cd] 74)).heap.size=wr.heap.size+1:=by simp
    have hsw:=hbr.size
    have RU:=RW.below hz
    have EBU:=Rw.new 74 wr #[.slice ta tm tc,.bool p,.slice a na ca,.slice d nd cd]
    have TMe:=(TMw.below hbr).below hz
    have ALU:=ALi.kx (dU (R:=0) (F:=0) (L:=[]) hz (Nat.zero_le _)) (by simp) (by simp) (by simp)
    have BLU:=BLi.kx (dU (R:=0) (F:=0) (L:=[]) hz (Nat.zero_le _)) (by simp) (by simp)
    have RCU:=RCi.below hz
    have GKU:=GKi.below hz
    have GRU:=(GRw.below hbr).below hz
    have hbW2:=aF hbr hz
    have R0U:=R0r.below hz
    have hbn:(.slice aB i cB:Value).ownBlock≠some wr.heap.size:=fun e=>by
     obtain ⟨_,h1,_⟩:=BLi
     have:=(h1.lt _ e).2
     omega
    have hbl:∀ k,(.slice aB i cB:Value).ownBlock=some k→k<wr.heap.size:=fun k e=>by
     obtain ⟨_,h1,_⟩:=BLi
     exact (h1.lt _ e).2
    go_wp2_with fail
    clear r0 r1 r2 r3 hz RW ALi BLi RCi GKi R0r TMw GRw
    generalize wr.alloc (.cells #[.slice ta tm tc,.bool p,.slice a na ca,.slice d nd cd] 74)=W2 at *
    have HBX:∀ w',Below W2.heap.size W2 w'→(w'.cell? ⟨b,0,none⟩=some (.slice aA i cA)∧w'.cell? ⟨wr.heap.size,0,none⟩=some (.slice ta tm tc)):=fun w' h=>⟨((RU.below h).cell 0).trans rfl,((EBU.below h).cell 0).trans rfl⟩
    refine wp_region_noPanic (aS 8 HBX (by as_aux_lemma=>kernel_rfl) ?_)
    have hc0:Below W2.heap.size W2 W2.drew:=aK _
    generalize W2.drew=z0 at *
    refine wpAnyG.tT 0 (v:=.pointer (some ⟨b,0,none⟩)) (by decide) 8 (by as_aux_lemma=>kernel_rfl) (by rfl) ?y0 (HBX _ hc0) ?_
    case y0 =>
     rintro w' ⟨q0,q1⟩
     simp only [lgA,lgZ]
     go_simp
    simp only [lgA,lgZ,Act.put,lsA,lsZ,lsS]
    refine wpAnyG.tT 1 (v:=.slice aA i cA) (by decide) 8 (by as_aux_lemma=>kernel_rfl) (by rfl) ?y1 (HBX _ hc0) ?_
    case y1 =>
     rintro w' ⟨q0,q1⟩
     simp only [lgA,lgZ,lgS]
     go_simp
    simp only [lgA,lgZ,lgS,Act.put,lsA,lsZ,lsS]
    refine wpAnyG.tT 2 (v:=.pointer (some ⟨R,0,none⟩)) (by decide) 8 (by as_aux_lemma=>kernel_rfl) (by rfl) ?y2 (HBX _ hc0) ?_
    case y2 =>
     rintro w' ⟨q0,q1⟩
     simp only [lgA,lgZ,lgS]
     go_simp
    simp only [lgA,lgZ,lgS,Act.put,lsA,lsZ,lsS]
    refine wpAnyG.tT 3 (v:=.pointer (some ⟨wr.heap.size,0,none⟩)) (by decide) 8 (by as_aux_lemma=>kernel_rfl) (by rfl) ?y3 (HBX _ hc0) ?_
    case y3 =>
     rintro w' ⟨q0,q1⟩
     simp only [lgA,lgZ,lgS]
     go_simp
    simp only [lgA,lgZ,lgS,Act.put,lsA,lsZ,lsS]
    refine wpAnyG.tT 4 (v:=.slice ta tm tc) (by decide) 8 (by as_aux_lemma=>kernel_rfl) (by rfl) ?y4 (HBX _ hc0) ?_
    case y4 =>
     rintro w' ⟨q0,q1⟩
     simp only [lgA,lgZ,lgS]
     go_simp
    simp only [lgA,lgZ,lgS,Act.put,lsA,lsZ,lsS]
    refine wpAnyG.one 5 (by as_aux_lemma=>kernel_rfl) (by decide) (by rfl) (fun K hK=>?_)
    simp only [lgA,lgZ,lgS]
    go_simp
    refine (xE z0 (hr.below (aF hbW2 hc0)) (TMe.below hc0) (HIN.out _ hmem) hn htm hS7 hS1 (hT.below (aF hbW2 hc0))).mono ?_
    rintro e z1 ⟨gR,rfl,RX0,hk1⟩
    have hc1:Below W2.heap.size W2 z1:=aF hc0 hk1
    dsimp only
    refine hK _ _ ⟨fun _=>HBX _ hc1,fun _=>trivial⟩ ?_
    clear hK K
    refine wpAnyG.one 6 (by as_aux_lemma=>kernel_rfl) (by decide) (by rfl) (fun K hK=>?_)
    simp only [lgA,lgZ,lgS]
    go_simp
    have hy:Below W2.heap.size W2 (z1.alloc (.cells #[.slice (some ⟨gR,0,none⟩) n n] 32)):=fB hc1
    have BX:=aQ z1 #[.slice (some ⟨gR,0,none⟩) n n] 32
    have RR:=(RX0.rl hn).below (aI z1 (.cells #[.slice (some ⟨gR,0,none⟩) n n] 32))
    have hgRl:=RX0.lt
    have hgRo:=RX0.lo
    have hz0s:=hc0.size
    have hs4:(z1.alloc (.cells #[.slice (some ⟨gR,0,none⟩) n n] 32)).heap.size=z1.heap.size+1:=by simp
    generalize z1.alloc (.cells #[.slice (some ⟨gR,0,none⟩) n n] 32)=z5 at *
    refine hK _ _ ⟨fun _=>HBX _ hy,fun _=>trivial⟩ ?_
    clear hK K
    refine wpAnyG.one 7 (by as_aux_lemma=>kernel_rfl) (by decide) (by rfl) (fun K hK=>?_)
    simp only [lgA,lgZ,lgS]
    obtain ⟨EA,SLA,hAL⟩:=ALU
    rw [← HAi.out] at SLA
    have SLZ:=SLA.below hy
    have RZ:=RU.below hy
    have hsy:=hy.size
    refine dM z5 _ _ 37 32 1 24 rfl Tryz.underlying37 infLR (by decide) (by decide) w.heap.size (.slice aA i cA) i EA rfl SLZ z1.heap.size 1 rfl [.slice (some ⟨gR,0,none⟩) n n] rfl (fun u hu=>by simp at hu;rw [hu];rfl) BX (by omega) (by omega) _ rfl ?_
    intro g6 cap6 w6 SN hg hat hgl
    have hne:(.slice aA i cA:Value).ownBlock≠some b:=SLZ.neR RZ (by decide)
    have RZ6:=RZ.kept hg hne
    have KG:=(Kx.refl b w.heap.size [32] z5).grown SLZ (by simp) (Nat.le_refl _) (by omega) hg
    have e0:=(RZ6.cell 0).trans (show _=some (.slice aA i cA) from rfl)
    have e1:=RZ6.frozen 0
    have EB6:=(EBU.below hy).kxh KG (by decide)
    refine hK _ _ ⟨fun _=>⟨e0,(EB6.cell 0).trans rfl⟩,fun _=>trivial⟩ ?_
    clear hK K
    refine wpAnyG.one 8 (by as_aux_lemma=>kernel_rfl) (by decide) (by rfl) (fun K hK=>?_)
    simp only [lgA,lgZ,lgS]
    go_simp
    refine hK _ _ ⟨fun h=>absurd h (by decide),fun _=>trivial⟩ ?_
    clear hK K
    refine wpAnyG.one 9 (by as_aux_lemma=>kernel_rfl) (by decide) (by rfl) (fun K hK=>?_)
    simp only [lgA,lgZ,lgS]
    go_simp
    refine hK _ _ ⟨fun h=>absurd h (by decide),fun _=>trivial⟩ ?_
    clear hK K
    refine wpAnyG.done (by as_aux_lemma=>kernel_rfl) (NoPanic.normal ?_)
    obtain ⟨RN,ON⟩:=RZ6.set 0 (.slice (some ⟨g6,0,none⟩) (i+1) cap6)
    replace RN:Rw 39 (w6.setCell ⟨b,0,none⟩ (.slice (some ⟨g6,0,none⟩) (i+1) cap6)) b #[.slice (some ⟨g6,0,none⟩) (i+1) cap6,.slice aB i cB,.slice (some ⟨gC,0,none⟩) n n,.bool fK,.slice cK nK kK,.slice dK mK lK]:=by simpa using RN
    have KO:=(Kx.refl b w.heap.size [39] w6).off RZ6 (by simp) ON
    have KY:Kx b w.heap.size [39,32] W2 (w6.setCell ⟨b,0,none⟩ (.slice (some ⟨g6,0,none⟩) (i+1) cap6)):=((dU (R:=b) (F:=w.heap.size) (L:=[39,32]) hy (by omega)).trans (KG.up (by simp))).trans (KO.up (by simp))
    have K5:Kx b w.heap.size [39,32] z5 (w6.setCell ⟨b,0,none⟩ (.slice (some ⟨g6,0,none⟩) (i+1) cap6)):=(KG.up (by simp)).trans (KO.up (by simp))
    have ALN:AL (w6.setCell ⟨b,0,none⟩ (.slice (some ⟨g6,0,none⟩) (i+1) cap6)) w.heap.size (.slice (some ⟨g6,0,none⟩) (i+1) cap6) (es.take (i+1)) n S (.slice aB i cB:Value).ownBlock:=by
     have et:es.take (i+1)=es.take i++[es.getD i ⟨[],0⟩]:=by rw [List.take_add_one,hei];rfl
     rw [et]
     refine ⟨_,by rw [List.length_append,← HAi.out];exact SN.kxh KO (by decide),fun q e hqe=>?_⟩
     by_cases hq2:q<i
     ·rw [List.getElem?_append_left (by rw [← HAi.out];exact hq2)] at hqe
      simp only [hq2,if_true]
      obtain ⟨g,x1,x2,x3⟩:=hAL q e hqe
      exact ⟨g,x1,x2,x3.kx KY (by decide) (by decide)⟩
     ·rw [List.getElem?_append_right (by rw [← HAi.out];omega)] at hqe
      have:=(List.getElem?_eq_some_iff.1 hqe).1
      have e00:q-(es.take i).length=0:=by simp at this ⊢;omega
      rw [e00] at hqe
      simp at hqe
      subst hqe
      simp only [hq2,if_false]
      exact ⟨gR,rfl,fun e=>by have:=hbl _ e;omega,by rw [List.getD_eq_getElem?_getD] at RR;exact RR.kx K5 (by decide) (by decide)⟩
    have BLN:=BLU.kx KY (by decide) (by decide)
    have RCN:=RCU.kx KY (by decide) (by decide)
    have GKN:=GKU.kx KY (by decide)
    have GRe:=GRU.kx KY (by decide)
    have EB7:=EBU.kxh KY (by decide)
    have R07:Rw 39 (w6.setCell ⟨b,0,none⟩ (.slice (some ⟨g6,0,none⟩) (i+1) cap6)) w.heap.size #[.slice none 0 0,.slice none 0 0,.slice none 0 0,.bool false,.slice none 0 0,.slice none 0 0]:=(((R0U.below hy).kxh KG (by decide)).off ON (by omega))
    have hbn7:Below w.heap.size w (w6.setCell ⟨b,0,none⟩ (.slice (some ⟨g6,0,none⟩) (i+1) cap6)):=hbW2.trans ⟨KY.os,KY.tape,KY.output,KY.size,fun k hk=>KY.low k hk (by omega)⟩
    have hT7:=hT.below hbn7
    have hsN:w6.heap.size=(w6.setCell ⟨b,0,none⟩ (.slice (some ⟨g6,0,none⟩) (i+1) cap6)).heap.size:=ON.size.symm
    have hs6:=hg.size
    clear HBX hc0 hc1 hk1 hy BX RR SLA SLZ RZ SN hg hat hgl hne RZ6 KG e0 e1 EB6 hAL ON KO KY K5 RU EBU TMe BLU RCU GKU GRU hbW2 R0U RX0
    go_wp2_with fail
    generalize w6.setCell ⟨b,0,none⟩ (.slice (some ⟨g6,0,none⟩) (i+1) cap6)=W7 at *
    have HBX:∀ w',Below W7.heap.size W7 w'→(w'.cell? ⟨b,1,none⟩=some (.slice aB i cB)∧w'.cell? ⟨wr.heap.size,1,none⟩=some (.bool p)∧w'.cell? ⟨wr.heap.size,2,none⟩=some (.slice a na ca)∧w'.cell? ⟨wr.heap.size,3,none⟩=some (.slice d nd cd)):=fun w' h=>⟨((RN.below h).cell 1).trans rfl,((EB7.below h).cell 1).trans rfl,((EB7.below h).cell 2).trans rfl,((EB7.below h).cell 3).trans rfl⟩
    refine wp_region_noPanic (aS 7 HBX (by as_aux_lemma=>kernel_rfl) ?_)
    have hc0:Below W7.heap.size W7 W7.drew:=aK _
    generalize W7.drew=z0 at *
    refine wpAnyG.tT 0 (v:=.pointer (some ⟨b,1,none⟩)) (by decide) 7 (by as_aux_lemma=>kernel_rfl) (by rfl) ?y0 (HBX _ hc0) ?_
    case y0 =>
     rintro w' ⟨q0,q1,q2,q3⟩
     simp only [lgA,lgZ]
     go_simp
    simp only [lgA,lgZ,Act.put,lsA,lsZ,lsS]
    refine wpAnyG.tT 1 (v:=.slice aB i cB) (by decide) 7 (by as_aux_lemma=>kernel_rfl) (by rfl) ?y1 (HBX _ hc0) ?_
    case y1 =>
     rintro w' ⟨q0,q1,q2,q3⟩
     simp only [lgA,lgZ,lgS]
     go_simp
    simp only [lgA,lgZ,lgS,Act.put,lsA,lsZ,lsS]
    refine wpAnyG.tT 2 (v:=.pointer (some ⟨wr.heap.size,1,none⟩)) (by decide) 7 (by as_aux_lemma=>kernel_rfl) (by rfl) ?y2 (HBX _ hc0) ?_
    case y2 =>
     rintro w' ⟨q0,q1,q2,q3⟩
     simp only [lgA,lgZ,lgS]
     go_simp
    simp only [lgA,lgZ,lgS,Act.put,lsA,lsZ,lsS]
    refine wpAnyG.tT 3 (v:=.agg #[.bool p,.slice a na ca,.slice d nd cd]) (by decide) 7 (by as_aux_lemma=>kernel_rfl) (by rfl) ?y3 (HBX _ hc0) ?_
    case y3 =>
     rintro w' ⟨q0,q1,q2,q3⟩
     simp only [lgA,lgZ,lgS]
     go_simp
    simp only [lgA,lgZ,lgS,Act.put,lsA,lsZ,lsS]
    refine wpAnyG.one 4 (by as_aux_lemma=>kernel_rfl) (by decide) (by rfl) (fun K hK=>?_)
    simp only [lgA,lgZ,lgS]
    go_simp
    refine (lF z0 (GRe.tr.below hc0) hS7 hS1 (hT7.below hc0)).mono ?_
    rintro e z1 ⟨f9,c9,n9,k9,d9,m9,l9,rfl,G9,hk1⟩
    have hc1:Below W7.heap.size W7 z1:=aF hc0 hk1
    dsimp only
    refine hK _ _ ⟨fun _=>HBX _ hc1,fun _=>trivial⟩ ?_
    clear hK K
    refine wpAnyG.one 5 (by as_aux_lemma=>kernel_rfl) (by decide) (by rfl) (fun K hK=>?_)
    simp only [lgA,lgZ,lgS]
    go_simp
    have hy:Below W7.heap.size W7 (z1.alloc (.cells #[.bool f9,.slice c9 n9 k9,.slice d9 m9 l9] 27)):=fB hc1
    have BX:=aQ z1 #[.bool f9,.slice c9 n9 k9,.slice d9 m9 l9] 27
    have G9z:=(G9.mono (B':=0) (Nat.zero_le _)).below (aI z1 (.cells #[.bool f9,.slice c9 n9 k9,.slice d9 m9 l9] 27))
    have hs4:(z1.alloc (.cells #[.bool f9,.slice c9 n9 k9,.slice d9 m9 l9] 27)).heap.size=z1.heap.size+1:=by simp
    generalize z1.alloc (.cells #[.bool f9,.slice c9 n9 k9,.slice d9 m9 l9] 27)=z5 at *
    refine hK _ _ ⟨fun _=>HBX _ hy,fun _=>trivial⟩ ?_
    clear hK K
    refine wpAnyG.one 6 (by as_aux_lemma=>kernel_rfl) (by decide) (by rfl) (fun K hK=>?_)
    simp only [lgA,lgZ,lgS]
    obtain ⟨EBl,SLB,hBL⟩:=BLN
    have SLZ:=SLB.below hy
    have RZ:=RN.below hy
    have hsy:=hy.size
    refine dM z5 _ _ 32 27 3 56 rfl Tryz.underlying32 infR3 (by decide) (by decide) w.heap.size (.slice aB i cB) i EBl rfl SLZ z1.heap.size 1 rfl [.bool f9,.slice c9 n9 k9,.slice d9 m9 l9] rfl (fun u hu=>by simp at hu;rcases hu with rfl|rfl|rfl <;> rfl) BX (by omega) (by omega) _ rfl ?_
    intro g8 cap8 w8 SN hg hat hgl
    have hne:(.slice aB i cB:Value).ownBlock≠some b:=SLZ.neR RZ (by decide)
    have RZ8:=RZ.kept hg hne
    have hNW:=SLZ.noW (by decide)
    have e0:=(RZ8.cell 1).trans (show _=some (.slice aB i cB) from rfl)
    have e1:=RZ8.frozen 1
    have EB8:=(EB7.below hy).kept hg (SLZ.neR (EB7.below hy) (by decide))
    refine hK _ _ ⟨fun _=>⟨e0,(EB8.cell 1).trans rfl,(EB8.cell 2).trans rfl,(EB8.cell 3).trans rfl⟩,fun _=>trivial⟩ ?_
    clear hK K
    refine wpAnyG.one 7 (by as_aux_lemma=>kernel_rfl) (by decide) (by rfl) (fun K hK=>?_)
    simp only [lgA,lgZ,lgS]
    go_simp
    refine hK _ _ ⟨fun h=>absurd h (by decide),fun _=>trivial⟩ ?_
    clear hK K
    refine wpAnyG.one 8 (by as_aux_lemma=>kernel_rfl) (by decide) (by rfl) (fun K hK=>?_)
    simp only [lgA,lgZ,lgS]
    go_simp
    refine hK _ _ ⟨fun h=>absurd h (by decide),fun _=>trivial⟩ ?_
    clear hK K
    refine wpAnyG.done (by as_aux_lemma=>kernel_rfl) (NoPanic.normal ?_)
    obtain ⟨RF,OF⟩:=RZ8.set 1 (.slice (some ⟨g8,0,none⟩) (i+1) cap8)
    replace RF:Rw 39 (w8.setCell ⟨b,1,none⟩ (.slice (some ⟨g8,0,none⟩) (i+1) cap8)) b #[.slice (some ⟨g6,0,none⟩) (i+1) cap6,.slice (some ⟨g8,0,none⟩) (i+1) cap8,.slice (some ⟨gC,0,none⟩) n n,.bool fK,.slice cK nK kK,.slice dK mK lK]:=by simpa using RF
    have KO:=(Kx.refl b w.heap.size [39] w8).off RZ8 (by simp) OF
    have hown:∀ k,some k=(.slice (some ⟨g8,0,none⟩) (i+1) cap8:Value).ownBlock→k=g8:=fun k e=>by simpa [Value.ownBlock] using e
    have BLF:RM (w8.setCell ⟨b,1,none⟩ (.slice (some ⟨g8,0,none⟩) (i+1) cap8)) w.heap.size (.slice (some ⟨g8,0,none⟩) (i+1) cap8) (i+1) (fun q=>(es.getD q ⟨[],0⟩).r) S:=by
     refine ⟨_,SN.kxh KO (by decide),fun q hq2=>?_⟩
     by_cases h1:q<i
     ·simp only [h1,if_true]
      obtain ⟨p',a',na',ca',d',nd',cd',x1,x2⟩:=hBL q h1
      exact ⟨p',a',na',ca',d',nd',cd',x1,((x2.below hy).keep hNW hg).kx KO (by decide)⟩
     ·obtain rfl:q=i:=by omega
      simp only [h1,if_false]
      exact ⟨_,_,_,_,_,_,_,rfl,(G9z.keep hNW hg).kx KO (by decide)⟩
    have hcmp:∀ g,(.slice aB i cB:Value).ownBlock≠some g→g<z5.heap.size→(.slice (some ⟨g8,0,none⟩) (i+1) cap8:Value).ownBlock≠some g:=fun g h1 h2 e=>by
     have e2:g8=g:=by simpa [Value.ownBlock] using e
     rcases hat with h3|h3
     ·exact h1 (by rw [h3,e2])
     ·omega
    have ALF:AL (w8.setCell ⟨b,1,none⟩ (.slice (some ⟨g8,0,none⟩) (i+1) cap8)) w.heap.size (.slice (some ⟨g6,0,none⟩) (i+1) cap6) (es.take (i+1)) n S (.slice (some ⟨g8,0,none⟩) (i+1) cap8:Value).ownBlock:=by
     obtain ⟨E,s1,s2⟩:=ALN
     have hsa:=s1.below hy
     refine ⟨E,(hsa.kept hg (fun g e1 e2=>?_)).kxh KO (by decide),fun q e hqe=>?_⟩
     ·obtain ⟨vs,h1,_⟩:=hsa
      obtain ⟨us,h2,_⟩:=SLZ
      exact rD h1 h2 (by decide) g e1 e2
     ·obtain ⟨g,x1,x2,x3⟩:=s2 q e hqe
      have x4:=x3.below hy
      exact ⟨g,x1,hcmp g x2 x4.at0,(x4.keepR hNW (.inl x2) hg).kx KO (by decide) (by decide)⟩
    have RCF:=((RCN.below hy).keepR hNW (.inl hgB) hg).kx KO (by decide) (by decide)
    have GKF:=((GKN.below hy).keep hNW hg).kx KO (by decide)
    have hgF:=hcmp gC hgB (RCN.below hy).at0
    have hbF:Below w.heap.size w (w8.setCell ⟨b,1,none⟩ (.slice (some ⟨g8,0,none⟩) (i+1) cap8)):=(aF hbn7 hy).trans ((grown_below hg (by omega) (fun k e=>(SLZ.lt k e).1)).trans (OF.below (by omega)))
    have R0F:Rw 39 (w8.setCell ⟨b,1,none⟩ (.slice (some ⟨g8,0,none⟩) (i+1) cap8)) w.heap.size #[.slice none 0 0,.slice none 0 0,.slice none 0 0,.bool false,.slice none 0 0,.slice none 0 0]:=(((R07.below hy).kept hg (SLZ.neR (R07.below hy) (by decide))).off OF (by omega))
    clear HBX hc0 hc1 hk1 hy BX G9z SLB SLZ RZ SN hg hat hgl hne RZ8 e0 e1 EB8 hBL OF KO hNW RN ALN RCN GKN GRe EB7 R07 hbn7 hT7 hcmp hown G9
    generalize w8.setCell ⟨b,1,none⟩ (.slice (some ⟨g8,0,none⟩) (i+1) cap8)=W9 at *
    try rw [← hea']
    clear hea'
    go_wp2
    go_roundw
    case rel=>first|exact ⟨i+1,_,_,_,_,by omega,by go_num,RF,ALF,BLF,hgF,RCF,GKF,hbF,R0F⟩|((repeat apply Exists.intro);refine ⟨?_,rfl⟩;exact ⟨i+1,_,_,_,_,by omega,by go_num,RF,ALF,BLF,hgF,RCF,GKF,hbF,R0F⟩)
    case measure=>simp [intOf];omega
   ·obtain rfl:i=es.length:=by omega
    have hkI:¬ ((es.length:Nat):Int)<(em:Int):=by rw [HEM.out];omega
    have y0:=(RW.cell 0).trans (show _=some (.slice aA es.length cA) from rfl);have y1:=(RW.cell 1).trans (show _=some (.slice aB es.length cB) from rfl);have y2:=(RW.cell 2).trans (show _=some (.slice (some ⟨gC,0,none⟩) n n) from rfl);have y3:=(RW.cell 3).trans (show _=some (.bool fK) from rfl);have y4:=(RW.cell 4).trans (show _=some (.slice cK nK kK) from rfl);have y5:=(RW.cell 5).trans (show _=some (.slice dK mK lK) from rfl)
    go_wp2_with (refine R0r.put #[.slice aA es.length cA,.slice aB es.length cB,.slice (some ⟨gC,0,none⟩) n n,.bool fK,.slice cK nK kK,.slice dK mK lK] rfl _ _ rfl rfl rfl stdI rfl (by simp [Value.oneCell']) ?_)
    intro w9 R9 O9
    have KO:=(Kx.refl w.heap.size 0 [39] wr).off R0r (by simp) O9
    have hb9:=hbr.trans (O9.below (Nat.le_refl _))
    rw [List.take_length] at ALi
    have AL9:AL w9 w.heap.size (.slice aA es.length cA) es n S none:=by
     obtain ⟨E,s1,s2⟩:=ALi
     refine ⟨E,s1.kxh KO (by decide),fun q e hqe=>?_⟩
     obtain ⟨g,x1,x2,x3⟩:=s2 q e hqe
     exact ⟨g,x1,by simp,x3.kx KO (by decide) (by decide)⟩
    have BL9:=(BLi.kx KO (by decide) (by decide)).rl
    have RC9:=RCi.kx KO (by decide) (by decide)
    have GK9:=GKi.kx KO (by decide)
    clear y0 y1 y2 y3 y4 y5 RW ALi BLi RCi GKi R0r O9 KO
    go_wp2
    refine bodyPost_ret (v:=.agg #[.slice aA es.length cA,.slice aB es.length cB,.slice (some ⟨gC,0,none⟩) n n,.bool fK,.slice cK nK kK,.slice dK mK lK]) (Rw.ret1 Tryz.results7 _ R9 rfl Tryz.underlying39 stdI) rfl ?_
    exact ⟨_,_,_,_,_,_,_,_,_,_,_,_,rfl,AL9,BL9,RC9,GK9,hb9⟩
end Go.Proofs.YtmeimjakdheidaaGreatDoor
