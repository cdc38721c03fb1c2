import Derived.Test.YtlfobaanbmfafaaGreatDoorShKAll
import Derived.Test.YtlfobaanbmfafaaGreatDoorWdAll
import Derived.Test.YtlfobaanbmfafaaGreatDoorPuH
import Derived.Test.YtlfobaanbmfafaaGreatDoorQ3Of
import Derived.Test.YtlfobaanbmfafaaGreatDoorQAll
namespace Go.Proofs.YtlfobaanbmfafaaGreatDoor
open Go.RowKit
theorem stdI:(Tryz.prog.info? 40).map (·.size) = some 6:=by kernel_rfl
theorem infLR:Inf 32 1 24:=inf_of (by kernel_rfl)
theorem infR3:Inf 27 3 56:=inf_of (by kernel_rfl)
theorem RL.at0 {w:World} {B g m n cap:Nat} {X:Nat→Rat} {S:Nat} (h:RL w B (.slice (some ⟨g,0,none⟩) m cap) n X S):g < w.heap.size:=by
 obtain ⟨vs,h1,_⟩:=h
 exact (World.ownsRow.lt h1 g rfl).2
theorem RL.keepR {w w':World} {B:Nat} {v:Value} {n:Nat} {X:Nat→Rat} {S:Nat} (h:RL w B v n X S) {row:Option Nat} (hn:NoW w row) (hne:row ≠ v.ownBlock∨v.ownBlock = none) (hg:w.grownBy w' row):RL w' B v n X S:=by
 obtain ⟨vs,h1,h2⟩:=h
 refine ⟨vs,World.ownsRow.kept h1 hg (by
  rcases hne with e | e
  ·exact .inr fun e2=>e e2.symm
  ·exact .inl e),fun i hi=>?_⟩
 obtain ⟨p,a,na,ca,d,nd,cd,g1,g2,g3,g4⟩:=h2 i hi
 exact ⟨p,a,na,ca,d,nd,cd,g1,g2,g3,g4.keep hn hg⟩
def RM (w:World) (B:Nat) (v:Value) (n:Nat) (X:Nat→Rat) (S:Nat):Prop:=∃ E,SL w B 27 3 v n E∧∀ i,i < n→∃ p a na ca d nd cd,E i = [.bool p,.slice a na ca,.slice d nd cd]∧GR w 0 p a na ca d nd cd (X i) S
theorem RM.rl {w:World} {B:Nat} {v:Value} {n:Nat} {X:Nat→Rat} {S:Nat} (h:RM w B v n X S):RL w 0 v n X S:=by
 obtain ⟨E,h1,h2⟩:=h
 obtain ⟨vs,g1,g2⟩:=h1.mono (Nat.zero_le _)
 refine ⟨vs,g1,fun i hi=>?_⟩
 obtain ⟨p,a,na,ca,d,nd,cd,e,g⟩:=h2 i hi
 have hk:=g2 i hi
 rw [e] at hk
 exact ⟨p,a,na,ca,d,nd,cd,by simpa using (hk 0 _ rfl).2,(hk 1 _ rfl).2,(hk 2 _ rfl).2,g⟩
theorem RM.kx {w w':World} {R F:Nat} {L:List TypeId} {B:Nat} {v:Value} {n:Nat} {X:Nat→Rat} {S:Nat} (h:RM w B v n X S) (k:Kx R F L w w') (hL:125 ∉ L) (hL2:27 ∉ L):RM w' B v n X S:=by
 obtain ⟨E,h1,h2⟩:=h
 refine ⟨E,h1.kxh k hL2,fun i hi=>?_⟩
 obtain ⟨p,a,na,ca,d,nd,cd,e,g⟩:=h2 i hi
 exact ⟨p,a,na,ca,d,nd,cd,e,g.kx k hL⟩
def AL (w:World) (B:Nat) (v:Value) (es:List Eqn) (n S:Nat) (bad:Option Nat):Prop:=∃ E,SL w B 32 1 v es.length E∧∀ i e,es[i]? = some e→∃ g,E i = [.slice (some ⟨g,0,none⟩) n n]∧bad ≠ some g∧RL w 0 (.slice (some ⟨g,0,none⟩) n n) n (sprd e.l) S
theorem AL.kx {w w':World} {R F:Nat} {L:List TypeId} {B:Nat} {v:Value} {es:List Eqn} {n S:Nat} {bad:Option Nat} (h:AL w B v es n S bad) (k:Kx R F L w w') (hL:125 ∉ L) (hL2:27 ∉ L) (hL3:32 ∉ L):AL w' B v es n S bad:=by
 obtain ⟨E,h1,h2⟩:=h
 refine ⟨E,h1.kxh k hL3,fun i e he=>?_⟩
 obtain ⟨g,e1,e2,e3⟩:=h2 i e he
 exact ⟨g,e1,e2,e3.kx k hL hL2⟩
theorem AL.len {w:World} {B:Nat} {a:Option Addr} {m cap:Nat} {es:List Eqn} {n S:Nat} {bad:Option Nat} (h:AL w B (.slice a m cap) es n S bad):m = es.length:=by
 obtain ⟨E,h1,h2⟩:=h
 obtain ⟨a',c',e,_⟩:=h1.form
 simp only [Value.slice.injEq] at e
 exact e.2.1
def StdP (w:World) (cl:List PT) (es:List Eqn) (n S:Nat) (rK:Rat) (e:Ending) (w':World):Prop :=
 ∃ aA cA aB cB gC fK cK nK kK dK mK lK,e = .returned (.agg #[.slice aA es.length cA,.slice aB es.length cB,.slice (some ⟨gC,0,none⟩) n n,.bool fK,.slice cK nK kK,.slice dK mK lK])∧AL w' w.heap.size (.slice aA es.length cA) es n S none∧RL w' 0 (.slice aB es.length cB) es.length (fun i=>(es.getD i ⟨[],0⟩).r) S∧RL w' 0 (.slice (some ⟨gC,0,none⟩) n n) n (sprd cl) S∧GR w' 0 fK cK nK kK dK mK lK rK S∧Below w.heap.size w w'
set_option maxRecDepth 100000 in
set_option maxHeartbeats 16000000 in
theorem standardQ {R F n S:Nat} {a0' a7':Value} {qa:Option Addr} {qm qc:Nat} {f0:Bool} {c0:Option Addr} {n0 k0:Nat} {d0:Option Addr} {m0 l0:Nat} {rK:Rat} {ea:Option Addr} {em ec:Nat} {cl:List PT} {es:List Eqn} (w:World) (hr:Rw 67 w R #[a0',.slice qa qm qc,.bool f0,.slice c0 n0 k0,.slice d0 m0 l0,.slice ea em ec,.int .i64 (n:Nat),a7']) (hq:TM w F (.slice qa qm qc) cl S) (hk0:GR w 0 f0 c0 n0 k0 d0 m0 l0 rK S) (hE:EM w F (.slice ea em ec) es S)
  (hinC:∀ t ∈ cl,0≤t.var∧t.var < (n:Int)) (hin:∀ e ∈ es,∀ t ∈ e.l,0≤t.var∧t.var < (n:Int)) (hn:n≤100000000) (hcl:cl.length≤100000000) (hel:∀ e ∈ es,e.l.length≤100000000) (hes:es.length≤100000000) (hS7:S≤7000000) (hS1:1≤S) (hT:TB w) :
  Calls Tryz.prog 10 #[.pointer (some ⟨R,0,none⟩)] w fun e w'=>StdP w cl es n S rK e w':=by
 have HINC:Hid (∀ t ∈ cl,0≤t.var∧t.var < (n:Int)):=hinC
 have HIN:Hid (∀ e ∈ es,∀ t ∈ e.l,0≤t.var∧t.var < (n:Int)):=hin
 have HEL:Hid (∀ e ∈ es,e.l.length≤100000000):=hel
 have hqm:qm≤100000000:=by rw [hq.len];exact hcl
 have HEM:Hid (em = es.length):=hE.len
 clear hinC hin hel hcl
 have R0:=Rw.new 40 w #[.slice none 0 0,.slice none 0 0,.slice none 0 0,.bool false,.slice none 0 0,.slice none 0 0]
 have hbU:=bel_d0 w (.cells #[.slice none 0 0,.slice none 0 0,.slice none 0 0,.bool false,.slice none 0 0,.slice none 0 0] 40)
 have hsU:(w.alloc (.cells #[.slice none 0 0,.slice none 0 0,.slice none 0 0,.bool false,.slice none 0 0,.slice none 0 0] 40)).heap.size = w.heap.size + 1:=by simp
 go_enter Tryz.func10,Tryz.ntmps10
 go_wp2_with fail
 generalize w.alloc (.cells #[.slice none 0 0,.slice none 0 0,.slice none 0 0,.bool false,.slice none 0 0,.slice none 0 0] 40) = U at *
 have HBX:∀ w',Below U.heap.size U w'→(w'.cell? ⟨R,1,none⟩ = some (.slice qa qm qc)∧w'.cell? ⟨R,2,none⟩ = some (.bool f0)∧w'.cell? ⟨R,3,none⟩ = some (.slice c0 n0 k0)∧w'.cell? ⟨R,4,none⟩ = some (.slice d0 m0 l0)):=fun w' h=>⟨((hr.below (bel_tr hbU h)).cell 1).trans rfl,((hr.below (bel_tr hbU h)).cell 2).trans rfl,((hr.below (bel_tr hbU h)).cell 3).trans rfl,((hr.below (bel_tr hbU h)).cell 4).trans rfl⟩
 refine wp_cutK (fun a0 a' w'=>∃ (u1 u2 u3 u4 u5 u6 u7 u8 u9 u10 u11 u12:Value) (b gC:Nat) (fK:Bool) (cK:Option Addr) (nK kK:Nat) (dK:Option Addr) (mK lK:Nat),a' = (((((((((((((a0.put (some 6) u1).put (some 7) u2).put (some 8) u3).put (some 9) u4).put (some 10) u5).put (some 11) u6).put (some 12) u7).put (some 13) u8).put (some 14) u9).put (some 15) u10).put (some 16) u11).put (some 17) u12).put (some 3) (.pointer (some ⟨b,0,none⟩)))∧Rw 40 w' b #[.slice none 0 0,.slice none 0 0,.slice (some ⟨gC,0,none⟩) n n,.bool fK,.slice cK nK kK,.slice dK mK lK]∧RL w' 0 (.slice (some ⟨gC,0,none⟩) n n) n (sprd cl) S∧GR w' 0 fK cK nK kK dK mK lK rK S∧U.heap.size≤b∧gC < w'.heap.size∧Below U.heap.size U w') ?_ ?_
 ·refine wp_region_noPanic (wp_region_guardT 13 HBX (by as_aux_lemma=>kernel_rfl) ?_)
  have hc0:Below U.heap.size U U.drew:=bel_d1 _
  generalize U.drew = z0 at *
  refine wpAnyG.tT 0 (v:=.pointer (some ⟨R,0,none⟩)) (by decide) 13 (by as_aux_lemma=>kernel_rfl) (by rfl) ?y0 (HBX _ hc0) ?_
  case y0 =>
   rintro w' ⟨q0,q1,q2,q3⟩
   simp only [lgA,lgZ]
   go_simp
  simp only [lgA,lgZ,Act.put,lsA,lsZ,lsS]
  refine wpAnyG.tT 1 (v:=.pointer (some ⟨R,0,none⟩)) (by decide) 13 (by as_aux_lemma=>kernel_rfl) (by rfl) ?y1 (HBX _ hc0) ?_
  case y1 =>
   rintro w' ⟨q0,q1,q2,q3⟩
   simp only [lgA,lgZ,lgS]
   go_simp
  simp only [lgA,lgZ,lgS,Act.put,lsA,lsZ,lsS]
  refine wpAnyG.tT 2 (v:=.pointer (some ⟨R,0,none⟩)) (by decide) 13 (by as_aux_lemma=>kernel_rfl) (by rfl) ?y2 (HBX _ hc0) ?_
  case y2 =>
   rintro w' ⟨q0,q1,q2,q3⟩
   simp only [lgA,lgZ,lgS]
   go_simp
  simp only [lgA,lgZ,lgS,Act.put,lsA,lsZ,lsS]
  refine wpAnyG.tT 3 (v:=.pointer (some ⟨R,1,none⟩)) (by decide) 13 (by as_aux_lemma=>kernel_rfl) (by rfl) ?y3 (HBX _ hc0) ?_
  case y3 =>
   rintro w' ⟨q0,q1,q2,q3⟩
   simp only [lgA,lgZ,lgS]
   go_simp
  simp only [lgA,lgZ,lgS,Act.put,lsA,lsZ,lsS]
  refine wpAnyG.tT 4 (v:=.slice qa qm qc) (by decide) 13 (by as_aux_lemma=>kernel_rfl) (by rfl) ?y4 (HBX _ hc0) ?_
  case y4 =>
   rintro w' ⟨q0,q1,q2,q3⟩
   simp only [lgA,lgZ,lgS]
   go_simp
  simp only [lgA,lgZ,lgS,Act.put,lsA,lsZ,lsS]
  refine wpAnyG.tT 6 (v:=.pointer (some ⟨R,0,none⟩)) (by decide) 13 (by as_aux_lemma=>kernel_rfl) (by rfl) ?y6 (HBX _ hc0) ?_
  case y6 =>
   rintro w' ⟨q0,q1,q2,q3⟩
   simp only [lgA,lgZ,lgS]
   go_simp
  simp only [lgA,lgZ,lgS,Act.put,lsA,lsZ,lsS]
  refine wpAnyG.tT 7 (v:=.pointer (some ⟨R,0,none⟩)) (by decide) 13 (by as_aux_lemma=>kernel_rfl) (by rfl) ?y7 (HBX _ hc0) ?_
  case y7 =>
   rintro w' ⟨q0,q1,q2,q3⟩
   simp only [lgA,lgZ,lgS]
   go_simp
  simp only [lgA,lgZ,lgS,Act.put,lsA,lsZ,lsS]
  refine wpAnyG.tT 8 (v:=.pointer (some ⟨R,2,none⟩)) (by decide) 13 (by as_aux_lemma=>kernel_rfl) (by rfl) ?y8 (HBX _ hc0) ?_
  case y8 =>
   rintro w' ⟨q0,q1,q2,q3⟩
   simp only [lgA,lgZ,lgS]
   go_simp
  simp only [lgA,lgZ,lgS,Act.put,lsA,lsZ,lsS]
  refine wpAnyG.tT 9 (v:=.agg #[.bool f0,.slice c0 n0 k0,.slice d0 m0 l0]) (by decide) 13 (by as_aux_lemma=>kernel_rfl) (by rfl) ?y9 (HBX _ hc0) ?_
  case y9 =>
   rintro w' ⟨q0,q1,q2,q3⟩
   simp only [lgA,lgZ,lgS]
   go_simp
  simp only [lgA,lgZ,lgS,Act.put,lsA,lsZ,lsS]
  refine wpAnyG.two 5 12 (by as_aux_lemma=>kernel_rfl) (by decide) (by decide) (by rfl) (by rfl) (fun K hK=>?_) (fun K hK=>?_)
  ·simp only [lgA,lgZ,lgS]
   go_simp
   refine (spreadQ z0 (hr.below (bel_tr hbU hc0)) (hq.below (bel_tr hbU hc0)) HINC.out hn (by omega) hS7 hS1 (hT.below (bel_tr hbU hc0))).mono ?_
   rintro e z1 ⟨gC,rfl,RX0,hk⟩
   have hgC0:=RX0.lt
   have RC1:=RX0.rl hn
   have hc1:=bel_tr hc0 hk
   clear RX0
   dsimp only
   refine hK _ _ ⟨fun _=>HBX _ hc1,fun _=>trivial⟩ ?_
   clear hK K hk
   refine wpAnyG.two 10 12 (by as_aux_lemma=>kernel_rfl) (by decide) (by decide) (by rfl) (by rfl) (fun K hK=>?_) (fun K hK=>?_)
   ·simp only [lgA,lgZ,lgS]
    go_simp
    refine (normR z1 (hk0.below (bel_tr hbU hc1)).tr hS7 hS1 (hT.below (bel_tr hbU hc1))).mono ?_
    rintro e z2 ⟨fK,cK,nK,kK,dK,mK,lK,rfl,GK2,hk⟩
    replace GK2:=GK2.mono (B':=0) (Nat.zero_le _)
    have hc2:=bel_tr hc1 hk
    have hgC1:=hk.size
    have RC2:=RC1.below hk
    dsimp only
    refine hK _ _ ⟨fun _=>HBX _ hc2,fun _=>trivial⟩ ?_
    clear hK K hk
    refine wpAnyG.tT 11 (v:=.agg #[.slice none 0 0,.slice none 0 0,.slice (some ⟨gC,0,none⟩) n n,.bool fK,.slice cK nK kK,.slice dK mK lK]) (by decide) 13 (by as_aux_lemma=>kernel_rfl) (by rfl) ?y11 (HBX _ hc2) ?_
    case y11 =>
     rintro w' ⟨q0,q1,q2,q3⟩
     simp only [lgA,lgZ,lgS]
     go_simp
    simp only [lgA,lgZ,lgS,Act.put,lsA,lsZ,lsS]
    refine wpAnyG.one 12 (by as_aux_lemma=>kernel_rfl) (by decide) (by rfl) (fun K hK=>?_)
    simp only [lgA,lgZ,lgS]
    go_simp
    have hx:=bel_d0 z2 (.cells #[.slice none 0 0,.slice none 0 0,.slice none 0 0,.bool false,.slice none 0 0,.slice none 0 0] 40)
    have AB3:=Rw.new 40 z2 #[.slice none 0 0,.slice none 0 0,.slice none 0 0,.bool false,.slice none 0 0,.slice none 0 0]
    have hc3:=bel_tr hc2 hx
    have hab:U.heap.size≤z2.heap.size:=hc2.size
    have hab1:=hx.size
    have RC3:=RC2.below hx
    have GK3:=GK2.below hx
    refine hK _ _ ⟨fun _=>HBX _ hc3,fun _=>trivial⟩ ?_
    clear hK K hx
    generalize z2.alloc (.cells #[.slice none 0 0,.slice none 0 0,.slice none 0 0,.bool false,.slice none 0 0,.slice none 0 0] 40) = z3 at *
    refine wpAnyG.one 13 (by as_aux_lemma=>kernel_rfl) (by decide) (by rfl) (fun K hK=>?_)
    simp only [lgA,lgZ,lgS]
    refine wp_store_row 40 _ _ rfl (z2.heap.size) #[.slice none 0 0,.slice none 0 0,.slice (some ⟨gC,0,none⟩) n n,.bool fK,.slice cK nK kK,.slice dK mK lK] rfl rfl 40 _ AB3 stdI rfl (by simp [Value.oneCell']) ?_
    obtain ⟨AB4,O⟩:=AB3.row #[.slice none 0 0,.slice none 0 0,.slice (some ⟨gC,0,none⟩) n n,.bool fK,.slice cK nK kK,.slice dK mK lK]
    have hc4:=hc3.trans (O.below hab)
    have KO:=(Kx.refl (z2.heap.size) 0 [40] z3).off AB3 (by simp) O
    have RC4:=RC3.kx KO (by decide) (by decide)
    have GK4:=GK3.kx KO (by decide)
    have hgC:gC < (z3.setRow (z2.heap.size) #[.slice none 0 0,.slice none 0 0,.slice (some ⟨gC,0,none⟩) n n,.bool fK,.slice cK nK kK,.slice dK mK lK]).heap.size:=by
     have:=O.size
     have:=RC3.at0
     omega
    refine hK _ _ ⟨fun h=>absurd h (by decide),fun _=>trivial⟩ ?_
    clear hK K
    generalize z3.setRow (z2.heap.size) #[.slice none 0 0,.slice none 0 0,.slice (some ⟨gC,0,none⟩) n n,.bool fK,.slice cK nK kK,.slice dK mK lK] = z4 at *
    refine wpAnyG.done (by as_aux_lemma=>kernel_rfl) (NoPanic.normal ?_)
    exact ⟨rfl,_,_,_,_,_,_,_,_,_,_,_,_,z2.heap.size,gC,fK,cK,nK,kK,dK,mK,lK,rfl,AB4,RC4,GK4,hab,hgC,hc4⟩
   ·simp only [lgA,lgZ,lgS]
    go_simp
    have hx:=bel_d0 z1 (.cells #[.slice none 0 0,.slice none 0 0,.slice none 0 0,.bool false,.slice none 0 0,.slice none 0 0] 40)
    have AB2:=Rw.new 40 z1 #[.slice none 0 0,.slice none 0 0,.slice none 0 0,.bool false,.slice none 0 0,.slice none 0 0]
    have hc2:=bel_tr hc1 hx
    have hab:U.heap.size≤z1.heap.size:=hc1.size
    have hab1:=hx.size
    have RC2:=RC1.below hx
    refine hK _ _ ⟨fun _=>HBX _ hc2,fun _=>trivial⟩ ?_
    clear hK K hx
    generalize z1.alloc (.cells #[.slice none 0 0,.slice none 0 0,.slice none 0 0,.bool false,.slice none 0 0,.slice none 0 0] 40) = z2 at *
    refine wpAnyG.one 10 (by as_aux_lemma=>kernel_rfl) (by decide) (by rfl) (fun K hK=>?_)
    simp only [lgA,lgZ,lgS]
    go_simp
    refine (normR z2 (hk0.below (bel_tr hbU hc2)).tr hS7 hS1 (hT.below (bel_tr hbU hc2))).mono ?_
    rintro e z3 ⟨fK,cK,nK,kK,dK,mK,lK,rfl,GK3,hk⟩
    replace GK3:=GK3.mono (B':=0) (Nat.zero_le _)
    have hc3:=bel_tr hc2 hk
    have hgC1:=hk.size
    have RC3:=RC2.below hk
    have AB3:=AB2.below hk
    dsimp only
    refine hK _ _ ⟨fun _=>HBX _ hc3,fun _=>trivial⟩ ?_
    clear hK K hk
    refine wpAnyG.tT 11 (v:=.agg #[.slice none 0 0,.slice none 0 0,.slice (some ⟨gC,0,none⟩) n n,.bool fK,.slice cK nK kK,.slice dK mK lK]) (by decide) 13 (by as_aux_lemma=>kernel_rfl) (by rfl) ?y11 (HBX _ hc3) ?_
    case y11 =>
     rintro w' ⟨q0,q1,q2,q3⟩
     simp only [lgA,lgZ,lgS]
     go_simp
    simp only [lgA,lgZ,lgS,Act.put,lsA,lsZ,lsS]
    refine wpAnyG.one 13 (by as_aux_lemma=>kernel_rfl) (by decide) (by rfl) (fun K hK=>?_)
    simp only [lgA,lgZ,lgS]
    refine wp_store_row 40 _ _ rfl (z1.heap.size) #[.slice none 0 0,.slice none 0 0,.slice (some ⟨gC,0,none⟩) n n,.bool fK,.slice cK nK kK,.slice dK mK lK] rfl rfl 40 _ AB3 stdI rfl (by simp [Value.oneCell']) ?_
    obtain ⟨AB4,O⟩:=AB3.row #[.slice none 0 0,.slice none 0 0,.slice (some ⟨gC,0,none⟩) n n,.bool fK,.slice cK nK kK,.slice dK mK lK]
    have hc4:=hc3.trans (O.below hab)
    have KO:=(Kx.refl (z1.heap.size) 0 [40] z3).off AB3 (by simp) O
    have RC4:=RC3.kx KO (by decide) (by decide)
    have GK4:=GK3.kx KO (by decide)
    have hgC:gC < (z3.setRow (z1.heap.size) #[.slice none 0 0,.slice none 0 0,.slice (some ⟨gC,0,none⟩) n n,.bool fK,.slice cK nK kK,.slice dK mK lK]).heap.size:=by
     have:=O.size
     have:=RC3.at0
     omega
    refine hK _ _ ⟨fun h=>absurd h (by decide),fun _=>trivial⟩ ?_
    clear hK K
    generalize z3.setRow (z1.heap.size) #[.slice none 0 0,.slice none 0 0,.slice (some ⟨gC,0,none⟩) n n,.bool fK,.slice cK nK kK,.slice dK mK lK] = z4 at *
    refine wpAnyG.done (by as_aux_lemma=>kernel_rfl) (NoPanic.normal ?_)
    exact ⟨rfl,_,_,_,_,_,_,_,_,_,_,_,_,z1.heap.size,gC,fK,cK,nK,kK,dK,mK,lK,rfl,AB4,RC4,GK4,hab,hgC,hc4⟩
  ·simp only [lgA,lgZ,lgS]
   go_simp
   have hx:=bel_d0 z0 (.cells #[.slice none 0 0,.slice none 0 0,.slice none 0 0,.bool false,.slice none 0 0,.slice none 0 0] 40)
   have AB1:=Rw.new 40 z0 #[.slice none 0 0,.slice none 0 0,.slice none 0 0,.bool false,.slice none 0 0,.slice none 0 0]
   have hc1:=bel_tr hc0 hx
   have hab:U.heap.size≤z0.heap.size:=hc0.size
   have hab1:=hx.size
   refine hK _ _ ⟨fun _=>HBX _ hc1,fun _=>trivial⟩ ?_
   clear hK K hx
   generalize z0.alloc (.cells #[.slice none 0 0,.slice none 0 0,.slice none 0 0,.bool false,.slice none 0 0,.slice none 0 0] 40) = z1 at *
   refine wpAnyG.one 5 (by as_aux_lemma=>kernel_rfl) (by decide) (by rfl) (fun K hK=>?_)
   simp only [lgA,lgZ,lgS]
   go_simp
   refine (spreadQ z1 (hr.below (bel_tr hbU hc1)) (hq.below (bel_tr hbU hc1)) HINC.out hn (by omega) hS7 hS1 (hT.below (bel_tr hbU hc1))).mono ?_
   rintro e z2 ⟨gC,rfl,RX0,hk⟩
   have hgC0:=RX0.lt
   have RC2:=RX0.rl hn
   have hc2:=bel_tr hc1 hk
   clear RX0
   have AB2:=AB1.below hk
   dsimp only
   refine hK _ _ ⟨fun _=>HBX _ hc2,fun _=>trivial⟩ ?_
   clear hK K hk
   refine wpAnyG.one 10 (by as_aux_lemma=>kernel_rfl) (by decide) (by rfl) (fun K hK=>?_)
   simp only [lgA,lgZ,lgS]
   go_simp
   refine (normR z2 (hk0.below (bel_tr hbU hc2)).tr hS7 hS1 (hT.below (bel_tr hbU hc2))).mono ?_
   rintro e z3 ⟨fK,cK,nK,kK,dK,mK,lK,rfl,GK3,hk⟩
   replace GK3:=GK3.mono (B':=0) (Nat.zero_le _)
   have hc3:=bel_tr hc2 hk
   have hgC1:=hk.size
   have AB3:=AB2.below hk
   have RC3:=RC2.below hk
   dsimp only
   refine hK _ _ ⟨fun _=>HBX _ hc3,fun _=>trivial⟩ ?_
   clear hK K hk
   refine wpAnyG.tT 11 (v:=.agg #[.slice none 0 0,.slice none 0 0,.slice (some ⟨gC,0,none⟩) n n,.bool fK,.slice cK nK kK,.slice dK mK lK]) (by decide) 13 (by as_aux_lemma=>kernel_rfl) (by rfl) ?y11 (HBX _ hc3) ?_
   case y11 =>
    rintro w' ⟨q0,q1,q2,q3⟩
    simp only [lgA,lgZ,lgS]
    go_simp
   simp only [lgA,lgZ,lgS,Act.put,lsA,lsZ,lsS]
   refine wpAnyG.one 13 (by as_aux_lemma=>kernel_rfl) (by decide) (by rfl) (fun K hK=>?_)
   simp only [lgA,lgZ,lgS]
   refine wp_store_row 40 _ _ rfl (z0.heap.size) #[.slice none 0 0,.slice none 0 0,.slice (some ⟨gC,0,none⟩) n n,.bool fK,.slice cK nK kK,.slice dK mK lK] rfl rfl 40 _ AB3 stdI rfl (by simp [Value.oneCell']) ?_
   obtain ⟨AB4,O⟩:=AB3.row #[.slice none 0 0,.slice none 0 0,.slice (some ⟨gC,0,none⟩) n n,.bool fK,.slice cK nK kK,.slice dK mK lK]
   have hc4:=hc3.trans (O.below hab)
   have KO:=(Kx.refl (z0.heap.size) 0 [40] z3).off AB3 (by simp) O
   have RC4:=RC3.kx KO (by decide) (by decide)
   have GK4:=GK3.kx KO (by decide)
   have hgC:gC < (z3.setRow (z0.heap.size) #[.slice none 0 0,.slice none 0 0,.slice (some ⟨gC,0,none⟩) n n,.bool fK,.slice cK nK kK,.slice dK mK lK]).heap.size:=by
    have:=O.size
    have:=RC3.at0
    omega
   refine hK _ _ ⟨fun h=>absurd h (by decide),fun _=>trivial⟩ ?_
   clear hK K
   generalize z3.setRow (z0.heap.size) #[.slice none 0 0,.slice none 0 0,.slice (some ⟨gC,0,none⟩) n n,.bool fK,.slice cK nK kK,.slice dK mK lK] = z4 at *
   refine wpAnyG.done (by as_aux_lemma=>kernel_rfl) (NoPanic.normal ?_)
   exact ⟨rfl,_,_,_,_,_,_,_,_,_,_,_,_,z0.heap.size,gC,fK,cK,nK,kK,dK,mK,lK,rfl,AB4,RC4,GK4,hab,hgC,hc4⟩
 ·rintro a' w1 ⟨u1,u2,u3,u4,u5,u6,u7,u8,u9,u10,u11,u12,b,gC,fK,cK,nK,kK,dK,mK,lK,rfl,RS1,RC1,GK1,hb1,hgC1,hU1⟩
  have hbw1:=bel_tr hbU hU1
  have hb1':w.heap.size≤b:=by omega
  have R01:=R0.below hU1
  have hr1:=hr.below hbw1
  have y5:=(hr1.cell 5).trans (show _ = some (.slice ea em ec) from rfl)
  clear HBX R0 hU1
  go_wp2_with fail
  clear y5
  have hesE:em≤100000000:=by rw [HEM.out];exact hes
  go_loopw [23] (fun s wr=>∃ (i:Nat) (aA:Option Addr) (cA:Nat) (aB:Option Addr) (cB:Nat),i≤es.length∧s = .int .i64 i∧Rw 40 wr b #[.slice aA i cA,.slice aB i cB,.slice (some ⟨gC,0,none⟩) n n,.bool fK,.slice cK nK kK,.slice dK mK lK]∧AL wr w.heap.size (.slice aA i cA) (es.take i) n S (.slice aB i cB:Value).ownBlock∧RM wr w.heap.size (.slice aB i cB) i (fun q=>(es.getD q ⟨[],0⟩).r) S∧(.slice aB i cB:Value).ownBlock ≠ some gC∧RL wr 0 (.slice (some ⟨gC,0,none⟩) n n) n (sprd cl) S∧GR wr 0 fK cK nK kK dK mK lK rK S∧Below w.heap.size w wr∧Rw 40 wr w.heap.size #[.slice none 0 0,.slice none 0 0,.slice none 0 0,.bool false,.slice none 0 0,.slice none 0 0]) (fun t _=>es.length - (intOf t).toNat)
  case atStart=>exact ⟨0,none,0,none,0,Nat.zero_le _,rfl,RS1,⟨fun _=>[],SL.nil _ _ _ _ _,fun i e h=>by simp at h⟩,⟨fun _=>[],SL.nil _ _ _ _ _,fun i hi=>by omega⟩,by simp [Value.ownBlock],RC1,GK1,hbw1,R01⟩
  case round =>
   clear RS1 RC1 GK1 hbw1 R01 hr1
   obtain ⟨i,aA,cA,aB,cB,hi,rfl,RW,ALi,BLi,hgB,RCi,GKi,hbr,R0r⟩:=hrel
   have HAi:Hid (i = (es.take i).length):=ALi.len
   by_cases hlt:i < es.length
   ·have hkI:(i:Int) < (em:Int):=by rw [HEM.out];omega
    have hkI4:(i:Int) * 4 = ((i * 4:Nat):Int):=by omega
    have hei:es[i]? = some (es.getD i ⟨[],0⟩):=by rw [List.getD_eq_getElem?_getD,List.getElem?_eq_getElem hlt];rfl
    have hmem:=List.mem_of_getElem? hei
    obtain ⟨EE,SLE,hEE⟩:=hE
    rcases SLE.cell with h0 | ⟨eg,hea,hcell⟩
    ·omega
    obtain ⟨tv,p,a,na,ca,d,nd,cd,e1,TMw,GRw⟩:=hEE i _ hei
    obtain ⟨ta,tc,rfl,_⟩:=TMw.form
    obtain ⟨tm,htm0⟩:∃ tm,tm = (es.getD i ⟨[],0⟩).l.length:=⟨_,rfl⟩
    rw [← htm0] at TMw e1
    have htm:tm≤100000000:=by rw [htm0];exact HEL.out _ hmem
    clear htm0
    have hk:=hcell i hlt
    rw [e1] at hk
    have r0:=kept_c hbr (hk 0 _ rfl);have r1:=kept_c hbr (hk 1 _ rfl);have r2:=kept_c hbr (hk 2 _ rfl);have r3:=kept_c hbr (hk 3 _ rfl)
    rw [Nat.add_zero] at r0
    have hea':ea = some ⟨eg,0,none⟩:=hea
    clear hea hk hcell e1
    have hz:=bel_d0 wr (.cells #[.slice ta tm tc,.bool p,.slice a na ca,.slice d nd cd] 79)
    have hsW:(wr.alloc (.cells #[.slice ta tm tc,.bool p,.slice a na ca,.slice d nd cd] 79)).heap.size = wr.heap.size + 1:=by simp
    have hsw:=hbr.size
    have RU:=RW.below hz
    have EBU:=Rw.new 79 wr #[.slice ta tm tc,.bool p,.slice a na ca,.slice d nd cd]
    have TMe:=(TMw.below hbr).below hz
    have ALU:=ALi.kx (kx_of (R:=0) (F:=0) (L:=[]) hz (Nat.zero_le _)) (by simp) (by simp) (by simp)
    have BLU:=BLi.kx (kx_of (R:=0) (F:=0) (L:=[]) hz (Nat.zero_le _)) (by simp) (by simp)
    have RCU:=RCi.below hz
    have GKU:=GKi.below hz
    have GRU:=(GRw.below hbr).below hz
    have hbW2:=bel_tr hbr hz
    have R0U:=R0r.below hz
    have hbn:(.slice aB i cB:Value).ownBlock ≠ some wr.heap.size:=fun e=>by
     obtain ⟨_,h1,_⟩:=BLi
     have:=(h1.lt _ e).2
     omega
    have hbl:∀ k,(.slice aB i cB:Value).ownBlock = some k→k < wr.heap.size:=fun k e=>by
     obtain ⟨_,h1,_⟩:=BLi
     exact (h1.lt _ e).2
    go_wp2_with fail
    clear r0 r1 r2 r3 hz RW ALi BLi RCi GKi R0r TMw GRw
    generalize wr.alloc (.cells #[.slice ta tm tc,.bool p,.slice a na ca,.slice d nd cd] 79) = W2 at *
    have HBX:∀ w',Below W2.heap.size W2 w'→(w'.cell? ⟨b,0,none⟩ = some (.slice aA i cA)∧w'.cell? ⟨wr.heap.size,0,none⟩ = some (.slice ta tm tc)):=fun w' h=>⟨((RU.below h).cell 0).trans rfl,((EBU.below h).cell 0).trans rfl⟩
    refine wp_region_noPanic (wp_region_guardT 8 HBX (by as_aux_lemma=>kernel_rfl) ?_)
    have hc0:Below W2.heap.size W2 W2.drew:=bel_d1 _
    generalize W2.drew = z0 at *
    refine wpAnyG.tT 0 (v:=.pointer (some ⟨b,0,none⟩)) (by decide) 8 (by as_aux_lemma=>kernel_rfl) (by rfl) ?y0 (HBX _ hc0) ?_
    case y0 =>
     rintro w' ⟨q0,q1⟩
     simp only [lgA,lgZ]
     go_simp
    simp only [lgA,lgZ,Act.put,lsA,lsZ,lsS]
    refine wpAnyG.tT 1 (v:=.slice aA i cA) (by decide) 8 (by as_aux_lemma=>kernel_rfl) (by rfl) ?y1 (HBX _ hc0) ?_
    case y1 =>
     rintro w' ⟨q0,q1⟩
     simp only [lgA,lgZ,lgS]
     go_simp
    simp only [lgA,lgZ,lgS,Act.put,lsA,lsZ,lsS]
    refine wpAnyG.tT 2 (v:=.pointer (some ⟨R,0,none⟩)) (by decide) 8 (by as_aux_lemma=>kernel_rfl) (by rfl) ?y2 (HBX _ hc0) ?_
    case y2 =>
     rintro w' ⟨q0,q1⟩
     simp only [lgA,lgZ,lgS]
     go_simp
    simp only [lgA,lgZ,lgS,Act.put,lsA,lsZ,lsS]
    refine wpAnyG.tT 3 (v:=.pointer (some ⟨wr.heap.size,0,none⟩)) (by decide) 8 (by as_aux_lemma=>kernel_rfl) (by rfl) ?y3 (HBX _ hc0) ?_
    case y3 =>
     rintro w' ⟨q0,q1⟩
     simp only [lgA,lgZ,lgS]
     go_simp
    simp only [lgA,lgZ,lgS,Act.put,lsA,lsZ,lsS]
    refine wpAnyG.tT 4 (v:=.slice ta tm tc) (by decide) 8 (by as_aux_lemma=>kernel_rfl) (by rfl) ?y4 (HBX _ hc0) ?_
    case y4 =>
     rintro w' ⟨q0,q1⟩
     simp only [lgA,lgZ,lgS]
     go_simp
    simp only [lgA,lgZ,lgS,Act.put,lsA,lsZ,lsS]
    refine wpAnyG.one 5 (by as_aux_lemma=>kernel_rfl) (by decide) (by rfl) (fun K hK=>?_)
    simp only [lgA,lgZ,lgS]
    go_simp
    refine (spreadQ z0 (hr.below (bel_tr hbW2 hc0)) (TMe.below hc0) (HIN.out _ hmem) hn htm hS7 hS1 (hT.below (bel_tr hbW2 hc0))).mono ?_
    rintro e z1 ⟨gR,rfl,RX0,hk1⟩
    have hc1:Below W2.heap.size W2 z1:=bel_tr hc0 hk1
    dsimp only
    refine hK _ _ ⟨fun _=>HBX _ hc1,fun _=>trivial⟩ ?_
    clear hK K
    refine wpAnyG.one 6 (by as_aux_lemma=>kernel_rfl) (by decide) (by rfl) (fun K hK=>?_)
    simp only [lgA,lgZ,lgS]
    go_simp
    have hy:Below W2.heap.size W2 (z1.alloc (.cells #[.slice (some ⟨gR,0,none⟩) n n] 32)):=bel_a hc1
    have BX:=box_new z1 #[.slice (some ⟨gR,0,none⟩) n n] 32
    have RR:=(RX0.rl hn).below (bel_d0 z1 (.cells #[.slice (some ⟨gR,0,none⟩) n n] 32))
    have hgRl:=RX0.lt
    have hgRo:=RX0.lo
    have hz0s:=hc0.size
    have hs4:(z1.alloc (.cells #[.slice (some ⟨gR,0,none⟩) n n] 32)).heap.size = z1.heap.size + 1:=by simp
    generalize z1.alloc (.cells #[.slice (some ⟨gR,0,none⟩) n n] 32) = z5 at *
    refine hK _ _ ⟨fun _=>HBX _ hy,fun _=>trivial⟩ ?_
    clear hK K
    refine wpAnyG.one 7 (by as_aux_lemma=>kernel_rfl) (by decide) (by rfl) (fun K hK=>?_)
    simp only [lgA,lgZ,lgS]
    obtain ⟨EA,SLA,hAL⟩:=ALU
    rw [← HAi.out] at SLA
    have SLZ:=SLA.below hy
    have RZ:=RU.below hy
    have hsy:=hy.size
    refine wp_appendS z5 _ _ 38 32 1 24 rfl Tryz.underlying38 infLR (by decide) (by decide) w.heap.size (.slice aA i cA) i EA rfl SLZ z1.heap.size 1 rfl [.slice (some ⟨gR,0,none⟩) n n] rfl (fun u hu=>by simp at hu;rw [hu];rfl) BX (by omega) (by omega) _ rfl ?_
    intro g6 cap6 w6 SN hg hat hgl
    have hne:(.slice aA i cA:Value).ownBlock ≠ some b:=SLZ.neR RZ (by decide)
    have RZ6:=RZ.kept hg hne
    have KG:=(Kx.refl b w.heap.size [32] z5).grown SLZ (by simp) (Nat.le_refl _) (by omega) hg
    have e0:=(RZ6.cell 0).trans (show _ = some (.slice aA i cA) from rfl)
    have e1:=RZ6.frozen 0
    have EB6:=(EBU.below hy).kxh KG (by decide)
    refine hK _ _ ⟨fun _=>⟨e0,(EB6.cell 0).trans rfl⟩,fun _=>trivial⟩ ?_
    clear hK K
    refine wpAnyG.one 8 (by as_aux_lemma=>kernel_rfl) (by decide) (by rfl) (fun K hK=>?_)
    simp only [lgA,lgZ,lgS]
    go_simp
    refine hK _ _ ⟨fun h=>absurd h (by decide),fun _=>trivial⟩ ?_
    clear hK K
    refine wpAnyG.one 9 (by as_aux_lemma=>kernel_rfl) (by decide) (by rfl) (fun K hK=>?_)
    simp only [lgA,lgZ,lgS]
    go_simp
    refine hK _ _ ⟨fun h=>absurd h (by decide),fun _=>trivial⟩ ?_
    clear hK K
    refine wpAnyG.done (by as_aux_lemma=>kernel_rfl) (NoPanic.normal ?_)
    obtain ⟨RN,ON⟩:=RZ6.set 0 (.slice (some ⟨g6,0,none⟩) (i + 1) cap6)
    replace RN:Rw 40 (w6.setCell ⟨b,0,none⟩ (.slice (some ⟨g6,0,none⟩) (i + 1) cap6)) b #[.slice (some ⟨g6,0,none⟩) (i + 1) cap6,.slice aB i cB,.slice (some ⟨gC,0,none⟩) n n,.bool fK,.slice cK nK kK,.slice dK mK lK]:=by simpa using RN
    have KO:=(Kx.refl b w.heap.size [40] w6).off RZ6 (by simp) ON
    have KY:Kx b w.heap.size [40,32] W2 (w6.setCell ⟨b,0,none⟩ (.slice (some ⟨g6,0,none⟩) (i + 1) cap6)):=((kx_of (R:=b) (F:=w.heap.size) (L:=[40,32]) hy (by omega)).trans (KG.up (by simp))).trans (KO.up (by simp))
    have K5:Kx b w.heap.size [40,32] z5 (w6.setCell ⟨b,0,none⟩ (.slice (some ⟨g6,0,none⟩) (i + 1) cap6)):=(KG.up (by simp)).trans (KO.up (by simp))
    have ALN:AL (w6.setCell ⟨b,0,none⟩ (.slice (some ⟨g6,0,none⟩) (i + 1) cap6)) w.heap.size (.slice (some ⟨g6,0,none⟩) (i + 1) cap6) (es.take (i + 1)) n S (.slice aB i cB:Value).ownBlock:=by
     have et:es.take (i + 1) = es.take i ++ [es.getD i ⟨[],0⟩]:=by rw [List.take_add_one,hei];rfl
     rw [et]
     refine ⟨_,by rw [List.length_append,← HAi.out];exact SN.kxh KO (by decide),fun q e hqe=>?_⟩
     by_cases hq2:q < i
     ·rw [List.getElem?_append_left (by rw [← HAi.out];exact hq2)] at hqe
      simp only [hq2,if_true]
      obtain ⟨g,x1,x2,x3⟩:=hAL q e hqe
      exact ⟨g,x1,x2,x3.kx KY (by decide) (by decide)⟩
     ·rw [List.getElem?_append_right (by rw [← HAi.out];omega)] at hqe
      have:=(List.getElem?_eq_some_iff.1 hqe).1
      have e00:q - (es.take i).length = 0:=by simp at this ⊢;omega
      rw [e00] at hqe
      simp at hqe
      subst hqe
      simp only [hq2,if_false]
      exact ⟨gR,rfl,fun e=>by have:=hbl _ e;omega,by rw [List.getD_eq_getElem?_getD] at RR;exact RR.kx K5 (by decide) (by decide)⟩
    have BLN:=BLU.kx KY (by decide) (by decide)
    have RCN:=RCU.kx KY (by decide) (by decide)
    have GKN:=GKU.kx KY (by decide)
    have GRe:=GRU.kx KY (by decide)
    have EB7:=EBU.kxh KY (by decide)
    have R07:Rw 40 (w6.setCell ⟨b,0,none⟩ (.slice (some ⟨g6,0,none⟩) (i + 1) cap6)) w.heap.size #[.slice none 0 0,.slice none 0 0,.slice none 0 0,.bool false,.slice none 0 0,.slice none 0 0]:=(((R0U.below hy).kxh KG (by decide)).off ON (by omega))
    have hbn7:Below w.heap.size w (w6.setCell ⟨b,0,none⟩ (.slice (some ⟨g6,0,none⟩) (i + 1) cap6)):=hbW2.trans ⟨KY.os,KY.tape,KY.output,KY.size,fun k hk=>KY.low k hk (by omega)⟩
    have hT7:=hT.below hbn7
    have hsN:w6.heap.size = (w6.setCell ⟨b,0,none⟩ (.slice (some ⟨g6,0,none⟩) (i + 1) cap6)).heap.size:=ON.size.symm
    have hs6:=hg.size
    clear HBX hc0 hc1 hk1 hy BX RR SLA SLZ RZ SN hg hat hgl hne RZ6 KG e0 e1 EB6 hAL ON KO KY K5 RU EBU TMe BLU RCU GKU GRU hbW2 R0U RX0
    go_wp2_with fail
    generalize w6.setCell ⟨b,0,none⟩ (.slice (some ⟨g6,0,none⟩) (i + 1) cap6) = W7 at *
    have HBX:∀ w',Below W7.heap.size W7 w'→(w'.cell? ⟨b,1,none⟩ = some (.slice aB i cB)∧w'.cell? ⟨wr.heap.size,1,none⟩ = some (.bool p)∧w'.cell? ⟨wr.heap.size,2,none⟩ = some (.slice a na ca)∧w'.cell? ⟨wr.heap.size,3,none⟩ = some (.slice d nd cd)):=fun w' h=>⟨((RN.below h).cell 1).trans rfl,((EB7.below h).cell 1).trans rfl,((EB7.below h).cell 2).trans rfl,((EB7.below h).cell 3).trans rfl⟩
    refine wp_region_noPanic (wp_region_guardT 7 HBX (by as_aux_lemma=>kernel_rfl) ?_)
    have hc0:Below W7.heap.size W7 W7.drew:=bel_d1 _
    generalize W7.drew = z0 at *
    refine wpAnyG.tT 0 (v:=.pointer (some ⟨b,1,none⟩)) (by decide) 7 (by as_aux_lemma=>kernel_rfl) (by rfl) ?y0 (HBX _ hc0) ?_
    case y0 =>
     rintro w' ⟨q0,q1,q2,q3⟩
     simp only [lgA,lgZ]
     go_simp
    simp only [lgA,lgZ,Act.put,lsA,lsZ,lsS]
    refine wpAnyG.tT 1 (v:=.slice aB i cB) (by decide) 7 (by as_aux_lemma=>kernel_rfl) (by rfl) ?y1 (HBX _ hc0) ?_
    case y1 =>
     rintro w' ⟨q0,q1,q2,q3⟩
     simp only [lgA,lgZ,lgS]
     go_simp
    simp only [lgA,lgZ,lgS,Act.put,lsA,lsZ,lsS]
    refine wpAnyG.tT 2 (v:=.pointer (some ⟨wr.heap.size,1,none⟩)) (by decide) 7 (by as_aux_lemma=>kernel_rfl) (by rfl) ?y2 (HBX _ hc0) ?_
    case y2 =>
     rintro w' ⟨q0,q1,q2,q3⟩
     simp only [lgA,lgZ,lgS]
     go_simp
    simp only [lgA,lgZ,lgS,Act.put,lsA,lsZ,lsS]
    refine wpAnyG.tT 3 (v:=.agg #[.bool p,.slice a na ca,.slice d nd cd]) (by decide) 7 (by as_aux_lemma=>kernel_rfl) (by rfl) ?y3 (HBX _ hc0) ?_
    case y3 =>
     rintro w' ⟨q0,q1,q2,q3⟩
     simp only [lgA,lgZ,lgS]
     go_simp
    simp only [lgA,lgZ,lgS,Act.put,lsA,lsZ,lsS]
    refine wpAnyG.one 4 (by as_aux_lemma=>kernel_rfl) (by decide) (by rfl) (fun K hK=>?_)
    simp only [lgA,lgZ,lgS]
    go_simp
    refine (normR z0 (GRe.tr.below hc0) hS7 hS1 (hT7.below hc0)).mono ?_
    rintro e z1 ⟨f9,c9,n9,k9,d9,m9,l9,rfl,G9,hk1⟩
    have hc1:Below W7.heap.size W7 z1:=bel_tr hc0 hk1
    dsimp only
    refine hK _ _ ⟨fun _=>HBX _ hc1,fun _=>trivial⟩ ?_
    clear hK K
    refine wpAnyG.one 5 (by as_aux_lemma=>kernel_rfl) (by decide) (by rfl) (fun K hK=>?_)
    simp only [lgA,lgZ,lgS]
    go_simp
    have hy:Below W7.heap.size W7 (z1.alloc (.cells #[.bool f9,.slice c9 n9 k9,.slice d9 m9 l9] 27)):=bel_a hc1
    have BX:=box_new z1 #[.bool f9,.slice c9 n9 k9,.slice d9 m9 l9] 27
    have G9z:=(G9.mono (B':=0) (Nat.zero_le _)).below (bel_d0 z1 (.cells #[.bool f9,.slice c9 n9 k9,.slice d9 m9 l9] 27))
    have hs4:(z1.alloc (.cells #[.bool f9,.slice c9 n9 k9,.slice d9 m9 l9] 27)).heap.size = z1.heap.size + 1:=by simp
    generalize z1.alloc (.cells #[.bool f9,.slice c9 n9 k9,.slice d9 m9 l9] 27) = z5 at *
    refine hK _ _ ⟨fun _=>HBX _ hy,fun _=>trivial⟩ ?_
    clear hK K
    refine wpAnyG.one 6 (by as_aux_lemma=>kernel_rfl) (by decide) (by rfl) (fun K hK=>?_)
    simp only [lgA,lgZ,lgS]
    obtain ⟨EBl,SLB,hBL⟩:=BLN
    have SLZ:=SLB.below hy
    have RZ:=RN.below hy
    have hsy:=hy.size
    refine wp_appendS z5 _ _ 32 27 3 56 rfl Tryz.underlying32 infR3 (by decide) (by decide) w.heap.size (.slice aB i cB) i EBl rfl SLZ z1.heap.size 1 rfl [.bool f9,.slice c9 n9 k9,.slice d9 m9 l9] rfl (fun u hu=>by simp at hu;rcases hu with rfl | rfl | rfl <;> rfl) BX (by omega) (by omega) _ rfl ?_
    intro g8 cap8 w8 SN hg hat hgl
    have hne:(.slice aB i cB:Value).ownBlock ≠ some b:=SLZ.neR RZ (by decide)
    have RZ8:=RZ.kept hg hne
    have hNW:=SLZ.noW (by decide)
    have e0:=(RZ8.cell 1).trans (show _ = some (.slice aB i cB) from rfl)
    have e1:=RZ8.frozen 1
    have EB8:=(EB7.below hy).kept hg (SLZ.neR (EB7.below hy) (by decide))
    refine hK _ _ ⟨fun _=>⟨e0,(EB8.cell 1).trans rfl,(EB8.cell 2).trans rfl,(EB8.cell 3).trans rfl⟩,fun _=>trivial⟩ ?_
    clear hK K
    refine wpAnyG.one 7 (by as_aux_lemma=>kernel_rfl) (by decide) (by rfl) (fun K hK=>?_)
    simp only [lgA,lgZ,lgS]
    go_simp
    refine hK _ _ ⟨fun h=>absurd h (by decide),fun _=>trivial⟩ ?_
    clear hK K
    refine wpAnyG.one 8 (by as_aux_lemma=>kernel_rfl) (by decide) (by rfl) (fun K hK=>?_)
    simp only [lgA,lgZ,lgS]
    go_simp
    refine hK _ _ ⟨fun h=>absurd h (by decide),fun _=>trivial⟩ ?_
    clear hK K
    refine wpAnyG.done (by as_aux_lemma=>kernel_rfl) (NoPanic.normal ?_)
    obtain ⟨RF,OF⟩:=RZ8.set 1 (.slice (some ⟨g8,0,none⟩) (i + 1) cap8)
    replace RF:Rw 40 (w8.setCell ⟨b,1,none⟩ (.slice (some ⟨g8,0,none⟩) (i + 1) cap8)) b #[.slice (some ⟨g6,0,none⟩) (i + 1) cap6,.slice (some ⟨g8,0,none⟩) (i + 1) cap8,.slice (some ⟨gC,0,none⟩) n n,.bool fK,.slice cK nK kK,.slice dK mK lK]:=by simpa using RF
    have KO:=(Kx.refl b w.heap.size [40] w8).off RZ8 (by simp) OF
    have hown:∀ k,some k = (.slice (some ⟨g8,0,none⟩) (i + 1) cap8:Value).ownBlock→k = g8:=fun k e=>by simpa [Value.ownBlock] using e
    have BLF:RM (w8.setCell ⟨b,1,none⟩ (.slice (some ⟨g8,0,none⟩) (i + 1) cap8)) w.heap.size (.slice (some ⟨g8,0,none⟩) (i + 1) cap8) (i + 1) (fun q=>(es.getD q ⟨[],0⟩).r) S:=by
     refine ⟨_,SN.kxh KO (by decide),fun q hq2=>?_⟩
     by_cases h1:q < i
     ·simp only [h1,if_true]
      obtain ⟨p',a',na',ca',d',nd',cd',x1,x2⟩:=hBL q h1
      exact ⟨p',a',na',ca',d',nd',cd',x1,((x2.below hy).keep hNW hg).kx KO (by decide)⟩
     ·obtain rfl:q = i:=by omega
      simp only [h1,if_false]
      exact ⟨_,_,_,_,_,_,_,rfl,(G9z.keep hNW hg).kx KO (by decide)⟩
    have hcmp:∀ g,(.slice aB i cB:Value).ownBlock ≠ some g→g < z5.heap.size→(.slice (some ⟨g8,0,none⟩) (i + 1) cap8:Value).ownBlock ≠ some g:=fun g h1 h2 e=>by
     have e2:g8 = g:=by simpa [Value.ownBlock] using e
     rcases hat with h3 | h3
     ·exact h1 (by rw [h3,e2])
     ·omega
    have ALF:AL (w8.setCell ⟨b,1,none⟩ (.slice (some ⟨g8,0,none⟩) (i + 1) cap8)) w.heap.size (.slice (some ⟨g6,0,none⟩) (i + 1) cap6) (es.take (i + 1)) n S (.slice (some ⟨g8,0,none⟩) (i + 1) cap8:Value).ownBlock:=by
     obtain ⟨E,s1,s2⟩:=ALN
     have hsa:=s1.below hy
     refine ⟨E,(hsa.kept hg (fun g e1 e2=>?_)).kxh KO (by decide),fun q e hqe=>?_⟩
     ·obtain ⟨vs,h1,_⟩:=hsa
      obtain ⟨us,h2,_⟩:=SLZ
      exact row_neT h1 h2 (by decide) g e1 e2
     ·obtain ⟨g,x1,x2,x3⟩:=s2 q e hqe
      have x4:=x3.below hy
      exact ⟨g,x1,hcmp g x2 x4.at0,(x4.keepR hNW (.inl x2) hg).kx KO (by decide) (by decide)⟩
    have RCF:=((RCN.below hy).keepR hNW (.inl hgB) hg).kx KO (by decide) (by decide)
    have GKF:=((GKN.below hy).keep hNW hg).kx KO (by decide)
    have hgF:=hcmp gC hgB (RCN.below hy).at0
    have hbF:Below w.heap.size w (w8.setCell ⟨b,1,none⟩ (.slice (some ⟨g8,0,none⟩) (i + 1) cap8)):=(bel_tr hbn7 hy).trans ((grown_below hg (by omega) (fun k e=>(SLZ.lt k e).1)).trans (OF.below (by omega)))
    have R0F:Rw 40 (w8.setCell ⟨b,1,none⟩ (.slice (some ⟨g8,0,none⟩) (i + 1) cap8)) w.heap.size #[.slice none 0 0,.slice none 0 0,.slice none 0 0,.bool false,.slice none 0 0,.slice none 0 0]:=(((R07.below hy).kept hg (SLZ.neR (R07.below hy) (by decide))).off OF (by omega))
    clear HBX hc0 hc1 hk1 hy BX G9z SLB SLZ RZ SN hg hat hgl hne RZ8 e0 e1 EB8 hBL OF KO hNW RN ALN RCN GKN GRe EB7 R07 hbn7 hT7 hcmp hown G9
    generalize w8.setCell ⟨b,1,none⟩ (.slice (some ⟨g8,0,none⟩) (i + 1) cap8) = W9 at *
    try rw [← hea']
    clear hea'
    go_wp2
    go_roundw
    case rel=>first | exact ⟨i + 1,_,_,_,_,by omega,by go_num,RF,ALF,BLF,hgF,RCF,GKF,hbF,R0F⟩ | ((repeat apply Exists.intro);refine ⟨?_,rfl⟩;exact ⟨i + 1,_,_,_,_,by omega,by go_num,RF,ALF,BLF,hgF,RCF,GKF,hbF,R0F⟩)
    case measure=>simp [intOf];omega
   ·obtain rfl:i = es.length:=by omega
    have hkI:¬ ((es.length:Nat):Int) < (em:Int):=by rw [HEM.out];omega
    have y0:=(RW.cell 0).trans (show _ = some (.slice aA es.length cA) from rfl);have y1:=(RW.cell 1).trans (show _ = some (.slice aB es.length cB) from rfl);have y2:=(RW.cell 2).trans (show _ = some (.slice (some ⟨gC,0,none⟩) n n) from rfl);have y3:=(RW.cell 3).trans (show _ = some (.bool fK) from rfl);have y4:=(RW.cell 4).trans (show _ = some (.slice cK nK kK) from rfl);have y5:=(RW.cell 5).trans (show _ = some (.slice dK mK lK) from rfl)
    go_wp2_with (refine R0r.put #[.slice aA es.length cA,.slice aB es.length cB,.slice (some ⟨gC,0,none⟩) n n,.bool fK,.slice cK nK kK,.slice dK mK lK] rfl _ _ rfl rfl rfl stdI rfl (by simp [Value.oneCell']) ?_)
    intro w9 R9 O9
    have KO:=(Kx.refl w.heap.size 0 [40] wr).off R0r (by simp) O9
    have hb9:=hbr.trans (O9.below (Nat.le_refl _))
    rw [List.take_length] at ALi
    have AL9:AL w9 w.heap.size (.slice aA es.length cA) es n S none:=by
     obtain ⟨E,s1,s2⟩:=ALi
     refine ⟨E,s1.kxh KO (by decide),fun q e hqe=>?_⟩
     obtain ⟨g,x1,x2,x3⟩:=s2 q e hqe
     exact ⟨g,x1,by simp,x3.kx KO (by decide) (by decide)⟩
    have BL9:=(BLi.kx KO (by decide) (by decide)).rl
    have RC9:=RCi.kx KO (by decide) (by decide)
    have GK9:=GKi.kx KO (by decide)
    clear y0 y1 y2 y3 y4 y5 RW ALi BLi RCi GKi R0r O9 KO
    go_wp2
    refine bodyPost_ret (v:=.agg #[.slice aA es.length cA,.slice aB es.length cB,.slice (some ⟨gC,0,none⟩) n n,.bool fK,.slice cK nK kK,.slice dK mK lK]) (Rw.ret1 Tryz.results10 _ R9 rfl Tryz.underlying40 stdI) rfl ?_
    exact ⟨_,_,_,_,_,_,_,_,_,_,_,_,rfl,AL9,BL9,RC9,GK9,hb9⟩
theorem rowT_inc (V:Nat→PV) (t:Nat→PT):∀ q,(∀ i j,i < j→j < q→(t i).var < (t j).var)→∀ m:Nat,(∀ i,i < q→0≤(t i).var∧(t i).var < (m:Int))→Inc (clm V m) (rowT V t q)
 | 0,_,m,_=>Inc.nil _
 | q + 1,hup,m,hm=>by
  have hq:=hm q (by omega)
  have h1:=rowT_inc V t q (fun i j a b=>hup i j a (by omega)) (t q).var.toNat (fun i hi=>⟨(hm i (by omega)).1,by have:=hup i q hi (by omega);omega⟩)
  obtain ⟨s1,s2⟩:=spl_inc (V (t q).var.toNat) (clm V (t q).var.toNat) (t q).coef
  refine h1.app (s1.up (clm_lt V (by omega))) (clm_mono V (by omega)) s2
def EqO (A:List Eqn × Nat):Prop:=∀ e ∈ A.1,Inc A.2 e.l
theorem eqs_ok {V:Nat→PV} {r:PW} {n c:Nat} (hup:∀ i j,i < j→j < r.nt→(r.t i).var < (r.t j).var) (hm:∀ i,i < r.nt→0≤(r.t i).var∧(r.t i).var < (n:Int)) (hc:clm V n≤c) (st:Rat):EqO (eqsR V r st c)∧c≤(eqsR V r st c).2:=by
 have h0:=rowT_inc V r.t r.nt hup n hm
 have hs:∀ x:Rat,Inc (c + 1) (rowT V r.t r.nt ++ [⟨(c:Nat),x⟩]):=fun x=>h0.app ⟨List.pairwise_singleton _ _,fun t ht=>by rw [List.mem_singleton.1 ht];show 0≤(c:Int)∧(c:Int) < ((c + 1:Nat):Int);omega⟩ (by omega) (fun t ht=>by rw [List.mem_singleton.1 ht];show ((clm V n:Nat):Int)≤(c:Int);omega)
 have hw:Inc (c + 2) [⟨(c:Nat),1⟩,⟨((c + 1:Nat):Int),1⟩]:=⟨by simp;omega,fun t ht=>by
  simp at ht
  rcases ht with rfl | rfl <;> (dsimp only;omega)⟩
 unfold eqsR EqO
 split
 ·split
  ·split
   ·exact ⟨fun e he=>by rw [List.mem_singleton.1 he];exact h0.up hc,Nat.le_refl _⟩
   ·refine ⟨fun e he=>?_,by show c≤c + 2;omega⟩
    simp at he
    rcases he with rfl | rfl
    ·exact (hs _).up (by show c + 1≤c + 2;omega)
    ·exact hw
  ·exact ⟨fun e he=>by rw [List.mem_singleton.1 he];exact hs _,by show c≤c + 1;omega⟩
 ·split
  ·exact ⟨fun e he=>by rw [List.mem_singleton.1 he];exact hs _,by show c≤c + 1;omega⟩
  ·exact ⟨fun e he=>(by cases he),Nat.le_refl _⟩
theorem rows_ok {V:Nat→PV} {R:Nat→PW} {st:Nat→Rat} {n:Nat}:∀ i,(∀ k,k < i→(∀ a b,a < b→b < (R k).nt→((R k).t a).var < ((R k).t b).var)∧∀ q,q < (R k).nt→0≤((R k).t q).var∧((R k).t q).var < (n:Int))→EqO (rowsE V R st n i)∧clm V n≤(rowsE V R st n i).2
 | 0,_=>⟨fun e he=>(by cases he),Nat.le_refl _⟩
 | i + 1,h=>by
  obtain ⟨h1,h2⟩:=rows_ok (V:=V) (R:=R) (st:=st) (n:=n) i (fun k hk=>h k (by omega))
  obtain ⟨h3,h4⟩:=eqs_ok (V:=V) (r:=R i) (c:=(rowsE V R st n i).2) (h i (by omega)).1 (h i (by omega)).2 h2 (st i)
  refine ⟨fun e he=>?_,Nat.le_trans h2 h4⟩
  rcases List.mem_append.1 he with h5 | h5
  ·exact (h1 e h5).up h4
  ·exact h3 e h5
theorem vars_ok {V:Nat→PV} {A:List Eqn × Nat} {n:Nat} (hA:EqO A) (hn:clm V n≤A.2):∀ j,j≤n→EqO (varsE V A j)∧A.2≤(varsE V A j).2
 | 0,_=>⟨hA,Nat.le_refl _⟩
 | j + 1,hj=>by
  obtain ⟨h1,h2⟩:=vars_ok hA hn j (by omega)
  have h3:=clm_lt V (j:=j) (n:=n) (by omega)
  have h4:=wid_pos (V j)
  unfold varsE
  split
  ·refine ⟨fun e he=>?_,by show A.2≤(varsE V A j).2 + 1;omega⟩
   rcases List.mem_append.1 he with h5 | h5
   ·exact (h1 e h5).up (by show (varsE V A j).2≤(varsE V A j).2 + 1;omega)
   ·rw [List.mem_singleton.1 h5]
    refine ⟨by simp;omega,fun t ht=>?_⟩
    simp at ht
    rcases ht with rfl | rfl <;> (dsimp only;omega)
  ·exact ⟨h1,h2⟩
theorem Inc.len {n:Nat} {l:List PT} (h:Inc n l):l.length≤n:=by
 induction l using snoc_ind generalizing n with
 | h0=>exact Nat.zero_le _
 | h1 l t ih =>
  have ht:=h.2 t (List.mem_append.2 (.inr (List.mem_singleton.2 rfl)))
  have hl:Inc t.var.toNat l:=⟨(List.pairwise_append.1 h.1).1,fun s hs=>⟨(h.2 s (List.mem_append.2 (.inl hs))).1,by have:=(List.pairwise_append.1 h.1).2.2 s hs t (List.mem_singleton.2 rfl);omega⟩⟩
  have:=ih hl
  rw [List.length_append]
  show l.length + 1≤n
  omega
theorem sgn_add (b:Bool) (x y:Rat):sgn b (x + y) = sgn b x + sgn b y:=by
 unfold sgn
 cases b
 ·rfl
 ·exact Rat.neg_add
theorem sgn_mul (b:Bool) (x y:Rat):sgn b x * y = sgn b (x * y):=by
 unfold sgn
 cases b
 ·rfl
 ·exact Rat.neg_mul _ _
theorem sgn_sum (b:Bool) (X:Nat→Rat):∀ n,rsum (fun j=>sgn b (X j)) n = sgn b (rsum X n)
 | 0=>by unfold sgn;cases b <;> rfl
 | n + 1=>by rw [rsum_succ,rsum_succ,sgn_sum b X n,sgn_add]
theorem rsum_plus (X Y:Nat→Rat):∀ n,rsum (fun j=>X j + Y j) n = rsum X n + rsum Y n
 | 0=>(Rat.add_zero 0).symm
 | n + 1=>by rw [rsum_succ,rsum_succ,rsum_succ,rsum_plus X Y n];exact rat_swap _ _ _ _
theorem cost_value (mx:Bool) (k:Rat) (V:Nat→PV) (vn n:Nat) (Y:Nat→Rat) (hn:clm V vn≤n):sgn mx (rsum (prt k V (fun j=>vbs (V j))) (vn + 1)) + rsum (fun c=>sprd (cstL V (fun q=>sgn mx (V q).obj) vn) c * Y c) n = sgn mx (rsum (prt k V (fun j=>ptv (V j) (clm V j) Y)) (vn + 1)):=by
 rw [sprd_sum ((cstL_inc V _ vn).up hn),tsum_cstL]
 rw [show rsum (fun j=>sgn mx (V j).obj * ryv (V j) (clm V j) Y) vn = sgn mx (rsum (fun j=>(V j).obj * ryv (V j) (clm V j) Y) vn) by rw [← sgn_sum];exact rsum_congr fun j _=>sgn_mul _ _ _]
 rw [← sgn_add,rsum_prt,rsum_prt,Rat.add_assoc,← rsum_plus]
 congr 2
 exact rsum_congr fun j _=>by rw [ptv_ryv,Rat.mul_add]
theorem ptv_plus (v:PV) (u:Nat) (Y Z:Nat→Rat):ptv v u (fun i=>Y i + Z i) = ptv v u Y + ryv v u Z:=by rw [ptv_ryv,ryv_add,ptv_ryv,Rat.add_assoc]
theorem Wd.zn {X:Nat→Rat} {n d:Nat} {D:Int} (hD:0 < D) (hd:D < pw d) (h:∀ j,j < n→Wd d D (X j)) (j:Nat):Wd d D (zn n X j):=by
 show Wd d D (if j < n then X j else 0)
 split
 ·exact h j (by assumption)
 ·exact Wd.zero hD hd
theorem Wd.ryv {v:PV} {u:Nat} {Y:Nat→Rat} {d:Nat} {D:Int} (h:∀ j,Wd d D (Y j)):Wd (d + 1) D (ryv v u Y):=by
 unfold Go.Proofs.YtlfobaanbmfafaaGreatDoor.ryv
 split
 ·exact (h u).up (by omega)
 ·split
  ·exact (h u).neg.up (by omega)
  ·exact (h u).sub (h (u + 1))
theorem sprd_wd {l:List PT} {d:Nat} {D:Int} (hD:0 < D) (hd:D < pw d) (h:∀ t ∈ l,Wd d D t.coef) (c:Nat):Wd d D (sprd l c):=by
 induction l using snoc_ind with
 | h0=>exact Wd.zero hD hd
 | h1 l t ih =>
  rw [sprd_app]
  split
  ·exact h t (List.mem_append.2 (.inr (List.mem_singleton.2 rfl)))
  ·exact ih fun s hs=>h s (List.mem_append.2 (.inl hs))
theorem Wd.sgn {b:Bool} {r:Rat} {d:Nat} {D:Int} (h:Wd d D r):Wd d D (sgn b r):=by
 unfold Go.Proofs.YtlfobaanbmfafaaGreatDoor.sgn
 cases b
 ·exact h
 ·exact h.neg
theorem cstL_wd (V:Nat→PV) (b:Bool) {d:Nat} {D:Int}:∀ n,(∀ j,j < n→Wd d D (V j).obj)→∀ t ∈ cstL V (fun q=>sgn b (V q).obj) n,Wd d D t.coef
 | 0,_,t,ht=>by cases ht
 | n + 1,h,t,ht=>by
  rcases List.mem_append.1 ht with h1 | h1
  ·exact cstL_wd V b n (fun j hj=>h j (by omega)) t h1
  ·have hs:=(h n (by omega)).sgn (b:=b)
   unfold spl at h1
   split at h1
   ·rw [List.mem_singleton.1 h1];exact hs
   ·split at h1
    ·rw [List.mem_singleton.1 h1];exact hs.neg
    ·simp at h1
     rcases h1 with rfl | rfl
     ·exact hs
     ·exact hs.neg
structure SzV (P:Prob) (n:Nat) (Y:Nat→Rat) (Ky:Nat):Prop where
 c:∀ q,SzR (sprd (cstL P.V (fun q=>sgn P.mx (P.V q).obj) P.vn) q) P.K
 s:∀ j,j≤n→SzR (sgn P.mx (rsum (prt P.k P.V (fun j=>vbs (P.V j))) (P.vn + 1)) + rsum (fun c=>sprd (cstL P.V (fun q=>sgn P.mx (P.V q).obj) P.vn) c * Y c) j) (3 * P.K + Ky + 6)
 v:∀ k,k≤P.vn + 1→SzR (rsum (prt P.k P.V (fun j=>ptv (P.V j) (clm P.V j) Y)) k) (2 * P.K + Ky + 6)
theorem PQ.szv {w:World} {P:Prob} (hP:PQ w P) (hK:P.K≤1048576) {n Ky:Nat} {Y:Nat→Rat} {Dy:Int} (d1:0 < Dy) (d2:Dy < pw Ky) (d3:∀ j,Wd Ky Dy (Y j)) (hn:n≤100000000) (hKy:Ky≤1048576):SzV P n Y Ky:=by
 have hall:=hP.all
 have hl:=tot_len P.ZV P.vn
 obtain ⟨Do,o1,o2,o3⟩:=Wd.list (X:=fun j=>(P.V j).obj) (Z:=P.ZV) (n:=P.vn) (K:=tot P.ZV P.vn) (fun j hj=>by
  obtain ⟨b,o,hV⟩:=hP.var hj
  exact hV.sobj) (Nat.le_refl _)
 obtain ⟨Db,b1,b2,b3⟩:=hP.bases
 have hcst:=sprd_wd o1 o2 (cstL_wd P.V P.mx P.vn o3)
 have q:=mul_pw (Int.le_of_lt b1) b2 (Int.le_of_lt d1) d2
 have q0:0 < Db * Dy:=Int.mul_pos b1 d1
 refine ⟨fun c=>((hcst c).up (show _≤P.K by omega)).sz (by have:=hP.s1;omega),fun j hj=>?_,fun k hk=>?_⟩
 ·have hk0:=hP.val_szX b1 b2 b3 hK (P.vn + 1) (Nat.le_refl _)
  have hw:=(Wd.self hk0).sgn (b:=P.mx)
  have p:=mul_pw (Int.le_of_lt o1) o2 (Int.le_of_lt d1) d2
  have p0:0 < Do * Dy:=Int.mul_pos o1 d1
  have hs:=Wd.sum (Y:=fun c=>sprd (cstL P.V (fun q=>sgn P.mx (P.V q).obj) P.vn) c * Y c) (n:=n) p0 p.1 (fun c _=>(hcst c).mul (d3 c)) (by omega) j hj
  have hk1:=hw.1
  have hk2:=hw.2.1
  have e1:=hw.lift (e:=tot P.ZV P.vn + Ky + 1) p0 (Int.lt_of_lt_of_le p.1 (pw_mono (by omega)))
  have e2:=hs.lift' hk1 hk2
  exact ((e1.add e2).up (show _≤3 * P.K + Ky + 6 by omega)).sz (by omega)
 ·refine (hP.val_szX (Kx:=tot P.ZV P.vn + Ky + 2) (Dx:=Db * Dy) q0 (Int.lt_of_lt_of_le q.1 (pw_mono (by omega))) (fun j hj=>?_) hK k hk).le (by omega)
  rw [ptv_ryv]
  have e1:=(b3 j hj).lift (e:=Ky) d1 d2
  have e2:=(Wd.ryv (v:=P.V j) (u:=clm P.V j) d3).lift' (e:=tot P.ZV P.vn) b1 b2
  exact ((e1.up (e:=tot P.ZV P.vn + Ky + 1) (by omega)).add (e2.up (by omega)))
set_option maxHeartbeats 4000000 in
theorem num10 (v:Int) (w:World) (h0:-9223372036854775808≤v) (h1:v < 9223372036854775808) :
  Calls Tryz.prog 22 #[.int .i64 v] w fun e w'=>∃ f c n k c' n' k',e = .returned (.agg #[.bool f,.slice c n k,.slice c' n' k'])∧GR w' w.heap.size f c n k c' n' k' (v:Rat) 1∧Below w.heap.size w w':=by
 have R0:=var3_new w (.bool false) (.slice none 0 0) (.slice none 0 0) 27
 have hb0:=bel_d0 w (.cells #[.bool false,.slice none 0 0,.slice none 0 0] 27)
 have hsz:w.heap.size + 1≤(w.alloc (.cells #[.bool false,.slice none 0 0,.slice none 0 0] 27)).heap.size:=by simp
 go_enter Tryz.func22,Tryz.ntmps22
 go_wp2_with fail
 generalize w.alloc (.cells #[.bool false,.slice none 0 0,.slice none 0 0] 27) = W0 at *
 refine (ofD v W0 h0 h1).mono ?_
 rintro e w3 ⟨f5,c5,n5,k5,d5,m5,l5,rfl,G5,hx⟩
 replace G5:=G5.mono (B':=w.heap.size + 1) hsz
 replace R0:=R0.below hx
 replace hb0:=bel_tr hb0 hx
 obtain ⟨r0c0,r0c1,r0c2,r0c3,r0c4,r0c5⟩:=id R0
 obtain ⟨RN,O⟩:=R0.set (.bool f5) (.slice c5 n5 k5) (.slice d5 m5 l5)
 have GN:=(G5.off O (by omega)).mono (B':=w.heap.size) (by omega)
 have BN:=hb0.trans (O.below (Nat.le_refl _))
 clear hx
 go_wp2
 exact bodyPost_ret (v:=.agg #[.bool f5,.slice c5 n5 k5,.slice d5 m5 l5]) (by simp [results,Tryz.results22,go_sem,RN.c0,RN.c1,RN.c2]) rfl ⟨_,_,_,_,_,_,_,rfl,GN,BN⟩
theorem tr_nil (w:World):TR w false none 0 0 none 0 0 0 1:=⟨0,0,((GI.nil w 0).le (Nat.zero_le 1)).ti,((Got.nil w 0).le (Nat.zero_le 1)).num,by simp⟩
def AtP (w:World) (r:Rat) (S:Nat) (e:Ending) (w':World):Prop:=∃ p a na ca d nd cd,e = .returned (.agg #[.bool p,.slice a na ca,.slice d nd cd])∧TR w' p a na ca d nd cd r S∧Below w.heap.size w w'
set_option maxHeartbeats 4000000 in
theorem at10 {xa:Option Addr} {n xc:Nat} {X:Nat→Rat} {S:Nat} (u:Nat) (w:World) (hx:LQ w xa n X (fun _=>S)) (hS1:1≤S) :
  Calls Tryz.prog 16 #[.slice xa n xc,.int .i64 (u:Nat)] w fun e w'=>AtP w (zn n X u) S e w':=by
 have hb0:=bel_d0 w (.cells #[.bool false,.slice none 0 0,.slice none 0 0] 27)
 have h1:¬ (u:Int) < 0:=by omega
 by_cases hq:u < n
 ·have h2:¬ (n:Int)≤(u:Int):=by omega
  have h3:(u:Int) < (n:Int):=by omega
  have hkI3:(u:Int) * 3 = ((u * 3:Nat):Int):=by omega
  rw [zn_lt hq]
  rcases hx with h0 | ⟨b,o,rfl,hel⟩
  ·omega
  obtain ⟨p,a,na,ca,d,nd,cd,c0,c1,c2,hr⟩:=hel u hq
  replace c0:=kept_c hb0 c0
  replace c1:=kept_c hb0 c1
  replace c2:=kept_c hb0 c2
  have BN:=bel_d0 w (.cells #[.bool p,.slice a na ca,.slice d nd cd] 27)
  have GN:=hr.below BN
  clear hel
  go_enter Tryz.func16,Tryz.ntmps16
  go_wp2
  refine bodyPost_ret (v:=.agg #[.bool p,.slice a na ca,.slice d nd cd]) (Rw.ret1 Tryz.results16 _ (Rw.new 27 w #[.bool p,.slice a na ca,.slice d nd cd]) rfl Tryz.underlying27 ratI3) rfl ?_
  exact ⟨_,_,_,_,_,_,_,rfl,GN,BN⟩
 ·have h2:(n:Int)≤(u:Int):=by omega
  rw [zn_ge hq]
  go_enter Tryz.func16,Tryz.ntmps16
  go_wp2
  refine bodyPost_ret (v:=.agg #[.bool false,.slice none 0 0,.slice none 0 0]) (Rw.ret1 Tryz.results16 _ (Rw.new 27 w #[.bool false,.slice none 0 0,.slice none 0 0]) rfl Tryz.underlying27 ratI3) rfl ?_
  exact ⟨_,_,_,_,_,_,_,rfl,(tr_nil _).up hS1,hb0⟩
set_option maxRecDepth 100000 in
set_option maxHeartbeats 4000000 in
theorem largeQ (P:Prob) (w:World) (hP:PQ w P) (hK:P.K≤1048576) :
  Calls Tryz.prog 6 #[P.val] w fun e w'=>AnyB e w w':=by
 have hvn:P.vn≤1048576:=by have:=hP.all;have:=tot_len P.ZV P.vn;omega
 have hrn:P.rn≤1048576:=by have:=hP.all;have:=tot_len P.ZR P.rn;omega
 have Pb:=box_new w #[.bool P.mx,.string P.nm,.bool P.p,.slice P.a P.na P.ca,.slice P.d P.nd P.cd,.slice P.va P.vn P.vc,.slice P.ra P.rn P.rc] 31
 have hb:=bel_d0 w (.cells #[.bool P.mx,.string P.nm,.bool P.p,.slice P.a P.na P.ca,.slice P.d P.nd P.cd,.slice P.va P.vn P.vc,.slice P.ra P.rn P.rc] 31)
 have y0:=Pb 0 _ rfl;have y1:=Pb 1 _ rfl;have y2:=Pb 2 _ rfl;have y3:=Pb 3 _ rfl;have y4:=Pb 4 _ rfl;have y5:=Pb 5 _ rfl;have y6:=Pb 6 _ rfl
 have HB:=beyondQ P (w.alloc (.cells #[.bool P.mx,.string P.nm,.bool P.p,.slice P.a P.na P.ca,.slice P.d P.nd P.cd,.slice P.va P.vn P.vc,.slice P.ra P.rn P.rc] 31)) (hP.below hb) hK
 unfold Prob.val at HB ⊢
 have hm:(2 * (P.rn:Int) + (P.vn:Int)) * (3 * (P.vn:Int) + 2 * (P.rn:Int))≤3145728 * 5242880:=Int.mul_le_mul (by omega) (by omega) (by omega) (by omega)
 have hm0:0≤(2 * (P.rn:Int) + (P.vn:Int)) * (3 * (P.vn:Int) + 2 * (P.rn:Int)):=Int.mul_nonneg (by omega) (by omega)
 by_cases hc:2147483648≤(2 * (P.rn:Int) + (P.vn:Int)) * (3 * (P.vn:Int) + 2 * (P.rn:Int))
 ·go_enter Tryz.func6,Tryz.ntmps6
  go_wp2
  go_ret
  exact ⟨_,rfl,hb⟩
 ·go_enter Tryz.func6,Tryz.ntmps6
  go_wp2_with fail
  clear y0 y1 y2 y3 y4 y5 y6
  generalize w.alloc (.cells #[.bool P.mx,.string P.nm,.bool P.p,.slice P.a P.na P.ca,.slice P.d P.nd P.cd,.slice P.va P.vn P.vc,.slice P.ra P.rn P.rc] 31) = W0 at *
  refine HB.mono ?_
  rintro e w1 ⟨b,rfl,hx⟩
  go_wp2
  go_ret
  exact ⟨_,rfl,bel_tr hb hx⟩
def NumP (w:World) (r:Rat) (U:Nat) (e:Ending) (w':World):Prop:=∃ f c n1 k c' n' k',e = .returned (.agg #[.bool f,.slice c n1 k,.slice c' n' k'])∧GR w' 0 f c n1 k c' n' k' r U∧Below w.heap.size w w'
theorem Rw.set3 {t:TypeId} {w:World} {R:Nat} {a0 a1 a2:Value} (h:Rw t w R #[a0,a1,a2]) (b0 b1 b2:Value):Rw t (((w.setCell ⟨R,0,none⟩ b0).setCell ⟨R,1,none⟩ b1).setCell ⟨R,2,none⟩ b2) R #[b0,b1,b2]∧Off R w (((w.setCell ⟨R,0,none⟩ b0).setCell ⟨R,1,none⟩ b1).setCell ⟨R,2,none⟩ b2):=by
 refine ⟨?_,(((Off.refl _ _).set 0 b0).set 1 b1).set 2 b2⟩
 have:=(((h.set 0 b0).1.set 1 b1).1.set 2 b2).1
 simpa using this
set_option maxRecDepth 100000 in
set_option maxHeartbeats 8000000 in
theorem costsQ {av bv:Value} {gC n:Nat} {C:Nat→Rat} {fK:Bool} {cK:Option Addr} {nK kK:Nat} {dK:Option Addr} {mK lK:Nat} {rK:Rat} {xa:Option Addr} {m xc:Nat} {X:Nat→Rat} {S Sc T U:Nat} (w:World) (hC:RL w 0 (.slice (some ⟨gC,0,none⟩) n n) n C S) (hk:GR w 0 fK cK nK kK dK mK lK rK S) (hx:LQ w xa m X (fun _=>T)) (hT1:1≤T) (hn:n≤100000000)
  (hc:∀ q,SzR (C q) Sc) (hs:∀ j,j≤n→SzR (rK + rsum (fun c=>C c * zn m X c) j) U) (hSc:1≤Sc) (hU1:1≤U) (hsz:U + (Sc + T)≤6000000) (hT:TB w) :
  Calls Tryz.prog 9 #[.agg #[av,bv,.slice (some ⟨gC,0,none⟩) n n,.bool fK,.slice cK nK kK,.slice dK mK lK],.slice xa m xc] w fun e w'=>NumP w (rK + rsum (fun c=>C c * zn m X c) n) U e w':=by
 have HC:Hid (∀ q,SzR (C q) Sc):=hc
 have HS:Hid (∀ j,j≤n→SzR (rK + rsum (fun c=>C c * zn m X c) j) U):=hs
 clear hc hs
 obtain ⟨Bd,B1,B2,hb3,hs3⟩:=boxc3 w #[av,bv,.slice (some ⟨gC,0,none⟩) n n,.bool fK,.slice cK nK kK,.slice dK mK lK] 40 #[.bool false,.slice none 0 0,.slice none 0 0] 27 #[.bool fK,.slice cK nK kK,.slice dK mK lK] 27
 have R1:Rw 27 (((w.alloc (.cells #[av,bv,.slice (some ⟨gC,0,none⟩) n n,.bool fK,.slice cK nK kK,.slice dK mK lK] 40)).alloc (.cells #[.bool false,.slice none 0 0,.slice none 0 0] 27)).alloc (.cells #[.bool fK,.slice cK nK kK,.slice dK mK lK] 27)) (w.heap.size + 1) #[.bool false,.slice none 0 0,.slice none 0 0]:=by
  have:=(Rw.new 27 (w.alloc (.cells #[av,bv,.slice (some ⟨gC,0,none⟩) n n,.bool fK,.slice cK nK kK,.slice dK mK lK] 40)) #[.bool false,.slice none 0 0,.slice none 0 0]).below (bel_d0 _ (.cells #[.bool fK,.slice cK nK kK,.slice dK mK lK] 27))
  rwa [show (w.alloc (.cells #[av,bv,.slice (some ⟨gC,0,none⟩) n n,.bool fK,.slice cK nK kK,.slice dK mK lK] 40)).heap.size = w.heap.size + 1 by simp] at this
 have R2:Rw 27 (((w.alloc (.cells #[av,bv,.slice (some ⟨gC,0,none⟩) n n,.bool fK,.slice cK nK kK,.slice dK mK lK] 40)).alloc (.cells #[.bool false,.slice none 0 0,.slice none 0 0] 27)).alloc (.cells #[.bool fK,.slice cK nK kK,.slice dK mK lK] 27)) (w.heap.size + 2) #[.bool fK,.slice cK nK kK,.slice dK mK lK]:=by
  have:=Rw.new 27 ((w.alloc (.cells #[av,bv,.slice (some ⟨gC,0,none⟩) n n,.bool fK,.slice cK nK kK,.slice dK mK lK] 40)).alloc (.cells #[.bool false,.slice none 0 0,.slice none 0 0] 27)) #[.bool fK,.slice cK nK kK,.slice dK mK lK]
  rwa [show ((w.alloc (.cells #[av,bv,.slice (some ⟨gC,0,none⟩) n n,.bool fK,.slice cK nK kK,.slice dK mK lK] 40)).alloc (.cells #[.bool false,.slice none 0 0,.slice none 0 0] 27)).heap.size = w.heap.size + 2 by simp] at this
 have RD:Rw 40 (((w.alloc (.cells #[av,bv,.slice (some ⟨gC,0,none⟩) n n,.bool fK,.slice cK nK kK,.slice dK mK lK] 40)).alloc (.cells #[.bool false,.slice none 0 0,.slice none 0 0] 27)).alloc (.cells #[.bool fK,.slice cK nK kK,.slice dK mK lK] 27)) w.heap.size #[av,bv,.slice (some ⟨gC,0,none⟩) n n,.bool fK,.slice cK nK kK,.slice dK mK lK]:=((Rw.new 40 w #[av,bv,.slice (some ⟨gC,0,none⟩) n n,.bool fK,.slice cK nK kK,.slice dK mK lK]).below (bel_d0 _ _)).below (bel_d0 _ _)
 have Bd0:=box_new w #[av,bv,.slice (some ⟨gC,0,none⟩) n n,.bool fK,.slice cK nK kK,.slice dK mK lK] 40
 have y3:=Bd0 3 _ rfl;have y4:=Bd0 4 _ rfl;have y5:=Bd0 5 _ rfl
 have z3':=kept_c (bel_d0 (w.alloc (.cells #[av,bv,.slice (some ⟨gC,0,none⟩) n n,.bool fK,.slice cK nK kK,.slice dK mK lK] 40)) (.cells #[.bool false,.slice none 0 0,.slice none 0 0] 27)) y3;have z4':=kept_c (bel_d0 (w.alloc (.cells #[av,bv,.slice (some ⟨gC,0,none⟩) n n,.bool fK,.slice cK nK kK,.slice dK mK lK] 40)) (.cells #[.bool false,.slice none 0 0,.slice none 0 0] 27)) y4;have z5':=kept_c (bel_d0 (w.alloc (.cells #[av,bv,.slice (some ⟨gC,0,none⟩) n n,.bool fK,.slice cK nK kK,.slice dK mK lK] 40)) (.cells #[.bool false,.slice none 0 0,.slice none 0 0] 27)) y5
 go_enter Tryz.func9,Tryz.ntmps9
 go_wp2_with fail
 clear y3 y4 y5 z3' z4' z5' Bd0 Bd B1 B2
 generalize ((w.alloc (.cells #[av,bv,.slice (some ⟨gC,0,none⟩) n n,.bool fK,.slice cK nK kK,.slice dK mK lK] 40)).alloc (.cells #[.bool false,.slice none 0 0,.slice none 0 0] 27)).alloc (.cells #[.bool fK,.slice cK nK kK,.slice dK mK lK] 27) = W0 at *
 have G0:GR W0 0 fK cK nK kK dK mK lK (rK + rsum (fun c=>C c * zn m X c) 0) U:=((hk.below hb3).val (Rat.add_zero rK).symm).fit (HS.out 0 (Nat.zero_le _))
 go_loopw [6] (fun s wr=>∃ (i:Nat) (fs:Bool) (cs:Option Addr) (ns ks:Nat) (ds:Option Addr) (ms ls:Nat),i≤n∧s = .int .i64 i∧Rw 27 wr (w.heap.size + 2) #[.bool fs,.slice cs ns ks,.slice ds ms ls]∧GR wr 0 fs cs ns ks ds ms ls (rK + rsum (fun c=>C c * zn m X c) i) U∧Rw 27 wr (w.heap.size + 1) #[.bool false,.slice none 0 0,.slice none 0 0]∧Rw 40 wr w.heap.size #[av,bv,.slice (some ⟨gC,0,none⟩) n n,.bool fK,.slice cK nK kK,.slice dK mK lK]∧Below w.heap.size w wr) (fun t _=>n - (intOf t).toNat)
 case atStart=>exact ⟨0,_,_,_,_,_,_,_,Nat.zero_le _,rfl,R2,G0,R1,RD,hb3⟩
 case round =>
  clear R2 G0 R1 RD hb3
  obtain ⟨i,fs,cs,ns,ks,ds,ms,ls,hi,rfl,RSi,GSi,R1,RD,hbr⟩:=hrel
  have d2':=(RD.cell 2).trans (show _ = some (.slice (some ⟨gC,0,none⟩) n n) from rfl)
  have hsw:=RSi.lt
  by_cases hlt:i < n
  ·have hkI:(i:Int) < (n:Int):=by omega
   have hkI3:(i:Int) * 3 = ((i * 3:Nat):Int):=by omega
   have hi0:¬ (i:Int) < 0:=by omega
   obtain ⟨g',p,a,na,ca,d,nd,cd,eg,ce0,ce1,ce2,GCi⟩:=(hC.below hbr).at hlt
   obtain rfl:gC = g':=by simpa using eg
   replace GCi:=GCi.fit (HC.out i)
   have hx2:=hx.below hbr
   have HT2:=hT.below hbr
   go_wp2_with fail
   clear eg
   have HBX:∀ w',Below wr.heap.size wr w'→(w'.cell? ⟨w.heap.size + 2,0,none⟩ = some (.bool fs)∧w'.cell? ⟨w.heap.size + 2,1,none⟩ = some (.slice cs ns ks)∧w'.cell? ⟨w.heap.size + 2,2,none⟩ = some (.slice ds ms ls)∧w'.cell? ⟨w.heap.size,2,none⟩ = some (.slice (some ⟨gC,0,none⟩) n n)∧w'.cell? ⟨gC,i * 3,none⟩ = some (.bool p)∧w'.cell? ⟨gC,i * 3 + 1,none⟩ = some (.slice a na ca)∧w'.cell? ⟨gC,i * 3 + 2,none⟩ = some (.slice d nd cd)):=fun w' h=>⟨((RSi.below h).cell 0).trans rfl,((RSi.below h).cell 1).trans rfl,((RSi.below h).cell 2).trans rfl,kept_c h d2',kept_c h ce0,kept_c h ce1,kept_c h ce2⟩
   refine wp_region_noPanic (wp_region_guardT 11 HBX (by as_aux_lemma=>kernel_rfl) ?_)
   have hc0:Below wr.heap.size wr wr.drew:=bel_d1 _
   generalize wr.drew = z0 at *
   refine wpAnyG.tT 0 (v:=.agg #[.bool fs,.slice cs ns ks,.slice ds ms ls]) (by decide) 11 (by as_aux_lemma=>kernel_rfl) (by rfl) ?y0 (HBX _ hc0) ?_
   case y0 =>
    rintro w' ⟨q0,q1,q2,q3,q4,q5,q6⟩
    simp only [lgA,lgZ]
    go_simp
   simp only [lgA,lgZ,Act.put,lsA,lsZ,lsS]
   refine wpAnyG.tT 1 (v:=.pointer (some ⟨w.heap.size,2,none⟩)) (by decide) 11 (by as_aux_lemma=>kernel_rfl) (by rfl) ?y1 (HBX _ hc0) ?_
   case y1 =>
    rintro w' ⟨q0,q1,q2,q3,q4,q5,q6⟩
    simp only [lgA,lgZ,lgS]
    go_simp
   simp only [lgA,lgZ,lgS,Act.put,lsA,lsZ,lsS]
   refine wpAnyG.tT 2 (v:=.slice (some ⟨gC,0,none⟩) n n) (by decide) 11 (by as_aux_lemma=>kernel_rfl) (by rfl) ?y2 (HBX _ hc0) ?_
   case y2 =>
    rintro w' ⟨q0,q1,q2,q3,q4,q5,q6⟩
    simp only [lgA,lgZ,lgS]
    go_simp
   simp only [lgA,lgZ,lgS,Act.put,lsA,lsZ,lsS]
   refine wpAnyG.tT 3 (v:=.int .i64 (i:Nat)) (by decide) 11 (by as_aux_lemma=>kernel_rfl) (by rfl) ?y3 (HBX _ hc0) ?_
   case y3 =>
    rintro w' ⟨q0,q1,q2,q3,q4,q5,q6⟩
    simp only [lgA,lgZ,lgS]
    go_simp
   simp only [lgA,lgZ,lgS,Act.put,lsA,lsZ,lsS]
   refine wpAnyG.tT 4 (v:=.pointer (some ⟨gC,i * 3,none⟩)) (by decide) 11 (by as_aux_lemma=>kernel_rfl) (by rfl) ?y4 (HBX _ hc0) ?_
   case y4 =>
    rintro w' ⟨q0,q1,q2,q3,q4,q5,q6⟩
    simp only [lgA,lgZ,lgS]
    go_simp
   simp only [lgA,lgZ,lgS,Act.put,lsA,lsZ,lsS]
   refine wpAnyG.tT 5 (v:=.agg #[.bool p,.slice a na ca,.slice d nd cd]) (by decide) 11 (by as_aux_lemma=>kernel_rfl) (by rfl) ?y5 (HBX _ hc0) ?_
   case y5 =>
    rintro w' ⟨q0,q1,q2,q3,q4,q5,q6⟩
    simp only [lgA,lgZ,lgS]
    go_simp
   simp only [lgA,lgZ,lgS,Act.put,lsA,lsZ,lsS]
   refine wpAnyG.tT 6 (v:=.slice xa m xc) (by decide) 11 (by as_aux_lemma=>kernel_rfl) (by rfl) ?y6 (HBX _ hc0) ?_
   case y6 =>
    rintro w' ⟨q0,q1,q2,q3,q4,q5,q6⟩
    simp only [lgA,lgZ,lgS]
    go_simp
   simp only [lgA,lgZ,lgS,Act.put,lsA,lsZ,lsS]
   refine wpAnyG.tT 7 (v:=.int .i64 (i:Nat)) (by decide) 11 (by as_aux_lemma=>kernel_rfl) (by rfl) ?y7 (HBX _ hc0) ?_
   case y7 =>
    rintro w' ⟨q0,q1,q2,q3,q4,q5,q6⟩
    simp only [lgA,lgZ,lgS]
    go_simp
   simp only [lgA,lgZ,lgS,Act.put,lsA,lsZ,lsS]
   refine wpAnyG.one 8 (by as_aux_lemma=>kernel_rfl) (by decide) (by rfl) (fun K hK=>?_)
   simp only [lgA,lgZ,lgS]
   go_simp
   refine (at10 i z0 (hx2.below hc0) hT1).mono ?_
   rintro e z1 ⟨p1,a1,n1,k1,d1,m1,l1,rfl,G1,hk1⟩
   have hc1:Below wr.heap.size wr z1:=bel_tr hc0 hk1
   dsimp only
   refine hK _ _ ⟨fun _=>HBX _ hc1,fun _=>trivial⟩ ?_
   clear hK K
   refine wpAnyG.one 9 (by as_aux_lemma=>kernel_rfl) (by decide) (by rfl) (fun K hK=>?_)
   simp only [lgA,lgZ,lgS]
   go_simp
   refine (mulQ z1 (GCi.tr.below hc1) G1 (by omega) (by omega) hT1 (HT2.below hc1)).mono ?_
   rintro e z2 ⟨f2,c2,n2,k2,d2,m2,l2,rfl,G2,hk2⟩
   have hc2:Below wr.heap.size wr z2:=bel_tr hc1 hk2
   dsimp only
   refine hK _ _ ⟨fun _=>HBX _ hc2,fun _=>trivial⟩ ?_
   clear hK K
   refine wpAnyG.one 10 (by as_aux_lemma=>kernel_rfl) (by decide) (by rfl) (fun K hK=>?_)
   simp only [lgA,lgZ,lgS]
   go_simp
   refine (addQ z2 (GSi.tr.below hc2) G2.tr (by omega) (by omega) (by omega) (HT2.below hc2)).mono ?_
   rintro e z3 ⟨f3,c3,n3,k3,d3,m3,l3,rfl,G3,hk3⟩
   have hc3:Below wr.heap.size wr z3:=bel_tr hc2 hk3
   dsimp only
   refine hK _ _ ⟨fun _=>HBX _ hc3,fun _=>trivial⟩ ?_
   clear hK K
   refine wpAnyG.one 11 (by as_aux_lemma=>kernel_rfl) (by decide) (by rfl) (fun K hK=>?_)
   simp only [lgA,lgZ,lgS]
   have RS3:=RSi.below hc3
   have t0:=(RS3.cell 0).trans (show _ = some (.bool fs) from rfl);have t1:=(RS3.cell 1).trans (show _ = some (.slice cs ns ks) from rfl);have t2:=(RS3.cell 2).trans (show _ = some (.slice ds ms ls) from rfl)
   have v0:=RS3.frozen 0;have v1:=RS3.frozen 1;have v2:=RS3.frozen 2
   go_simp
   refine hK _ _ ⟨fun h=>absurd h (by decide),fun _=>trivial⟩ ?_
   clear t0 t1 t2 v0 v1 v2
   clear hK K
   refine wpAnyG.done (by as_aux_lemma=>kernel_rfl) (NoPanic.normal ?_)
   obtain ⟨RN,ON⟩:=(RSi.below hc3).set3 (.bool f3) (.slice c3 n3 k3) (.slice d3 m3 l3)
   have GN:GR (((z3.setCell ⟨w.heap.size + 2,0,none⟩ (.bool f3)).setCell ⟨w.heap.size + 2,1,none⟩ (.slice c3 n3 k3)).setCell ⟨w.heap.size + 2,2,none⟩ (.slice d3 m3 l3)) 0 f3 c3 n3 k3 d3 m3 l3 (rK + rsum (fun c=>C c * zn m X c) (i + 1)) U:=by
    refine (((G3.mono (Nat.zero_le _)).keep (row:=some (w.heap.size + 2)) ((RSi.below hc3).noW (by decide)) ON.grown).val ?_).fit (HS.out (i + 1) (by omega))
    rw [rsum_succ,Rat.add_assoc]
   have R1N:=(R1.below hc3).off ON (by omega)
   have RDN:=(RD.below hc3).off ON (by omega)
   have hbN:Below w.heap.size w (((z3.setCell ⟨w.heap.size + 2,0,none⟩ (.bool f3)).setCell ⟨w.heap.size + 2,1,none⟩ (.slice c3 n3 k3)).setCell ⟨w.heap.size + 2,2,none⟩ (.slice d3 m3 l3)):=(bel_tr hbr hc3).trans (ON.below (by omega))
   clear HBX hc0 hc1 hc2 hc3 hk1 hk2 hk3 G1 G2 G3 ON RSi GSi R1 RD hbr d2' ce0 ce1 ce2 GCi hx2 HT2
   generalize ((z3.setCell ⟨w.heap.size + 2,0,none⟩ (.bool f3)).setCell ⟨w.heap.size + 2,1,none⟩ (.slice c3 n3 k3)).setCell ⟨w.heap.size + 2,2,none⟩ (.slice d3 m3 l3) = w9 at *
   go_wp2
   go_roundw
   case rel=>first | exact ⟨i + 1,_,_,_,_,_,_,_,by omega,by go_num,RN,GN,R1N,RDN,hbN⟩ | ((repeat apply Exists.intro);refine ⟨?_,rfl⟩;exact ⟨i + 1,_,_,_,_,_,_,_,by omega,by go_num,RN,GN,R1N,RDN,hbN⟩)
   case measure=>simp [intOf];omega
  ·obtain rfl:i = n:=by omega
   have hkI:¬ (i:Int) < (i:Int):=by omega
   have t0:=(RSi.cell 0).trans (show _ = some (.bool fs) from rfl);have t1:=(RSi.cell 1).trans (show _ = some (.slice cs ns ks) from rfl);have t2:=(RSi.cell 2).trans (show _ = some (.slice ds ms ls) from rfl)
   have u0:=(R1.cell 0).trans (show _ = some (.bool false) from rfl);have u1:=(R1.cell 1).trans (show _ = some (.slice none 0 0) from rfl);have u2:=(R1.cell 2).trans (show _ = some (.slice none 0 0) from rfl)
   have v0:=R1.frozen 0;have v1:=R1.frozen 1;have v2:=R1.frozen 2
   obtain ⟨RN,ON⟩:=R1.set3 (.bool fs) (.slice cs ns ks) (.slice ds ms ls)
   have GN:=GSi.keep (row:=some (w.heap.size + 1)) (R1.noW (by decide)) ON.grown
   have hbN:=hbr.trans (ON.below (by omega))
   go_wp2
   refine bodyPost_ret (v:=.agg #[.bool fs,.slice cs ns ks,.slice ds ms ls]) (Rw.ret1 Tryz.results9 _ RN rfl Tryz.underlying27 ratI3) rfl ?_
   exact ⟨_,_,_,_,_,_,_,rfl,GN,hbN⟩
def eqsQ (Q:Prob):List Eqn × Nat:=varsE Q.V (rowsE Q.V Q.R (fun i=>cv (Q.R i) (fun j=>vbs (Q.V j)) Q.vn) Q.vn Q.rn) Q.vn
def cstQ (Q:Prob):List PT:=cstL Q.V (fun q=>sgn Q.mx (Q.V q).obj) Q.vn
def kQ (Q:Prob):Rat:=sgn Q.mx (rsum (prt Q.k Q.V (fun j=>vbs (Q.V j))) (Q.vn + 1))
theorem Tid.eqs {P Q:Prob} (h:Tid P Q):EqO (eqsQ Q)∧clm Q.V Q.vn≤(eqsQ Q).2:=by
 obtain ⟨h1,h2⟩:=rows_ok (V:=Q.V) (R:=Q.R) (st:=fun i=>cv (Q.R i) (fun j=>vbs (Q.V j)) Q.vn) (n:=Q.vn) Q.rn (fun k hk=>by
  obtain ⟨_,_,_,_,_,g⟩:=h.R k (by rw [← h.rn];exact hk)
  rw [h.vn]
  exact ⟨g.up,g.lt⟩)
 obtain ⟨h3,h4⟩:=vars_ok h1 h2 Q.vn (Nat.le_refl _)
 exact ⟨h3,Nat.le_trans h2 h4⟩
theorem eqsQ_len (Q:Prob):(eqsQ Q).1.length≤2 * Q.rn + Q.vn∧(eqsQ Q).2≤3 * Q.vn + 2 * Q.rn:=by
 obtain ⟨h1,h2⟩:=rows_len Q.V Q.R (fun i=>cv (Q.R i) (fun j=>vbs (Q.V j)) Q.vn) Q.vn Q.rn
 obtain ⟨h3,h4⟩:=vars_len Q.V (rowsE Q.V Q.R (fun i=>cv (Q.R i) (fun j=>vbs (Q.V j)) Q.vn) Q.vn Q.rn) Q.vn
 unfold eqsQ
 omega
theorem PQ.lens {w:World} {Q:Prob} (hP:PQ w Q) (hK:Q.K≤1048576):Q.vn≤1048576∧Q.rn≤1048576:=by
 have:=hP.all
 have:=tot_len Q.ZV Q.vn
 have:=tot_len Q.ZR Q.rn
 omega
theorem stdShape {R:Nat} {Q:Prob} (w:World) (h:SHP w R Q) (hP:PQ w Q) (hK:Q.K≤1048576) (ho:EqO (eqsQ Q)∧clm Q.V Q.vn≤(eqsQ Q).2) (hT:TB w) :
  Calls Tryz.prog 10 #[.pointer (some ⟨R,0,none⟩)] w fun e w'=>StdP w (cstQ Q) (eqsQ Q).1 (eqsQ Q).2 (2 * Q.K + 3) (kQ Q) e w':=by
 obtain ⟨F,sa,sc,csv,k1,k2,k3,ev,c,fv,h0,h1,h2,h3,h4,h5,h6⟩:=h
 obtain ⟨qa,qc,rfl,_⟩:=h3.form
 obtain ⟨ea,ec,rfl,_⟩:=h5.form
 obtain ⟨f,c0,n0,k0,d0,m0,l0,rfl,rfl,rfl,g⟩:=h4
 obtain ⟨hv,hr⟩:=hP.lens hK
 obtain ⟨e1,e2⟩:=eqsQ_len Q
 subst h6
 have hc:=(cstL_inc Q.V (fun q=>sgn Q.mx (Q.V q).obj) Q.vn).up ho.2
 exact standardQ w h1 h3 g h5 hc.2 (fun e he=>(ho.1 e he).2) (show (eqsQ Q).2≤_ by omega) (Nat.le_trans hc.len (by omega)) (fun e he=>Nat.le_trans (ho.1 e he).len (by omega)) (show (eqsQ Q).1.length≤_ by omega) (by omega) (by omega) hT
theorem ptShape {R:Nat} {Q:Prob} {xa:Option Addr} {m xc:Nat} {X:Nat→Rat} {T:Nat} (w:World) (h:SHP w R Q) (hP:PQ w Q) (hK:Q.K≤1048576) (hx:LQ w xa m X (fun _=>T)) (hT1:1≤T) (hT2:T≤1500000) (hT:TB w) :
  Calls Tryz.prog 12 #[.pointer (some ⟨R,0,none⟩),.slice xa m xc] w fun e w'=>∃ a cap,e = .returned (.slice a Q.vn cap)∧RL w' w.heap.size (.slice a Q.vn cap) Q.vn (fun q=>ptv (Q.V q) (clm Q.V q) (zn m X)) (2 * Q.K + 3 + T + T + 1)∧Below w.heap.size w w':=by
 obtain ⟨F,sa,sc,csv,k1,k2,k3,ev,c,fv,h0,h1,h2,h3,h4,h5,h6⟩:=h
 obtain ⟨hv,hr⟩:=hP.lens hK
 exact pointQ w h1 h2 hx hT1 (by omega) (by omega) hv hT
theorem ryShape {R:Nat} {Q:Prob} {xa:Option Addr} {m xc:Nat} {X:Nat→Rat} {T:Nat} (w:World) (h:SHP w R Q) (hP:PQ w Q) (hK:Q.K≤1048576) (hx:LQ w xa m X (fun _=>T)) (hT1:1≤T) (hT2:T≤1500000) (hT:TB w) :
  Calls Tryz.prog 17 #[.pointer (some ⟨R,0,none⟩),.slice xa m xc] w fun e w'=>∃ a cap,e = .returned (.slice a Q.vn cap)∧RL w' w.heap.size (.slice a Q.vn cap) Q.vn (fun q=>ryv (Q.V q) (clm Q.V q) (zn m X)) (2 * Q.K + 3 + T + T + 1)∧Below w.heap.size w w':=by
 obtain ⟨F,sa,sc,csv,k1,k2,k3,ev,c,fv,h0,h1,h2,h3,h4,h5,h6⟩:=h
 obtain ⟨hv,hr⟩:=hP.lens hK
 exact rayQ w h1 h2 hx hT1 (by omega) (by omega) hv hT
theorem LQ.unif {w:World} {a:Option Addr} {n:Nat} {X:Nat→Rat} {Z:Nat→Nat} {T:Nat} (h:LQ w a n X Z) (hz:∀ i,i < n→Z i≤T):LQ w a n X (fun _=>T):=by
 rcases h with h | ⟨b,o,e,h⟩
 ·exact .inl h
 ·refine .inr ⟨b,o,e,fun i hi=>?_⟩
  obtain ⟨p,a,na,ca,d,nd,cd,h1,h2,h3,h4⟩:=h i hi
  exact ⟨p,a,na,ca,d,nd,cd,h1,h2,h3,h4.up (hz i hi)⟩
end Go.Proofs.YtlfobaanbmfafaaGreatDoor
