import Derived.Test.YtgdilnljjgdinaaGreatDoorLyNAll
import Derived.Test.YtgdilnljjgdinaaGreatDoorR5MpAll
import Derived.Test.YtgdilnljjgdinaaGreatDoorR5IAll
namespace Go.Proofs.YtgdilnljjgdinaaGreatDoor
open Go.RowKit Go.Shelf
theorem Rw.ret3 {fn:Func} {p q r:Tmp} {ty:TypeId} (h:fn.results = #[.cell p ty,.tmp q,.tmp r]) (tmps:Array Value) {w:World} {g:Nat} {cs:Array Value} (hr:Rw ty w g cs)
  (hp:tmps.getD p undef = .pointer (some ⟨g,0,none⟩)) {fs} (hu:Tryz.prog.underlying ty=some (.struct fs)) (hi:(Tryz.prog.info? ty).map (·.size)=some cs.size) :
  (results fn tmps).run Tryz.prog w = .ok (.tuple #[.agg cs,tmps.getD q undef,tmps.getD r undef]) w:=by
 have hp':tmps[p]?.getD undef = .pointer (some ⟨g,0,none⟩):=by simpa using hp
 simp [results,h,hp',asAddr,run_loadVar_row w g ty ty cs _ (.struct fs) hr hu rfl hi]
set_option maxRecDepth 100000 in
set_option maxHeartbeats 4000000 in
theorem tkS (s:ByteArray) {k n p K:Nat} {x:ByteArray} (w:World) (hk:k<s.size) (kp:(k:Int)≤(p:Int)) (lp:(p:Int)≤(s.size:Int)) (hx:s.extract k p=x) (hp:IntKind.i64.wrap ((k:Int)+(n:Int))=(p:Int)) (hK:¬ (K:Int)=0) (H1:(∀ u,Calls Tryz.prog 31 #[.string s,.int .i64 (k:Int)] u fun e w'=>e = .returned (.tuple #[.int .i64 (K:Nat),.int .i64 (n:Nat)])∧w'=u)) :
  Calls Tryz.prog 16 #[.string s,.int .i64 (k:Int)] w fun e w'=>e = .returned (.tuple #[.agg (tkC (K:Nat) x (.bool false) (.slice none 0 0) (.slice none 0 0) 0 0 0),.int .i64 (p:Int),.int .i64 0])∧Below w.heap.size w w':=by
 have hKb:((K:Int) == 0)=false:=by simpa using hK
 have hKx:((K:Int) != 0)=true:=by simpa using hK
 have jp:(0:Int)≤(p:Int):=by omega
 have hk0:(0:Int)≤(k:Int):=by omega
 have hkI:(k:Int)<(s.size:Int):=by omega
 have R0:=Rw.new 46 w #[.int .i64 0,.string ⟨#[]⟩,.bool false,.slice none 0 0,.slice none 0 0,.int .i64 0,.int .i64 0,.int .i64 0]
 have hb:Below w.heap.size w (w.alloc (.cells #[.int .i64 0,.string ⟨#[]⟩,.bool false,.slice none 0 0,.slice none 0 0,.int .i64 0,.int .i64 0,.int .i64 0] 46)):=bel_d0 w _
 have hWs:w.heap.size<(w.alloc (.cells #[.int .i64 0,.string ⟨#[]⟩,.bool false,.slice none 0 0,.slice none 0 0,.int .i64 0,.int .i64 0,.int .i64 0] 46)).heap.size:=by simp
 go_enter Tryz.func16,Tryz.ntmps16
 go_wp2_with fail
 generalize w.alloc (.cells #[.int .i64 0,.string ⟨#[]⟩,.bool false,.slice none 0 0,.slice none 0 0,.int .i64 0,.int .i64 0,.int .i64 0] 46)=W0 at *
 refine (H1 _).mono ?_
 rintro e w1 ⟨rfl,ez⟩
 subst w1
 clear H1
 go_wp2_with (refine R0.put (tkC (K:Nat) x (.bool false) (.slice none 0 0) (.slice none 0 0) 0 0 0) rfl _ _ rfl rfl rfl tkI rfl (tkC_one _ _ _ _ _ rfl rfl rfl) ?_)
 intro w4 R2 O
 have hb2:=hb.trans (O.below (B:=w.heap.size) (Nat.le_refl _))
 go_wp2
 exact bodyPost_ret (R2.ret3 Tryz.results16 _ rfl Tryz.underlying46 tkI) rfl ⟨rfl,hb2⟩
set_option maxRecDepth 100000 in
set_option maxHeartbeats 4000000 in
theorem tkP (s:ByteArray) {k:Nat} (w:World) (hk:k<s.size) (hby:((s[k]'hk).toNat:Int)=46) (H1:(∀ u,Calls Tryz.prog 31 #[.string s,.int .i64 (k:Int)] u fun e w'=>e = .returned (.tuple #[.int .i64 0,.int .i64 0])∧w'=u)) (HD:(∀ u,Calls Tryz.prog 32 #[.string s,.int .i64 (k:Int)] u fun e w'=>e = .returned (.bool false)∧w'=u)) (HL:(∀ u,Calls Tryz.prog 33 #[.string s,.int .i64 (k:Int)] u fun e w'=>e = .returned (.int .i64 (k:Int))∧w'=u)) :
  Calls Tryz.prog 16 #[.string s,.int .i64 (k:Int)] w fun e w'=>e = .returned (.tuple #[.agg (tkC 0 ⟨#[]⟩ (.bool false) (.slice none 0 0) (.slice none 0 0) 0 0 0),.int .i64 0,.int .i64 5])∧Below w.heap.size w w':=by
 have hk0:(0:Int)≤(k:Int):=by omega
 have hkI:(k:Int)<(s.size:Int):=by omega
 have R0:=Rw.new 46 w #[.int .i64 0,.string ⟨#[]⟩,.bool false,.slice none 0 0,.slice none 0 0,.int .i64 0,.int .i64 0,.int .i64 0]
 have hb:Below w.heap.size w (w.alloc (.cells #[.int .i64 0,.string ⟨#[]⟩,.bool false,.slice none 0 0,.slice none 0 0,.int .i64 0,.int .i64 0,.int .i64 0] 46)):=bel_d0 w _
 have hWs:w.heap.size<(w.alloc (.cells #[.int .i64 0,.string ⟨#[]⟩,.bool false,.slice none 0 0,.slice none 0 0,.int .i64 0,.int .i64 0,.int .i64 0] 46)).heap.size:=by simp
 go_enter Tryz.func16,Tryz.ntmps16
 go_wp2_with fail
 generalize w.alloc (.cells #[.int .i64 0,.string ⟨#[]⟩,.bool false,.slice none 0 0,.slice none 0 0,.int .i64 0,.int .i64 0,.int .i64 0] 46)=W0 at *
 refine (H1 _).mono ?_
 rintro e w1 ⟨rfl,ez⟩
 subst w1
 clear H1
 go_wp2_with fail
 refine (HD _).mono ?_
 rintro e w1 ⟨rfl,ez⟩
 subst w1
 clear HD
 go_wp2_with fail
 refine (HL _).mono ?_
 rintro e w1 ⟨rfl,ez⟩
 subst w1
 clear HL
 have hkk:((k:Int) == (k:Int))=true:=by simp
 go_wp2_with (refine R0.put (tkC 0 ⟨#[]⟩ (.bool false) (.slice none 0 0) (.slice none 0 0) 0 0 0) rfl _ _ rfl rfl rfl tkI rfl (tkC_one _ _ _ _ _ rfl rfl rfl) ?_)
 intro w4 R2 O
 have hb2:=hb.trans (O.below (B:=w.heap.size) (Nat.le_refl _))
 go_wp2
 exact bodyPost_ret (R2.ret3 Tryz.results16 _ rfl Tryz.underlying46 tkI) rfl ⟨rfl,hb2⟩
def PzD (u w':World) (f:Bool) (c:Option Addr) (n k1:Nat) (c':Option Addr) (n' k':Nat) (q:Rat) (code:Int):Prop :=
 (code=0∧GR w' u.heap.size f c n k1 c' n' k' q 5000000)∨(code≠0∧f=false∧c=none∧n=0∧k1=0∧c'=none∧n'=0∧k'=0)
theorem PzD.off {u w w' v:World} {R:Nat} {f:Bool} {c:Option Addr} {n k1:Nat} {c':Option Addr} {n' k':Nat} {q:Rat} {code:Int} (h:PzD u w f c n k1 c' n' k' q code) (o:Off R w w') (hR:R<u.heap.size) (hv:v.heap.size≤u.heap.size):PzD v w' f c n k1 c' n' k' q code :=
 h.imp (fun h=>⟨h.1,(h.2.off o hR).mono hv⟩) id
set_option maxRecDepth 100000 in
set_option maxHeartbeats 4000000 in
theorem tkD (s:ByteArray) {k p:Nat} {x:ByteArray} {d:Bool} {q:Rat} {code:Int} (w:World) (hk:k<s.size) (kp:(k:Int)<(p:Int)) (lp:(p:Int)≤(s.size:Int)) (hx:s.extract k p=x) (hd:d=true∨(d=false∧((s[k]'hk).toNat:Int)=46)) (H1:(∀ u,Calls Tryz.prog 31 #[.string s,.int .i64 (k:Int)] u fun e w'=>e = .returned (.tuple #[.int .i64 0,.int .i64 0])∧w'=u)) (HD:(∀ u,Calls Tryz.prog 32 #[.string s,.int .i64 (k:Int)] u fun e w'=>e = .returned (.bool d)∧w'=u)) (HL:(∀ u,Calls Tryz.prog 33 #[.string s,.int .i64 (k:Int)] u fun e w'=>e = .returned (.int .i64 (p:Int))∧w'=u))
  (HP:∀ u,Calls Tryz.prog 34 #[.string x] u fun e w'=>∃ f c n k1 c' n' k',e = .returned (.tuple #[.agg #[.bool f,.slice c n k1,.slice c' n' k'],.int .i64 code])∧PzD u w' f c n k1 c' n' k' q code∧Below u.heap.size u w') :
  Calls Tryz.prog 16 #[.string s,.int .i64 (k:Int)] w fun e w'=>∃ f c n k1 c' n' k',e = .returned (.tuple #[.agg (tkC 2 x (.bool f) (.slice c n k1) (.slice c' n' k') 0 0 0),.int .i64 (p:Int),.int .i64 code])∧PzD w w' f c n k1 c' n' k' q code∧Below w.heap.size w w':=by
 have jp:(0:Int)≤(p:Int):=by omega
 have kp2:(k:Int)≤(p:Int):=by omega
 have kpn:¬ (p:Int)=(k:Int):=by omega
 have kpb:((p:Int) == (k:Int))=false:=by simpa using kpn
 have hk0:(0:Int)≤(k:Int):=by omega
 have hkI:(k:Int)<(s.size:Int):=by omega
 have R0:=Rw.new 46 w #[.int .i64 0,.string ⟨#[]⟩,.bool false,.slice none 0 0,.slice none 0 0,.int .i64 0,.int .i64 0,.int .i64 0]
 have hb:Below w.heap.size w (w.alloc (.cells #[.int .i64 0,.string ⟨#[]⟩,.bool false,.slice none 0 0,.slice none 0 0,.int .i64 0,.int .i64 0,.int .i64 0] 46)):=bel_d0 w _
 have hWs:w.heap.size<(w.alloc (.cells #[.int .i64 0,.string ⟨#[]⟩,.bool false,.slice none 0 0,.slice none 0 0,.int .i64 0,.int .i64 0,.int .i64 0] 46)).heap.size:=by simp
 go_enter Tryz.func16,Tryz.ntmps16
 go_wp2_with fail
 generalize w.alloc (.cells #[.int .i64 0,.string ⟨#[]⟩,.bool false,.slice none 0 0,.slice none 0 0,.int .i64 0,.int .i64 0,.int .i64 0] 46)=W0 at *
 refine (H1 _).mono ?_
 rintro e w1 ⟨rfl,ez⟩
 subst w1
 clear H1
 rcases hd with rfl|⟨rfl,hby⟩
 ·go_wp2_with fail
  refine (HD _).mono ?_
  rintro e w1 ⟨rfl,ez⟩
  subst w1
  clear HD
  go_wp2_with fail
  refine (HL _).mono ?_
  rintro e w1 ⟨rfl,ez⟩
  subst w1
  clear HL
  go_wp2_with fail
  refine (HP _).mono ?_
  clear HP
  rintro e w2 ⟨f,c,n,k1,c',n',k',rfl,hZ,h2⟩
  have R1:=(R0.below h2).below (bel_d0 w2 (.cells #[.bool f,.slice c n k1,.slice c' n' k'] 44))
  have VT:=var3_new w2 (.bool f) (.slice c n k1) (.slice c' n' k') 44
  have hb3:=(bel_tr hb h2).trans ((bel_d0 w2 (.cells #[.bool f,.slice c n k1,.slice c' n' k'] 44)).mono (bel_tr hb h2).size)
  have HZ:Hid (∀ z,Below w2.heap.size w2 z→PzD W0 z f c n k1 c' n' k' q code):=fun z hz=>hZ.imp (fun h=>⟨h.1,h.2.below hz⟩) id
  have hkz:=bel_d0 w2 (.cells #[.bool f,.slice c n k1,.slice c' n' k'] 44)
  have hWs2:=hb.size
  clear h2 R0 hZ hb
  go_wp2_with fail
  generalize w2.alloc (.cells #[.bool f,.slice c n k1,.slice c' n' k'] 44)=W2 at *
  have HB9:∀ w',Below W2.heap.size W2 w'→(w'.cell? ⟨w2.heap.size,0,none⟩=some (.bool f)∧w'.cell? ⟨w2.heap.size,1,none⟩=some (.slice c n k1)∧w'.cell? ⟨w2.heap.size,2,none⟩=some (.slice c' n' k')):=fun w' h=>⟨kept_c h VT.c0,kept_c h VT.c1,kept_c h VT.c2⟩
  refine wp_region_noPanic (wp_region_guardT 8 HB9 (by as_aux_lemma=>kernel_rfl) ?_)
  have hc0:Below W2.heap.size W2 W2.drew:=bel_d1 _
  generalize W2.drew=z0 at *
  refine wpAnyG.take 6 (v:=.int .i64 (p:Int)) (by decide) (by as_aux_lemma=>kernel_rfl) (fun _ _ _ h=>h) 9 (fun _=>True) (by rfl) (till_ind (by decide) (by decide)) (fun _ _ _ _=>trivial) (by as_aux_lemma=>kernel_rfl) (by as_aux_lemma=>kernel_rfl) (by as_aux_lemma=>kernel_rfl) (by rfl) ?y6 ⟨fun _=>HB9 _ hc0,fun _=>trivial⟩ (by rfl) ?_
  case y6 =>
   rintro w' -
   simp only [lgA,lgZ,lgS]
   go_simp
  simp only [lgA,lgZ,lgS,Act.put,lsA,lsZ,lsS]
  refine wpAnyG.take 7 (v:=.int .i64 (code:Int)) (by decide) (by as_aux_lemma=>kernel_rfl) (fun _ _ _ h=>h) 10 (fun _=>True) (by rfl) (till_ind (by decide) (by decide)) (fun _ _ _ _=>trivial) (by as_aux_lemma=>kernel_rfl) (by as_aux_lemma=>kernel_rfl) (by as_aux_lemma=>kernel_rfl) (by rfl) ?y7 ⟨fun _=>HB9 _ hc0,fun _=>trivial⟩ (by rfl) ?_
  case y7 =>
   rintro w' -
   simp only [lgA,lgZ,lgS]
   go_simp
  simp only [lgA,lgZ,lgS,Act.put,lsA,lsZ,lsS]
  refine wpAnyG.tT 0 (v:=.string s) (by decide) 8 (by as_aux_lemma=>kernel_rfl) (by rfl) ?y0 (HB9 _ hc0) ?_
  case y0 =>
   rintro w' ⟨q0,q1,q2⟩
   simp only [lgA,lgZ]
   go_simp
  simp only [lgA,lgZ,Act.put,lsA,lsZ,lsS]
  refine wpAnyG.tT 1 (v:=.int .i64 (k:Int)) (by decide) 8 (by as_aux_lemma=>kernel_rfl) (by rfl) ?y1 (HB9 _ hc0) ?_
  case y1 =>
   rintro w' ⟨q0,q1,q2⟩
   simp only [lgA,lgZ,lgS]
   go_simp
  simp only [lgA,lgZ,lgS,Act.put,lsA,lsZ,lsS]
  refine wpAnyG.tT 2 (v:=.int .i64 (p:Int)) (by decide) 8 (by as_aux_lemma=>kernel_rfl) (by rfl) ?y2 (HB9 _ hc0) ?_
  case y2 =>
   rintro w' ⟨q0,q1,q2⟩
   simp only [lgA,lgZ,lgS]
   go_simp
  simp only [lgA,lgZ,lgS,Act.put,lsA,lsZ,lsS]
  refine wpAnyG.tT 3 (v:=.string x) (by decide) 8 (by as_aux_lemma=>kernel_rfl) (by rfl) ?y3 (HB9 _ hc0) ?_
  case y3 =>
   rintro w' ⟨q0,q1,q2⟩
   simp only [lgA,lgZ,lgS]
   go_simp
  simp only [lgA,lgZ,lgS,Act.put,lsA,lsZ,lsS]
  refine wpAnyG.tT 4 (v:=.agg #[.bool f,.slice c n k1,.slice c' n' k']) (by decide) 8 (by as_aux_lemma=>kernel_rfl) (by rfl) ?y4 (HB9 _ hc0) ?_
  case y4 =>
   rintro w' ⟨q0,q1,q2⟩
   simp only [lgA,lgZ,lgS]
   go_simp
  simp only [lgA,lgZ,lgS,Act.put,lsA,lsZ,lsS]
  refine wpAnyG.tT 5 (v:=.agg #[.int .i64 2,.string x,.bool f,.slice c n k1,.slice c' n' k',.int .i64 0,.int .i64 0,.int .i64 0]) (by decide) 8 (by as_aux_lemma=>kernel_rfl) (by rfl) ?y5 (HB9 _ hc0) ?_
  case y5 =>
   rintro w' ⟨q0,q1,q2⟩
   simp only [lgA,lgZ,lgS]
   go_simp
  simp only [lgA,lgZ,lgS,Act.put,lsA,lsZ,lsS]
  refine wpAnyG.one 8 (by as_aux_lemma=>kernel_rfl) (by decide) (by rfl) (fun K hK=>?_)
  simp only [lgA,lgZ,lgS]
  have RS:=R1.below hc0
  have y0:=(RS.cell 0).trans (show _=some (.int .i64 0) from rfl)
  have f0:=RS.frozen 0
  have y1:=(RS.cell 1).trans (show _=some (.string ⟨#[]⟩) from rfl)
  have f1:=RS.frozen 1
  have y2:=(RS.cell 2).trans (show _=some (.bool false) from rfl)
  have f2:=RS.frozen 2
  have y3:=(RS.cell 3).trans (show _=some (.slice none 0 0) from rfl)
  have f3:=RS.frozen 3
  have y4:=(RS.cell 4).trans (show _=some (.slice none 0 0) from rfl)
  have f4:=RS.frozen 4
  have y5:=(RS.cell 5).trans (show _=some (.int .i64 0) from rfl)
  have f5:=RS.frozen 5
  have y6:=(RS.cell 6).trans (show _=some (.int .i64 0) from rfl)
  have f6:=RS.frozen 6
  have y7:=(RS.cell 7).trans (show _=some (.int .i64 0) from rfl)
  have f7:=RS.frozen 7
  go_simp
  refine hK _ _ ⟨fun h=>absurd h (by decide),fun _=>trivial⟩ ?_
  clear hK K
  refine wpAnyG.one 9 (by as_aux_lemma=>kernel_rfl) (by decide) (by rfl) (fun K hK=>?_)
  simp only [lgA,lgZ,lgS]
  go_simp
  refine hK _ _ ⟨fun h=>absurd h (by decide),fun _=>trivial⟩ ?_
  clear hK K
  refine wpAnyG.one 10 (by as_aux_lemma=>kernel_rfl) (by decide) (by rfl) (fun K hK=>?_)
  simp only [lgA,lgZ,lgS]
  go_simp
  refine hK _ _ ⟨fun h=>absurd h (by decide),fun _=>trivial⟩ ?_
  clear hK K
  refine wpAnyG.done (by as_aux_lemma=>kernel_rfl) (NoPanic.normal ?_)
  obtain ⟨S1,O1⟩:=RS.cellset 0 (.int .i64 2)
  obtain ⟨S2,O2⟩:=S1.cellset 1 (.string x)
  obtain ⟨S3,O3⟩:=S2.cellset 2 (.bool f)
  obtain ⟨S4,O4⟩:=S3.cellset 3 (.slice c n k1)
  obtain ⟨S5,O5⟩:=S4.cellset 4 (.slice c' n' k')
  obtain ⟨S6,O6⟩:=S5.cellset 5 (.int .i64 0)
  obtain ⟨S7,O7⟩:=S6.cellset 6 (.int .i64 0)
  obtain ⟨S8,O8⟩:=S7.cellset 7 (.int .i64 0)
  have O:=((((((O1.trans O2).trans O3).trans O4).trans O5).trans O6).trans O7).trans O8
  have R2:=S8
  clear y0 f0 y1 f1 y2 f2 y3 f3 y4 f4 y5 f5 y6 f6 y7 f7 S1 O1 S2 O2 S3 O3 S4 O4 S5 O5 S6 O6 S7 O7 O8
  have hb9:=(hb3.trans (hc0.mono hb3.size)).trans (O.below (B:=w.heap.size) (Nat.le_refl _))
  have hZ2:=(HZ.out _ (hkz.trans (hc0.mono hkz.size))).off O hWs hWs2
  clear HB9 HZ hkz hc0 O VT R1 RS
  go_wp2
  exact bodyPost_ret (R2.ret3 Tryz.results16 _ rfl Tryz.underlying46 tkI) rfl ⟨f,c,n,k1,c',n',k',rfl,hZ2,hb9⟩
 ·go_wp2_with fail
  refine (HD _).mono ?_
  rintro e w1 ⟨rfl,ez⟩
  subst w1
  clear HD
  go_wp2_with fail
  refine (HL _).mono ?_
  rintro e w1 ⟨rfl,ez⟩
  subst w1
  clear HL
  go_wp2_with fail
  refine (HP _).mono ?_
  clear HP
  rintro e w2 ⟨f,c,n,k1,c',n',k',rfl,hZ,h2⟩
  have R1:=(R0.below h2).below (bel_d0 w2 (.cells #[.bool f,.slice c n k1,.slice c' n' k'] 44))
  have VT:=var3_new w2 (.bool f) (.slice c n k1) (.slice c' n' k') 44
  have hb3:=(bel_tr hb h2).trans ((bel_d0 w2 (.cells #[.bool f,.slice c n k1,.slice c' n' k'] 44)).mono (bel_tr hb h2).size)
  have HZ:Hid (∀ z,Below w2.heap.size w2 z→PzD W0 z f c n k1 c' n' k' q code):=fun z hz=>hZ.imp (fun h=>⟨h.1,h.2.below hz⟩) id
  have hkz:=bel_d0 w2 (.cells #[.bool f,.slice c n k1,.slice c' n' k'] 44)
  have hWs2:=hb.size
  clear h2 R0 hZ hb
  go_wp2_with fail
  generalize w2.alloc (.cells #[.bool f,.slice c n k1,.slice c' n' k'] 44)=W2 at *
  have HB9:∀ w',Below W2.heap.size W2 w'→(w'.cell? ⟨w2.heap.size,0,none⟩=some (.bool f)∧w'.cell? ⟨w2.heap.size,1,none⟩=some (.slice c n k1)∧w'.cell? ⟨w2.heap.size,2,none⟩=some (.slice c' n' k')):=fun w' h=>⟨kept_c h VT.c0,kept_c h VT.c1,kept_c h VT.c2⟩
  refine wp_region_noPanic (wp_region_guardT 8 HB9 (by as_aux_lemma=>kernel_rfl) ?_)
  have hc0:Below W2.heap.size W2 W2.drew:=bel_d1 _
  generalize W2.drew=z0 at *
  refine wpAnyG.take 6 (v:=.int .i64 (p:Int)) (by decide) (by as_aux_lemma=>kernel_rfl) (fun _ _ _ h=>h) 9 (fun _=>True) (by rfl) (till_ind (by decide) (by decide)) (fun _ _ _ _=>trivial) (by as_aux_lemma=>kernel_rfl) (by as_aux_lemma=>kernel_rfl) (by as_aux_lemma=>kernel_rfl) (by rfl) ?y6 ⟨fun _=>HB9 _ hc0,fun _=>trivial⟩ (by rfl) ?_
  case y6 =>
   rintro w' -
   simp only [lgA,lgZ,lgS]
   go_simp
  simp only [lgA,lgZ,lgS,Act.put,lsA,lsZ,lsS]
  refine wpAnyG.take 7 (v:=.int .i64 (code:Int)) (by decide) (by as_aux_lemma=>kernel_rfl) (fun _ _ _ h=>h) 10 (fun _=>True) (by rfl) (till_ind (by decide) (by decide)) (fun _ _ _ _=>trivial) (by as_aux_lemma=>kernel_rfl) (by as_aux_lemma=>kernel_rfl) (by as_aux_lemma=>kernel_rfl) (by rfl) ?y7 ⟨fun _=>HB9 _ hc0,fun _=>trivial⟩ (by rfl) ?_
  case y7 =>
   rintro w' -
   simp only [lgA,lgZ,lgS]
   go_simp
  simp only [lgA,lgZ,lgS,Act.put,lsA,lsZ,lsS]
  refine wpAnyG.tT 0 (v:=.string s) (by decide) 8 (by as_aux_lemma=>kernel_rfl) (by rfl) ?y0 (HB9 _ hc0) ?_
  case y0 =>
   rintro w' ⟨q0,q1,q2⟩
   simp only [lgA,lgZ]
   go_simp
  simp only [lgA,lgZ,Act.put,lsA,lsZ,lsS]
  refine wpAnyG.tT 1 (v:=.int .i64 (k:Int)) (by decide) 8 (by as_aux_lemma=>kernel_rfl) (by rfl) ?y1 (HB9 _ hc0) ?_
  case y1 =>
   rintro w' ⟨q0,q1,q2⟩
   simp only [lgA,lgZ,lgS]
   go_simp
  simp only [lgA,lgZ,lgS,Act.put,lsA,lsZ,lsS]
  refine wpAnyG.tT 2 (v:=.int .i64 (p:Int)) (by decide) 8 (by as_aux_lemma=>kernel_rfl) (by rfl) ?y2 (HB9 _ hc0) ?_
  case y2 =>
   rintro w' ⟨q0,q1,q2⟩
   simp only [lgA,lgZ,lgS]
   go_simp
  simp only [lgA,lgZ,lgS,Act.put,lsA,lsZ,lsS]
  refine wpAnyG.tT 3 (v:=.string x) (by decide) 8 (by as_aux_lemma=>kernel_rfl) (by rfl) ?y3 (HB9 _ hc0) ?_
  case y3 =>
   rintro w' ⟨q0,q1,q2⟩
   simp only [lgA,lgZ,lgS]
   go_simp
  simp only [lgA,lgZ,lgS,Act.put,lsA,lsZ,lsS]
  refine wpAnyG.tT 4 (v:=.agg #[.bool f,.slice c n k1,.slice c' n' k']) (by decide) 8 (by as_aux_lemma=>kernel_rfl) (by rfl) ?y4 (HB9 _ hc0) ?_
  case y4 =>
   rintro w' ⟨q0,q1,q2⟩
   simp only [lgA,lgZ,lgS]
   go_simp
  simp only [lgA,lgZ,lgS,Act.put,lsA,lsZ,lsS]
  refine wpAnyG.tT 5 (v:=.agg #[.int .i64 2,.string x,.bool f,.slice c n k1,.slice c' n' k',.int .i64 0,.int .i64 0,.int .i64 0]) (by decide) 8 (by as_aux_lemma=>kernel_rfl) (by rfl) ?y5 (HB9 _ hc0) ?_
  case y5 =>
   rintro w' ⟨q0,q1,q2⟩
   simp only [lgA,lgZ,lgS]
   go_simp
  simp only [lgA,lgZ,lgS,Act.put,lsA,lsZ,lsS]
  refine wpAnyG.one 8 (by as_aux_lemma=>kernel_rfl) (by decide) (by rfl) (fun K hK=>?_)
  simp only [lgA,lgZ,lgS]
  have RS:=R1.below hc0
  have y0:=(RS.cell 0).trans (show _=some (.int .i64 0) from rfl)
  have f0:=RS.frozen 0
  have y1:=(RS.cell 1).trans (show _=some (.string ⟨#[]⟩) from rfl)
  have f1:=RS.frozen 1
  have y2:=(RS.cell 2).trans (show _=some (.bool false) from rfl)
  have f2:=RS.frozen 2
  have y3:=(RS.cell 3).trans (show _=some (.slice none 0 0) from rfl)
  have f3:=RS.frozen 3
  have y4:=(RS.cell 4).trans (show _=some (.slice none 0 0) from rfl)
  have f4:=RS.frozen 4
  have y5:=(RS.cell 5).trans (show _=some (.int .i64 0) from rfl)
  have f5:=RS.frozen 5
  have y6:=(RS.cell 6).trans (show _=some (.int .i64 0) from rfl)
  have f6:=RS.frozen 6
  have y7:=(RS.cell 7).trans (show _=some (.int .i64 0) from rfl)
  have f7:=RS.frozen 7
  go_simp
  refine hK _ _ ⟨fun h=>absurd h (by decide),fun _=>trivial⟩ ?_
  clear hK K
  refine wpAnyG.one 9 (by as_aux_lemma=>kernel_rfl) (by decide) (by rfl) (fun K hK=>?_)
  simp only [lgA,lgZ,lgS]
  go_simp
  refine hK _ _ ⟨fun h=>absurd h (by decide),fun _=>trivial⟩ ?_
  clear hK K
  refine wpAnyG.one 10 (by as_aux_lemma=>kernel_rfl) (by decide) (by rfl) (fun K hK=>?_)
  simp only [lgA,lgZ,lgS]
  go_simp
  refine hK _ _ ⟨fun h=>absurd h (by decide),fun _=>trivial⟩ ?_
  clear hK K
  refine wpAnyG.done (by as_aux_lemma=>kernel_rfl) (NoPanic.normal ?_)
  obtain ⟨S1,O1⟩:=RS.cellset 0 (.int .i64 2)
  obtain ⟨S2,O2⟩:=S1.cellset 1 (.string x)
  obtain ⟨S3,O3⟩:=S2.cellset 2 (.bool f)
  obtain ⟨S4,O4⟩:=S3.cellset 3 (.slice c n k1)
  obtain ⟨S5,O5⟩:=S4.cellset 4 (.slice c' n' k')
  obtain ⟨S6,O6⟩:=S5.cellset 5 (.int .i64 0)
  obtain ⟨S7,O7⟩:=S6.cellset 6 (.int .i64 0)
  obtain ⟨S8,O8⟩:=S7.cellset 7 (.int .i64 0)
  have O:=((((((O1.trans O2).trans O3).trans O4).trans O5).trans O6).trans O7).trans O8
  have R2:=S8
  clear y0 f0 y1 f1 y2 f2 y3 f3 y4 f4 y5 f5 y6 f6 y7 f7 S1 O1 S2 O2 S3 O3 S4 O4 S5 O5 S6 O6 S7 O7 O8
  have hb9:=(hb3.trans (hc0.mono hb3.size)).trans (O.below (B:=w.heap.size) (Nat.le_refl _))
  have hZ2:=(HZ.out _ (hkz.trans (hc0.mono hkz.size))).off O hWs hWs2
  clear HB9 HZ hkz hc0 O VT R1 RS
  go_wp2
  exact bodyPost_ret (R2.ret3 Tryz.results16 _ rfl Tryz.underlying46 tkI) rfl ⟨f,c,n,k1,c',n',k',rfl,hZ2,hb9⟩
set_option maxRecDepth 100000 in
set_option maxHeartbeats 4000000 in
theorem tkX (s:ByteArray) {k:Nat} {C:Int} (w:World) (hk:k<s.size) (hby:((s[k]'hk).toNat:Int)=C) (hC:¬ C=46) (H1:(∀ u,Calls Tryz.prog 31 #[.string s,.int .i64 (k:Int)] u fun e w'=>e = .returned (.tuple #[.int .i64 0,.int .i64 0])∧w'=u)) (HD:(∀ u,Calls Tryz.prog 32 #[.string s,.int .i64 (k:Int)] u fun e w'=>e = .returned (.bool false)∧w'=u)) (HB:∀ u,Calls Tryz.prog 35 #[.int .u8 C] u fun e w'=>e = .returned (.bool false)∧w'=u) :
  Calls Tryz.prog 16 #[.string s,.int .i64 (k:Int)] w fun e w'=>e = .returned (.tuple #[.agg (tkC 0 ⟨#[]⟩ (.bool false) (.slice none 0 0) (.slice none 0 0) 0 0 0),.int .i64 0,.int .i64 7])∧Below w.heap.size w w':=by
 have hCb:(C == 46)=false:=by simpa using hC
 have hk0:(0:Int)≤(k:Int):=by omega
 have hkI:(k:Int)<(s.size:Int):=by omega
 have R0:=Rw.new 46 w #[.int .i64 0,.string ⟨#[]⟩,.bool false,.slice none 0 0,.slice none 0 0,.int .i64 0,.int .i64 0,.int .i64 0]
 have hb:Below w.heap.size w (w.alloc (.cells #[.int .i64 0,.string ⟨#[]⟩,.bool false,.slice none 0 0,.slice none 0 0,.int .i64 0,.int .i64 0,.int .i64 0] 46)):=bel_d0 w _
 have hWs:w.heap.size<(w.alloc (.cells #[.int .i64 0,.string ⟨#[]⟩,.bool false,.slice none 0 0,.slice none 0 0,.int .i64 0,.int .i64 0,.int .i64 0] 46)).heap.size:=by simp
 go_enter Tryz.func16,Tryz.ntmps16
 go_wp2_with fail
 generalize w.alloc (.cells #[.int .i64 0,.string ⟨#[]⟩,.bool false,.slice none 0 0,.slice none 0 0,.int .i64 0,.int .i64 0,.int .i64 0] 46)=W0 at *
 refine (H1 _).mono ?_
 rintro e w1 ⟨rfl,ez⟩
 subst w1
 clear H1
 go_wp2_with fail
 refine (HD _).mono ?_
 rintro e w1 ⟨rfl,ez⟩
 subst w1
 clear HD
 go_wp2_with fail
 refine (HB _).mono ?_
 rintro e w1 ⟨rfl,ez⟩
 subst w1
 clear HB
 go_wp2_with (refine R0.put (tkC 0 ⟨#[]⟩ (.bool false) (.slice none 0 0) (.slice none 0 0) 0 0 0) rfl _ _ rfl rfl rfl tkI rfl (tkC_one _ _ _ _ _ rfl rfl rfl) ?_)
 intro w4 R2 O
 have hb2:=hb.trans (O.below (B:=w.heap.size) (Nat.le_refl _))
 go_wp2
 exact bodyPost_ret (R2.ret3 Tryz.results16 _ rfl Tryz.underlying46 tkI) rfl ⟨rfl,hb2⟩
set_option maxRecDepth 100000 in
set_option maxHeartbeats 4000000 in
theorem tkM (s:ByteArray) {k p K WD:Nat} {x:ByteArray} {C:Int} (w:World) (hk:k<s.size) (hby:((s[k]'hk).toNat:Int)=C) (hC:¬ C=46) (H1:(∀ u,Calls Tryz.prog 31 #[.string s,.int .i64 (k:Int)] u fun e w'=>e = .returned (.tuple #[.int .i64 0,.int .i64 0])∧w'=u)) (HD:(∀ u,Calls Tryz.prog 32 #[.string s,.int .i64 (k:Int)] u fun e w'=>e = .returned (.bool false)∧w'=u)) (HB:∀ u,Calls Tryz.prog 35 #[.int .u8 C] u fun e w'=>e = .returned (.bool true)∧w'=u)
  (HN:∀ u,Calls Tryz.prog 36 #[.string s,.int .i64 (k:Int)] u fun e w'=>e = .returned (.tuple #[.agg (tkC (K:Nat) x (.bool false) (.slice none 0 0) (.slice none 0 0) (WD:Nat) 0 0),.int .i64 (p:Int)])∧Below u.heap.size u w') :
  Calls Tryz.prog 16 #[.string s,.int .i64 (k:Int)] w fun e w'=>e = .returned (.tuple #[.agg (tkC (K:Nat) x (.bool false) (.slice none 0 0) (.slice none 0 0) (WD:Nat) 0 0),.int .i64 (p:Int),.int .i64 0])∧Below w.heap.size w w':=by
 have hCb:(C == 46)=false:=by simpa using hC
 have hk0:(0:Int)≤(k:Int):=by omega
 have hkI:(k:Int)<(s.size:Int):=by omega
 have R0:=Rw.new 46 w #[.int .i64 0,.string ⟨#[]⟩,.bool false,.slice none 0 0,.slice none 0 0,.int .i64 0,.int .i64 0,.int .i64 0]
 have hb:Below w.heap.size w (w.alloc (.cells #[.int .i64 0,.string ⟨#[]⟩,.bool false,.slice none 0 0,.slice none 0 0,.int .i64 0,.int .i64 0,.int .i64 0] 46)):=bel_d0 w _
 have hWs:w.heap.size<(w.alloc (.cells #[.int .i64 0,.string ⟨#[]⟩,.bool false,.slice none 0 0,.slice none 0 0,.int .i64 0,.int .i64 0,.int .i64 0] 46)).heap.size:=by simp
 go_enter Tryz.func16,Tryz.ntmps16
 go_wp2_with fail
 generalize w.alloc (.cells #[.int .i64 0,.string ⟨#[]⟩,.bool false,.slice none 0 0,.slice none 0 0,.int .i64 0,.int .i64 0,.int .i64 0] 46)=W0 at *
 refine (H1 _).mono ?_
 rintro e w1 ⟨rfl,ez⟩
 subst w1
 clear H1
 go_wp2_with fail
 refine (HD _).mono ?_
 rintro e w1 ⟨rfl,ez⟩
 subst w1
 clear HD
 go_wp2_with fail
 refine (HB _).mono ?_
 rintro e w1 ⟨rfl,ez⟩
 subst w1
 clear HB
 go_wp2_with fail
 refine (HN _).mono ?_
 clear HN
 unfold tkC
 rintro e w2 ⟨rfl,h2⟩
 have RT:=Rw.new 46 w2 #[.int .i64 (K:Nat),.string x,.bool false,.slice none 0 0,.slice none 0 0,.int .i64 (WD:Nat),.int .i64 0,.int .i64 0]
 have hkz:=bel_d0 w2 (.cells #[.int .i64 (K:Nat),.string x,.bool false,.slice none 0 0,.slice none 0 0,.int .i64 (WD:Nat),.int .i64 0,.int .i64 0] 46)
 have R1:=(R0.below h2).below hkz
 have hb3:=(bel_tr hb h2).trans (hkz.mono (bel_tr hb h2).size)
 obtain ⟨T,eT⟩:∃ T,T=w2.heap.size:=⟨_,rfl⟩
 rw [← eT] at RT
 clear h2 R0 hb hkz
 have y0:=(RT.cell 0).trans (show _=some (.int .i64 (K:Nat)) from rfl)
 have y1:=(RT.cell 1).trans (show _=some (.string x) from rfl)
 have y2:=(RT.cell 2).trans (show _=some (.bool false) from rfl)
 have y3:=(RT.cell 3).trans (show _=some (.slice none 0 0) from rfl)
 have y4:=(RT.cell 4).trans (show _=some (.slice none 0 0) from rfl)
 have y5:=(RT.cell 5).trans (show _=some (.int .i64 (WD:Nat)) from rfl)
 have y6:=(RT.cell 6).trans (show _=some (.int .i64 0) from rfl)
 have y7:=(RT.cell 7).trans (show _=some (.int .i64 0) from rfl)
 rw [eT] at y0 y1 y2 y3 y4 y5 y6 y7
 go_wp2_with (refine R1.put (tkC (K:Nat) x (.bool false) (.slice none 0 0) (.slice none 0 0) (WD:Nat) 0 0) rfl _ _ rfl rfl rfl tkI rfl (tkC_one _ _ _ _ _ rfl rfl rfl) ?_)
 intro w4 R2 O
 have hb2:=hb3.trans (O.below (B:=w.heap.size) (Nat.le_refl _))
 go_wp2
 exact bodyPost_ret (R2.ret3 Tryz.results16 _ rfl Tryz.underlying46 tkI) rfl ⟨rfl,hb2⟩
end Go.Proofs.YtgdilnljjgdinaaGreatDoor
