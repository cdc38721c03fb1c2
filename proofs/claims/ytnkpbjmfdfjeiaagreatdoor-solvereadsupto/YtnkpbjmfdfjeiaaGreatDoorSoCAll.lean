import Derived.Test.YtnkpbjmfdfjeiaaGreatDoorRefXAll
import Derived.Test.YtnkpbjmfdfjeiaaGreatDoorPqCAll
import Derived.Test.YtnkpbjmfdfjeiaaGreatDoorWhEAll
import Derived.Deep.RegionHeld3
import Derived.Test.YtnkpbjmfdfjeiaaGreatDoorRbAll
namespace Go.Proofs.YtnkpbjmfdfjeiaaGreatDoor
open Go.RowKit
def LineR (s:ByteArray) (a:Nat) (wt nm:List UInt8) (Q F:Nat) (w:World) (en:Ending) (w':World):Prop :=
 en = .returned (.tuple #[])∧Kb F [58] w w'∧((∃ (m:List UInt8) (b:Nat),s.data.toList.drop a = wt ++ 32 :: (nm ++ 32 :: m)∧Rdr w' Q s b true∧b≤s.size∧s.data.toList.drop b = m)∨((∀ m,¬ s.data.toList.drop a = wt ++ 32 :: (nm ++ 32 :: m))∧∃ b,b≤s.size∧Rdr w' Q s b false))
theorem ext_pre {s:ByteArray} {b c:Nat} {nm:ByteArray} (hc:c = b + nm.size) (hcs:c≤s.size):s.extract b c = nm↔∃ m,s.data.toList.drop b = nm.data.toList ++ m:=by
 have hd:=drop_split (s:=s) (a:=b) (i:=c) (by omega) hcs
 constructor
 ·intro e
  exact ⟨_,by rw [hd,e]⟩
 ·rintro ⟨m,e⟩
  rw [e] at hd
  refine ba_eq ?_
  have:=List.append_inj hd (by rw [len_list,len_list,size_extract _ _ _ hcs];omega)
  exact this.1.symm
set_option maxRecDepth 100000 in
set_option maxHeartbeats 8000000 in
theorem rlineD {s:ByteArray} {a:Nat} {Q F:Nat} {wt nm:ByteArray} (w:World) (hq:Rdr w Q s a true) (hF:F≤Q) (ha:a≤s.size) (hs:s.size≤1048576) (hnm:nm.size≤1048576) (hwt:NoB wt.data.toList) (hw0:0 < wt.size) :
  Calls Tryz.prog 15 #[.pointer (some ⟨Q,0,none⟩),.string wt,.string nm] w fun en w'=>LineR s a wt.data.toList nm.data.toList Q F w en w':=by
 have HW:Hid (NoB wt.data.toList):=hwt
 have HWP:Hid (0 < wt.size):=hw0
 clear hwt hw0
 go_enter Tryz.func15,Tryz.ntmps15
 go_wp2_with fail
 refine (rwordD (e:=32) w hq hF ha (by omega) (.inl rfl)).mono ?_
 rintro en w1 ⟨k1,h⟩
 have HBAD:Hid (∀ (t:ByteArray) (b:Nat) (ok:Bool),¬ t = wt→b≤s.size→Rdr w1 Q s b ok→(∀ m,¬ s.data.toList.drop a = wt.data.toList ++ 32 :: (nm.data.toList ++ 32 :: m))→True):=fun _ _ _ _ _ _ _=>trivial
 clear HBAD
 obtain ⟨b,t,ok',hbs,hq1,rfl,HT⟩:∃ (b:Nat) (t:ByteArray) (ok':Bool),b≤s.size∧Rdr w1 Q s b ok'∧en = .returned (.string t)∧Hid ((t = wt∧ok' = true∧s.data.toList.drop a = wt.data.toList ++ 32 :: s.data.toList.drop b)∨(¬ t = wt∧∀ m,¬ s.data.toList.drop a = wt.data.toList ++ 32 :: (nm.data.toList ++ 32 :: m))):=by
  rcases h with ⟨t,m,h1,h2,rfl,h3⟩ | ⟨h1,rfl,h2⟩
  ·have e1:s.data.toList.drop (a + (t.data.toList ++ [32]).length) = m:=drop_cat (by rw [h1];simp)
   have e2:=drop_le (a:=a) (x:=t.data.toList ++ [32]) (m:=m) (by rw [h1];simp) (by simp)
   rw [List.length_append,len_list,List.length_singleton,← Nat.add_assoc] at e1 e2
   rw [len_list] at e2
   refine ⟨_,t,true,e2,h3,rfl,?_⟩
   show _∨_
   by_cases e:t = wt
   ·refine .inl ⟨e,rfl,?_⟩
    rw [e1,h1,e]
   ·refine .inr ⟨e,fun m' h'=>e ?_⟩
    rw [h1] at h'
    exact ba_eq (nob_split (.inl rfl) h2 HW.out (fun b t hbt=>by simp only [List.cons.injEq] at hbt;exact .inl hbt.1.symm) h').1
  ·refine ⟨a,⟨#[]⟩,false,ha,h2,rfl,.inr ⟨fun e=>?_,fun m' h'=>h1 _ _ h' HW.out⟩⟩
   have:=HWP.out
   rw [← e] at this
   exact absurd this (by decide)
 clear h
 have q0:w1.cell? ⟨Q,0,none⟩ = some (.string s):=Rw.cell hq1 0
 have q1:w1.cell? ⟨Q,1,none⟩ = some (.int .i64 (b:Int)):=Rw.cell hq1 1
 have q2:w1.cell? ⟨Q,2,none⟩ = some (.bool ok'):=Rw.cell hq1 2
 have f1:w1.frozen? ⟨Q,1,none⟩ = false:=Rw.frozen hq1 1
 have f2:w1.frozen? ⟨Q,2,none⟩ = false:=Rw.frozen hq1 2
 have HQ:Hid (Rdr w1 Q s b ok'):=hq1
 clear hq1
 rcases HT.out with ⟨rfl,rfl,h1⟩ | ⟨h1,h2⟩
 ·have HD:Hid (s.data.toList.drop a = t.data.toList ++ 32 :: s.data.toList.drop b):=h1
  obtain ⟨c,hc⟩:∃ c,c = b + nm.size:=⟨_,rfl⟩
  have HC:Hid (c = b + nm.size):=hc
  have hcw:IntKind.i64.wrap ((b:Int) + (nm.size:Int)) = (c:Int):=by rw [IntKind.wrap_i64];omega
  have hbc:(b:Int)≤(c:Int):=by omega
  have h0b:(0:Int)≤(b:Int):=by omega
  have h0c:(0:Int)≤(c:Int):=by omega
  have HNO:Hid (∀ (_:∀ m,¬ s.data.toList.drop b = nm.data.toList ++ 32 :: m) m,¬ s.data.toList.drop a = t.data.toList ++ 32 :: (nm.data.toList ++ 32 :: m)):=fun hno m h=>by
   rw [HD.out] at h
   have:=List.append_cancel_left h
   simp only [List.cons.injEq,true_and] at this
   exact hno m this
  clear h1 HT hc
  by_cases hlt:c < s.size
  ·have hcl:(c:Int) < (s.size:Int):=by omega
   have hcg:¬ (s.size:Int)≤(c:Int):=by omega
   have hcd:decide ((s.size:Int)≤(c:Int)) = false:=by simpa using hcg
   have hce:(c:Int)≤(s.size:Int):=by omega
   have hcN:decide (s.size≤c) = false:=by simpa using hlt
   have HP:=ext_pre (s:=s) (nm:=nm) HC.out (by omega)
   have HPH:Hid (s.extract b c = nm↔∃ m,s.data.toList.drop b = nm.data.toList ++ m):=HP
   clear HP
   have hby:=byt_get hlt
   by_cases hx:s.extract b c = nm
   ·have HXN:Hid (s.extract b c = nm):=hx
    obtain ⟨B,hB⟩:∃ B,byt s c = B:=⟨_,rfl⟩
    have HB:Hid (byt s c = B):=hB
    rw [hB] at hby
    clear hB
    by_cases h32:B = 32
    ·subst h32
     obtain ⟨m0,hm0⟩:=HPH.out.1 hx
     have hdc:s.data.toList.drop c = m0:=by
      have:=drop_cat hm0
      rw [len_list] at this
      rw [HC.out];exact this
     have HM:Hid (s.data.toList.drop b = nm.data.toList ++ 32 :: s.data.toList.drop (c + 1)):=by
      show _ = _
      rw [hm0,← hdc,drop_at (e:=32) hlt HB.out]
     have hw1:IntKind.i64.wrap ((c:Int) + 1) = ((c + 1:Nat):Int):=by rw [IntKind.wrap_i64];omega
     clear hm0 hdc HPH
     go_wp2_with fail
     go_quiet (fail)
     go_wp2
     first | go_ret | go_ret2 | go_end0
     obtain ⟨s1,s2⟩:=Rw.setK HQ.out 1 (.int .i64 ((c + 1:Nat):Int))
     exact ⟨rfl,k1.trans (kb_off HQ.out hF (s2.drewN _)),.inl ⟨_,c + 1,by rw [HD.out,HM.out],s1,by omega,rfl⟩⟩
    ·have b32:(B != 32) = true:=by simpa using h32
     have HX:Hid (∀ m,¬ s.data.toList.drop a = t.data.toList ++ 32 :: (nm.data.toList ++ 32 :: m)):=HNO.out fun m hm=>by
      have:=drop_cat hm
      rw [len_list,← HC.out,drop_byte hlt] at this
      simp only [List.cons.injEq] at this
      apply h32
      rw [← HB.out]
      unfold byt
      rw [this.1]
      rfl
     go_wp2_with fail
     go_quiet (fail)
     go_wp2
     first | go_ret | go_ret2 | go_end0
     obtain ⟨s1,s2⟩:=Rw.setK HQ.out 2 (.bool false)
     exact ⟨rfl,k1.trans (kb_off HQ.out hF (s2.drewN _)),.inr ⟨HX.out,b,hbs,s1⟩⟩
   ·have hxb:((s.extract b c).toList == nm.toList) = false:=str_neq hx
    have hxc:((s.extract b c).toList != nm.toList) = true:=by rw [bne,hxb];rfl
    have HX:Hid (∀ m,¬ s.data.toList.drop a = t.data.toList ++ 32 :: (nm.data.toList ++ 32 :: m)):=HNO.out fun m hm=>hx (HPH.out.2 ⟨_,hm⟩)
    clear HPH hby
    obtain ⟨X,hX⟩:∃ X,s.extract b c = X:=⟨_,rfl⟩
    rw [hX] at hxb hxc
    clear hx
    go_wp2_with fail
    go_quiet (fail)
    go_wp2
    first | go_ret | go_ret2 | go_end0
    obtain ⟨s1,s2⟩:=Rw.setK HQ.out 2 (.bool false)
    exact ⟨rfl,k1.trans (kb_off HQ.out hF (s2.drewN _)),.inr ⟨HX.out,b,hbs,s1⟩⟩
  ·have hcl:(s.size:Int)≤(c:Int):=by omega
   have HX:Hid (∀ m,¬ s.data.toList.drop a = t.data.toList ++ 32 :: (nm.data.toList ++ 32 :: m)):=HNO.out fun m hm=>by
    have:=congrArg List.length hm
    rw [List.length_drop,List.length_append,len_list,len_list,List.length_cons] at this
    have:=HC.out
    omega
   go_wp2_with fail
   go_quiet (fail)
   go_wp2
   first | go_ret | go_ret2 | go_end0
   obtain ⟨s1,s2⟩:=Rw.setK HQ.out 2 (.bool false)
   exact ⟨rfl,k1.trans (kb_off HQ.out hF (s2.drewN _)),.inr ⟨HX.out,b,hbs,s1⟩⟩
 ·have HX:Hid (∀ m,¬ s.data.toList.drop a = wt.data.toList ++ 32 :: (nm.data.toList ++ 32 :: m)):=h2
  have htb:(t.toList == wt.toList) = false:=str_neq h1
  have htc:(t.toList != wt.toList) = true:=by rw [bne,htb];rfl
  clear h1 h2 HT
  have S1:=Rw.setK HQ.out 2 (.bool false)
  have g2:(w1.setCell ⟨Q,2,none⟩ (.bool false)).cell? ⟨Q,2,none⟩ = some (.bool false):=Rw.cell S1.1 2
  have g2f:(w1.setCell ⟨Q,2,none⟩ (.bool false)).frozen? ⟨Q,2,none⟩ = false:=Rw.frozen S1.1 2
  go_wp2_with fail
  generalize w1.setCell ⟨Q,2,none⟩ (.bool false) = w2 at *
  go_quiet (fail)
  go_wp2
  first | go_ret | go_ret2 | go_end0
  obtain ⟨s1,s2⟩:=Rw.setK S1.1 2 (.bool false)
  exact ⟨rfl,(k1.trans (kb_off HQ.out hF S1.2)).trans (kb_off S1.1 hF (s2.drewN _)),.inr ⟨HX.out,b,hbs,s1⟩⟩
theorem infRat:Inf 27 3 56:=inf_of (by kernel_rfl)
theorem wp_appS (w:World) {o:Oper} {a:Act} {K:Act→World→Prop} {Q:Exit→Act→World→Prop} (s x:Operand) (L T:TypeId) (c y q:Nat)
  (ho:o.op = .call { callee:=.builtin .append,args:=#[s,x],argTypes:=#[L,L] }) (hL:Tryz.prog.underlying L = some (.slice T)) (hI:Inf T c y) (hc0:0 < c) (hy:y≤1000) (hq:0 < q) (hq2:q≤10000000)
  (B:Nat) (v:Value) (n:Nat) (E:Nat→List Value) (hs:a.eval s = v) (hown:SL w B T c v n E) (h k:Nat) (hx:a.eval x = .slice (some ⟨h,0,none⟩) q k)
  (D:Nat→List Value) (cs:List Value) (hcs:cs.length = q * c) (hD:∀ i,i < q→∀ j u,(D i)[j]? = some u→j < c∧cs[i * c + j]? = some u) (h1:∀ u ∈ cs,u.oneCell' = true) (hbox:BoxC w h cs)
  (hlen:n≤100000000) (hB:B≤w.heap.size) (H:Nat) (hH:w.heap.size = H)
  (hK:∀ g cap w',SL w' B T c (.slice (some ⟨g,0,none⟩) (n + q) cap) (n + q) (fun i=>if i < n then E i else D (i - n))→w.grownBy w' v.ownBlock→(v.ownBlock = some g∨g = H)→g < w'.heap.size→K (a.put o.dst (.slice (some ⟨g,0,none⟩) (n + q) cap)) w') :
  Oper.wp Tryz.prog o a w K Q:=by
 obtain ⟨vs,g1,g2⟩:=hown
 obtain ⟨i0,z,hi,hz,hs3,hb56,hz3⟩:=hI
 have hyn:(n + q) * y≤110000000 * 1000:=Nat.mul_le_mul (by omega) hy
 refine wp_append_lies w s x L ho B T i0 z c y hL hi hz hs3 hb56 hz3 hc0 v n vs hs g1 ⟨h,0,none⟩ q k cs hx (by omega) ?_ h1 hq (by unfold maxLen;omega) (by omega) hB H hH ?_
 ·intro j u hj
  have:=hbox j u hj
  by_cases e:j = 0
  ·subst e;simpa [Addr.add] using this
  ·simpa [Addr.add,e] using this
 ·intro g cap w' r1 r2 r3 r4
  refine hK g cap w' ⟨_,r1,fun i hi j u hu=>?_⟩ r2 r3 r4
  have hl:vs.length = n * c:=g1.1
  by_cases e:i < n
  ·simp only [e,if_true] at hu
   obtain ⟨k1,k2⟩:=g2 i e j u hu
   have hlt:i * c + j < vs.length:=(List.getElem?_eq_some_iff.1 k2).1
   exact ⟨k1,by rw [List.getElem?_append_left hlt];exact k2⟩
  ·simp only [e,if_false] at hu
   obtain ⟨k1,k2⟩:=hD (i - n) (by omega) j u hu
   refine ⟨k1,?_⟩
   obtain ⟨m,rfl⟩:∃ m,i = n + m:=⟨i - n,by omega⟩
   have e2:(n + m) * c + j = vs.length + (m * c + j):=by rw [hl,Nat.add_mul];omega
   rw [e2,List.getElem?_append_right (by omega),Nat.add_sub_cancel_left]
   rwa [Nat.add_sub_cancel_left] at k2
theorem noN_of {b:UInt8} (h:nbB.contains b = false) (m:List UInt8):NoN (b :: m):=fun b' t e=>by
 simp only [List.cons.injEq] at e
 rw [← e.1];exact h
theorem len1 {rs:List Rat} (h:rs.length = 1):∃ r,rs = [r]:=by
 match rs,h with
 | [r],_=>exact ⟨r,rfl⟩
theorem len2 {rs:List Rat} (h:rs.length = 2):∃ r q,rs = [r,q]:=by
 match rs,h with
 | [r,q],_=>exact ⟨r,q,rfl⟩
theorem ln1 {l w m:List UInt8} {r:Rat}:Ln l w [r] m↔l = w ++ 32 :: (tq r ++ 10 :: m):=by
 constructor
 ·rintro ⟨a,rfl,n,⟨rfl,_⟩,rfl⟩
  rfl
 ·intro h
  exact ⟨_,h,_,⟨rfl,noN_of (by decide) m⟩,rfl⟩
theorem ln2 {l w m:List UInt8} {r q:Rat}:Ln l w [r,q] m↔l = w ++ 32 :: (tq r ++ 32 :: (tq q ++ 10 :: m)):=by
 constructor
 ·rintro ⟨a,rfl,n,⟨rfl,_⟩,n',⟨rfl,_⟩,rfl⟩
  rfl
 ·intro h
  exact ⟨_,h,_,⟨rfl,noN_of (by decide) _⟩,_,⟨rfl,noN_of (by decide) m⟩,rfl⟩
theorem ln0 {l w m:List UInt8}:Ln l w [] m↔l = w ++ 10 :: m:=by
 constructor
 ·rintro ⟨a,rfl,rfl⟩
  rfl
 ·intro h
  exact ⟨_,h,rfl⟩
def NL (w:World) (F:Nat) (v:Value) (n:Nat) (X:Nat→Rat):Prop:=∃ E,SL w F 27 3 v n E∧∀ i,i < n→∃ f c m k c' m' k',E i = [.bool f,.slice c m k,.slice c' m' k']∧GR w F f c m k c' m' k' (X i) 5000000
theorem NL.nil (w:World) (F:Nat) (X:Nat→Rat):NL w F (.slice none 0 0) 0 X:=⟨fun _=>[],SL.nil _ _ _ _ _,fun i hi=>by omega⟩
theorem NL.below {w w':World} {F:Nat} {v:Value} {n:Nat} {X:Nat→Rat} (h:NL w F v n X) (hb:Below w.heap.size w w'):NL w' F v n X:=by
 obtain ⟨E,h1,h2⟩:=h
 refine ⟨E,h1.below hb,fun i hi=>?_⟩
 obtain ⟨f,c,m,k,c',m',k',e,g⟩:=h2 i hi
 exact ⟨f,c,m,k,c',m',k',e,g.below hb⟩
theorem NL.kb {w w':World} {F F':Nat} {L:List TypeId} {v:Value} {n:Nat} {X:Nat→Rat} (h:NL w F v n X) (k:Kb F' L w w') (hL:27 ∉ L) (hU:107 ∉ L):NL w' F v n X:=by
 obtain ⟨E,h1,h2⟩:=h
 refine ⟨E,h1.kb k hL,fun i hi=>?_⟩
 obtain ⟨f,c,m,k',c',m',k'',e,g⟩:=h2 i hi
 exact ⟨f,c,m,k',c',m',k'',e,g.kb k hU⟩
theorem NL.congr {w:World} {F:Nat} {v:Value} {n:Nat} {X Y:Nat→Rat} (h:NL w F v n X) (e:∀ i,i < n→X i = Y i):NL w F v n Y:=by
 obtain ⟨E,h1,h2⟩:=h
 exact ⟨E,h1,fun i hi=>by rw [← e i hi];exact h2 i hi⟩
theorem NL.form {w:World} {F:Nat} {v:Value} {n:Nat} {X:Nat→Rat} (h:NL w F v n X):∃ a cap,v = .slice a n cap:=by
 obtain ⟨E,h1,_⟩:=h
 obtain ⟨a,cap,e,_⟩:=h1.form
 exact ⟨a,cap,e⟩
def xR (v:Nat) (R:Nat→List Rat) (j:Nat):Rat:=(R (hdV v + j)).getD 0 0
def yR (v vn:Nat) (R:Nat→List Rat) (i:Nat):Rat:=(R (hdV v + nvV v vn + i)).getD 0 0
def zR (v:Nat) (R:Nat→List Rat) (j:Nat):Rat:=(R (hdV v + j)).getD 1 0
def nzV (v vn:Nat):Nat:=if v = 3 then vn else 0
def CtQ (w:World) (F v vn rn:Nat) (R:Nat→List Rat) (cs:Array Value):Prop :=
 ∃ p a na ca d nd cd xa xc ya yc za zc,cs = #[.int .i64 (v:Int),.bool p,.slice a na ca,.slice d nd cd,.slice xa (nvV v vn) xc,.slice ya (nrV v rn) yc,.slice za (nzV v vn) zc] ∧
  (v = 1∧GR w F p a na ca d nd cd ((R 1).getD 0 0) 5000000∨¬ v = 1∧p = false∧a = none∧na = 0∧ca = 0∧d = none∧nd = 0∧cd = 0) ∧
  NL w F (.slice xa (nvV v vn) xc) (nvV v vn) (xR v R)∧NL w F (.slice ya (nrV v rn) yc) (nrV v rn) (yR v vn R)∧NL w F (.slice za (nzV v vn) zc) (nzV v vn) (zR v R)
def NoAns (vn:Nat) (V:Nat→ByteArray) (rn:Nat) (U:Nat→ByteArray) (l:List UInt8):Prop:=∀ v R,1≤v→v≤3→¬ Ans v vn V rn U l R
def vnm (P:Prob) (j:Nat):ByteArray:=(P.V j).nm
def unm (P:Prob) (i:Nat):ByteArray:=(P.R i).nm
def Whl19 (P:Prob):Prop:=∃ j,j < P.vn∧(P.V j).whole = true
def WhlR (P:Prob) (w:World) (e:Ending) (w':World):Prop:=∃ b,e = .returned (.bool b)∧(b = true↔Whl19 P)∧Below w.heap.size w w'
set_option maxRecDepth 100000 in
set_option maxHeartbeats 8000000 in
theorem wholeR (P:Prob) (w:World) (hP:PQ w P) (hK:P.K≤1048576) :
  Calls Tryz.prog 12 #[P.val] w fun e w'=>WhlR P w e w':=by
 have hvn:P.vn≤1048576:=by have:=hP.all;have:=tot_len P.ZV P.vn;omega
 unfold Prob.val
 have hb:=bel_d0 w (.cells #[.bool P.mx,.string P.nm,.bool P.p,.slice P.a P.na P.ca,.slice P.d P.nd P.cd,.slice P.va P.vn P.vc,.slice P.ra P.rn P.rc] 31)
 have Pb:=box_new w #[.bool P.mx,.string P.nm,.bool P.p,.slice P.a P.na P.ca,.slice P.d P.nd P.cd,.slice P.va P.vn P.vc,.slice P.ra P.rn P.rc] 31
 have p5:=Pb 5 _ rfl
 go_enter Tryz.func12,Tryz.ntmps12
 go_wp2
 generalize w.alloc (.cells #[.bool P.mx,.string P.nm,.bool P.p,.slice P.a P.na P.ca,.slice P.d P.nd P.cd,.slice P.va P.vn P.vc,.slice P.ra P.rn P.rc] 31) = W at *
 go_loopw [3] (fun s8 wr=>∃ (i:Nat),i≤P.vn∧s8 = .int .i64 i∧(∀ j,j < i→¬ (P.V j).whole = true)∧Below W.heap.size W wr) (fun s8 _=>P.vn - (intOf s8).toNat)
 case atStart=>exact ⟨0,Nat.zero_le _,rfl,fun j hj=>by omega,Below.refl _ _⟩
 case round =>
  obtain ⟨i,hi,rfl,HY,hbW⟩:=hrel
  have hbel:=bel_tr hb hbW
  by_cases hlt:i < P.vn
  ·have hkI:(i:Int) < (P.vn:Int):=by omega
   rcases (hP.v.below hbel) with h0 | ⟨bv,ov,hva,hev⟩
   ·omega
   have hV:=hev i hlt
   obtain ⟨nmV,enm⟩:∃ nmV,nmV = (P.V i).nm:=⟨_,rfl⟩
   obtain ⟨hl,ehl⟩:∃ hl,hl = (P.V i).hlo:=⟨_,rfl⟩
   obtain ⟨hh,ehh⟩:∃ hh,hh = (P.V i).hhi:=⟨_,rfl⟩
   obtain ⟨wh,ewh⟩:∃ wh,wh = (P.V i).whole:=⟨_,rfl⟩
   have r0:=hV.nm
   obtain ⟨pO,aO,nO,cO,dO,mO,lO,r1,r2,r3,_⟩:=hV.obj
   have r4:=hV.hlo
   obtain ⟨pl,al,nl,cl,dl,ml,ll,r5,r6,r7,_⟩:=hV.lo
   have r8:=hV.hhi
   obtain ⟨ph,ah,nh,ch,dh,mh,lh,r9,r10,r11,_⟩:=hV.hi
   have r12:=hV.whole
   rw [← enm] at r0
   rw [← ehl] at r4
   rw [← ehh] at r8
   rw [← ewh] at r12
   have HE:Hid (wh = (P.V i).whole):=ewh
   have hkI2:(i:Int) * 13 = ((i * 13:Nat):Int):=by omega
   have hva':P.va = some ⟨bv,ov,none⟩:=hva
   have hbel2:=hbel
   have HYH:Hid (∀ j,j < i→¬ (P.V j).whole = true):=HY
   have p5r:=kept_c hbW p5
   clear hev hV enm ehl ehh ewh hva HY
   cases wh
   ·go_wp2
    go_roundw
    case rel =>
     have HN:∀ j,j < i + 1→¬ (P.V j).whole = true:=fun j hj=>by
      rcases (by omega:j < i∨j = i) with h | rfl
      ·exact HYH.out j h
      ·rw [← HE.out];decide
     have hbW2:Below W.heap.size W _:=hbW
     first | exact ⟨i + 1,by omega,by go_num,HN,hbW2⟩ | ((repeat apply Exists.intro);refine ⟨?_,rfl⟩;exact ⟨i + 1,by omega,by go_num,HN,hbW2⟩)
    case measure=>simp [intOf];omega
   ·go_wp2
    go_ret
    exact ⟨true,rfl,⟨fun _=>⟨i,hlt,HE.out.symm⟩,fun _=>rfl⟩,hbel2⟩
  ·have hkI:¬ (i:Int) < (P.vn:Int):=by omega
   obtain rfl:i = P.vn:=by omega
   have p5r:=kept_c hbW p5
   go_wp2
   go_ret
   exact ⟨false,rfl,⟨(fun h=>by cases h),fun ⟨j,h1,h2⟩=>absurd h2 (HY j h1)⟩,hbel⟩
set_option maxRecDepth 100000 in
set_option maxHeartbeats 8000000 in
theorem hasWhlQ (P:Prob) (w:World) (hP:PQ w P) (hK:P.K≤1048576) :
  Calls Tryz.prog 17 #[P.val] w fun e w'=>WhlR P w e w':=by
 have hvn:P.vn≤1048576:=by have:=hP.all;have:=tot_len P.ZV P.vn;omega
 unfold Prob.val
 have hb:=bel_d0 w (.cells #[.bool P.mx,.string P.nm,.bool P.p,.slice P.a P.na P.ca,.slice P.d P.nd P.cd,.slice P.va P.vn P.vc,.slice P.ra P.rn P.rc] 31)
 go_enter Tryz.func17,Tryz.ntmps17
 go_wp2
 generalize w.alloc (.cells #[.bool P.mx,.string P.nm,.bool P.p,.slice P.a P.na P.ca,.slice P.d P.nd P.cd,.slice P.va P.vn P.vc,.slice P.ra P.rn P.rc] 31) = W at *
 go_loopw [8] (fun s8 wr=>∃ (i:Nat),i≤P.vn∧s8 = .int .i64 i∧(∀ j,j < i→¬ (P.V j).whole = true)∧Below W.heap.size W wr) (fun s8 _=>P.vn - (intOf s8).toNat)
 case atStart=>exact ⟨0,Nat.zero_le _,rfl,fun j hj=>by omega,Below.refl _ _⟩
 case round =>
  obtain ⟨i,hi,rfl,HY,hbW⟩:=hrel
  have hbel:=bel_tr hb hbW
  by_cases hlt:i < P.vn
  ·have hkI:(i:Int) < (P.vn:Int):=by omega
   rcases (hP.v.below hbel) with h0 | ⟨bv,ov,hva,hev⟩
   ·omega
   have hV:=hev i hlt
   obtain ⟨nmV,enm⟩:∃ nmV,nmV = (P.V i).nm:=⟨_,rfl⟩
   obtain ⟨hl,ehl⟩:∃ hl,hl = (P.V i).hlo:=⟨_,rfl⟩
   obtain ⟨hh,ehh⟩:∃ hh,hh = (P.V i).hhi:=⟨_,rfl⟩
   obtain ⟨wh,ewh⟩:∃ wh,wh = (P.V i).whole:=⟨_,rfl⟩
   have r0:=hV.nm
   obtain ⟨pO,aO,nO,cO,dO,mO,lO,r1,r2,r3,_⟩:=hV.obj
   have r4:=hV.hlo
   obtain ⟨pl,al,nl,cl,dl,ml,ll,r5,r6,r7,_⟩:=hV.lo
   have r8:=hV.hhi
   obtain ⟨ph,ah,nh,ch,dh,mh,lh,r9,r10,r11,_⟩:=hV.hi
   have r12:=hV.whole
   rw [← enm] at r0
   rw [← ehl] at r4
   rw [← ehh] at r8
   rw [← ewh] at r12
   have HE:Hid (wh = (P.V i).whole):=ewh
   have hkI2:(i:Int) * 13 = ((i * 13:Nat):Int):=by omega
   have hva':P.va = some ⟨bv,ov,none⟩:=hva
   have hbel2:=bel_tr hbel (bel_d0 wr (.cells #[.string nmV,.bool pO,.slice aO nO cO,.slice dO mO lO,.bool hl,.bool pl,.slice al nl cl,.slice dl ml ll,.bool hh,.bool ph,.slice ah nh ch,.slice dh mh lh,.bool wh] 51))
   have HYH:Hid (∀ j,j < i→¬ (P.V j).whole = true):=HY
   clear hev hV enm ehl ehh ewh hva HY
   cases wh
   ·go_wp2
    go_roundw
    case rel =>
     have HN:∀ j,j < i + 1→¬ (P.V j).whole = true:=fun j hj=>by
      rcases (by omega:j < i∨j = i) with h | rfl
      ·exact HYH.out j h
      ·rw [← HE.out];decide
     have hbW2:Below W.heap.size W _:=bel_tr hbW (bel_d0 wr (.cells #[.string nmV,.bool pO,.slice aO nO cO,.slice dO mO lO,.bool hl,.bool pl,.slice al nl cl,.slice dl ml ll,.bool hh,.bool ph,.slice ah nh ch,.slice dh mh lh,.bool false] 51))
     first | exact ⟨i + 1,by omega,by go_num,HN,hbW2⟩ | ((repeat apply Exists.intro);refine ⟨?_,rfl⟩;exact ⟨i + 1,by omega,by go_num,HN,hbW2⟩)
    case measure=>simp [intOf];omega
   ·go_wp2
    go_ret
    exact ⟨true,rfl,⟨fun _=>⟨i,hlt,HE.out.symm⟩,fun _=>rfl⟩,hbel2⟩
  ·have hkI:¬ (i:Int) < (P.vn:Int):=by omega
   obtain rfl:i = P.vn:=by omega
   go_wp2
   go_ret
   exact ⟨false,rfl,⟨(fun h=>by cases h),fun ⟨j,h1,h2⟩=>absurd h2 (HY j h1)⟩,hbel⟩
theorem wpAnyG.two {P:Program} {ops:Array Oper} {Q:Exit→Act→World→Prop} {md:Region.Mode} {T:Array Bool→World→Prop} (i j:Nat) {f:Nat} {L:Array Bool} {a:Act} {w:World} (hr:Region.ready md ops L = [i,j]) (hi:i < ops.size) (hj:j < ops.size) (wi:Region.wanted ops[i] (yielded ops a.tmps) = true) (wj:Region.wanted ops[j] (yielded ops a.tmps) = true)
  (h1:∀ K:Act→World→Prop,(∀ a' w',T (L.setIfInBounds i true) w'→wpAnyG P md ops Q T f (L.setIfInBounds i true) a' w'→K a' w')→ops[i].wp P a w K Q)
  (h2:∀ K:Act→World→Prop,(∀ a' w',T (L.setIfInBounds j true) w'→wpAnyG P md ops Q T f (L.setIfInBounds j true) a' w'→K a' w')→ops[j].wp P a w K Q):wpAnyG P md ops Q T (f + 1) L a w:=by
 refine ⟨fun h0=>(by rw [hr] at h0;cases h0),fun k hk=>?_⟩
 rw [hr] at hk
 rcases (by simpa using hk:k = i∨k = j) with rfl | rfl
 ·unfold wpOp
  rw [Array.getElem?_eq_getElem hi]
  simp only [wi,if_true]
  exact .inl (h1 _ fun a' w' h1 h2=>⟨h1,h2⟩)
 ·unfold wpOp
  rw [Array.getElem?_eq_getElem hj]
  simp only [wj,if_true]
  exact .inl (h2 _ fun a' w' h1 h2=>⟨h1,h2⟩)
theorem rwordU {s:ByteArray} {a:Nat} {ok:Bool} {e:UInt8} {Q F:Nat} (w:World) (hq:Rdr w Q s a ok) (hF:F≤Q) (ha:a≤s.size) (hs:s.size≤2000000) (he:e = 32∨e = 10) :
  Calls Tryz.prog 13 #[.pointer (some ⟨Q,0,none⟩),.int .u8 (e.toNat:Int)] w fun en w'=>∃ (t:ByteArray) (b:Nat) (ok2:Bool),en = .returned (.string t)∧Kb F [58] w w'∧Rdr w' Q s b ok2∧b≤s.size ∧
   ((ok2 = ok∧NoB t.data.toList∧s.data.toList.drop a = t.data.toList ++ e :: s.data.toList.drop b)∨(ok2 = false∧t = ⟨#[]⟩∧∀ x m,s.data.toList.drop a = x ++ e :: m→¬ NoB x)):=by
 refine (rwordD w hq hF ha hs he).mono ?_
 rintro en w1 ⟨k1,⟨t,m,h1,h2,rfl,h3⟩ | ⟨h1,rfl,h2⟩⟩
 ·have e1:s.data.toList.drop (a + (t.data.toList ++ [e]).length) = m:=drop_cat (by rw [h1];simp)
  have e2:=drop_le (a:=a) (x:=t.data.toList ++ [e]) (m:=m) (by rw [h1];simp) (by simp)
  rw [List.length_append,len_list,List.length_singleton,← Nat.add_assoc] at e1 e2
  rw [len_list] at e2
  exact ⟨t,_,ok,rfl,k1,h3,e2,.inl ⟨rfl,h2,by rw [e1];exact h1⟩⟩
 ·exact ⟨_,a,false,rfl,k1,h2,ha,.inr ⟨rfl,rfl,h1⟩⟩
theorem rnumU {s:ByteArray} {a:Nat} {ok:Bool} {e:UInt8} {Q F:Nat} (w:World) (hq:Rdr w Q s a ok) (hF:F≤Q) (ha:a≤s.size) (hs:s.size≤1048576) (he:e = 32∨e = 10) (HN:∀ t:ByteArray,t.size≤1048576→NumA t) :
  Calls Tryz.prog 14 #[.pointer (some ⟨Q,0,none⟩),.int .u8 (e.toNat:Int)] w fun en w'=>∃ (f:Bool) (c:Option Addr) (n k:Nat) (c':Option Addr) (n' k':Nat) (b:Nat) (ok2:Bool),en = .returned (.agg #[.bool f,.slice c n k,.slice c' n' k'])∧Kb F [58] w w'∧Rdr w' Q s b ok2∧b≤s.size ∧
   ((ok2 = ok∧∃ r,s.data.toList.drop a = tq r ++ e :: s.data.toList.drop b∧GR w' F f c n k c' n' k' r 5000000)∨(ok2 = false∧∀ r m,¬ s.data.toList.drop a = tq r ++ e :: m)):=by
 refine (rnumD w hq hF ha hs he HN).mono ?_
 rintro en w1 ⟨k1,⟨r,m,f,c,n,k,c',n',k',b,h1,rfl,h2,h3,h4,h5⟩ | ⟨h1,rfl,b,h2,h3⟩⟩
 ·exact ⟨f,c,n,k,c',n',k',b,ok,rfl,k1,h3,h4,.inl ⟨rfl,r,by rw [h5];exact h1,h2⟩⟩
 ·exact ⟨_,_,_,_,_,_,_,b,false,rfl,k1,h3,h2,.inr ⟨rfl,h1⟩⟩
theorem rlineU {s:ByteArray} {a:Nat} {Q F:Nat} {wt nm:ByteArray} (w:World) (hq:Rdr w Q s a true) (hF:F≤Q) (ha:a≤s.size) (hs:s.size≤1048576) (hnm:nm.size≤1048576) (hwt:NoB wt.data.toList) (hw0:0 < wt.size) :
  Calls Tryz.prog 15 #[.pointer (some ⟨Q,0,none⟩),.string wt,.string nm] w fun en w'=>∃ (b:Nat) (ok2:Bool),en = .returned (.tuple #[])∧Kb F [58] w w'∧Rdr w' Q s b ok2∧b≤s.size ∧
   ((ok2 = true∧s.data.toList.drop a = wt.data.toList ++ 32 :: (nm.data.toList ++ 32 :: s.data.toList.drop b))∨(ok2 = false∧∀ m,¬ s.data.toList.drop a = wt.data.toList ++ 32 :: (nm.data.toList ++ 32 :: m))):=by
 refine (rlineD w hq hF ha hs hnm hwt hw0).mono ?_
 rintro en w1 ⟨rfl,k1,⟨m,b,h1,h2,h3,h4⟩ | ⟨h1,b,h2,h3⟩⟩
 ·exact ⟨b,true,rfl,k1,h2,h3,.inl ⟨rfl,by rw [h4];exact h1⟩⟩
 ·exact ⟨b,false,rfl,k1,h3,h2,.inr ⟨rfl,h1⟩⟩
theorem certI:(Tryz.prog.info? 35).map (·.size) = some 7:=by kernel_rfl
def P7 (P:Prob):Array Value:=#[.bool P.mx,.string P.nm,.bool P.p,.slice P.a P.na P.ca,.slice P.d P.nd P.cd,.slice P.va P.vn P.vc,.slice P.ra P.rn P.rc]
def Z7:Array Value:=#[.int .i64 0,.bool false,.slice none 0 0,.slice none 0 0,.slice none 0 0,.slice none 0 0,.slice none 0 0]
structure St (w0 w:World) (F:Nat) (P:Prob) (s:ByteArray) (a:Nat) (ok:Bool) (cs:Array Value):Prop where
 fw:w0.heap.size = F
 bel:Below F w0 w
 bp:Rw 31 w F (P7 P)
 r4:Rw 35 w (F + 1) Z7
 rq:Rdr w (F + 2) s a ok
 rc:Rw 35 w (F + 3) cs
 ha:a≤s.size
section
variable {w0 w w':World} {F:Nat} {P:Prob} {s:ByteArray} {a b:Nat} {ok ok2:Bool} {cs cs':Array Value}
theorem St.lt (h:St w0 w F P s a ok cs):F + 3 < w.heap.size:=h.rc.lt
theorem St.belw (h:St w0 w F P s a ok cs):Below w0.heap.size w0 w:=by rw [h.fw];exact h.bel
theorem St.below (h:St w0 w F P s a ok cs) (hb:Below w.heap.size w w'):St w0 w' F P s a ok cs :=
 ⟨h.fw,h.bel.trans (hb.mono (by have:=h.lt;omega)),h.bp.below hb,h.r4.below hb,h.rq.below hb,h.rc.below hb,h.ha⟩
theorem St.kbQ (h:St w0 w F P s a ok cs) (k:Kb F [58] w w') (hq:Rdr w' (F + 2) s b ok2) (hb:b≤s.size):St w0 w' F P s b ok2 cs :=
 ⟨h.fw,h.bel.trans k.below,h.bp.kb k (by decide),h.r4.kb k (by decide),hq,h.rc.kb k (by decide),hb⟩
theorem St.kbR (h:St w0 w F P s a ok cs) (k:Kb F [27] w w'):St w0 w' F P s a ok cs :=
 ⟨h.fw,h.bel.trans k.below,h.bp.kb k (by decide),h.r4.kb k (by decide),h.rq.kb k (by decide),h.rc.kb k (by decide),h.ha⟩
theorem St.setC (h:St w0 w F P s a ok cs) (o:Off (F + 3) w w') (hc:Rw 35 w' (F + 3) cs'):St w0 w' F P s a ok cs':=by
 have k:Kb F [35] w w':=kb_off h.rc (by omega) o
 exact ⟨h.fw,h.bel.trans k.below,h.bp.kb k (by decide),h.r4.off o (by omega),h.rq.kb k (by decide),hc,h.ha⟩
theorem St.setQ (h:St w0 w F P s a ok cs):St w0 (w.setCell ⟨F + 2,2,none⟩ (.bool false)) F P s a false cs:=by
 obtain ⟨s1,s2⟩:=Rw.setK h.rq 2 (.bool false)
 have k:Kb F [58] w (w.setCell ⟨F + 2,2,none⟩ (.bool false)):=kb_off h.rq (by omega) s2
 exact h.kbQ k s1 h.ha
theorem St.pq (h:St w0 w F P s a ok cs) (hP:PQ w0 P):PQ w P:=hP.below h.belw
end
def OkS (w:World) (F v:Nat) (P:Prob) (s:ByteArray) (R:Nat→List Rat) (t a nx ny nz:Nat) (cs:Array Value):Prop :=
 Lns (lnsW v P.vn (vnm P) P.rn (unm P)) (lnsK v P.vn P.rn) s.data.toList R t (s.data.toList.drop a) ∧
 ∃ p a1 na ca d nd cd xv yv zv,cs = #[.int .i64 (v:Int),.bool p,.slice a1 na ca,.slice d nd cd,xv,yv,zv] ∧
  (v = 1∧GR w F p a1 na ca d nd cd ((R 1).getD 0 0) 5000000∨¬ v = 1∧p = false∧a1 = none∧na = 0∧ca = 0∧d = none∧nd = 0∧cd = 0) ∧
  NL w F xv nx (xR v R)∧NL w F yv ny (yR v P.vn R)∧NL w F zv nz (zR v R)∧(∀ g,(xv.ownBlock = some g→yv.ownBlock ≠ some g∧zv.ownBlock ≠ some g)∧(zv.ownBlock = some g→yv.ownBlock ≠ some g))
def StS (w:World) (F v:Nat) (P:Prob) (s:ByteArray) (t a nx ny nz:Nat) (ok:Bool) (cs:Array Value):Prop :=
 (ok = true∧∃ R,OkS w F v P s R t a nx ny nz cs)∨(ok = false∧∀ R,¬ Ans v P.vn (vnm P) P.rn (unm P) s.data.toList R)
theorem NL.grow {w w':World} {F:Nat} {u v:Value} {m n:Nat} {Y:Nat→Rat} {E:Nat→List Value} (h:NL w F u m Y) (hv:SL w F 27 3 v n E) (hF:F≤w.heap.size) (hne:∀ g,u.ownBlock = some g→v.ownBlock ≠ some g) (hg:w.grownBy w' v.ownBlock):NL w' F u m Y:=by
 obtain ⟨E',h1,h2⟩:=h
 have kk:=kb_grown hv (Nat.le_refl _) hF hg
 refine ⟨E',h1.kept hg (fun k e=>(hne k e)),fun i hi=>?_⟩
 obtain ⟨f,c,q,k,c',q',k',e,g⟩:=h2 i hi
 exact ⟨f,c,q,k,c',q',k',e,g.kb kk (by decide)⟩
theorem NL.app {w w':World} {F:Nat} {v v':Value} {n:Nat} {X:Nat→Rat} {f:Bool} {c:Option Addr} {q k:Nat} {c':Option Addr} {q' k':Nat} {E:Nat→List Value} (h1:SL w F 27 3 v n E) (h2:∀ i,i < n→∃ f c m k c' m' k',E i = [.bool f,.slice c m k,.slice c' m' k']∧GR w F f c m k c' m' k' (X i) 5000000) (hF:F≤w.heap.size)
  (hS:SL w' F 27 3 v' (n + 1) (fun i=>if i < n then E i else [.bool f,.slice c q k,.slice c' q' k'])) (hg:w.grownBy w' v.ownBlock) (hr:GR w F f c q k c' q' k' (X n) 5000000):NL w' F v' (n + 1) X:=by
 have kk:=kb_grown h1 (Nat.le_refl _) hF hg
 refine ⟨_,hS,fun i hi=>?_⟩
 rcases (by omega:i < n∨i = n) with h | rfl
 ·obtain ⟨f1,c1,m1,k1,c2,m2,k2,e,g⟩:=h2 i h
  exact ⟨f1,c1,m1,k1,c2,m2,k2,by simp only [h,if_true];exact e,g.kb kk (by decide)⟩
 ·exact ⟨f,c,q,k,c',q',k',by simp,hr.kb kk (by decide)⟩
theorem no_ans {v t:Nat} {P:Prob} {l:List UInt8} {R:Nat→List Rat} {a:List UInt8} (h:Lns (lnsW v P.vn (vnm P) P.rn (unm P)) (lnsK v P.vn P.rn) l R t a) (ht:t < lnsN v P.vn P.rn)
  (hl:∀ rs b,rs.length = lnsK v P.vn P.rn t→¬ Ln a (lnsW v P.vn (vnm P) P.rn (unm P) t) rs b):∀ R,¬ Ans v P.vn (vnm P) P.rn (unm P) l R:=fun _=>h.none hl ht
theorem Rw.val7 {t:TypeId} {w:World} {R:Nat} {a0 a1 a2 a3 a4 a5 a6:Value} (h:Rw t w R #[a0,a1,a2,a3,a4,a5,a6]) (b1 b2 b3:Value):Rw t (((w.setCell ⟨R,1,none⟩ b1).setCell ⟨R,2,none⟩ b2).setCell ⟨R,3,none⟩ b3) R #[a0,b1,b2,b3,a4,a5,a6]∧Off R w (((w.setCell ⟨R,1,none⟩ b1).setCell ⟨R,2,none⟩ b2).setCell ⟨R,3,none⟩ b3):=by
 refine ⟨?_,(((Off.refl _ _).set 1 b1).set 2 b2).set 3 b3⟩
 have:=(((h.setK 1 b1).1.setK 2 b2).1.setK 3 b3).1
 simpa using this
def ReadR (P:Prob) (s:ByteArray) (w:World) (en:Ending) (w':World):Prop :=
 Below w.heap.size w w'∧((∃ v R cs,1≤v∧v≤3∧¬ Whl19 P∧Ans v P.vn (vnm P) P.rn (unm P) s.data.toList R∧CtQ w' w.heap.size v P.vn P.rn R cs∧en = .returned (.tuple #[.agg cs,.int .i64 0])) ∨
  ((Whl19 P∨NoAns P.vn (vnm P) P.rn (unm P) s.data.toList)∧en = .returned (.tuple #[.agg Z7,.int .i64 15])))
end Go.Proofs.YtnkpbjmfdfjeiaaGreatDoor
namespace Go.Proofs.YtnkpbjmfdfjeiaaGreatDoor
open Go.RowKit
theorem lbC_at (s:ByteArray) {j:Nat} (hj:j < s.size):(lbC s)[j]? = some (.int .u8 ((s.data.toList.getD j 0).toNat:Int)):=by
 unfold lbC byteCells
 have hl:j < s.data.toList.length:=by rw [len_list];exact hj
 rw [List.getElem?_append_left (by simpa using hj),List.getElem?_map,List.getElem?_eq_getElem hl]
 simp [List.getD,List.getElem?_eq_getElem hl]
theorem lbC_one (s:ByteArray):(lbC s)[s.size]? = some (.int .u8 1)∧(lbC s)[s.size + 1]? = some (.int .u8 2)∧(lbC s)[s.size + 2]? = some (.int .u8 3):=by
 have hl:(byteCells s).length = s.size:=by unfold byteCells;simp
 unfold lbC
 refine ⟨?_,?_,?_⟩
 ·rw [List.getElem?_append_right (by omega),hl,Nat.sub_self];rfl
 ·rw [List.getElem?_append_right (by omega),hl,show s.size + 1 - s.size = 1 by omega];rfl
 ·rw [List.getElem?_append_right (by omega),hl,show s.size + 2 - s.size = 2 by omega];rfl
theorem LB.conv {w:World} {g c:Nat} {s:ByteArray} (h:LB w g s):(convert 38 9 (.slice (some ⟨g,0,none⟩) s.size c)).run Tryz.prog w = .ok (.string s) w:=by
 have:=run_convert_bytes_back (P:=Tryz.prog) w 38 9 5 ⟨g,0,none⟩ c s.data.toList Tryz.underlying38 Tryz.underlying5 Tryz.underlying9 (fun j hj=>by
  have hj':j < s.size:=by rw [len_list] at hj;exact hj
  have e:(⟨g,0,none⟩:Addr).add j = ⟨g,j,none⟩:=by
   unfold Addr.add
   split <;> simp_all
  rw [e,h.cells j (by omega),lbC_at s hj']
  simp [List.getD,List.getElem?_eq_getElem hj])
 rw [len_list] at this
 exact this
theorem wpList_runApp {w w':World} {v':Value} {ops:Array Oper} {rest:List Oper} {o:Oper} {a:Act} {Q:Exit→Act→World→Prop} {T:TypeId} (hg:o.guard = none) (s x:Operand) (ho:o.op = .call { callee:=.builtin .append,args:=#[s,x],argTypes:=#[T,T] }) (sv xv:Value) (hs:a.eval s = sv) (hx:a.eval x = xv)
  (hrun:(Builtin.append_ #[T,T] o.type #[sv,xv]).run Tryz.prog w = .ok v' w') (h:wpList Tryz.prog ops Q rest (a.put o.dst v') w'):wpList Tryz.prog ops Q (o :: rest) a w:=by
 refine wpList_plain hg fun K hK=>?_
 unfold Oper.wp
 simp [execOp,ho,resolve,invoke,builtin,hs,hx,hrun,Result.andThen]
 exact hK _ _ h
set_option maxRecDepth 100000 in
set_option maxHeartbeats 4000000 in
theorem lentQ (s:ByteArray) (w:World) (hs:s.size≤1048576):Calls Tryz.prog 6 #[.string s] w fun e w'=>∃ g c,e = .returned (.slice (some ⟨g,0,none⟩) s.size c)∧s.size + 3≤c∧LB w' g s∧w.heap.size≤g∧g < w'.heap.size∧Below w.heap.size w w':=by
 have hcv:=fun u=>run_bytes_of_string (P:=Tryz.prog) u 9 38 5 s Tryz.underlying9 Tryz.underlying38 Tryz.underlying5
 have hge:=grownCap_ge w s.size 0 5
 have hrow:∀ cap,s.size≤cap→(bytesRow s cap).size = cap:=fun cap h=>by unfold bytesRow;simp;omega
 obtain ⟨W1,hW1⟩:∃ W1,W1 = (w.alloc (.cells (bytesRow s (grownCap w s.size 0 5)) 5 ((bytesRow s (grownCap w s.size 0 5)).size,(bytesRow s (grownCap w s.size 0 5)).size + 1))).drew:=⟨_,rfl⟩
 have hb1:Below w.heap.size w W1:=by rw [hW1];exact ((Below.refl _ _).alloc (Nat.le_refl _) _).drew
 have hblk:W1.heap[w.heap.size]? = some (.cells (bytesRow s (grownCap w s.size 0 5)) 5 ((bytesRow s (grownCap w s.size 0 5)).size,(bytesRow s (grownCap w s.size 0 5)).size + 1)):=by rw [hW1];exact heap_alloc_new w _
 have hsz1:W1.heap.size = w.heap.size + 1:=by rw [hW1];show (w.alloc _).heap.size = _;simp
 obtain ⟨cap,hcp⟩:∃ cap,cap = grownCap w s.size 0 5:=⟨_,rfl⟩
 rw [← hcp] at hge hW1 hblk
 have hcel:∀ j,W1.cell? ⟨w.heap.size,j,none⟩ = (bytesRow s cap)[j]?:=fun j=>by unfold World.cell?;rw [hblk];rfl
 have hfro:∀ j,j < cap→W1.frozen? ⟨w.heap.size,j,none⟩ = false:=fun j hj=>by
  unfold World.frozen?
  rw [hblk,hrow cap hge]
  simp
  omega
 have hC:Came W1 1 (some ⟨w.heap.size,0,none⟩) w.heap.size 0 s.size cap (byteCells s):=by
  refine ⟨hge,fun _=>rfl,fun _=>by omega,by unfold byteCells;simp,fun j u hj=>?_,fun j hj=>⟨?_,?_⟩⟩
  ·have hjl:j < s.size:=by have:=(List.getElem?_eq_some_iff.1 hj).1;unfold byteCells at this;simpa using this
   rw [Nat.zero_add,hcel]
   unfold bytesRow
   unfold byteCells at hj
   rw [Array.getElem?_append_left (by simpa using hjl),← hj]
   simp
  ·rw [hcel,Array.getElem?_eq_getElem (by rw [hrow cap hge];omega)];rfl
  ·exact hfro _ (by omega)
 obtain ⟨g,c,w3,hrun,h1,h2,h3,h4,h5⟩:=app3 (z:=W1.alloc (.cells #[.int .u8 1,.int .u8 2,.int .u8 3] 5)) (H:=w.heap.size + 1) rfl hs hC (by omega) (fun j hj=>hfro j (by omega)) rfl hsz1 38
 have hb2:=bel_d0 W1 (.cells #[.int .u8 1,.int .u8 2,.int .u8 3] 5)
 have hbF:Below w.heap.size w w3:=(hb1.trans (hb2.mono (by omega))).trans h5
 have hS1:Hid (W1.heap.size = w.heap.size + 1):=hsz1
 have hcg:((s.size:Nat):Int)≤(c:Int):=by omega
 rw [hW1,hcp] at hrun
 clear hge hrow hcel hfro hC hblk hsz1 h5 hb1 hb2 hW1 hS1
 go_enter Tryz.func6,Tryz.ntmps6
 go_wp2_with (refine wpList_runApp rfl _ _ rfl _ _ rfl rfl hrun ?_)
 clear hcv hrun
 go_wp2
 go_ret
 exact ⟨g,c,rfl,h1,h2,h3,h4,hbF⟩
set_option maxRecDepth 100000 in
set_option maxHeartbeats 4000000 in
theorem unspoiltQ (s:ByteArray) {g c:Nat} (w:World) (hs:s.size≤1048576) (h:LB w g s) (hc:s.size + 3≤c):Calls Tryz.prog 8 #[.slice (some ⟨g,0,none⟩) s.size c,.string s] w fun e w'=>e = .returned (.bool true)∧Off g w w':=by
 obtain ⟨l1,l2,l3⟩:=lbC_one s
 have hcv:=h.conv (c:=c)
 have c0:=(h.cells s.size (by omega)).trans l1
 have c1:=(h.cells (s.size + 1) (by omega)).trans l2
 have c2:=(h.cells (s.size + 2) (by omega)).trans l3
 have HEX:Hid (∀ j,j < s.size + 3→∃ u,w.cell? ⟨g,j,none⟩ = some u):=fun j hj=>by
  have:=h.cells j hj
  rw [List.getElem?_eq_getElem (by rw [lbC_len];exact hj)] at this
  exact ⟨_,this⟩
 have HFR:Hid (∀ j,j < s.size + 3→w.frozen? ⟨g,j,none⟩ = false):=h.free
 have hw3:IntKind.i64.wrap ((s.size:Int) + 3) = ((s.size + 3:Nat):Int):=by rw [IntKind.wrap_i64];omega
 have hw1:IntKind.i64.wrap ((s.size:Int) + 1) = ((s.size + 1:Nat):Int):=by rw [IntKind.wrap_i64];omega
 have hw2:IntKind.i64.wrap ((s.size:Int) + 2) = ((s.size + 2:Nat):Int):=by rw [IntKind.wrap_i64];omega
 have hl0:(s.size:Int) < ((s.size + 3:Nat):Int):=by omega
 have hl1:((s.size + 1:Nat):Int) < ((s.size + 3:Nat):Int):=by omega
 have hl2:((s.size + 2:Nat):Int) < ((s.size + 3:Nat):Int):=by omega
 have hlc:((s.size + 3:Nat):Int)≤(c:Int):=by omega
 have hp0:(0:Int)≤((s.size + 3:Nat):Int):=by omega
 clear h l1 l2 l3
 obtain ⟨n3,hn3⟩:∃ n3,n3 = s.size + 3:=⟨_,rfl⟩
 obtain ⟨n1,hn1⟩:∃ n1,n1 = s.size + 1:=⟨_,rfl⟩
 obtain ⟨n2,hn2⟩:∃ n2,n2 = s.size + 2:=⟨_,rfl⟩
 rw [← hn3] at hw3 hl0 hl1 hl2 hlc hp0 HEX HFR
 rw [← hn1] at hw1 hl1 c1
 rw [← hn2] at hw2 hl2 c2
 have H3:Hid (n3 = s.size + 3):=hn3
 clear hn1 hn2 hn3 hc
 go_enter Tryz.func8,Tryz.ntmps8
 go_wp2
 clear hcv c0 c1 c2
 go_loopw [7] (fun s7 wr=>∃ (i:Nat),i≤n3∧s7 = .int .i64 i∧Off g w wr∧(∀ j,j < n3→∃ u,wr.cell? ⟨g,j,none⟩ = some u)∧(∀ j,j < n3→wr.frozen? ⟨g,j,none⟩ = false)) (fun s7 _=>n3 - (intOf s7).toNat)
 case atStart=>exact ⟨0,Nat.zero_le _,rfl,Off.refl _ _,HEX.out,HFR.out⟩
 case round =>
  obtain ⟨i,hi,rfl,O,hex,hfr⟩:=hrel
  by_cases hlt:i < n3
  ·have hkI:(i:Int) < (n3:Int):=by omega
   have hb3:n3≤1048579:=by have:=H3.out;omega
   obtain ⟨u,hu⟩:=hex i hlt
   have hf:=hfr i hlt
   have O2:=O.set i (.int .u8 122)
   have hex2:Hid (∀ j,j < n3→∃ u,(wr.setCell ⟨g,i,none⟩ (.int .u8 122)).cell? ⟨g,j,none⟩ = some u):=fun j hj=>by
    by_cases e:j = i
    ·subst e
     exact ⟨_,World.cell?_setCell_same _ _ _ hu⟩
    ·obtain ⟨u',hu'⟩:=hex j hj
     exact ⟨u',(World.cell?_setCell_other _ _ _ _ (by simp <;> omega)).trans hu'⟩
   have hfr2:Hid (∀ j,j < n3→(wr.setCell ⟨g,i,none⟩ (.int .u8 122)).frozen? ⟨g,j,none⟩ = false):=fun j hj=>by
    rw [World.frozen?_setCell]
    exact hfr j hj
   clear hex hfr
   go_wp2
   go_roundw
   case rel=>first | exact ⟨i + 1,by omega,by go_num,O2,hex2.out,hfr2.out⟩ | ((repeat apply Exists.intro);refine ⟨?_,rfl⟩;exact ⟨i + 1,by omega,by go_num,O2,hex2.out,hfr2.out⟩)
   case measure=>simp [intOf];omega
  ·have hkI:¬ (i:Int) < (n3:Int):=by omega
   go_wp2
   go_ret
   exact ⟨rfl,O⟩
end Go.Proofs.YtnkpbjmfdfjeiaaGreatDoor
