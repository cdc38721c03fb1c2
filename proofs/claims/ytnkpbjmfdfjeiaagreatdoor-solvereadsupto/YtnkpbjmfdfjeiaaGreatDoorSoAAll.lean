import Derived.Test.YtnkpbjmfdfjeiaaGreatDoorRbAll
import Derived.Test.YtnkpbjmfdfjeiaaGreatDoorPqCAll
import Derived.Test.YtnkpbjmfdfjeiaaGreatDoorR5IAll
import Derived.Test.YtnkpbjmfdfjeiaaGreatDoorQ3AAll
import Derived.Test.YtnkpbjmfdfjeiaaGreatDoorRefNAll
import Derived.Test.YtnkpbjmfdfjeiaaGreatDoorDigAll
namespace Go.Proofs.YtnkpbjmfdfjeiaaGreatDoor
open Go.RowKit
def Rdr (w:World) (Q:Nat) (s:ByteArray) (a:Nat) (ok:Bool):Prop:=Rw 58 w Q #[.string s,.int .i64 (a:Int),.bool ok]
theorem Rdr.kb {w w':World} {F Q:Nat} {L:List TypeId} {s:ByteArray} {a:Nat} {ok:Bool} (h:Rdr w Q s a ok) (k:Kb F L w w') (hL:58 ∉ L):Rdr w' Q s a ok:=Rw.kb h k hL
theorem Rdr.below {w w':World} {Q:Nat} {s:ByteArray} {a:Nat} {ok:Bool} (h:Rdr w Q s a ok) (hb:Below w.heap.size w w'):Rdr w' Q s a ok:=Rw.below h hb
def NoB (x:List UInt8):Prop:=∀ b ∈ x,¬ b = 32∧¬ b = 10
theorem NoB.of {s:ByteArray} {a i:Nat} (hi:i≤s.size) (h:∀ k,a≤k→k < i→¬ byt s k = 32∧¬ byt s k = 10):NoB (s.extract a i).data.toList:=fun b hb=>by
 obtain ⟨k,h1,h2⟩:=in_byt hb
 rw [size_extract _ _ _ hi] at h1
 rw [byt_extract _ _ _ _ hi (by omega)] at h2
 have h3:=h (a + k) (by omega) (by omega)
 rw [h2] at h3
 exact ⟨fun e=>h3.1 (by rw [e];rfl),fun e=>h3.2 (by rw [e];rfl)⟩
theorem drop_split {s:ByteArray} {a i:Nat} (ha:a≤i) (hi:i≤s.size):s.data.toList.drop a = (s.extract a i).data.toList ++ s.data.toList.drop i:=by
 rw [ext_list]
 have e1:s.data.toList.drop a = ((s.data.toList.take i) ++ (s.data.toList.drop i)).drop a:=by rw [List.take_append_drop]
 rw [e1,List.drop_append_of_le_length (by rw [List.length_take,len_list];omega)]
theorem drop_at {s:ByteArray} {i:Nat} {e:UInt8} (hi:i < s.size) (he:byt s i = (e.toNat:Int)):s.data.toList.drop i = e :: s.data.toList.drop (i + 1):=by
 rw [drop_byte hi]
 have:s.data.toList.getD i 0 = e:=by
  unfold byt at he
  exact UInt8.toNat_inj.1 (by omega)
 rw [this]
def WordR (s:ByteArray) (a:Nat) (ok:Bool) (e:UInt8) (Q F:Nat) (w:World) (en:Ending) (w':World):Prop :=
 Kb F [58] w w'∧((∃ (t:ByteArray) (m:List UInt8),s.data.toList.drop a = t.data.toList ++ e :: m∧NoB t.data.toList∧en = .returned (.string t)∧Rdr w' Q s (a + t.size + 1) ok)∨((∀ x m,s.data.toList.drop a = x ++ e :: m→¬ NoB x)∧en = .returned (.string ⟨#[]⟩)∧Rdr w' Q s a false))
theorem nob_split {x y:List UInt8} {e:UInt8} {m n:List UInt8} (he:e = 32∨e = 10):NoB x→NoB y→(∀ b t,n = b :: t→(b = 32∨b = 10))→x ++ e :: m = y ++ n→x = y∧e :: m = n:=by
 intro hx hy hn h
 induction x generalizing y with
 | nil =>
  cases y with
  | nil=>exact ⟨rfl,h⟩
  | cons b t =>
   simp only [List.nil_append,List.cons_append,List.cons.injEq] at h
   have:=hy b (List.mem_cons_self ..)
   rcases he with rfl | rfl
   ·exact absurd h.1.symm this.1
   ·exact absurd h.1.symm this.2
 | cons c x ih =>
  cases y with
  | nil =>
   simp only [List.nil_append,List.cons_append] at h
   have:=hx c (List.mem_cons_self ..)
   rcases hn c _ h.symm with rfl | rfl
   ·exact absurd rfl this.1
   ·exact absurd rfl this.2
  | cons b t =>
   simp only [List.cons_append,List.cons.injEq] at h
   obtain ⟨rfl,h⟩:=h
   obtain ⟨rfl,h2⟩:=ih (fun z hz=>hx z (List.mem_cons_of_mem _ hz)) (fun z hz=>hy z (List.mem_cons_of_mem _ hz)) h
   exact ⟨rfl,h2⟩
set_option maxRecDepth 100000 in
set_option maxHeartbeats 8000000 in
theorem rwordD {s:ByteArray} {a:Nat} {ok:Bool} {e:UInt8} {Q F:Nat} (w:World) (hq:Rdr w Q s a ok) (hF:F≤Q) (ha:a≤s.size) (hs:s.size≤2000000) (he:e = 32∨e = 10) :
  Calls Tryz.prog 13 #[.pointer (some ⟨Q,0,none⟩),.int .u8 (e.toNat:Int)] w fun en w'=>WordR s a ok e Q F w en w':=by
 have q0:w.cell? ⟨Q,0,none⟩ = some (.string s):=Rw.cell hq 0
 have q1:w.cell? ⟨Q,1,none⟩ = some (.int .i64 (a:Int)):=Rw.cell hq 1
 have q2:w.cell? ⟨Q,2,none⟩ = some (.bool ok):=Rw.cell hq 2
 have f1:w.frozen? ⟨Q,1,none⟩ = false:=Rw.frozen hq 1
 have f2:w.frozen? ⟨Q,2,none⟩ = false:=Rw.frozen hq 2
 have HQ:Hid (Rdr w Q s a ok):=hq
 have HE:Hid (e = 32∨e = 10):=he
 obtain ⟨E,hE⟩:∃ E:Int,(e.toNat:Int) = E:=⟨_,rfl⟩
 have HEE:Hid ((e.toNat:Int) = E):=hE
 rw [hE]
 have HBAD:Hid (∀ i,a≤i→i≤s.size→(∀ k,a≤k→k < i→¬ byt s k = 32∧¬ byt s k = 10)→(i < s.size→(byt s i = 32∨byt s i = 10)∧¬ byt s i = E)→∀ x m,s.data.toList.drop a = x ++ e :: m→¬ NoB x):=by
  intro i h1 h2 h3 h4 x m h5 h6
  rw [drop_split h1 h2] at h5
  have hn:∀ b t,s.data.toList.drop i = b :: t→(b = 32∨b = 10):=fun b t hbt=>by
   rcases Nat.lt_or_ge i s.size with hl | hl
   ·obtain ⟨h7,_⟩:=h4 hl
    rw [drop_byte hl] at hbt
    simp only [List.cons.injEq] at hbt
    unfold byt at h7
    rw [hbt.1] at h7
    exact h7.imp (fun h=>UInt8.toNat_inj.1 (by rw [show (32:UInt8).toNat = 32 from rfl];omega)) (fun h=>UInt8.toNat_inj.1 (by rw [show (10:UInt8).toNat = 10 from rfl];omega))
   ·rw [drop_none hl] at hbt;cases hbt
  obtain ⟨_,h8⟩:=nob_split HE.out h6 (NoB.of h2 h3) hn h5.symm
  rcases Nat.lt_or_ge i s.size with hl | hl
  ·obtain ⟨_,h7⟩:=h4 hl
   rw [drop_byte hl] at h8
   simp only [List.cons.injEq] at h8
   exact h7 (by unfold byt;rw [← h8.1];exact HEE.out)
  ·rw [drop_none hl] at h8;cases h8
 clear hq he hE
 go_enter Tryz.func13,Tryz.ntmps13
 go_wp2
 go_loopw [5] (fun s5 wr=>∃ (i:Nat),a≤i∧i≤s.size∧s5 = .int .i64 i∧(∀ k,a≤k→k < i→¬ byt s k = 32∧¬ byt s k = 10)∧wr = w) (fun s5 _=>s.size - (intOf s5).toNat)
 case atStart=>exact ⟨a,Nat.le_refl _,ha,rfl,fun k h1 h2=>by omega,rfl⟩
 case round =>
  obtain ⟨i,hai,hi,rfl,HN,rfl⟩:=hrel
  by_cases hlt:i < s.size
  ·have hkI:(i:Int) < (s.size:Int):=by omega
   have hkG:¬ (s.size:Int)≤(i:Int):=by omega
   have h0i:(0:Int)≤(i:Int):=by omega
   have hiS:(i:Int)≤(s.size:Int):=by omega
   have h0a:(0:Int)≤(a:Int):=by omega
   have haI:(a:Int)≤(i:Int):=by omega
   have hby:=byt_get hlt
   have HY:Hid (∀ k,a≤k→k < i→¬ byt s k = 32∧¬ byt s k = 10):=HN
   obtain ⟨B,hB⟩:∃ B,byt s i = B:=⟨_,rfl⟩
   have HB:Hid (byt s i = B):=hB
   rw [hB] at hby
   clear HN hB
   by_cases h32:B = 32
   ·subst h32
    by_cases hEq:(32:Int) = E
    ·have hEE:E = 32:=hEq.symm
     subst hEE
     have HR:Hid (s.data.toList.drop a = (s.extract a i).data.toList ++ e :: s.data.toList.drop (i + 1)):=by
      show _ = _
      rw [drop_split hai hi,drop_at hlt (HB.out.trans HEE.out.symm)]
     have hw1:IntKind.i64.wrap ((i:Int) + 1) = (i:Int) + 1:=by rw [IntKind.wrap_i64];omega
     go_wp2
     go_region
     go_wp2
     go_ret
     have e1:a + (s.extract a i).size + 1 = i + 1:=by rw [size_extract _ _ _ hi];omega
     obtain ⟨k1,k2⟩:=Rw.setK HQ.out 1 (.int .i64 ((i:Int) + 1))
     exact ⟨kb_off HQ.out hF k2.drew,.inl ⟨s.extract a i,_,HR.out,NoB.of hi HY.out,rfl,by rw [e1];exact k1⟩⟩
    ·have hEn:¬ (32:Int) = E:=hEq
     have HX:Hid (∀ x m,s.data.toList.drop a = x ++ e :: m→¬ NoB x):=HBAD.out i hai hi HY.out fun _=>⟨by rw [HB.out];omega,by rw [HB.out];omega⟩
     go_wp2
     go_ret
     obtain ⟨k1,k2⟩:=Rw.setK HQ.out 2 (.bool false)
     exact ⟨kb_off HQ.out hF k2,.inr ⟨HX.out,rfl,k1⟩⟩
   ·by_cases h10:B = 10
    ·subst h10
     by_cases hEq:(10:Int) = E
     ·have hEE:E = 10:=hEq.symm
      subst hEE
      have HR:Hid (s.data.toList.drop a = (s.extract a i).data.toList ++ e :: s.data.toList.drop (i + 1)):=by
       show _ = _
       rw [drop_split hai hi,drop_at hlt (HB.out.trans HEE.out.symm)]
      have hw1:IntKind.i64.wrap ((i:Int) + 1) = (i:Int) + 1:=by rw [IntKind.wrap_i64];omega
      go_wp2
      go_region
      go_wp2
      go_ret
      have e1:a + (s.extract a i).size + 1 = i + 1:=by rw [size_extract _ _ _ hi];omega
      obtain ⟨k1,k2⟩:=Rw.setK HQ.out 1 (.int .i64 ((i:Int) + 1))
      exact ⟨kb_off HQ.out hF k2.drew,.inl ⟨s.extract a i,_,HR.out,NoB.of hi HY.out,rfl,by rw [e1];exact k1⟩⟩
     ·have hEn:¬ (10:Int) = E:=hEq
      have HX:Hid (∀ x m,s.data.toList.drop a = x ++ e :: m→¬ NoB x):=HBAD.out i hai hi HY.out fun _=>⟨by rw [HB.out];omega,by rw [HB.out];omega⟩
      go_wp2
      go_ret
      obtain ⟨k1,k2⟩:=Rw.setK HQ.out 2 (.bool false)
      exact ⟨kb_off HQ.out hF k2,.inr ⟨HX.out,rfl,k1⟩⟩
    ·have b32:(B != 32) = true:=by simpa using h32
     have b10:(B != 10) = true:=by simpa using h10
     go_wp2
     go_roundw
     case rel =>
      have HN':∀ k,a≤k→k < i + 1→¬ byt s k = 32∧¬ byt s k = 10:=fun k h1 h2=>by
       rcases (by omega:k < i∨k = i) with h | rfl
       ·exact HY.out k h1 h
       ·rw [HB.out];exact ⟨h32,h10⟩
      first | exact ⟨i + 1,by omega,by omega,by go_num,HN',trivial⟩ | exact ⟨i + 1,by omega,by omega,by go_num,HN',rfl⟩ | ((repeat apply Exists.intro);refine ⟨?_,rfl⟩;exact ⟨i + 1,by omega,by omega,by go_num,HN',rfl⟩)
     case measure=>simp [intOf];omega
  ·have hkI:¬ (i:Int) < (s.size:Int):=by omega
   have hkG:(s.size:Int)≤(i:Int):=by omega
   have HX:Hid (∀ x m,s.data.toList.drop a = x ++ e :: m→¬ NoB x):=HBAD.out i hai hi HN fun h=>absurd h hlt
   go_wp2
   go_ret
   obtain ⟨k1,k2⟩:=Rw.setK HQ.out 2 (.bool false)
   exact ⟨kb_off HQ.out hF k2,.inr ⟨HX.out,rfl,k1⟩⟩
end Go.Proofs.YtnkpbjmfdfjeiaaGreatDoor
namespace Go.Proofs.YtnkpbjmfdfjeiaaGreatDoor
open Go.RowKit Go.Shelf
theorem runN_end {P:Program} {m m':Machine} {o:Outcome} {w:World} {n:Nat} (hs:step P m' = .ended o w) (h:runN P n m = .next m') {k:Nat} (hk:n < k):runN P k m = .ended o w:=by
 obtain ⟨j,rfl⟩:∃ j,k = n + (j + 1):=⟨k - n - 1,by omega⟩
 rw [runN_add,h]
 simp only [runN,hs]
theorem callsDet {P:Program} {f:FuncId} {args:Array Value} {w:World} {R1 R2:Ending→World→Prop} (hi:P.inits.idxOf? f = none) (h1:Calls P f args w R1) (h2:Calls P f args w R2)
  (r1:∀ e w',R1 e w'→∃ v,e = .returned v) (r2:∀ e w',R2 e w'→∃ v,e = .returned v):∃ e w',R1 e w'∧R2 e w':=by
 obtain ⟨e1,w1,fr1,a1,a2,a3,a4⟩:=h1 []
 obtain ⟨e2,w2,fr2,b1,b2,b3,b4⟩:=h2 []
 obtain ⟨v1,rfl⟩:=r1 _ _ a1
 obtain ⟨v2,rfl⟩:=r2 _ _ b1
 have s1:=step_leave_done a4 (by rw [a3];exact hi)
 have s2:=step_leave_done b4 (by rw [b3];exact hi)
 obtain ⟨n1,c1⟩:=a2
 obtain ⟨n2,c2⟩:=b2
 have key:n1 = n2:=by
  rcases Nat.lt_trichotomy n1 n2 with h | h | h
  ·rw [runN_end s1 c1 h] at c2;cases c2
  ·exact h
  ·rw [runN_end s2 c2 h] at c1;cases c1
 subst key
 rw [c1] at c2
 injection c2 with e
 rw [e,s2] at s1
 injection s1 with x1 x2
 injection x1 with x3
 subst x2
 subst x3
 exact ⟨_,_,a1,b1⟩
theorem txt_pw (v:Nat):(v:Int) < pw ((txt v).size + 1):=by
 have h:=rdF_bd (digs_txt v) (o:=0) (txt v).size (by omega)
 rw [rd_txt] at h
 have:=p10_lt (txt v).size
 omega
theorem txtI_pw (x:Int):(x.natAbs:Int) < pw ((txtI x).size + 1):=by
 have h:=txt_pw x.natAbs
 have h2:(txt x.natAbs).size≤(txtI x).size:=by
  unfold txtI
  split
  ·rw [ByteArray.size_append];omega
  ·omega
 have:=pw_mono (show (txt x.natAbs).size + 1≤(txtI x).size + 1 by omega)
 omega
theorem txtQ_pw (r:Rat):(r.num.natAbs:Int) < pw ((txtQ r).size + 1)∧(r.den:Int) < pw ((txtQ r).size + 1):=by
 have h1:=txtI_pw r.num
 have h2:=txt_pw r.den
 unfold txtQ
 split
 ·rename_i hd
  refine ⟨h1,?_⟩
  rw [hd]
  have b:=pw_mono (show 1≤(txtI r.num).size + 1 by omega)
  have e:pw 1 = 18446744073709551616:=by simp [pw]
  omega
 ·rw [ByteArray.size_append,ByteArray.size_append]
  have a:=pw_mono (show (txtI r.num).size + 1≤(txtI r.num).size + (⟨#[47]⟩:ByteArray).size + (txt r.den).size + 1 by omega)
  have b:=pw_mono (show (txt r.den).size + 1≤(txtI r.num).size + (⟨#[47]⟩:ByteArray).size + (txt r.den).size + 1 by omega)
  omega
theorem GR.one {w:World} {B B':Nat} {f:Bool} {c:Option Addr} {n k:Nat} {c':Option Addr} {n' k':Nat} {r s:Rat} {S R:Nat} (hT:TB w) (h:GR w B f c n k c' n' k' r S) (h':GR w B' f c n k c' n' k' s R) (hS:S≤7000000) (hR:R≤7000000):r = s:=by
 obtain ⟨e,w',⟨rfl,_⟩,⟨e2,_⟩⟩:=callsDet (by kernel_rfl) (textQ w (h.le hS).tr (Nat.le_refl _) (by omega) hT) (textQ w (h'.le hR).tr (Nat.le_refl _) (by omega) hT) (fun _ _ h=>⟨_,h.1⟩) (fun _ _ h=>⟨_,h.1⟩)
 injection e2 with e2
 injection e2 with e2
 exact txtQ_inj e2
def NumA (s:ByteArray):Prop :=
 (∃ r S R,S≤5000000∧R≤5000000∧(∀ w,TB w→Parses s r S w)∧DocOk s r R∧∀ q,s = txtQ q→q = r) ∨
 (∃ g code,(g = 2∨g = 4∨g = 3)∧Fails s g∧¬ code = 0∧DocErr s code∧∀ q,¬ s = txtQ q)
theorem num_all {w:World} (hT:TB w) {e5 e8 e3:Value} (E5:Errs w 2 e5) (E8:Errs w 4 e8) (E3:Errs w 3 e3) (s:ByteArray) (hs:s.size≤1048576):NumA s:=by
 have par:∀ q,s = txtQ q→Parses s q 1048578 w:=fun q e=>by
  have h:=txtQ_pw q
  subst e
  have:=pw_mono (show (txtQ q).size + 1≤1048577 by omega)
  exact parseTxt q (S:=1048577) w (by omega) (by omega) (by omega) (by omega) hT
 have bad:∀ g ev,Errs w g ev→Fails s g→∀ q,¬ s = txtQ q:=fun g ev E hF q e=>by
  obtain ⟨e',w',⟨f,c,n,k,c',n',k',rfl,_⟩,⟨e2,_⟩⟩:=callsDet (by kernel_rfl) (par q e) (hF w ev E) (fun _ _ h=>by obtain ⟨f,c,n,k,c',n',k',h,_⟩:=h;exact ⟨_,h⟩) (fun _ _ h=>⟨_,h.1⟩)
  obtain ⟨_,p,rfl⟩:=E
  simp at e2
 rcases both s hs with ⟨r,S,R,h1,h2,h3,h4⟩ | ⟨h1,h2⟩ | ⟨h1,h2⟩ | ⟨h1,h2⟩
 ·refine .inl ⟨r,S,R,h1,h2,h3,h4,fun q e=>?_⟩
  obtain ⟨e',w',⟨f,c,n,k,c',n',k',rfl,G,hb⟩,⟨f2,c2,n2,k2,d2,m2,l2,e2,G2,_⟩⟩:=callsDet (by kernel_rfl) (par q e) (h3 w hT) (fun _ _ h=>by obtain ⟨f,c,n,k,c',n',k',h,_⟩:=h;exact ⟨_,h⟩) (fun _ _ h=>by obtain ⟨f,c,n,k,c',n',k',h,_⟩:=h;exact ⟨_,h⟩)
  simp only [Ending.returned.injEq,Value.tuple.injEq,Value.agg.injEq,Array.mk.injEq,List.cons.injEq,Value.bool.injEq,Value.slice.injEq,and_true] at e2
  obtain ⟨rfl,⟨rfl,rfl,rfl⟩,rfl,rfl,rfl⟩:=e2
  exact G.one (hT.below hb) G2 (by omega) (by omega)
 ·exact .inr ⟨_,5,.inl rfl,h1,by decide,h2,bad _ _ E5 h1⟩
 ·exact .inr ⟨_,8,.inr (.inl rfl),h1,by decide,h2,bad _ _ E8 h1⟩
 ·exact .inr ⟨_,3,.inr (.inr rfl),h1,by decide,h2,bad _ _ E3 h1⟩
end Go.Proofs.YtnkpbjmfdfjeiaaGreatDoor
namespace Go.Proofs.YtnkpbjmfdfjeiaaGreatDoor
open Go.RowKit
theorem Got.one {w:World} {B:Nat} {a:Option Addr} {n c:Nat} {x:Int} {S:Nat} (h:Got w B (.slice a n c) x S):(n = 1→∃ g v,a = some ⟨g,0,none⟩∧w.cell? ⟨g,0,none⟩ = some (.int .u64 v)∧v = x)∧(x = 1→n = 1):=by
 obtain ⟨xs,h1,h2,h3,h4⟩:=h
 rcases h1.row with ⟨e1,e2⟩ | ⟨g,c',e1,hB,hr⟩
 ·subst e2
  simp only [Value.slice.injEq] at e1
  obtain ⟨rfl,rfl,rfl⟩:=e1
  refine ⟨fun h=>absurd h (by decide),fun h=>?_⟩
  rw [h] at h3
  simp [Go.Proofs.YtnkpbjmfdfjeiaaGreatDoor.val,vS] at h3
 ·simp only [Value.slice.injEq] at e1
  obtain ⟨rfl,e2,rfl⟩:=e1
  refine ⟨fun h=>⟨g,lm xs 0,rfl,hr.cell (by omega),?_⟩,fun h=>?_⟩
  ·rw [← h3]
   have e:xs.length = 1:=by omega
   show lm xs 0 = vS xs xs.length
   rw [e];simp [vS,pw]
  ·have h5:=val_lt_tlen h2.1
   rw [e2]
   have h6:tlen xs = xs.length:=h2.2
   rw [h3,h] at h5
   have h7:=tlen_zero h2.1
   rw [h3,h] at h7
   rcases (by omega:xs.length = 1∨xs.length = 0∨2≤xs.length) with q | q | q
   ·exact q
   ·omega
   ·exfalso
    obtain ⟨k,hk⟩:∃ k,xs.length = k + 1:=⟨xs.length - 1,by omega⟩
    have hne:=(tl_spec xs xs.length).2 (by show 0 < tlen xs;omega)
    have e3:tl xs xs.length = k + 1:=by show tlen xs = _;omega
    rw [e3,Nat.add_sub_cancel] at hne
    have hv:Go.Proofs.YtnkpbjmfdfjeiaaGreatDoor.val xs = vS xs k + lm xs k * pw k:=by show vS xs xs.length = _;rw [hk];rfl
    have b1:=(vS_nn h2.1 k).1
    have b2:=(h2.1.at k).1
    have b3:pw 1≤pw k:=pw_mono (by omega)
    have b4:pw 1 = 18446744073709551616:=by simp [pw]
    have b5:pw k≤lm xs k * pw k:=by
     have:=Int.mul_le_mul_of_nonneg_right (show 1≤lm xs k by omega) (Int.le_of_lt (pw_pos k))
     omega
    omega
set_option maxHeartbeats 4000000 in
theorem isWholeD (t:Bool) {p:Bool} {a:Option Addr} {na ca:Nat} {d:Option Addr} {nd cd:Nat} {r:Rat} {S:Nat} (w:World) (hr:TR w p a na ca d nd cd r S) (hS:S≤7000000) (hS1:1≤S) (ht:t = decide (r.den = 1)) :
  Calls Tryz.prog 36 #[.agg #[.bool p,.slice a na ca,.slice d nd cd]] w fun e w'=>e = .returned (.bool t)∧Below w.heap.size w w':=by
 have P0:=var3_new w (.bool p) (.slice a na ca) (.slice d nd cd) 27
 have hb0:=bel_d0 w (.cells #[.bool p,.slice a na ca,.slice d nd cd] 27)
 have hsz:w.heap.size + 1≤(w.alloc (.cells #[.bool p,.slice a na ca,.slice d nd cd] 27)).heap.size:=by simp
 replace hr:=hr.below hb0
 go_enter Tryz.func36,Tryz.ntmps36
 go_wp2_with fail
 generalize w.alloc (.cells #[.bool p,.slice a na ca,.slice d nd cd] 27) = W0 at *
 obtain ⟨p0c0,p0c1,p0c2,p0c3,p0c4,p0c5⟩:=id P0
 refine (normD _ hr (by omega) hS1).mono ?_
 rintro e w1 ⟨fx,cx,nx,kx,dX,mx,lx,rfl,Gx,hx⟩
 replace Gx:=Gx.mono (B':=w.heap.size + 1) hsz
 clear p0c0 p0c1 p0c2 p0c3 p0c4 p0c5
 replace hr:=hr.below hx
 replace P0:=P0.below hx
 replace hb0:=bel_tr hb0 hx
 replace hsz:=Nat.le_trans hsz (Below.size hx)
 clear hx
 clear P0
 clear hr
 have hx:=bel_d0 w1 (.cells #[.bool fx,.slice cx nx kx,.slice dX mx lx] 27)
 replace Gx:=Gx.below hx
 replace hb0:=bel_tr hb0 hx
 replace hsz:=Nat.le_trans hsz (Below.size hx)
 have Vx:=var3_new w1 (.bool fx) (.slice cx nx kx) (.slice dX mx lx) 27
 clear hx
 obtain ⟨vxc0,vxc1,vxc2,vxc3,vxc4,vxc5⟩:=id Vx
 clear Vx
 generalize hWX:w1.alloc (.cells #[.bool fx,.slice cx nx kx,.slice dX mx lx] 27) = wX at *
 have hone:=Gx.2.one
 by_cases hm:mx = 1
 ·subst hm
  obtain ⟨g1,v,rfl,hc,hv⟩:=hone.1 rfl
  by_cases h1:v = 1
  ·subst h1
   have HT:Hid (t = true):=by show _ = _;rw [ht,decide_eq_true_iff];omega
   clear hone hv Gx
   go_wp2
   go_ret
   exact ⟨by rw [HT.out];rfl,hb0⟩
  ·have HT:Hid (t = false):=by show _ = _;rw [ht,decide_eq_false_iff_not];omega
   clear hone hv Gx
   go_wp2
   go_ret
   exact ⟨by rw [HT.out];first | rfl | simp [h1],hb0⟩
 ·have HT:Hid (t = false):=by
   show _ = _;rw [ht,decide_eq_false_iff_not];intro h;exact hm (hone.2 (by omega))
  have hmI:((mx:Int) == 1) = false:=by simp;omega
  clear hone Gx
  go_wp2
  go_ret
  exact ⟨by rw [HT.out];rfl,hb0⟩
def OwnK (t:TypeId) (k:IntKind) (w:World) (B:Nat) (v:Value) (xs:List Int):Prop:=w.ownsRow B t 1 v xs.length (xs.map (Value.int k))
theorem OwnK.nil (t:TypeId) (k:IntKind) (w:World) (B:Nat):OwnK t k w B (.slice none 0 0) []:=World.ownsRow_nil _ _ _ _
theorem OwnK.alloc {t:TypeId} {k:IntKind} {w:World} {B:Nat} {v:Value} {xs:List Int} (h:OwnK t k w B v xs) (o:Obj):OwnK t k (w.alloc o) B v xs:=World.ownsRow.alloc h o
theorem OwnK.lt {t:TypeId} {k:IntKind} {w:World} {B:Nat} {v:Value} {xs:List Int} (h:OwnK t k w B v xs):∀ j,v.ownBlock = some j→B≤j∧j < w.heap.size:=World.ownsRow.lt h
theorem OwnK.row {t:TypeId} {k:IntKind} {w:World} {B:Nat} {v:Value} {xs:List Int} (h:OwnK t k w B v xs):(v = .slice none 0 0∧xs = [])∨∃ g cap,v = .slice (some ⟨g,0,none⟩) xs.length cap∧xs.length≤cap∧B≤g∧g < w.heap.size∧∀ i,i < xs.length→w.cell? ⟨g,i,none⟩ = some (.int k (xs.getD i 0)):=by
 rcases h.2 with ⟨h1,h2⟩ | ⟨g,cap,cur,h1,h2,h3,h4,h5,h6,h7⟩
 ·exact .inl ⟨h1,List.eq_nil_of_length_eq_zero h2⟩
 ·refine .inr ⟨g,cap,h1,h4,h2,(Array.getElem?_eq_some_iff.1 h3).1,fun i hi=>?_⟩
  have e1:(cur.toList.take (xs.length * 1))[i]? = cur.toList[i]?:=List.getElem?_take_of_lt (by omega)
  rw [h7,List.getElem?_map,List.getElem?_eq_getElem hi] at e1
  have e2:cur[i]? = some (.int k xs[i]):=by rw [← Array.getElem?_toList,← e1];rfl
  simp only [List.getD,List.getElem?_eq_getElem hi,Option.getD_some]
  simp [World.cell?,h3,e2]
theorem OwnK.of_block {t:TypeId} {k:IntKind} {w w':World} {B:Nat} {v:Value} {xs:List Int} (h:OwnK t k w B v xs) (hb:∀ g,g < w.heap.size→w'.heap[g]? = w.heap[g]?):OwnK t k w' B v xs:=by
 refine ⟨h.1,?_⟩
 rcases h.2 with hn | ⟨g,cap,cur,e1,e2,hgb,rest⟩
 ·exact .inl hn
 ·exact .inr ⟨g,cap,cur,e1,e2,(hb g (Array.getElem?_eq_some_iff.1 hgb).1).trans hgb,rest⟩
theorem OwnK.below {t:TypeId} {k:IntKind} {w w':World} {B:Nat} {v:Value} {xs:List Int} (h:OwnK t k w B v xs) (hb:Below w.heap.size w w'):OwnK t k w' B v xs:=h.of_block fun g hg=>hb.block g hg
theorem OwnK.form {t:TypeId} {k:IntKind} {w:World} {B:Nat} {v:Value} {xs:List Int} (h:OwnK t k w B v xs):∃ a cap,v = .slice a xs.length cap:=by
 rcases h.row with ⟨rfl,rfl⟩ | ⟨g,cap,e,_⟩
 ·exact ⟨_,_,rfl⟩
 ·exact ⟨_,_,e⟩
theorem wpList_appendK (t e:TypeId) (k:IntKind) (bytes:Nat) (i0:TypeInfo) (ht:Tryz.prog.underlying t = some (.slice e)) (hi:Tryz.prog.info? e = some i0) (hz0:i0.zero = some (.int k 0)) (hz1:i0.size = 1) (hz2:i0.bytes = bytes) (hb8:bytes≤8) (w:World) {ops:Array Oper} {rest:List Oper} {o:Oper} {a:Act} {Q:Exit→Act→World→Prop} (hgd:o.guard = none) (s x:Operand)
  (ho:o.op = .call { callee:=.builtin .append,args:=#[s,x],argTypes:=#[t,t] }) (B:Nat) (v:Value) (xs:List Int) (n:Nat) (hn:Hid (xs.length = n)) (hs:a.eval s = v) (hown:OwnK e k w B v xs) (h:Nat) (c:Nat) (z:Int) (hx:a.eval x = .slice (some ⟨h,0,none⟩) 1 c)
  (hc:w.cell? ⟨h,0,none⟩ = some (.int k z)) (hlen:n≤1000000000000) (hB:B≤w.heap.size) (H:Nat) (hH:w.heap.size = H)
  (hK:∀ g cap w',OwnK e k w' B (.slice (some ⟨g,0,none⟩) (n + 1) cap) (xs ++ [z])→w.grownBy w' v.ownBlock→(v.ownBlock = some g∨g = H)→g < w'.heap.size→wpList Tryz.prog ops Q rest (a.put o.dst (.slice (some ⟨g,0,none⟩) (n + 1) cap)) w') :
  wpList Tryz.prog ops Q (o :: rest) a w:=by
 obtain rfl:=hn.out
 refine wpList_append_lies w hgd s x t ho B e i0 (.int k 0) 1 bytes ht hi hz0 hz1 hz2 rfl (by decide) v xs.length (xs.map (Value.int k)) hs hown ⟨h,0,none⟩ 1 c [.int k z] hx rfl ?_ (fun u hu=>by simp at hu;subst hu;rfl) (by decide) (by unfold maxLen;omega) (by have:=Nat.mul_le_mul (show xs.length + 1≤1000000000001 by omega) hb8;omega) hB H hH ?_
 ·intro j u hj
  match j,hj with
  | 0,hj=>simp at hj;subst hj;simpa [Addr.add] using hc
 ·intro g cap w' h1 h2 h3 h4
  refine hK g cap w' ?_ h2 h3 h4
  unfold OwnK
  simpa using h1
theorem HNum.zero {w:World} {a:Option Addr} {n cap:Nat} {x:Int} {S:Nat} (h:HNum w a n cap x S):0≤x∧(n = 0↔x = 0)∧n≤S:=by
 obtain ⟨hs,h1,h2,h3,h4,h5,h6,h7⟩:=h
 have h8:=(vH_nn h4 hs.length).1
 have e:vH hs hs.length = x:=h5
 refine ⟨by omega,⟨fun h=>?_,fun h=>?_⟩,h6⟩
 ·have:hs = []:=List.eq_nil_of_length_eq_zero (by omega)
  subst this;rw [← e];rfl
 ·rcases Nat.eq_zero_or_pos hs.length with q | q
  ·omega
  ·exfalso
   have h9:=valH_ge h4 (by omega:0 < tlen hs)
   have h10:=pwH_pos (tlen hs - 1)
   rw [h5] at h9
   omega
def lenOf:Value→Nat
 | .slice _ n _=>n
 | _=>0
theorem HNum.grown {w w':World} {G n cap:Nat} {x:Int} {S:Nat} (h:HNum w (some ⟨G,0,none⟩) n cap x S) {row:Option Nat} {blk:Obj} (hg:(w.alloc blk).grownBy w' row) (hne:row ≠ some G):HNum w' (some ⟨G,0,none⟩) n cap x S:=by
 obtain ⟨hs,h1,h2,h3,h4⟩:=h
 refine ⟨hs,h1,h2,?_,h4⟩
 rcases h3 with h3 | ⟨b,o,e,hc⟩
 ·exact .inl h3
 ·refine .inr ⟨b,o,e,fun i hi=>?_⟩
  have hl:=World.block_lt_of_cell? _ _ (hc i hi)
  simp only [Option.some.injEq,Addr.mk.injEq] at e
  obtain ⟨rfl,rfl,_⟩:=e
  have e1:w'.heap[G]? = (w.alloc blk).heap[G]?:=hg.block G (by simp at hl ⊢;omega) (fun e=>hne e.symm)
  have e2:(w.alloc blk).heap[G]? = w.heap[G]?:=((Below.refl w.heap.size w).alloc (Nat.le_refl _) blk).block G hl
  exact (World.cell?_of_block (a:=⟨G,0 + i,none⟩) (e1.trans e2)).trans (hc i hi)
set_option maxRecDepth 100000 in
set_option maxHeartbeats 1000000 in
theorem rpartW {a:Option Addr} {na ca:Nat} {x d:Int} {S:Nat} (w:World) (ha:HNum w a na ca x S) (hd0:0 < d) (hd1:d < 4294967296) (hS:S≤100000000) :
  Calls Tryz.prog 54 #[.slice a na ca,.int .u64 d] w fun e w'=>∃ n cc,e = .returned (.tuple #[.slice (some ⟨w.heap.size,0,none⟩) n cc,.int .u64 (x % d)])∧HNum w' (some ⟨w.heap.size,0,none⟩) n cc (x / d) S∧Below w.heap.size w w':=by
 obtain ⟨xs,a1,a2,hra,hx,a5,a6,_⟩:=ha
 have Hna:Hid (na = xs.length):=a1
 have HX5:Hid (valH xs = x):=a5
 clear a1 a5
 go_enter Tryz.func54,Tryz.ntmps54
 go_wp2_with (at_make;refine wpList_makeH _ rfl _ _ rfl _ _ na rfl rfl (by omega) (by omega) (by omega) ?_)
 intro wm hbm hbelm
 obtain ⟨G,hG⟩:∃ G,G = w.heap.size:=⟨_,rfl⟩
 have HG:Hid (G = w.heap.size):=hG
 rw [← hG] at hbm hbelm
 rw [← hG]
 clear hG
 go_wp2
 go_loopw [7,8] (fun s t wr=>∃ (k:Nat) (U:List Int) (r:Int),k≤na∧t = .int .i64 ((k:Int) - 1)∧s = .int .u64 r∧Blk wr G U∧U.length = na∧AllH U∧(∀ j,j < k→lm U j = 0)∧0≤r∧r < d∧valH xs - vH xs k = vH U na * d + r * pwH k∧Below G w wr) (fun _ t _=>((intOf t) + 1).toNat)
 case atStart=>exact ⟨na,_,0,Nat.le_refl _,rfl,rfl,hbm,by simp,AllH.replicate _,fun j _=>lm_replicate _ _,by omega,by omega,by rw [vH_long (us:=xs) (by have:=Hna.out;omega),vH_congr (us:=List.replicate na 0) (vs:=[]) (fun j _=>by rw [lm_replicate,lm_ge (by simp)]),vH_long (us:=[]) (by simp)];simp [vH,valH],hbelm⟩
 case round =>
  clear hbm hbelm
  obtain ⟨k,U,r,hk,rfl,rfl,hbr,hU,hUh,hz,hr0,hr1,hV,hbel⟩:=hrel
  have HU:Hid (U.length = na):=hU
  have HUh:Hid (AllH U):=hUh
  have HV:Hid (valH xs - vH xs k = vH U na * d + r * pwH k):=hV
  have HZ:Hid (∀ j,j < k→lm U j = 0):=hz
  clear hU hUh hV hz
  by_cases hk0:k = 0
  ·subst hk0
   have hle:tlen U≤U.length:=tl_le _ _
   have HE:Hid (x = valH U * d + r):=by
    show _ = _
    have e:=HV.out
    have e2:vH U na = valH U:=by unfold valH;rw [HU.out]
    rw [e2,HX5.out] at e
    simp [vH,pwH] at e
    omega
   have hUn:=valH_nn HUh.out
   have E1:Hid (x / d = valH U):=by
    show _ = _
    rw [HE.out,Int.add_comm,Int.add_mul_ediv_right _ _ (by omega),Int.ediv_eq_zero_of_lt hr0 hr1];omega
   have E2:Hid (r = x % d):=by
    show _ = _
    rw [HE.out,Int.add_comm,Int.add_mul_emod_self_right,Int.emod_eq_of_lt hr0 hr1]
   have hre:Reads wr (some ⟨G,0,none⟩) U:=by have:=hbr.reads U.length;rwa [List.take_length] at this
   have HN:=HNum.of_trim (S:=S) (cap:=na) hre (by rw [HU.out] at hle;exact hle) HUh.out (by rw [HU.out] at hle;omega)
   have e3:=E2.out
   clear hbr hra HV HE E2
   subst e3
   go_wp2_with fail
   refine (rcut_any (some ⟨G,0,none⟩) na na U wr HU.out.symm (Nat.le_refl _) (by omega) hre).mono ?_
   rintro e w2 ⟨rfl,rfl⟩
   rw [← E1.out] at HN
   rw [HG.out] at hbel
   clear hre
   go_wp2
   go_ret2
   rw [HG.out] at HN ⊢
   exact ⟨_,_,rfl,HN,hbel⟩
  ·obtain ⟨j,rfl⟩:∃ j,k = j + 1:=⟨k - 1,by omega⟩
   have hj:j < na:=by omega
   obtain ⟨x0,x1⟩:=hx.at j
   obtain ⟨b1,o1,rfl,hc1⟩:=hra.at (by have:=Hna.out;omega)
   have h1:=hc1 j (by have:=Hna.out;omega)
   have hb1':b1 < G:=by rw [HG.out];simpa using World.block_lt_of_cell? _ _ h1
   have hcx:wr.cell? ⟨b1,o1 + j,none⟩ = some (.int .u64 (lm xs j)):=by rw [hbel.cell (p:=⟨b1,o1 + j,none⟩) (by exact hb1')];exact h1
   have hcu:=hbr.cell (i:=j) (by rw [HU.out];exact hj)
   have hfu:=hbr.frozen j
   have hjn:(j:Int) < (na:Int):=by omega
   clear hra hc1 h1
   obtain ⟨t,ht⟩:∃ t,t = r * 4294967296 + lm xs j:=⟨_,rfl⟩
   have HT:Hid (t = r * 4294967296 + lm xs j):=ht
   have ht0:0≤t:=by omega
   have ht1:t < d * 4294967296:=by omega
   have q0:=Int.ediv_nonneg ht0 (by omega:0≤d)
   have q1:t / d < 4294967296:=Int.ediv_lt_of_lt_mul hd0 (by rw [Int.mul_comm];exact ht1)
   have m0:=Int.emod_nonneg t (by omega:d ≠ 0)
   have m1:=Int.emod_lt_of_pos t hd0
   have HQ:Hid (t = t / d * d + t % d):=by show _ = _;rw [Int.mul_comm];exact (Int.mul_ediv_add_emod t d).symm
   have T0:IntKind.u64.wrap (r * 4294967296 + lm xs j) = t:=by rw [← ht,IntKind.wrap_u64];omega
   have T1:IntKind.u64.wrap (t.tdiv d) = t / d:=by rw [Int.tdiv_eq_ediv_of_nonneg ht0,IntKind.wrap_u64];omega
   have T2:t.tmod d = t % d:=Int.tmod_eq_emod_of_nonneg ht0
   have hdz:(d == 0) = false:=beq_eq_false_iff_ne.2 (by omega)
   clear ht
   have hB2:=hbr.set j (t / d)
   have HL2:=hbel.setCell (p:=⟨G,j,none⟩) (Nat.le_refl _) (.int .u64 (t / d))
   have HU2:Hid ((U.set j (t / d)).length = na):=by show _ = _;rw [List.length_set,HU.out]
   have HA2:Hid (AllH (U.set j (t / d))):=HUh.out.set _ _ ⟨q0,q1⟩
   have HZ2:Hid (∀ i,i < j→lm (U.set j (t / d)) i = 0):=fun i hi=>by rw [lm_set,if_neg (by omega)];exact HZ.out i (by omega)
   have HV2:Hid (valH xs - vH xs j = vH (U.set j (t / d)) na * d + t % d * pwH j):=by
    show _ = _
    rw [vH_set _ hj (by rw [HU.out];exact hj),HZ.out j (by omega),Int.sub_zero]
    have e:=HV.out
    rw [pwH_succ] at e
    have e2:=part_step e HT.out HQ.out
    rw [← e2,vH_top]
    omega
   clear hbr hbel
   generalize t / d = q at *
   generalize t % d = m at *
   go_wp2
   go_roundw
   case rel=>exact ⟨j,_,m,by omega,by go_num,rfl,hB2,HU2.out,HA2.out,HZ2.out,m0,m1,HV2.out,HL2⟩
   case measure=>simp [intOf]
theorem Tryz.infoI64:(Tryz.prog.info? 3).map (fun i=>(i.zero,i.size,i.bytes)) = some (some (.int .i64 0),1,8):=by kernel_rfl
end Go.Proofs.YtnkpbjmfdfjeiaaGreatDoor
