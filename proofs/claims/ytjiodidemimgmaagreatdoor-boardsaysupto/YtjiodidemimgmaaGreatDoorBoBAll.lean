import Derived.Test.YtjiodidemimgmaaGreatDoorBoEAll
import Derived.Test.YtjiodidemimgmaaGreatDoorPqBAll
import Derived.Test.YtjiodidemimgmaaGreatDoorPqCAll
import Derived.Test.YtjiodidemimgmaaGreatDoorPrEAll
namespace Go.Proofs.YtjiodidemimgmaaGreatDoor
open Go.RowKit
theorem infEntry:Inf 97 4 64:=inf_of (by kernel_rfl)
def WitP (w:World) (B:Nat) (v:Value) (l:List (Nat × Rat)) (S:Nat) (e:Ending) (w':World):Prop:=∃ v',e = .returned v'∧LnE w' B v' l S∧w.grownBy w' v.ownBlock∧∀ g,v'.ownBlock = some g→v.ownBlock = some g∨w.heap.size≤g
theorem grown_bel {w w1 w2:World} {row:Option Nat} (hb:Below w.heap.size w w1) (hg:w1.grownBy w2 row):w.grownBy w2 row :=
 ⟨hg.os.trans hb.os,hg.tape.trans hb.tape,hg.output.trans hb.output,Nat.le_trans hb.size hg.size,fun k hk hn=>(hg.block k (Nat.lt_of_lt_of_le hk hb.size) hn).trans (hb.block k hk)⟩
theorem bel_grown {w w1:World} {row:Option Nat} (hb:Below w.heap.size w w1):w.grownBy w1 row:=⟨hb.os,hb.tape,hb.output,hb.size,fun k hk _=>hb.block k hk⟩
set_option maxRecDepth 100000 in
set_option maxHeartbeats 4000000 in
theorem withB {p:Bool} {a:Option Addr} {na ca:Nat} {d:Option Addr} {nd cd:Nat} {r:Rat} {B S:Nat} {v:Value} {l:List (Nat × Rat)} (c:Nat) (w:World) (hL:LnE w B v l S) (hB:B≤w.heap.size) (hr:GR w 0 p a na ca d nd cd r S) (hS:1≤S∧S≤7000000) (hl:l.length≤100000000) :
  Calls Tryz.prog 41 #[v,.int .i64 (c:Nat),.agg #[.bool p,.slice a na ca,.slice d nd cd]] w fun e w'=>WitP w B v (lwith l c r) S e w':=by
 have BU:=box_new w #[.bool p,.slice a na ca,.slice d nd cd] 29
 have hb0:=bel_d0 w (.cells #[.bool p,.slice a na ca,.slice d nd cd] 29)
 have hs0:(w.alloc (.cells #[.bool p,.slice a na ca,.slice d nd cd] 29)).heap.size = w.heap.size + 1:=by simp
 have hr0:=hr.below hb0
 have hL0:=hL.below hb0
 have x0:=BU 0 _ rfl;have x1:=BU 1 _ rfl;have x2:=BU 2 _ rfl
 obtain ⟨sgn,esgn⟩:∃ sgn,sgn = r.num.sign:=⟨_,rfl⟩
 have ESG:Hid (sgn = r.num.sign):=esgn
 clear esgn
 go_enter Tryz.func41,Tryz.ntmps41
 go_wp2_with fail
 clear x0 x1 x2
 generalize w.alloc (.cells #[.bool p,.slice a na ca,.slice d nd cd] 29) = W0 at *
 refine (rsignB sgn W0 hr0.tr (by omega) hS.1 ESG.out).mono ?_
 rintro e w1 ⟨rfl,h1⟩
 have hb1:=bel_tr hb0 h1
 have BU1:=BU.below h1
 by_cases hz:r = 0
 ·obtain rfl:sgn = 0:=by rw [ESG.out,hz];rfl
  have hLN:=hL.below hb1
  clear BU BU1 hL0 hr0
  go_wp2
  go_ret
  refine ⟨_,rfl,?_,bel_grown hb1,fun g hg=>.inl hg⟩
  unfold lwith
  rw [if_pos hz]
  exact hLN
 ·have hsn:¬ sgn = 0:=fun e=>hz (by
   have h1:=ESG.out
   rw [e] at h1
   exact Rat.num_eq_zero.1 (Int.sign_eq_zero_iff_zero.1 h1.symm))
  have hsn2:(sgn == 0) = false:=by simpa using hsn
  have x0:=BU1 0 _ rfl;have x1:=BU1 1 _ rfl;have x2:=BU1 2 _ rfl
  obtain ⟨E,SLU,TE⟩:=hL0.below h1
  have hsz:=hb1.size
  have hz4:=bel_d0 w1 (.cells #[.int .i64 (c:Nat),.bool p,.slice a na ca,.slice d nd cd] 97)
  go_wp2_with (first
   | (at_builtin;refine wpList_appendS _ rfl _ _ 65 97 4 64 rfl Tryz.underlying65 infEntry (by decide) (by decide) B v l.length E rfl (SLU.below hz4) w1.heap.size _ rfl [.int .i64 (c:Nat),.bool p,.slice a na ca,.slice d nd cd] rfl (fun u hu=>by simp at hu;rcases hu with rfl | rfl | rfl | rfl <;> rfl) (box_new w1 #[.int .i64 (c:Nat),.bool p,.slice a na ca,.slice d nd cd] 97) (by omega) (by simp;omega) (w1.heap.size + 1) (by simp) ?_;intro g1 cap1 w6 SN hgrow hat hlt)
   | fail)
  have hn:=(SLU.below hz4).noW (show 97 ≠ 85 by decide)
  have LN:=LnE.snoc (e:=(c,r)) rfl SN (fun i e he=>((TE i e he).below hz4).keep hn hgrow) ⟨p,a,na,ca,d,nd,cd,rfl,(((hr0.below h1).below hz4).keep hn hgrow)⟩
  have hgw:=grown_bel (bel_tr hb1 hz4) hgrow
  clear x0 x1 x2 BU BU1 SLU TE SN hn hz4 hL0 hr0
  go_ret
  refine ⟨_,rfl,?_,hgw,fun g hg=>?_⟩
  ·unfold lwith
   rw [if_neg hz]
   exact LN
  ·simp [Value.ownBlock] at hg
   subst hg
   rcases hat with h | h
   ·exact .inl h
   ·exact .inr (by omega)
def csI (x y:Int):Int:=if x < y then -1 else if y < x then 1 else 0
set_option maxRecDepth 100000 in
set_option maxHeartbeats 2000000 in
theorem nanI (x:Int) (w:World):Calls Tryz.prog 104 #[.int .i64 x] w fun e w'=>e = .returned (.bool false)∧w' = w:=by
 go_enter Tryz.func104,Tryz.ntmps104
 go_wp2
 go_ret
 exact ⟨rfl,rfl⟩
set_option maxRecDepth 100000 in
set_option maxHeartbeats 2000000 in
theorem cmpI (t x y:Int) (ht:t = csI x y) (w:World):Calls Tryz.prog 72 #[.int .i64 x,.int .i64 y] w fun e w'=>e = .returned (.int .i64 t)∧w' = w:=by
 have HT:Hid (t = csI x y):=ht
 clear ht
 go_enter Tryz.func72,Tryz.ntmps72
 go_wp2_with fail
 refine (nanI x w).mono ?_
 rintro e w1 ⟨rfl,rfl⟩
 go_wp2_with fail
 refine (nanI y _).mono ?_
 rintro e w1 ⟨rfl,rfl⟩
 by_cases h1:x < y
 ·go_wp2
  go_ret
  exact ⟨by rw [HT.out];unfold csI;rw [if_pos (by omega)];rfl,rfl⟩
 ·by_cases h2:y < x
  ·go_wp2
   go_ret
   exact ⟨by rw [HT.out];unfold csI;rw [if_neg (by omega),if_pos (by omega)];rfl,rfl⟩
  ·go_wp2
   go_ret
   exact ⟨by rw [HT.out];unfold csI;rw [if_neg (by omega),if_neg (by omega)];rfl,rfl⟩
theorem fe_at1:FnE 71:=fun _ _=>by kernel_rfl
set_option maxRecDepth 100000 in
set_option maxHeartbeats 2000000 in
theorem at1B (t:Int) (c:Nat) (k:Int) (ht:t = csI (c:Int) k) {u1 u2 u3:Value} (w:World):Calls Tryz.prog 71 #[.agg #[.int .i64 (c:Nat),u1,u2,u3],.int .i64 k] w fun e w'=>e = .returned (.int .i64 t)∧Below w.heap.size w w':=by
 have BU:=box_new w #[.int .i64 (c:Nat),u1,u2,u3] 97
 have hb0:=bel_d0 w (.cells #[.int .i64 (c:Nat),u1,u2,u3] 97)
 have x0:=BU 0 _ rfl
 have HT:Hid (t = csI (c:Int) k):=ht
 clear ht
 go_enter Tryz.func71,Tryz.ntmps71
 go_wp2_with fail
 refine (cmpI t (c:Int) k HT.out _).mono ?_
 rintro e w1 ⟨rfl,rfl⟩
 go_wp2
 go_ret
 exact ⟨rfl,hb0⟩
theorem wpList_at1 {o:Oper} {ops:Array Oper} {rest:List Oper} {a:Act} {w:World} {Q:Exit→Act→World→Prop} (hgd:o.guard = none) (x y z:Operand) (ats:Array TypeId) (ho:o.op = .call { callee:=.value x,args:=#[y,z],argTypes:=ats }) (hx:a.eval x = .func (.func 71) #[] #[])
  (t:Int) (c:Nat) (k:Int) (ht:t = csI (c:Int) k) {u1 u2 u3:Value} (hy:a.eval y = .agg #[.int .i64 (c:Nat),u1,u2,u3]) (hz:a.eval z = .int .i64 k) (hP:∀ w',Below w.heap.size w w'→wpList Tryz.prog ops Q rest (a.put o.dst (.int .i64 t)) w'):wpList Tryz.prog ops Q (o :: rest) a w:=by
 refine wpList_callV hgd x #[y,z] ats _ #[] ho hx fe_at1 (Post:=fun e w'=>e = .returned (.int .i64 t)∧Below w.heap.size w w') ?_ (fun e w' h=>⟨_,h.1,hP w' h.2⟩)
 have e:(#[y,z].map a.eval ++ #[]:Array Value) = #[.agg #[.int .i64 (c:Nat),u1,u2,u3],.int .i64 k]:=by simp [hy,hz]
 rw [e]
 exact at1B t c k ht w
def SrP (l:List (Nat × Rat)) (k:Int) (w:World) (e:Ending) (w':World):Prop:=∃ (i:Nat) (f:Bool),e = .returned (.tuple #[.int .i64 (i:Nat),.bool f])∧(f = true→∃ x,l[i]? = some x∧(x.1:Int) = k)∧(f = false→∀ (j:Nat) (x:Nat × Rat),l[j]? = some x→(x.1:Int) ≠ k)∧Below w.heap.size w w'
theorem csI_lt {x y:Int}:csI x y < 0↔x < y:=by unfold csI;split <;> (try split) <;> omega
theorem csI_eq {x y:Int}:csI x y = 0↔x = y:=by unfold csI;split <;> (try split) <;> omega
set_option maxRecDepth 100000 in
set_option maxHeartbeats 4000000 in
theorem searchB {B S:Nat} {va:Option Addr} {n vc:Nat} {l:List (Nat × Rat)} (k:Int) (w:World) (hL:LnE w B (.slice va n vc) l S) (hR:Rise l) (hn:l.length≤100000000) :
  Calls Tryz.prog 70 #[.slice va n vc,.int .i64 k,.func (.func 71) #[] #[]] w fun e w'=>SrP l k w e w':=by
 have HN:Hid (n = l.length):=by
  obtain ⟨a',c',e,_⟩:=hL.form
  simp only [Value.slice.injEq] at e
  exact e.2.1
 have hnl:n≤100000000:=by rw [HN.out];exact hn
 have HR:Hid (Rise l):=hR
 clear hR hn
 have hfe:=fe_at1
 go_enter Tryz.func70,Tryz.ntmps70
 go_wp2
 go_loopw [9,10] (fun s9 s10 wr=>∃ lo hi:Nat,s9 = .int .i64 lo∧s10 = .int .i64 hi∧lo≤hi∧hi≤n∧Below w.heap.size w wr∧Hid ((∀ (t:Nat) x,t < lo→l[t]? = some x→(x.1:Int) < k)∧∀ (t:Nat) x,hi≤t→l[t]? = some x→k≤(x.1:Int))) (fun s9 s10 _=>(intOf s10).toNat - (intOf s9).toNat)
 case atStart=>exact ⟨0,n,rfl,rfl,Nat.zero_le _,Nat.le_refl _,Below.refl _ _,⟨fun t x ht=>by omega,fun t x ht hx=>by have:=(List.getElem?_eq_some_iff.1 hx).1;have:=HN.out;omega⟩⟩
 case round =>
  obtain ⟨lo,hi,rfl,rfl,hlh,hin,hb,I⟩:=hrel
  by_cases hlt:lo < hi
  ·obtain ⟨h,eh⟩:∃ h,h = (lo + hi) / 2:=⟨_,rfl⟩
   have hhI:((lo:Int) + (hi:Int)) / 2 = (h:Int):=by omega
   have hltI:(lo:Int) < (hi:Int):=by omega
   have hh4:(h:Int) * 4 = ((h * 4:Nat):Int):=by omega
   have hhn:h < l.length:=by have:=HN.out;omega
   have hhnI:(h:Int) < (n:Int):=by have:=HN.out;omega
   have EH:Hid (h = (lo + hi) / 2):=eh
   clear eh
   obtain ⟨x,hx⟩:∃ x,l[h]? = some x:=⟨l[h],List.getElem?_eq_getElem hhn⟩
   obtain ⟨g,p,b,nb,cb,d,nd,cd,hva,y0,y1,y2,y3,_⟩:=(hL.below hb).get hx
   have HX:Hid (l[h]? = some x):=hx
   clear hx
   subst hva
   obtain ⟨c,ec⟩:∃ c,c = x.1:=⟨_,rfl⟩
   rw [← ec] at y0
   have EC:Hid (c = x.1):=ec
   clear ec
   obtain ⟨t,et⟩:∃ t,t = csI (c:Int) k:=⟨_,rfl⟩
   have ET:Hid (t = csI (c:Int) k):=et
   by_cases hck:(c:Int) < k
   ·have ht0:t < 0:=by rw [et];exact csI_lt.2 (by omega)
    clear et
    have I2:Hid ((∀ (t:Nat) x,t < h + 1→l[t]? = some x→(x.1:Int) < k)∧∀ (t:Nat) x,hi≤t→l[t]? = some x→k≤(x.1:Int)):=⟨fun q y hq hy=>by
     rcases (by omega:q < h∨q = h) with h1 | h1
     ·have:=HR.out q h y x hy HX.out h1
      have:=EC.out
      omega
     ·subst h1
      have e:=HX.out
      rw [hy] at e
      cases e
      have:=EC.out
      omega,I.out.2⟩
    go_wp2_with (first
     | (refine wpList_at1 rfl _ _ _ _ rfl rfl t c k ET.out rfl rfl ?_;intro w1 h1)
     | fail)
    have hb1:=bel_tr hb h1
    clear y0 y1 y2 y3 hb h1 I
    go_roundw
    case rel=>first | exact ⟨h + 1,hi,by go_num,rfl,by have:=EH.out;omega,hin,hb1,I2⟩ | ((repeat apply Exists.intro);refine ⟨?_,rfl⟩;exact ⟨h + 1,hi,by go_num,rfl,by have:=EH.out;omega,hin,hb1,I2⟩)
    case measure=>simp [intOf];have:=EH.out;omega
   ·have ht0:¬ t < 0:=by rw [et];intro h1;have:=csI_lt.1 h1;omega
    clear et
    have I2:Hid ((∀ (t:Nat) x,t < lo→l[t]? = some x→(x.1:Int) < k)∧∀ (t:Nat) x,h≤t→l[t]? = some x→k≤(x.1:Int)):=⟨I.out.1,fun q y hq hy=>by
     rcases (by omega:h < q∨q = h) with h1 | h1
     ·have:=HR.out h q x y HX.out hy h1
      have:=EC.out
      omega
     ·subst h1
      have e:=HX.out
      rw [hy] at e
      cases e
      have:=EC.out
      omega⟩
    go_wp2_with (first
     | (refine wpList_at1 rfl _ _ _ _ rfl rfl t c k ET.out rfl rfl ?_;intro w1 h1)
     | fail)
    have hb1:=bel_tr hb h1
    clear y0 y1 y2 y3 hb h1 I
    go_roundw
    case rel=>first | exact ⟨lo,h,rfl,by go_num,by have:=EH.out;omega,by have:=EH.out;omega,hb1,I2⟩ | ((repeat apply Exists.intro);refine ⟨?_,rfl⟩;exact ⟨lo,h,rfl,by go_num,by have:=EH.out;omega,by have:=EH.out;omega,hb1,I2⟩)
    case measure=>simp [intOf];have:=EH.out;omega
  ·obtain rfl:hi = lo:=by omega
   have hltI:¬ (hi:Int) < (hi:Int):=by omega
   by_cases hhn:hi < n
   ·have hhnI:(hi:Int) < (n:Int):=by omega
    have hh4:(hi:Int) * 4 = ((hi * 4:Nat):Int):=by omega
    obtain ⟨x,hx⟩:∃ x,l[hi]? = some x:=⟨l[hi]'(by have:=HN.out;omega),List.getElem?_eq_getElem (by have:=HN.out;omega)⟩
    obtain ⟨g,p,b,nb,cb,d,nd,cd,hva,y0,y1,y2,y3,_⟩:=(hL.below hb).get hx
    have HX:Hid (l[hi]? = some x):=hx
    clear hx
    subst hva
    obtain ⟨c,ec⟩:∃ c,c = x.1:=⟨_,rfl⟩
    rw [← ec] at y0
    have EC:Hid (c = x.1):=ec
    clear ec
    obtain ⟨t,et⟩:∃ t,t = csI (c:Int) k:=⟨_,rfl⟩
    have ET:Hid (t = csI (c:Int) k):=et
    by_cases hck:(c:Int) = k
    ·obtain rfl:t = 0:=by rw [et];exact csI_eq.2 (by omega)
     have HCK:Hid ((c:Int) = k):=hck
     clear et hck
     go_wp2_with fail
     refine (at1B 0 c k ET.out _).mono ?_
     rintro e w1 ⟨rfl,h1⟩
     have hb1:=bel_tr hb h1
     clear y0 y1 y2 y3 hb h1
     go_wp2
     go_ret2
     exact ⟨hi,true,rfl,fun _=>⟨x,HX.out,by rw [← EC.out];exact HCK.out⟩,fun h=>(by cases h),hb1⟩
    ·have ht0:¬ t = 0:=by rw [et];intro h1;have:=csI_eq.1 h1;omega
     have ht1:(t == 0) = false:=by simpa using ht0
     clear et
     go_wp2_with fail
     refine (at1B t c k ET.out _).mono ?_
     rintro e w1 ⟨rfl,h1⟩
     have hb1:=bel_tr hb h1
     clear y0 y1 y2 y3 hb h1
     go_wp2
     go_ret2
     refine ⟨hi,false,rfl,fun h=>(by cases h),fun _ j y hy e=>?_,hb1⟩
     have hk:=I.out
     have e0:=EC.out
     have h0:=hk.2 hi x (Nat.le_refl _) HX.out
     rcases (by omega:j < hi∨j = hi∨hi < j) with h1 | h1 | h1
     ·have:=hk.1 j y h1 hy;omega
     ·subst h1
      have e1:=HX.out
      rw [hy] at e1
      cases e1
      omega
     ·have:=HR.out hi j x y HX.out hy h1;omega
   ·have hhnI:¬ (hi:Int) < (n:Int):=by omega
    go_wp2
    go_ret2
    refine ⟨hi,false,rfl,fun h=>(by cases h),fun _ j y hy e=>?_,hb⟩
    have hj:=(List.getElem?_eq_some_iff.1 hy).1
    have:=I.out.1 j y (by have:=HN.out;omega) hy
    omega
end Go.Proofs.YtjiodidemimgmaaGreatDoor
