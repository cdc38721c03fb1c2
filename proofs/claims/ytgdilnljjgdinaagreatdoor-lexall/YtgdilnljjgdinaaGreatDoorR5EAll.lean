import Derived.Test.YtgdilnljjgdinaaGreatDoorR5E0All
import Derived.Test.YtgdilnljjgdinaaGreatDoorQ3DAll
namespace Go.Proofs.YtgdilnljjgdinaaGreatDoor
open Go.RowKit Go.Shelf
set_option maxHeartbeats 4000000 in
theorem signD3 (s:ByteArray) (i:Nat) (w:World) (hi:i≤s.size) (hs:s.size≤100000000) :
  Calls Tryz.prog 54 #[.string s,.int .i64 i] w fun e w'=>e = .returned (.tuple #[.int .i64 (sgJ s i),.bool (sgN s i)])∧Below w.heap.size w w':=by
 by_cases hlt:i<s.size
 ·have hil:(i:Int)<(s.size:Int):=by omega
  have hi0:(0:Int)≤(i:Int):=by omega
  have hby:=byt_get hlt
  have hw1:IntKind.i64.wrap ((i:Int)+1)=(i:Int)+1:=by rw [IntKind.wrap_i64];omega
  by_cases h43:byt s i=43
  ·rw [show sgJ s i=i+1 from if_pos ⟨hlt,.inl h43⟩,show sgN s i=false from decide_eq_false (by omega)]
   generalize byt s i=B at *
   subst h43
   go_enter Tryz.func54,Tryz.ntmps54
   go_wp2
   go_quiet (fail)
   go_wp2
   go_ret2
   exact ⟨by simp,belN (Below.refl _ _) _⟩
  ·by_cases h45:byt s i=45
   ·rw [show sgJ s i=i+1 from if_pos ⟨hlt,.inr h45⟩,show sgN s i=true from decide_eq_true ⟨hlt,h45⟩]
    generalize byt s i=B at *
    subst h45
    go_enter Tryz.func54,Tryz.ntmps54
    go_wp2
    go_quiet (fail)
    go_wp2
    go_ret2
    exact ⟨by simp,belN (Below.refl _ _) _⟩
   ·rw [show sgJ s i=i from if_neg (by omega),show sgN s i=false from decide_eq_false (by omega)]
    generalize byt s i=B at *
    have b43:(B == 43)=false:=by simpa using h43
    have b45:(B == 45)=false:=by simpa using h45
    go_enter Tryz.func54,Tryz.ntmps54
    go_wp2
    go_ret2
    exact ⟨rfl,Below.refl _ _⟩
 ·have hil:¬ (i:Int)<(s.size:Int):=by omega
  rw [show sgJ s i=i from if_neg (by omega),show sgN s i=false from decide_eq_false (by omega)]
  go_enter Tryz.func54,Tryz.ntmps54
  go_wp2
  go_ret2
  exact ⟨rfl,Below.refl _ _⟩
set_option maxRecDepth 100000 in
set_option maxHeartbeats 4000000 in
theorem tensD (n:Nat) (w:World) (hn:n≤2000000) :
  Calls Tryz.prog 57 #[.int .i64 n] w fun e w'=>∃ c m k,e = .returned (.slice c m k)∧Got w' w.heap.size (.slice c m k) (p10 n) (n+1)∧Below w.heap.size w w':=by
 go_enter Tryz.func57,Tryz.ntmps57
 go_wp2_with fail
 refine (rofGot 10 _ (by omega) (by omega)).mono ?_
 rintro e w1 ⟨c1,n1,k1,rfl,G1,hx⟩
 have hs1:=hx.size
 go_wp2_with fail
 refine (oneD _).mono ?_
 rintro e w2 ⟨c2,n2,k2,rfl,G2,hy⟩
 replace G1:=G1.below hy
 replace hx:=bel_tr hx hy
 replace G2:=G2.mono (B':=w.heap.size) (by omega)
 clear hy
 go_wp2
 go_loopw [4,5] (fun v t wr=>∃ (i:Nat) (c:Option Addr) (m k:Nat),i≤n∧t = .int .i64 i∧v = .slice c m k∧Got wr w.heap.size (.slice c m k) (p10 i) (i+1)∧Got wr w.heap.size (.slice c1 n1 k1) 10 1∧Below w.heap.size w wr) (fun _ t _=>n-(intOf t).toNat)
 case atStart=>exact ⟨0,c2,n2,k2,Nat.zero_le _,rfl,rfl,G2,G1.mono (Nat.le_refl _),hx⟩
 case round =>
  clear G1 G2 hx
  obtain ⟨i,c,m,k,hi,rfl,rfl,G,T,hb⟩:=hrel
  by_cases hlt:i<n
  ·have hil:(i:Int)<(n:Int):=by omega
   go_wp2_with fail
   refine (rmulV _ G.num (T.le (by omega)).num (by omega)).mono ?_
   rintro e w3 ⟨c3,m3,k3,rfl,G3,hy⟩
   replace G3:=(G3.shrink (m:=i+1+1) (p10_lt (i+1))).mono (B':=w.heap.size) hb.size
   replace T:=T.below hy
   replace hb:=bel_tr hb hy
   clear hy G
   go_wp2
   go_roundw
   case rel=>exact ⟨i+1,c3,m3,k3,by omega,by go_num,rfl,G3,T,hb⟩
   case measure=>simp [intOf];omega
  ·have hil:¬ (i:Int)<(n:Int):=by omega
   obtain rfl:i=n:=by omega
   go_wp2
   go_ret
   exact ⟨_,_,_,rfl,G,hb⟩
set_option maxRecDepth 100000 in
set_option maxHeartbeats 4000000 in
theorem runD (s:ByteArray) (i:Nat) (w:World) (hi:i≤s.size) (hs:s.size≤2000000) :
  Calls Tryz.prog 55 #[.string s,.int .i64 i] w fun e w'=>∃ c m k,e = .returned (.tuple #[.int .i64 (runE s i),.slice c m k])∧Got w' w.heap.size (.slice c m k) (rdF s i (runE s i-i)) (runE s i-i+1)∧Below w.heap.size w w':=by
 have HR:Hid (Run s i (runE s i)):=run_E s hi
 generalize runE s i=J at *
 go_enter Tryz.func55,Tryz.ntmps55
 go_wp2_with fail
 refine (rofGot 10 _ (by omega) (by omega)).mono ?_
 rintro e w1 ⟨c1,n1,k1,rfl,G1,hx⟩
 have hs1:=hx.size
 go_wp2_with fail
 refine (rofGot 0 _ (by omega) (by omega)).mono ?_
 rintro e w2 ⟨c2,n2,k2,rfl,G2,hy⟩
 replace G1:=G1.below hy
 replace hx:=bel_tr hx hy
 replace G2:=G2.mono (B':=w.heap.size) (by omega)
 clear hy
 go_wp2
 go_loopw [1,7,8] (fun t v _ wr=>∃ (j:Nat) (c:Option Addr) (m k:Nat),i≤j∧j≤J∧t = .int .i64 j∧v = .slice c m k∧Got wr w.heap.size (.slice c m k) (rdF s i (j-i)) (j-i+1)∧Got wr w.heap.size (.slice c1 n1 k1) 10 1∧Below w.heap.size w wr) (fun t _ _ _=>J-(intOf t).toNat)
 case atStart=>exact ⟨i,c2,n2,k2,Nat.le_refl _,HR.out.le,rfl,rfl,by rw [Nat.sub_self];exact G2,G1.mono (Nat.le_refl _),hx⟩
 case round =>
  clear G1 G2 hx
  obtain ⟨j,c,m,k,hij,hj,rfl,rfl,G,T,hb⟩:=hrel
  by_cases hlt:j<J
  ·have hls:j<s.size:=by have:=HR.out.sz;omega
   have hil:(j:Int)<(s.size:Int):=by omega
   have hj0:(0:Int)≤(j:Int):=by omega
   have hby:=byt_get hls
   obtain ⟨d0,d1⟩:=HR.out.dg j hij hlt
   have HV:Hid (rdF s i (j+1-i)=rdF s i (j-i)*10+(byt s j-48)):=by
    show _=_
    rw [show j+1-i=j-i+1 by omega]
    show rdF s i (j-i)*10+(byt s (i+(j-i))-48)=_
    rw [show i+(j-i)=j by omega]
   have HB:Hid (rdF s i (j+1-i)<pw (j+1-i+1)):=rdF_lt_pw HR.out.dg (j+1-i) (by omega)
   generalize byt s j=B at *
   generalize hV1:rdF s i (j+1-i)=V1 at *
   generalize hV0:rdF s i (j-i)=V0 at *
   have hb48:¬ B<48:=by omega
   go_wp2_with fail
   refine (rofGot (B-48) _ (by omega) (by omega)).mono ?_
   rintro e w3 ⟨c3,m3,k3,rfl,G3,hy⟩
   replace G:=G.below hy
   replace T:=T.below hy
   replace hb:=bel_tr hb hy
   have hs3:=hy.size
   clear hy
   go_wp2_with fail
   refine (rmulV _ G.num (T.le (by omega)).num (by omega)).mono ?_
   rintro e w4 ⟨c4,m4,k4,rfl,G4,hy⟩
   replace G3:=G3.below hy
   replace T:=T.below hy
   replace hb:=bel_tr hb hy
   have hs4:=hy.size
   clear hy G
   go_wp2_with fail
   refine (raddV _ G4.num (G3.le (by omega)).num (by omega)).mono ?_
   rintro e w5 ⟨c5,m5,k5,rfl,G5,hy⟩
   replace G5:=((G5.val HV.out.symm).shrink HB.out).mono (B':=w.heap.size) hb.size
   replace T:=T.below hy
   replace hb:=bel_tr hb hy
   clear hy G3 G4
   go_wp2
   go_roundw
   case rel=>exact ⟨j+1,c5,m5,k5,by omega,by omega,by go_num,rfl,by rw [hV1];exact G5,T,hb⟩
   case measure=>simp [intOf];omega
  ·obtain rfl:j=J:=by omega
   by_cases hls:j<s.size
   ·have hil:(j:Int)<(s.size:Int):=by omega
    have hj0:(0:Int)≤(j:Int):=by omega
    have hby:=byt_get hls
    have hst:=HR.out.stop hls
    unfold isDg at hst
    generalize byt s j=B at *
    by_cases h48:48≤B
    ·have h57:¬ B≤57:=fun h=>hst ⟨h48,h⟩
     go_wp2
     go_ret2
     exact ⟨_,_,_,rfl,G,hb⟩
    ·go_wp2
     go_ret2
     exact ⟨_,_,_,rfl,G,hb⟩
   ·have hil:¬ (j:Int)<(s.size:Int):=by omega
    go_wp2
    go_ret2
    exact ⟨_,_,_,rfl,G,hb⟩
theorem signZ {z:Int} (s:ByteArray) (i:Nat) (w:World) (hz:z=i) (hi:i≤s.size) (hs:s.size≤100000000) :
  Calls Tryz.prog 54 #[.string s,.int .i64 z] w fun e w'=>e = .returned (.tuple #[.int .i64 (sgJ s i),.bool (sgN s i)])∧Below w.heap.size w w':=by
 subst hz;exact signD3 s i w hi hs
theorem runZ {z:Int} (s:ByteArray) (i:Nat) (w:World) (hz:z=i) (hi:i≤s.size) (hs:s.size≤2000000) :
  Calls Tryz.prog 55 #[.string s,.int .i64 z] w fun e w'=>∃ c m k,e = .returned (.tuple #[.int .i64 (runE s i),.slice c m k])∧Got w' w.heap.size (.slice c m k) (rdF s i (runE s i-i)) (runE s i-i+1)∧Below w.heap.size w w':=by
 subst hz;exact runD s i w hi hs
set_option maxRecDepth 100000 in
set_option maxHeartbeats 4000000 in
theorem expD (s:ByteArray) (i:Nat) (w:World) (hi:i≤s.size) (hs:s.size≤2000000) :
  Calls Tryz.prog 60 #[.string s,.int .i64 i] w fun e w'=>e = .returned (.tuple #[.int .i64 (exV s i),.bool (exD s i),.bool (exOk s i)])∧Below w.heap.size w w':=by
 by_cases he:i=s.size
 ·have hil:((i:Int) == (s.size:Int))=true:=by simp [he]
  rw [show exV s i=0 from if_neg (by omega),show exD s i=false by unfold exD;rw [decide_eq_false (by omega)];rfl,show exOk s i=true from decide_eq_true (.inl he)]
  have hie:(i:Int)=(s.size:Int):=by omega
  go_enter Tryz.func60,Tryz.ntmps60
  go_wp2
  go_ret3
  exact ⟨rfl,Below.refl _ _⟩
 ·have hlt:i<s.size:=by omega
  have hil:(i:Int)<(s.size:Int):=by omega
  have hie:¬ (i:Int)=(s.size:Int):=by omega
  have hi0:(0:Int)≤(i:Int):=by omega
  have hby:=byt_get hlt
  by_cases hE:byt s i=101∨byt s i=69
  ·have hJ0:=sgJ_le (s:=s) (i:=i+1) (by omega)
   have hJ1:=sgJ_ge s (i+1)
   have HR:Hid (Run s (sgJ s (i+1)) (runE s (sgJ s (i+1)))):=run_E s hJ0
   rw [show exV s i=capV (rdF s (sgJ s (i+1)) (runE s (sgJ s (i+1))-sgJ s (i+1))) from if_pos ⟨hlt,hE⟩,show exD s i=sgN s (i+1) by unfold exD;rw [decide_eq_true ⟨hlt,hE⟩];rfl,
    show exOk s i=decide (runE s (sgJ s (i+1))=s.size∧sgJ s (i+1)<runE s (sgJ s (i+1))) by unfold exOk;exact decide_eq_decide.2 ⟨fun h=>(h.resolve_left he).2.2,fun h=>.inr ⟨hlt,hE,h⟩⟩]
   have hsg:=fun u z hz=>signZ (z:=z) s (i+1) u hz (by omega) (by omega)
   generalize sgJ s (i+1)=a at *
   generalize sgN s (i+1)=neg at *
   generalize runE s a=J at *
   have hb1:(byt s i != 101 && byt s i != 69)=false:=by rcases hE with h|h <;> simp [h]
   have hx1:byt s i≠101→byt s i=69:=fun h=>hE.resolve_left h
   generalize byt s i=B at *
   obtain ⟨OK,hOK⟩:∃ OK,Hid (decide (J=s.size∧a<J)=OK):=⟨_,rfl⟩
   obtain ⟨VV,hVV⟩:∃ VV,Hid (capV (rdF s a (J-a))=VV):=⟨_,rfl⟩
   rw [hOK.out,hVV.out]
   have key:∀ w,Calls Tryz.prog 60 #[.string s,.int .i64 i] w fun e w'=>e = .returned (.tuple #[.int .i64 VV,.bool neg,.bool OK])∧Below w.heap.size w w':=by
    intro w
    clear hE hb1
    by_cases h101:B=101
    ·subst h101
     clear hx1
     go_enter Tryz.func60,Tryz.ntmps60
     go_wp2_with fail
     refine (hsg _ _ (by simp)).mono ?_
     rintro e w1 ⟨rfl,hx⟩
     clear hsg
     go_wp2
     go_loopw [1,9] (fun t v wr=>∃ (j:Nat),a≤j∧j≤J∧t = .int .i64 j∧v = .int .i64 (capV (rdF s a (j-a)))∧Below w.heap.size w wr) (fun t _ _=>J-(intOf t).toNat)
     case atStart=>exact ⟨a,Nat.le_refl _,HR.out.le,rfl,by rw [Nat.sub_self];rfl,hx⟩
     case round =>
      clear hx
      obtain ⟨j,haj,hj,rfl,rfl,hb⟩:=hrel
      by_cases hlt2:j<J
      ·have hls:j<s.size:=by have:=HR.out.sz;omega
       have hjl:(j:Int)<(s.size:Int):=by omega
       have hj0:(0:Int)≤(j:Int):=by omega
       have hbj:=byt_get hls
       obtain ⟨d0,d1⟩:=HR.out.dg j haj hlt2
       have HV:Hid (rdF s a (j+1-a)=rdF s a (j-a)*10+(byt s j-48)):=by
        show _=_
        rw [show j+1-a=j-a+1 by omega]
        show rdF s a (j-a)*10+(byt s (a+(j-a))-48)=_
        rw [show a+(j-a)=j by omega]
       have hr0:=(rdF_run_bd HR.out.dg (j-a) (by omega)).1
       have HC:Hid (capV (rdF s a (j+1-a))=capV (10*capV (rdF s a (j-a))+(byt s j-48))):=by
        show _=_
        rw [HV.out,capV_step (by omega)]
       obtain ⟨v0,v1⟩:=capV_bd hr0
       generalize byt s j=C at *
       generalize hV1:capV (rdF s a (j+1-a))=V1 at *
       generalize capV (rdF s a (j-a))=V0 at *
       clear hr0 HV
       by_cases hg:10000<10*V0+(C-48)
       ·have HC2:Hid (V1=10000):=HC.out.trans (if_pos hg)
        go_wp2
        go_roundw
        case rel=>exact ⟨j+1,by omega,by omega,by go_num,by rw [hV1,HC2.out],hb⟩
        case measure=>simp [intOf];omega
       ·have HC2:Hid (V1=10*V0+(C-48)):=HC.out.trans (if_neg hg)
        go_wp2
        go_roundw
        case rel=>exact ⟨j+1,by omega,by omega,by go_num,by rw [hV1,HC2.out],hb⟩
        case measure=>simp [intOf];omega
      ·obtain rfl:j=J:=by omega
       by_cases hls:j<s.size
       ·have hjl:(j:Int)<(s.size:Int):=by omega
        have hj0:(0:Int)≤(j:Int):=by omega
        have hbj:=byt_get hls
        have hst:=HR.out.stop hls
        unfold isDg at hst
        have hD:Hid (decide (j=s.size∧a<j)=false):=decide_eq_false (by omega)
        have hne:¬ (j:Int)=(s.size:Int):=by omega
        have hnb:((j:Int) == (s.size:Int))=false:=by simpa using hne
        generalize byt s j=C at *
        by_cases h48:48≤C
        ·have h57:¬ C≤57:=fun h=>hst ⟨h48,h⟩
         go_wp2
         go_ret3
         exact ⟨by rw [← hVV.out,← hOK.out,hD.out];first|rfl|(simp;omega),hb⟩
        ·go_wp2
         go_ret3
         exact ⟨by rw [← hVV.out,← hOK.out,hD.out];first|rfl|(simp;omega),hb⟩
       ·have hjl:¬ (j:Int)<(s.size:Int):=by omega
        have hje:(j:Int)=(s.size:Int):=by have:=HR.out.sz;omega
        have hjb:((j:Int) == (s.size:Int))=true:=by simp [hje]
        by_cases haj2:a<j
        ·have haz:(a:Int)<(j:Int):=by omega
         have hD:Hid (decide (j=s.size∧a<j)=true):=decide_eq_true (by omega)
         go_wp2
         go_ret3
         exact ⟨by rw [← hVV.out,← hOK.out,hD.out];first|rfl|(simp;omega),hb⟩
        ·have haz:¬ (a:Int)<(j:Int):=by omega
         have hD:Hid (decide (j=s.size∧a<j)=false):=decide_eq_false (by omega)
         go_wp2
         go_ret3
         exact ⟨by rw [← hVV.out,← hOK.out,hD.out];first|rfl|(simp;omega),hb⟩
    ·obtain rfl:=hx1 h101
     clear hx1
     go_enter Tryz.func60,Tryz.ntmps60
     go_wp2_with fail
     refine (hsg _ _ (by simp)).mono ?_
     rintro e w1 ⟨rfl,hx⟩
     clear hsg
     go_wp2
     go_loopw [1,9] (fun t v wr=>∃ (j:Nat),a≤j∧j≤J∧t = .int .i64 j∧v = .int .i64 (capV (rdF s a (j-a)))∧Below w.heap.size w wr) (fun t _ _=>J-(intOf t).toNat)
     case atStart=>exact ⟨a,Nat.le_refl _,HR.out.le,rfl,by rw [Nat.sub_self];rfl,hx⟩
     case round =>
      clear hx
      obtain ⟨j,haj,hj,rfl,rfl,hb⟩:=hrel
      by_cases hlt2:j<J
      ·have hls:j<s.size:=by have:=HR.out.sz;omega
       have hjl:(j:Int)<(s.size:Int):=by omega
       have hj0:(0:Int)≤(j:Int):=by omega
       have hbj:=byt_get hls
       obtain ⟨d0,d1⟩:=HR.out.dg j haj hlt2
       have HV:Hid (rdF s a (j+1-a)=rdF s a (j-a)*10+(byt s j-48)):=by
        show _=_
        rw [show j+1-a=j-a+1 by omega]
        show rdF s a (j-a)*10+(byt s (a+(j-a))-48)=_
        rw [show a+(j-a)=j by omega]
       have hr0:=(rdF_run_bd HR.out.dg (j-a) (by omega)).1
       have HC:Hid (capV (rdF s a (j+1-a))=capV (10*capV (rdF s a (j-a))+(byt s j-48))):=by
        show _=_
        rw [HV.out,capV_step (by omega)]
       obtain ⟨v0,v1⟩:=capV_bd hr0
       generalize byt s j=C at *
       generalize hV1:capV (rdF s a (j+1-a))=V1 at *
       generalize capV (rdF s a (j-a))=V0 at *
       clear hr0 HV
       by_cases hg:10000<10*V0+(C-48)
       ·have HC2:Hid (V1=10000):=HC.out.trans (if_pos hg)
        go_wp2
        go_roundw
        case rel=>exact ⟨j+1,by omega,by omega,by go_num,by rw [hV1,HC2.out],hb⟩
        case measure=>simp [intOf];omega
       ·have HC2:Hid (V1=10*V0+(C-48)):=HC.out.trans (if_neg hg)
        go_wp2
        go_roundw
        case rel=>exact ⟨j+1,by omega,by omega,by go_num,by rw [hV1,HC2.out],hb⟩
        case measure=>simp [intOf];omega
      ·obtain rfl:j=J:=by omega
       by_cases hls:j<s.size
       ·have hjl:(j:Int)<(s.size:Int):=by omega
        have hj0:(0:Int)≤(j:Int):=by omega
        have hbj:=byt_get hls
        have hst:=HR.out.stop hls
        unfold isDg at hst
        have hD:Hid (decide (j=s.size∧a<j)=false):=decide_eq_false (by omega)
        have hne:¬ (j:Int)=(s.size:Int):=by omega
        have hnb:((j:Int) == (s.size:Int))=false:=by simpa using hne
        generalize byt s j=C at *
        by_cases h48:48≤C
        ·have h57:¬ C≤57:=fun h=>hst ⟨h48,h⟩
         go_wp2
         go_ret3
         exact ⟨by rw [← hVV.out,← hOK.out,hD.out];first|rfl|(simp;omega),hb⟩
        ·go_wp2
         go_ret3
         exact ⟨by rw [← hVV.out,← hOK.out,hD.out];first|rfl|(simp;omega),hb⟩
       ·have hjl:¬ (j:Int)<(s.size:Int):=by omega
        have hje:(j:Int)=(s.size:Int):=by have:=HR.out.sz;omega
        have hjb:((j:Int) == (s.size:Int))=true:=by simp [hje]
        by_cases haj2:a<j
        ·have haz:(a:Int)<(j:Int):=by omega
         have hD:Hid (decide (j=s.size∧a<j)=true):=decide_eq_true (by omega)
         go_wp2
         go_ret3
         exact ⟨by rw [← hVV.out,← hOK.out,hD.out];first|rfl|(simp;omega),hb⟩
        ·have haz:¬ (a:Int)<(j:Int):=by omega
         have hD:Hid (decide (j=s.size∧a<j)=false):=decide_eq_false (by omega)
         go_wp2
         go_ret3
         exact ⟨by rw [← hVV.out,← hOK.out,hD.out];first|rfl|(simp;omega),hb⟩
   exact key w
  ·rw [show exV s i=0 from if_neg (fun h=>hE h.2),show exD s i=false by unfold exD;rw [decide_eq_false (fun h=>hE h.2)];rfl,show exOk s i=false from decide_eq_false (fun h=>h.elim he (fun h=>hE h.2.1))]
   have h101:¬ byt s i=101:=fun h=>hE (.inl h)
   have h69:¬ byt s i=69:=fun h=>hE (.inr h)
   clear hE
   generalize byt s i=B at *
   have b101:(B != 101)=true:=by simpa using h101
   have b69:(B != 69)=true:=by simpa using h69
   go_enter Tryz.func60,Tryz.ntmps60
   go_wp2
   go_ret3
   exact ⟨rfl,Below.refl _ _⟩
end Go.Proofs.YtgdilnljjgdinaaGreatDoor
namespace Go.Proofs.YtgdilnljjgdinaaGreatDoor
open Go.RowKit Go.Shelf
theorem signY {z:Int} {s:ByteArray} {i j:Nat} {neg:Bool} (w:World) (hz:z=i) (hj:sgJ s i=j) (hn:sgN s i=neg) (hi:i≤s.size) (hs:s.size≤1048576) :
  Calls Tryz.prog 54 #[.string s,.int .i64 z] w fun e w'=>e = .returned (.tuple #[.int .i64 j,.bool neg])∧Below w.heap.size w w':=by
 subst hj hn;exact signZ s i w hz hi (by omega)
theorem runY {z:Int} {s:ByteArray} {i j:Nat} {V:Int} (w:World) (hz:z=i) (hj:runE s i=j) (hV:rdF s i (j-i)=V) (hi:i≤s.size) (hs:s.size≤1048576) :
  Calls Tryz.prog 55 #[.string s,.int .i64 z] w fun e w'=>∃ c m k,e = .returned (.tuple #[.int .i64 j,.slice c m k])∧Got w' w.heap.size (.slice c m k) V 1048577∧Below w.heap.size w w':=by
 subst hj hV
 have:=(run_E s hi).sz
 exact (runZ s i w hz hi (by omega)).mono fun _ _ ⟨c,m,k,h1,h2,h3⟩=>⟨c,m,k,h1,h2.le (by omega),h3⟩
theorem tensY {z:Int} (n:Nat) (w:World) (hz:z=n) (hn:n≤1048576) :
  Calls Tryz.prog 57 #[.int .i64 z] w fun e w'=>∃ c m k,e = .returned (.slice c m k)∧Got w' w.heap.size (.slice c m k) (p10 n) 1048577∧Below w.heap.size w w':=by
 subst hz
 exact (tensD n w (by omega)).mono fun _ _ ⟨c,m,k,h1,h2,h3⟩=>⟨c,m,k,h1,h2.le (by omega),h3⟩
theorem expY {z:Int} {s:ByteArray} {i:Nat} {e:Int} {d ok:Bool} (w:World) (hz:z=i) (he:exV s i=e) (hd:exD s i=d) (ho:exOk s i=ok) (hi:i≤s.size) (hs:s.size≤1048576) :
  Calls Tryz.prog 60 #[.string s,.int .i64 z] w fun e' w'=>e' = .returned (.tuple #[.int .i64 e,.bool d,.bool ok])∧Below w.heap.size w w':=by
 subst hz he hd ho;exact expD s i w hi (by omega)
theorem Got.frac {w:World} {B B':Nat} {neg:Bool} {c d:Option Addr} {n k m l:Nat} {x y:Int} {S:Nat} (h:Got w B (.slice c n k) x S) (g:Got w B' (.slice d m l) y S):TR w neg c n k d m l (Rat.divInt (ws neg x) y) S:=⟨_,_,⟨_,h.num,rfl⟩,g.num,rfl⟩
end Go.Proofs.YtgdilnljjgdinaaGreatDoor
namespace Go.Proofs.YtgdilnljjgdinaaGreatDoor
open Go.RowKit Go.Shelf
set_option maxRecDepth 100000 in
set_option maxHeartbeats 4000000 in
theorem dA5a {s:ByteArray} {p0 i:Nat} {neg:Bool} {N:Int} (w:World) (hs:s.size≤1048576) (hat:sgJ s 0=p0) (hneg:sgN s 0=neg) (hi:runE s p0=i) (hN:rdF s p0 (i-p0)=N) (ha0:p0≤s.size) (_hi0:i≤s.size) (_hai0:p0≤i) (hai1:p0<i) (hil1:i<s.size) (hB:byt s i=47) {k:Nat} {D:Int} (hk:runE s (i+1)=k) (hD:rdF s (i+1) (k-(i+1))=D) (hke1:k=i+1) :
  Calls Tryz.prog 34 #[.string s] w fun e w'=>e = .returned (.tuple #[.agg #[.bool false,.slice none 0 0,.slice none 0 0],.int .i64 5])∧Below w.heap.size w w':=by
 have hai:(p0:Int)<(i:Int):=by omega
 have hil:(i:Int)<(s.size:Int):=by omega
 have hii:(0:Int)≤(i:Int):=by omega
 have hby:=byt_get (s:=s) (k:=i) (by omega)
 rw [hB] at hby
 have hw1:IntKind.i64.wrap ((i:Int)+1)=(i:Int)+1:=by rw [IntKind.wrap_i64];omega
 have R0:=var3_new w (.bool false) (.slice none 0 0) (.slice none 0 0) 44
 have hb0:=bel_d0 w (.cells #[.bool false,.slice none 0 0,.slice none 0 0] 44)
 have hsz:w.heap.size+1≤(w.alloc (.cells #[.bool false,.slice none 0 0,.slice none 0 0] 44)).heap.size:=by simp
 go_enter Tryz.func34,Tryz.ntmps34
 go_wp2_with fail
 generalize w.alloc (.cells #[.bool false,.slice none 0 0,.slice none 0 0] 44)=W0 at *
 refine (signY (i:=0) _ rfl hat hneg (Nat.zero_le _) hs).mono ?_
 rintro e w1 ⟨rfl,hx⟩
 replace R0:=R0.below hx
 replace hb0:=bel_tr hb0 hx
 replace hsz:=Nat.le_trans hsz (Below.size hx)
 clear hx
 go_wp2_with fail
 refine (runY _ rfl hi hN ha0 hs).mono ?_
 rintro e w2 ⟨cN,nN,kN,rfl,GN,hx⟩
 replace R0:=R0.below hx
 replace hb0:=bel_tr hb0 hx
 replace GN:=GN.mono (B':=w.heap.size+1) hsz
 replace hsz:=Nat.le_trans hsz (Below.size hx)
 clear hx
 go_wp2_with fail
 refine (runY (i:=i+1) _ (by simp) hk hD (by omega) hs).mono ?_
 rintro e w3 ⟨cD,nD,kD,rfl,GD,hx⟩
 replace R0:=R0.below hx
 replace GN:=GN.below hx
 replace hb0:=bel_tr hb0 hx
 replace GD:=GD.mono (B':=w.heap.size+1) hsz
 replace hsz:=Nat.le_trans hsz (Below.size hx)
 clear hx
 have hke:(k:Int)=(i:Int)+1:=by omega
 have hkb:((k:Int) == (i:Int)+1)=true:=by simp [hke]
 clear GN
 clear GD
 obtain ⟨r0c0,r0c1,r0c2,r0c3,r0c4,r0c5⟩:=id R0
 obtain ⟨V,O⟩:=R0.set (.bool false) (.slice none 0 0) (.slice none 0 0)
 have hw:=hb0.trans (O.below (B:=w.heap.size) (by omega))
 clear R0 O hb0
 go_wp2
 refine bodyPost_ret (v:=.tuple #[.agg #[.bool false,.slice none 0 0,.slice none 0 0],.int .i64 5]) (by simp [results,Tryz.results34,go_sem,V.c0,V.c1,V.c2]) rfl ⟨rfl,hw⟩
set_option maxRecDepth 100000 in
set_option maxHeartbeats 4000000 in
theorem dA5b {s:ByteArray} {p0 i:Nat} {neg:Bool} {N:Int} (w:World) (hs:s.size≤1048576) (hat:sgJ s 0=p0) (hneg:sgN s 0=neg) (hi:runE s p0=i) (hN:rdF s p0 (i-p0)=N) (ha0:p0≤s.size) (_hi0:i≤s.size) (_hai0:p0≤i) (hai1:p0<i) (hil1:i<s.size) (hB:byt s i=47) {k:Nat} {D:Int} (hk:runE s (i+1)=k) (hD:rdF s (i+1) (k-(i+1))=D) (hke1:k≠i+1) (hks1:k<s.size) :
  Calls Tryz.prog 34 #[.string s] w fun e w'=>e = .returned (.tuple #[.agg #[.bool false,.slice none 0 0,.slice none 0 0],.int .i64 5])∧Below w.heap.size w w':=by
 have hai:(p0:Int)<(i:Int):=by omega
 have hil:(i:Int)<(s.size:Int):=by omega
 have hii:(0:Int)≤(i:Int):=by omega
 have hby:=byt_get (s:=s) (k:=i) (by omega)
 rw [hB] at hby
 have hw1:IntKind.i64.wrap ((i:Int)+1)=(i:Int)+1:=by rw [IntKind.wrap_i64];omega
 have R0:=var3_new w (.bool false) (.slice none 0 0) (.slice none 0 0) 44
 have hb0:=bel_d0 w (.cells #[.bool false,.slice none 0 0,.slice none 0 0] 44)
 have hsz:w.heap.size+1≤(w.alloc (.cells #[.bool false,.slice none 0 0,.slice none 0 0] 44)).heap.size:=by simp
 go_enter Tryz.func34,Tryz.ntmps34
 go_wp2_with fail
 generalize w.alloc (.cells #[.bool false,.slice none 0 0,.slice none 0 0] 44)=W0 at *
 refine (signY (i:=0) _ rfl hat hneg (Nat.zero_le _) hs).mono ?_
 rintro e w1 ⟨rfl,hx⟩
 replace R0:=R0.below hx
 replace hb0:=bel_tr hb0 hx
 replace hsz:=Nat.le_trans hsz (Below.size hx)
 clear hx
 go_wp2_with fail
 refine (runY _ rfl hi hN ha0 hs).mono ?_
 rintro e w2 ⟨cN,nN,kN,rfl,GN,hx⟩
 replace R0:=R0.below hx
 replace hb0:=bel_tr hb0 hx
 replace GN:=GN.mono (B':=w.heap.size+1) hsz
 replace hsz:=Nat.le_trans hsz (Below.size hx)
 clear hx
 go_wp2_with fail
 refine (runY (i:=i+1) _ (by simp) hk hD (by omega) hs).mono ?_
 rintro e w3 ⟨cD,nD,kD,rfl,GD,hx⟩
 replace R0:=R0.below hx
 replace GN:=GN.below hx
 replace hb0:=bel_tr hb0 hx
 replace GD:=GD.mono (B':=w.heap.size+1) hsz
 replace hsz:=Nat.le_trans hsz (Below.size hx)
 clear hx
 have hke:¬ (k:Int)=(i:Int)+1:=by omega
 have hkb:((k:Int) == (i:Int)+1)=false:=by simpa using hke
 have hks:(k:Int)<(s.size:Int):=by omega
 clear GN
 clear GD
 obtain ⟨r0c0,r0c1,r0c2,r0c3,r0c4,r0c5⟩:=id R0
 obtain ⟨V,O⟩:=R0.set (.bool false) (.slice none 0 0) (.slice none 0 0)
 have hw:=hb0.trans (O.below (B:=w.heap.size) (by omega))
 clear R0 O hb0
 go_wp2
 refine bodyPost_ret (v:=.tuple #[.agg #[.bool false,.slice none 0 0,.slice none 0 0],.int .i64 5]) (by simp [results,Tryz.results34,go_sem,V.c0,V.c1,V.c2]) rfl ⟨rfl,hw⟩
set_option maxRecDepth 100000 in
set_option maxHeartbeats 4000000 in
theorem dA3 {s:ByteArray} {p0 i:Nat} {neg:Bool} {N:Int} (w:World) (hs:s.size≤1048576) (hat:sgJ s 0=p0) (hneg:sgN s 0=neg) (hi:runE s p0=i) (hN:rdF s p0 (i-p0)=N) (ha0:p0≤s.size) (_hi0:i≤s.size) (_hai0:p0≤i) (hai1:p0<i) (hil1:i<s.size) (hB:byt s i=47) {k:Nat} {D:Int} (hk:runE s (i+1)=k) (hD:rdF s (i+1) (k-(i+1))=D) (hke1:k≠i+1) (hks1:¬ k<s.size) (hD0:D=0) :
  Calls Tryz.prog 34 #[.string s] w fun e w'=>e = .returned (.tuple #[.agg #[.bool false,.slice none 0 0,.slice none 0 0],.int .i64 3])∧Below w.heap.size w w':=by
 have hai:(p0:Int)<(i:Int):=by omega
 have hil:(i:Int)<(s.size:Int):=by omega
 have hii:(0:Int)≤(i:Int):=by omega
 have hby:=byt_get (s:=s) (k:=i) (by omega)
 rw [hB] at hby
 have hw1:IntKind.i64.wrap ((i:Int)+1)=(i:Int)+1:=by rw [IntKind.wrap_i64];omega
 have R0:=var3_new w (.bool false) (.slice none 0 0) (.slice none 0 0) 44
 have hb0:=bel_d0 w (.cells #[.bool false,.slice none 0 0,.slice none 0 0] 44)
 have hsz:w.heap.size+1≤(w.alloc (.cells #[.bool false,.slice none 0 0,.slice none 0 0] 44)).heap.size:=by simp
 go_enter Tryz.func34,Tryz.ntmps34
 go_wp2_with fail
 generalize w.alloc (.cells #[.bool false,.slice none 0 0,.slice none 0 0] 44)=W0 at *
 refine (signY (i:=0) _ rfl hat hneg (Nat.zero_le _) hs).mono ?_
 rintro e w1 ⟨rfl,hx⟩
 replace R0:=R0.below hx
 replace hb0:=bel_tr hb0 hx
 replace hsz:=Nat.le_trans hsz (Below.size hx)
 clear hx
 go_wp2_with fail
 refine (runY _ rfl hi hN ha0 hs).mono ?_
 rintro e w2 ⟨cN,nN,kN,rfl,GN,hx⟩
 replace R0:=R0.below hx
 replace hb0:=bel_tr hb0 hx
 replace GN:=GN.mono (B':=w.heap.size+1) hsz
 replace hsz:=Nat.le_trans hsz (Below.size hx)
 clear hx
 go_wp2_with fail
 refine (runY (i:=i+1) _ (by simp) hk hD (by omega) hs).mono ?_
 rintro e w3 ⟨cD,nD,kD,rfl,GD,hx⟩
 replace R0:=R0.below hx
 replace GN:=GN.below hx
 replace hb0:=bel_tr hb0 hx
 replace GD:=GD.mono (B':=w.heap.size+1) hsz
 replace hsz:=Nat.le_trans hsz (Below.size hx)
 clear hx
 have hke:¬ (k:Int)=(i:Int)+1:=by omega
 have hkb:((k:Int) == (i:Int)+1)=false:=by simpa using hke
 have hks:¬ (k:Int)<(s.size:Int):=by omega
 obtain rfl:nD=0:=(Got.tiny GD).2 hD0
 clear GN
 clear GD
 obtain ⟨r0c0,r0c1,r0c2,r0c3,r0c4,r0c5⟩:=id R0
 obtain ⟨V,O⟩:=R0.set (.bool false) (.slice none 0 0) (.slice none 0 0)
 have hw:=hb0.trans (O.below (B:=w.heap.size) (by omega))
 clear R0 O hb0
 go_wp2
 refine bodyPost_ret (v:=.tuple #[.agg #[.bool false,.slice none 0 0,.slice none 0 0],.int .i64 3]) (by simp [results,Tryz.results34,go_sem,V.c0,V.c1,V.c2]) rfl ⟨rfl,hw⟩
set_option maxRecDepth 100000 in
set_option maxHeartbeats 4000000 in
theorem dA0 {s:ByteArray} {p0 i:Nat} {neg:Bool} {N:Int} (w:World) (hs:s.size≤1048576) (hat:sgJ s 0=p0) (hneg:sgN s 0=neg) (hi:runE s p0=i) (hN:rdF s p0 (i-p0)=N) (ha0:p0≤s.size) (_hi0:i≤s.size) (_hai0:p0≤i) (hai1:p0<i) (hil1:i<s.size) (hB:byt s i=47) {k:Nat} {D:Int} (hk:runE s (i+1)=k) (hD:rdF s (i+1) (k-(i+1))=D) (hke1:k≠i+1) (hks1:¬ k<s.size) (hD0:D≠0) :
  Calls Tryz.prog 34 #[.string s] w fun e w'=>∃ f c n k c' n' k',e = .returned (.tuple #[.agg #[.bool f,.slice c n k,.slice c' n' k'],.int .i64 0])∧GR w' w.heap.size f c n k c' n' k' (Rat.divInt (ws neg N) D) 1048577∧Below w.heap.size w w':=by
 have hai:(p0:Int)<(i:Int):=by omega
 have hil:(i:Int)<(s.size:Int):=by omega
 have hii:(0:Int)≤(i:Int):=by omega
 have hby:=byt_get (s:=s) (k:=i) (by omega)
 rw [hB] at hby
 have hw1:IntKind.i64.wrap ((i:Int)+1)=(i:Int)+1:=by rw [IntKind.wrap_i64];omega
 have R0:=var3_new w (.bool false) (.slice none 0 0) (.slice none 0 0) 44
 have hb0:=bel_d0 w (.cells #[.bool false,.slice none 0 0,.slice none 0 0] 44)
 have hsz:w.heap.size+1≤(w.alloc (.cells #[.bool false,.slice none 0 0,.slice none 0 0] 44)).heap.size:=by simp
 go_enter Tryz.func34,Tryz.ntmps34
 go_wp2_with fail
 generalize w.alloc (.cells #[.bool false,.slice none 0 0,.slice none 0 0] 44)=W0 at *
 refine (signY (i:=0) _ rfl hat hneg (Nat.zero_le _) hs).mono ?_
 rintro e w1 ⟨rfl,hx⟩
 replace R0:=R0.below hx
 replace hb0:=bel_tr hb0 hx
 replace hsz:=Nat.le_trans hsz (Below.size hx)
 clear hx
 go_wp2_with fail
 refine (runY _ rfl hi hN ha0 hs).mono ?_
 rintro e w2 ⟨cN,nN,kN,rfl,GN,hx⟩
 replace R0:=R0.below hx
 replace hb0:=bel_tr hb0 hx
 replace GN:=GN.mono (B':=w.heap.size+1) hsz
 replace hsz:=Nat.le_trans hsz (Below.size hx)
 clear hx
 go_wp2_with fail
 refine (runY (i:=i+1) _ (by simp) hk hD (by omega) hs).mono ?_
 rintro e w3 ⟨cD,nD,kD,rfl,GD,hx⟩
 replace R0:=R0.below hx
 replace GN:=GN.below hx
 replace hb0:=bel_tr hb0 hx
 replace GD:=GD.mono (B':=w.heap.size+1) hsz
 replace hsz:=Nat.le_trans hsz (Below.size hx)
 clear hx
 have hke:¬ (k:Int)=(i:Int)+1:=by omega
 have hkb:((k:Int) == (i:Int)+1)=false:=by simpa using hke
 have hks:¬ (k:Int)<(s.size:Int):=by omega
 have hnD:¬ (nD:Int)=0:=fun h=>hD0 ((Got.tiny GD).1 (by omega))
 have hnb:((nD:Int) == 0)=false:=by simpa using hnD
 go_wp2_with fail
 refine (normD _ (Got.frac (neg:=neg) GN GD) (by decide) (by decide)).mono ?_
 rintro e w4 ⟨f5,c5,n5,k5,d5,m5,l5,rfl,G5,hx⟩
 replace R0:=R0.below hx
 replace GN:=GN.below hx
 replace GD:=GD.below hx
 replace hb0:=bel_tr hb0 hx
 replace G5:=G5.mono (B':=w.heap.size+1) hsz
 replace hsz:=Nat.le_trans hsz (Below.size hx)
 clear hx
 clear GN
 clear GD
 obtain ⟨r0c0,r0c1,r0c2,r0c3,r0c4,r0c5⟩:=id R0
 obtain ⟨V,OO⟩:=R0.set (.bool f5) (.slice c5 n5 k5) (.slice d5 m5 l5)
 have hw:=hb0.trans (OO.below (B:=w.heap.size) (by omega))
 have GF:=G5.off OO (by omega)
 clear G5 R0 OO hb0
 go_wp2
 refine bodyPost_ret (v:=.tuple #[.agg #[.bool f5,.slice c5 n5 k5,.slice d5 m5 l5],.int .i64 0]) (by simp [results,Tryz.results34,go_sem,V.c0,V.c1,V.c2]) rfl ⟨_,_,_,_,_,_,_,rfl,GF.mono (B':=w.heap.size) (by omega),hw⟩
end Go.Proofs.YtgdilnljjgdinaaGreatDoor
