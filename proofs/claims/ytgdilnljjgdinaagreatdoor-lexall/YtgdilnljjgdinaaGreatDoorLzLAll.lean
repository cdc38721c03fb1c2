import Derived.Test.YtgdilnljjgdinaaGreatDoorLzK
import Derived.Test.YtgdilnljjgdinaaGreatDoorLaA
import Derived.Test.YtgdilnljjgdinaaGreatDoorLzGAll
import Derived.Test.YtgdilnljjgdinaaGreatDoorOpenPAll
namespace Go.Proofs.YtgdilnljjgdinaaGreatDoor
open Go.RowKit Go.Shelf
theorem ext_mid (s:ByteArray) (k n:Nat):(s.extract k (k+n)).data.toList=(s.data.toList.drop k).take n:=by
 rw [ext_list,List.drop_take,Nat.add_sub_cancel_left]
theorem namedD (s:ByteArray) (k:Nat) (w:World) (hk:k≤s.size) (hs:s.size≤100000000) {K WD N:Nat} (h:nmD (s.data.toList.drop k)=(K,WD,N)) :
  Calls Tryz.prog 36 #[.string s,.int .i64 (k:Int)] w fun e w'=>e = .returned (.tuple #[.agg (tkC (K:Nat) (s.extract k (k+N)) (.bool false) (.slice none 0 0) (.slice none 0 0) (WD:Nat) 0 0),.int .i64 ((k+N:Nat):Int)])∧Below w.heap.size w w':=by
 have HN1:=fun u=>nameD s k u hk (by omega)
 have hn:=ldL_le (s.data.toList.drop k) nmB
 rw [List.length_drop,len_list] at hn
 have e1:(s.data.toList.drop k).drop (ldL (s.data.toList.drop k) nmB)=s.data.toList.drop (k+ldL (s.data.toList.drop k) nmB):=List.drop_drop
 have e2:=ext_mid s k (ldL (s.data.toList.drop k) nmB)
 have e3:k+pairN (s.data.toList.drop k)=k+ldL (s.data.toList.drop k) nmB+gpN (s.data.toList.drop (k+ldL (s.data.toList.drop k) nmB))+ldL (s.data.toList.drop (k+ldL (s.data.toList.drop k) nmB+gpN (s.data.toList.drop (k+ldL (s.data.toList.drop k) nmB)))) nmB:=by
  unfold pairN
  rw [← List.drop_drop,e1,List.drop_drop,← Nat.add_assoc,← Nat.add_assoc]
 have e4:(s.data.toList.drop k).drop (pairN (s.data.toList.drop k))=s.data.toList.drop (k+pairN (s.data.toList.drop k)):=List.drop_drop
 unfold nmD at h
 rw [e1,e4,← e2] at h
 generalize pairN (s.data.toList.drop k)=pr at *
 generalize ldL (s.data.toList.drop k) nmB=n at *
 clear e1 e2 e4
 have hp:k+n≤s.size:=by omega
 have HG:=fun u=>GapD s (k+n) u hp (by omega)
 have hg:=gpN_le (s.data.toList.drop (k+n))
 rw [List.length_drop,len_list] at hg
 have e5:gp false (s.data.toList.drop (k+n))=s.data.toList.drop (k+n+gpN (s.data.toList.drop (k+n))):=by rw [← drop_gp,List.drop_drop]
 rw [e5] at h
 generalize gpN (s.data.toList.drop (k+n))=g at *
 have hq:k+n+g≤s.size:=by omega
 have HN2:=fun u=>nameD s (k+n+g) u hq (by omega)
 have hm:=ldL_le (s.data.toList.drop (k+n+g)) nmB
 rw [List.length_drop,len_list] at hm
 have e6:=ext_mid s (k+n+g) (ldL (s.data.toList.drop (k+n+g)) nmB)
 rw [← e6,e3] at h
 generalize ldL (s.data.toList.drop (k+n+g)) nmB=m at *
 clear e5 e6
 have hr:k+n+g+m≤s.size:=by omega
 have HC2:=fun u=>colonD s (k+n+g+m) u hr hs
 have HC1:=fun u=>colonD s (k+n) u hp hs
 generalize colL (s.data.toList.drop (k+n+g+m))=C2 at *
 generalize colL (s.data.toList.drop (k+n))=C1 at *
 obtain ⟨x,hx⟩:∃ x,s.extract k (k+n)=x:=⟨_,rfl⟩
 obtain ⟨y,hy⟩:∃ y,s.extract (k+n+g) (k+n+g+m)=y:=⟨_,rfl⟩
 have hxs:x.size≤100000000:=by rw [← hx,size_extract _ _ _ hp];omega
 have hys:y.size≤100000000:=by rw [← hy,size_extract _ _ _ hr];omega
 rw [hx,hy] at h
 have H2:=fun u=>secondD x u hxs
 have HS:=fun u=>SmallD y u hys
 have HL:=fun u=>loneD x u hxs
 have f1:prW (x.data.toList.map smB)=(prS x.data.toList).data.toList:=rfl
 have f2:y.data.toList.map smB=(smS y.data.toList).data.toList:=rfl
 rw [f1,f2] at h
 generalize prS x.data.toList=M at *
 generalize smS y.data.toList=T at *
 generalize lookW loneT (x.data.toList.map smB)=W1 at *
 clear f1 f2
 have kp:k≤k+n:=by omega
 have pq:k+n≤k+n+g:=by omega
 have qr:k+n+g≤k+n+g+m:=by omega
 by_cases hP:¬ M.data.toList=[]∧0<g∧T.data.toList=M.data.toList∧C2=false
 ·rw [if_pos hP] at h
  obtain ⟨hM,hg0,hE,rfl⟩:=hP
  simp only [Prod.mk.injEq] at h
  obtain ⟨rfl,rfl,rfl⟩:=h
  rw [e3]
  exact nmA s w kp pq qr hr hx HN1 H2 HG HN2 HC2 (str_is hM) (by omega) hy HS (str_eq hE) rfl
 ·rw [if_neg hP] at h
  have pick:∀ (P:Nat→Nat→Nat→Prop),(¬ W1=0→C1=false→P 9 W1 n)→(W1=0→P 1 0 n)→(¬ W1=0→C1=true→P 1 0 n)→P K WD N:=fun P p1 p2 p3=>by
   by_cases z:W1=0
   ·rw [if_neg (fun k=>k.1 z)] at h
    simp only [Prod.mk.injEq] at h
    obtain ⟨rfl,rfl,rfl⟩:=h
    exact p2 z
   ·cases c:C1 with
    | false =>
     rw [if_pos ⟨z,c⟩] at h
     simp only [Prod.mk.injEq] at h
     obtain ⟨rfl,rfl,rfl⟩:=h
     exact p1 z c
    | true =>
     rw [if_neg (fun k=>by rw [c] at k;cases k.2)] at h
     simp only [Prod.mk.injEq] at h
     obtain ⟨rfl,rfl,rfl⟩:=h
     exact p3 z c
  refine pick (fun K WD N=>Calls Tryz.prog 36 #[.string s,.int .i64 (k:Int)] w fun e w'=>e = .returned (.tuple #[.agg (tkC (K:Nat) (s.extract k (k+N)) (.bool false) (.slice none 0 0) (.slice none 0 0) (WD:Nat) 0 0),.int .i64 ((k+N:Nat):Int)])∧Below w.heap.size w w') ?_ ?_ ?_
  all_goals
   clear pick h
   rw [hx]
  ·intro z c
   subst c
   have bW:((W1:Int) == 0)=false:=beq_eq_false_iff_ne.2 (by omega)
   have nW:¬ (W1:Int)=0:=by omega
   by_cases hM:M.data.toList=[]
   ·obtain rfl:M=⟨#[]⟩:=ba_eq hM
    exact nma1 s w kp pq qr hr hx HN1 H2 HG HN2 HC2 HL bW nW HC1
   ·by_cases hg0:0<g
    ·by_cases hE:T.data.toList=M.data.toList
     ·cases C2 with
      | false=>exact absurd ⟨hM,hg0,hE,rfl⟩ hP
      | true=>exact nmd1 s w kp pq qr hr hx HN1 H2 HG HN2 (str_is hM) (by omega) hy HS (str_eq hE) HC2 HL bW nW HC1
     ·exact nmc1 s w kp pq qr hr hx HN1 H2 HG HN2 (str_is hM) (by omega) hy HS (str_ne2 hE) HC2 HL bW nW HC1
    ·exact nmb1 s w kp pq qr hr hx HN1 H2 HG HN2 (str_is hM) (by omega) HC2 HL bW nW HC1
  ·intro z
   rw [z] at HL
   by_cases hM:M.data.toList=[]
   ·obtain rfl:M=⟨#[]⟩:=ba_eq hM
    exact nma2 s w kp pq qr hr hx HN1 H2 HG HN2 HC2 HL HC1
   ·by_cases hg0:0<g
    ·by_cases hE:T.data.toList=M.data.toList
     ·cases C2 with
      | false=>exact absurd ⟨hM,hg0,hE,rfl⟩ hP
      | true=>exact nmd2 s w kp pq qr hr hx HN1 H2 HG HN2 (str_is hM) (by omega) hy HS (str_eq hE) HC2 HL HC1
     ·exact nmc2 s w kp pq qr hr hx HN1 H2 HG HN2 (str_is hM) (by omega) hy HS (str_ne2 hE) HC2 HL HC1
    ·exact nmb2 s w kp pq qr hr hx HN1 H2 HG HN2 (str_is hM) (by omega) HC2 HL HC1
  ·intro z c
   subst c
   have nW:¬ (W1:Int)=0:=by omega
   by_cases hM:M.data.toList=[]
   ·obtain rfl:M=⟨#[]⟩:=ba_eq hM
    exact nma3 s w kp pq qr hr hx HN1 H2 HG HN2 HC2 HL nW HC1
   ·by_cases hg0:0<g
    ·by_cases hE:T.data.toList=M.data.toList
     ·cases C2 with
      | false=>exact absurd ⟨hM,hg0,hE,rfl⟩ hP
      | true=>exact nmd3 s w kp pq qr hr hx HN1 H2 HG HN2 (str_is hM) (by omega) hy HS (str_eq hE) HC2 HL nW HC1
     ·exact nmc3 s w kp pq qr hr hx HN1 H2 HG HN2 (str_is hM) (by omega) hy HS (str_ne2 hE) HC2 HL nW HC1
    ·exact nmb3 s w kp pq qr hr hx HN1 H2 HG HN2 (str_is hM) (by omega) HC2 HL nW HC1
end Go.Proofs.YtgdilnljjgdinaaGreatDoor
namespace Go.Proofs.YtgdilnljjgdinaaGreatDoor
open Go.RowKit Go.Shelf
def DcD (x:ByteArray) (q:Rat):Prop:=∃ R,R≤5000000∧DocOk x q R
def NumO (w:World) (B k:Nat) (f:Bool) (a1:Option Addr) (n1 k1:Nat) (a2:Option Addr) (n2 k2:Nat) (q:Rat):Prop :=
 (k=2∧GR w B f a1 n1 k1 a2 n2 k2 q 5000000)∨(k≠2∧q=0∧f=false∧a1=none∧n1=0∧k1=0∧a2=none∧n2=0∧k2=0)
theorem NumO.ku {W W':World} {B k:Nat} {f:Bool} {a1:Option Addr} {n1 k1:Nat} {a2:Option Addr} {n2 k2:Nat} {q:Rat} (h:NumO W B k f a1 n1 k1 a2 n2 k2 q) (u:Ku W W'):NumO W' B k f a1 n1 k1 a2 n2 k2 q :=
 h.imp (fun h=>⟨h.1,u.gr h.2⟩) id
theorem NumO.mono {W:World} {B B' k:Nat} {f:Bool} {a1:Option Addr} {n1 k1:Nat} {a2:Option Addr} {n2 k2:Nat} {q:Rat} (h:NumO W B k f a1 n1 k1 a2 n2 k2 q) (hB:B'≤B):NumO W B' k f a1 n1 k1 a2 n2 k2 q :=
 h.imp (fun h=>⟨h.1,h.2.mono hB⟩) id
theorem pd_doc:PD DcD DocErr:=fun s hs=>by
 rcases both2 s hs with ⟨r,S,R,h1,h2,h3,h4,h5⟩|h|h|h
 ·exact .inl ⟨r,S,h1,h3,⟨R,h2,h4⟩,h5⟩
 ·exact .inr (.inl h)
 ·exact .inr (.inr (.inl h))
 ·exact .inr (.inr (.inr h))
theorem beg_or {c:UInt8} {t:List UInt8} (h:begL (c::t)=true):dgB.contains c=true∨(dgB.contains c=false∧c=46):=by
 unfold begL at h
 simp only [List.head?_cons,List.headD_cons,Bool.or_eq_true,beq_iff_eq,Option.some.injEq] at h
 cases hd:dgB.contains c
 ·rw [hd] at h
  exact .inr ⟨rfl,h.resolve_right (by decide)⟩
 ·exact .inl rfl
theorem beg_no {c:UInt8} {t:List UInt8} (h:begL (c::t)=false):dgB.contains c=false∧c≠46:=by
 unfold begL at h
 simp only [List.head?_cons,List.headD_cons,Bool.or_eq_false_iff,beq_eq_false_iff_ne,ne_eq,Option.some.injEq] at h
 exact ⟨h.2,h.1⟩
theorem litN_dg {c:UInt8} {t:List UInt8} (h:dgB.contains c=true):0<litN (c::t):=by
 have h1:=ldL_pos (l:=t) h
 unfold litN
 split
 ·omega
 ·split
  ·split <;> omega
  ·omega
theorem ext_at {s r:ByteArray} {p n:Nat} (hr:r.data.toList=s.data.toList.drop p):s.extract p (p+n)=r.extract 0 n:=ba_eq (by rw [ext_mid,ext_front,hr])
theorem tokenD {s r:ByteArray} {p K n WD:Nat} {q:Rat} (w:World) (hs:s.size≤1048576) (hr:r.data.toList=s.data.toList.drop p) (hp:p<s.size) (h0:0<n) (hn:p+n≤s.size) (hR:Rd DcD r K n WD q) :
  Calls Tryz.prog 16 #[.string s,.int .i64 (p:Int)] w fun e w'=>∃ f c n1 k1 c' n' k',e = .returned (.tuple #[.agg (tkC (K:Nat) (r.extract 0 n) (.bool f) (.slice c n1 k1) (.slice c' n' k') (WD:Nat) 0 0),.int .i64 ((p+n:Nat):Int),.int .i64 0])∧NumO w' w.heap.size K f c n1 k1 c' n' k' q∧Below w.heap.size w w':=by
 have hex:=ext_at (n:=n) hr
 unfold Rd at hR
 rw [hr] at hR
 have hby:=getD_get hp
 have hdr:=drop_byte hp
 have HS:=fun u=>signD5 s p u hp (by omega)
 have HD:=fun u=>digitD s p u hp
 have HB:=fun u=>nameByteD (s.data.toList.getD p 0) u
 have hw:IntKind.i64.wrap ((p:Int)+(n:Int))=((p+n:Nat):Int):=by rw [IntKind.wrap_i64];omega
 obtain ⟨P,eP⟩:∃ P,P=p+n:=⟨_,rfl⟩
 rw [← eP] at hw hex hn ⊢
 rcases hR with ⟨h1,rfl,h2,rfl,_,R,hR5,hD⟩|⟨h1,h2,h3,rfl⟩|⟨h1,h2,rfl,rfl,i,hi,h3,h4,rfl,rfl⟩
 ·have hsg:sgF (s.data.toList.drop p)=(0,0):=by rw [hdr];exact sgF_off (.inl (by rw [← hdr];exact h1))
  rw [hsg] at HS
  have HL:=fun u=>literalD s p u hp (by omega) h1
  rw [← h2,← eP] at HL
  have hb:=h1
  rw [hdr] at hb
  refine (tkD (q:=q) (code:=0) s w hp (by omega) (by omega) hex ?_ HS HD HL (fun u=>(hD u).mono ?_)).mono ?_
  ·rcases beg_or hb with h|⟨h,h5⟩
   ·exact .inl h
   ·exact .inr ⟨h,by rw [hby,h5];rfl⟩
  ·rintro e u' ⟨f,c,n1,k1,c',n',k',rfl,G,hb⟩
   exact ⟨f,c,n1,k1,c',n',k',rfl,.inl ⟨rfl,G.le hR5⟩,hb⟩
  ·rintro e w' ⟨f,c,n1,k1,c',n',k',rfl,G|G,hb⟩
   ·exact ⟨f,c,n1,k1,c',n',k',rfl,.inl ⟨rfl,G.2⟩,hb⟩
   ·exact absurd rfl G.1
 ·have hsg:sgF (s.data.toList.drop p)=(0,0):=by
   rw [hdr]
   refine sgF_off (.inr ?_)
   have:=h2
   rw [hdr] at this
   exact this
  rw [hsg] at HS
  have hb:=h1
  rw [hdr] at hb
  obtain ⟨b1,b2⟩:=beg_no hb
  rw [b1] at HD
  have h2':=h2
  rw [hdr] at h2'
  simp only [List.getD_cons_zero] at h2'
  rw [h2'] at HB
  rw [nmN_D] at h3
  have HN:=fun u=>namedD s p u (by omega) (by omega) h3
  rw [← eP,hex] at HN
  have hK:=(nmN_k (s.data.toList.drop p) ((nmN_D _).trans h3)).1
  refine (tkM s w hp hby (fun e=>b2 (nat_eq (d:=46) e)) HS HD HB HN).mono ?_
  rintro e w' ⟨rfl,hb⟩
  exact ⟨_,_,_,_,_,_,_,rfl,.inr ⟨hK,rfl,rfl,rfl,rfl,rfl,rfl,rfl,rfl⟩,hb⟩
 ·have hsg:sgF (s.data.toList.drop p)=(sgK i,(sgX i).size):=by
   rw [hdr] at h3 h4 ⊢
   exact sgF_yes hi h3 h4
  rw [hsg] at HS
  have hK:∀ i,i<10→sgK i≠2∧sgK i≠0:=by decide
  refine (tkS s w hp (by omega) (by omega) hex hw (by have:=(hK i hi).2;omega) HS).mono ?_
  rintro e w' ⟨rfl,hb⟩
  exact ⟨_,_,_,_,_,_,_,rfl,.inr ⟨(hK i hi).1,rfl,rfl,rfl,rfl,rfl,rfl,rfl,rfl⟩,hb⟩
theorem tokenN {s r:ByteArray} {p g:Nat} {code:Int} (w:World) (hs:s.size≤1048576) (hr:r.data.toList=s.data.toList.drop p) (hp:p<s.size) (hR:Rn DocErr r g code) :
  Calls Tryz.prog 16 #[.string s,.int .i64 (p:Int)] w fun e w'=>∃ (K:Int) (x:ByteArray) (f:Bool) (c:Option Addr) (n1 k1:Nat) (c':Option Addr) (n' k':Nat) (X cd:Int),e = .returned (.tuple #[.agg (tkC K x (.bool f) (.slice c n1 k1) (.slice c' n' k') 0 0 0),.int .i64 X,.int .i64 cd])∧cd≠0∧Below w.heap.size w w':=by
 unfold Rn at hR
 have hex:=ext_at (n:=litN r.data.toList) hr
 rw [hr] at hR hex
 have hby:=getD_get hp
 have hdr:=drop_byte hp
 have HS:=fun u=>signD5 s p u hp (by omega)
 have HD:=fun u=>digitD s p u hp
 have HB:=fun u=>nameByteD (s.data.toList.getD p 0) u
 rcases hR with ⟨h1,-,hE,hc⟩|⟨h1,h2,h3,-,-⟩
 ·have hsg:sgF (s.data.toList.drop p)=(0,0):=by rw [hdr];exact sgF_off (.inl (by rw [← hdr];exact h1))
  rw [hsg] at HS
  have HL:=fun u=>literalD s p u hp (by omega) h1
  have hb:=h1
  rw [hdr] at hb
  have hl:=litN_le (s.data.toList.drop p)
  rw [List.length_drop,len_list] at hl
  obtain ⟨n,en⟩:∃ n,n=litN (s.data.toList.drop p):=⟨_,rfl⟩
  rw [← en] at HL hE hex hl
  by_cases hn:n=0
  ·subst hn
   rcases beg_or hb with h|⟨h,h5⟩
   ·exfalso
    have h2:=litN_dg (t:=s.data.toList.drop (p+1)) h
    rw [← hdr,← en] at h2
    omega
   ·rw [h] at HD
    refine (tkP s w hp (by rw [hby,h5];rfl) HS HD HL).mono ?_
    rintro e w' ⟨rfl,hb⟩
    exact ⟨_,_,_,_,_,_,_,_,_,_,_,rfl,by decide,hb⟩
  ·have hcd:code≠0:=by
    rcases hc with ⟨_,rfl⟩|⟨_,rfl⟩|⟨_,rfl⟩ <;> decide
   refine (tkD (q:=0) (code:=code) s w hp (by omega) (by omega) hex ?_ HS HD HL (fun u=>(hE u).mono ?_)).mono ?_
   ·rcases beg_or hb with h|⟨h,h5⟩
    ·exact .inl h
    ·exact .inr ⟨h,by rw [hby,h5];rfl⟩
   ·rintro e u' ⟨rfl,hb⟩
    exact ⟨_,_,_,_,_,_,_,rfl,.inr ⟨hcd,rfl,rfl,rfl,rfl,rfl,rfl,rfl⟩,hb⟩
   ·rintro e w' ⟨f,c,n1,k1,c',n',k',rfl,-,hb⟩
    exact ⟨_,_,_,_,_,_,_,_,_,_,_,rfl,hcd,hb⟩
 ·have hsg:sgF (s.data.toList.drop p)=(0,0):=by rw [hdr] at h3 ⊢;exact sgF_no h3
  rw [hsg] at HS
  have hb:=h1
  rw [hdr] at hb
  obtain ⟨b1,b2⟩:=beg_no hb
  rw [b1] at HD
  have h2':=h2
  rw [hdr] at h2'
  simp only [List.getD_cons_zero] at h2'
  rw [h2'] at HB
  refine (tkX s w hp hby (fun e=>b2 (nat_eq (d:=46) e)) HS HD HB).mono ?_
  rintro e w' ⟨rfl,hb⟩
  exact ⟨_,_,_,_,_,_,_,_,_,_,_,rfl,by decide,hb⟩
end Go.Proofs.YtgdilnljjgdinaaGreatDoor
namespace Go.Proofs.YtgdilnljjgdinaaGreatDoor
open Go.RowKit Go.Shelf
def lnO (s:ByteArray) (p:Nat):Int:=1+(((s.data.toList.take p).count 10:Nat):Int)
def cnO (s:ByteArray) (p:Nat):Int:=cnF (s.data.toList.take p) 1
def Ock (D:ByteArray→Rat→Prop) (s:ByteArray):List Tok→Nat→Nat→Prop
 | [],p,p'=>p'=p
 | t::ts,p,p'=>t.l=lnO s p∧t.c=cnO s p∧0<t.x.size∧p+t.x.size≤s.size∧(∃ r:ByteArray,r.data.toList=s.data.toList.drop p∧r.extract 0 t.x.size=t.x∧Rd D r t.k t.x.size t.wd t.q)∧Ock D s ts (p+t.x.size+gpN (s.data.toList.drop (p+t.x.size))) p'
theorem ock_of {D:ByteArray→Rat→Prop} {s:ByteArray}:∀ {ts:List Tok} {r:ByteArray} {l c:Int} {R':ByteArray} {L' C':Int} {p:Nat},Pch D r l c ts R' L' C'→r.data.toList=s.data.toList.drop p→p≤s.size→l=lnO s p→c=cnO s p →
  ∃ p',Ock D s ts p p'∧p≤p'∧p'≤s.size∧R'.data.toList=s.data.toList.drop p'∧L'=lnO s p'∧C'=cnO s p'
 | [],r,l,c,R',L',C',p,h,hr,hp,hl,hc=>by
  obtain ⟨rfl,rfl,rfl⟩:=h
  exact ⟨p,rfl,Nat.le_refl _,hp,hr,hl,hc⟩
 | t::ts,r,l,c,R',L',C',p,h,hr,hp,hl,hc=>by
  obtain ⟨h0,h1,h2,h3,⟨n,hn,hx,hR⟩,r1,r2,e1,e2,hP⟩:=h
  have hxs:t.x.size=n:=by rw [← hx];exact ext0 r n hn
  have hrs:r.size=s.size-p:=by rw [← len_list,hr,List.length_drop,len_list]
  have hxl:t.x.data.toList=(s.data.toList.drop p).take n:=by rw [← hx,ext_front,hr]
  have h1l:r1.data.toList=s.data.toList.drop (p+n):=by rw [← e1,hxs,ext_back,hr,List.drop_drop]
  obtain ⟨g,hg⟩:∃ g,gpN r1.data.toList=g:=⟨_,rfl⟩
  have hgl:g≤s.size-(p+n):=by
   have:=gpN_le r1.data.toList
   rw [hg,h1l,List.length_drop,len_list] at this;exact this
  have h2l:r2.data.toList=s.data.toList.drop (p+n+g):=by rw [← e2,hg,ext_back,h1l,List.drop_drop]
  have hgb:(r1.extract 0 g).data.toList=(s.data.toList.drop (p+n)).take g:=by rw [ext_front,h1l]
  have htk:s.data.toList.take (p+n+g)=s.data.toList.take p++t.x.data.toList++(r1.extract 0 g).data.toList:=by
   rw [List.take_add,List.take_add,hxl,hgb]
  rw [hg] at hP
  obtain ⟨p',q1,q2,q3,q4,q5,q6⟩:=ock_of (p:=p+n+g) hP h2l (by omega) (by
   unfold ovL lnO
   rw [htk,List.count_append,List.count_append,hl,lnO]
   omega) (by
   rw [ovC_cn,ovC_cn,hc,cnO,cnO,htk,cnF_app,cnF_app])
  refine ⟨p',⟨h1.trans hl,h2.trans hc,h3,by omega,⟨r,hr,by rw [hxs];exact hx,by rw [hxs];exact hR⟩,?_⟩,by omega,q3,q4,q5,q6⟩
  rw [hxs,← h1l,hg];exact q1
theorem infTk:Inf 46 8 104:=inf_of (by kernel_rfl)
def TkO (W:World) (B:Nat) (v:List Value) (t:Tok):Prop:=∃ (f:Bool) (a1:Option Addr) (n1 k1:Nat) (a2:Option Addr) (n2 k2:Nat),v=(tkC (t.k:Nat) t.x (.bool f) (.slice a1 n1 k1) (.slice a2 n2 k2) (t.wd:Nat) t.l t.c).toList∧NumO W B t.k f a1 n1 k1 a2 n2 k2 t.q
theorem TkO.ku {W W':World} {B:Nat} {v:List Value} {t:Tok} (h:TkO W B v t) (u:Ku W W'):TkO W' B v t:=by
 obtain ⟨f,a1,n1,k1,a2,n2,k2,h1,h2⟩:=h
 exact ⟨f,a1,n1,k1,a2,n2,k2,h1,h2.ku u⟩
def OutD (W:World) (B:Nat) (v:Value) (ts:List Tok):Prop:=∃ E:Nat→List Value,SL W B 46 8 v ts.length E∧∀ i t,ts[i]? = some t→TkO W B (E i) t
def ScnD (w:World) (ts:List Tok) (e:Ending) (w':World):Prop:=∃ v l c cd,e = .returned (.tuple #[v,.int .i64 l,.int .i64 c,.int .i64 cd])∧OutD w' w.heap.size v ts∧Below w.heap.size w w'
theorem off_grw {R:Nat} {w w':World} (h:Off R w w'):w.grownBy w' (some R):=⟨h.os,h.tape,h.output,Nat.le_of_eq h.size.symm,fun k _ hk=>h.block k fun e=>hk (by rw [e])⟩
theorem Ku.of_sl {W W':World} {B:Nat} {T:TypeId} {c:Nat} {v:Value} {n:Nat} {E:Nat→List Value} (h:SL W B T c v n E) (hT:T≠113) (hg:W.grownBy W' v.ownBlock):Ku W W':=by
 obtain ⟨vs,h1,_⟩:=h
 exact Ku.of_grown h1 hT hg
set_option maxRecDepth 100000 in
set_option maxHeartbeats 8000000 in
theorem scanD {s:ByteArray} {ts:List Tok} {p':Nat} (w:World) (hs:s.size≤1048576) (hlen:ts.length≤s.size) (hO:Ock DcD s ts (gpN s.data.toList) p') (hend:p'=s.size∨(p'<s.size∧∃ (r:ByteArray) (g:Nat) (code:Int),r.data.toList=s.data.toList.drop p'∧Rn DocErr r g code)) :
  Calls Tryz.prog 6 #[.string s] w fun e w'=>ScnD w ts e w':=by
 have HG:=fun u=>GapD s 0 u (by omega) (by omega)
 simp only [List.drop_zero,Nat.zero_add] at HG
 have hg0:=gpN_le s.data.toList
 rw [len_list] at hg0
 have HEND:Hid (p'=s.size∨(p'<s.size∧∃ (r:ByteArray) (g:Nat) (code:Int),r.data.toList=s.data.toList.drop p'∧Rn DocErr r g code)):=hend
 have HO:Hid (Ock DcD s (ts.drop 0) (gpN s.data.toList) p'):=hO
 clear hend hO
 go_enter Tryz.func6,Tryz.ntmps6
 go_wp2_with fail
 refine (HG _).mono ?_
 rintro e w1 ⟨rfl,ez⟩
 subst w1
 clear HG
 obtain ⟨p0,hp0⟩:∃ p0,gpN s.data.toList=p0:=⟨_,rfl⟩
 rw [hp0] at HO hg0 ⊢
 clear hp0
 go_wp2
 go_loopw [6,7] (fun so sa wr=>∃ (i p:Nat) (E:Nat→List Value),i≤ts.length∧p≤s.size∧sa = .int .i64 (p:Nat)∧Hid (Ock DcD s (ts.drop i) p p')∧SL wr w.heap.size 46 8 so i E∧(∀ j t,j<i→ts[j]? = some t→TkO wr w.heap.size (E j) t)∧Below w.heap.size w wr) (fun _ x _=>s.size-(intOf x).toNat)
 case atStart=>exact ⟨0,p0,fun _=>[],Nat.zero_le _,hg0,rfl,HO,SL.nil _ _ _ _ _,fun j t hj=>by omega,Below.refl _ _⟩
 case round =>
  clear HO hg0
  obtain ⟨i,p,E,hi,hp,rfl,HO,hSL,hE,hbel⟩:=hrel
  obtain ⟨va,vc,rfl,hic⟩:=hSL.form
  by_cases hlt:p<s.size
  ·have hpI:(p:Int)<(s.size:Int):=by omega
   obtain ⟨ln,hln⟩:∃ ln,1+(((s.data.toList.take p).count 10:Nat):Int)=ln:=⟨_,rfl⟩
   obtain ⟨cn,hcn⟩:∃ cn,cnF (s.data.toList.take p) 1=cn:=⟨_,rfl⟩
   have HPl:=fun u=>PlaceD s p u hp (by omega) hln hcn
   cases hd:ts.drop i with
   | nil =>
    have hil:i=ts.length:=by have:=congrArg List.length hd;simp at this;omega
    subst hil
    have hpp:p'=p:=by have:=HO.out;rw [hd] at this;exact this
    subst hpp
    rcases HEND.out with h|⟨-,r,g,code,hr,hRn⟩
    ·omega
    have hTK:=tokenN wr hs hr hlt hRn
    clear HO hRn hd hln hcn
    go_wp2_with fail
    refine hTK.mono ?_
    clear hTK
    unfold tkC
    rintro e w2 ⟨K,x,f,c,n1,k1,c',n',k',X,cd,rfl,hcd,h2⟩
    have hcb:(cd == 0)=false:=by simpa using hcd
    have hb2:=h2.trans ((bel_d0 w2 (.cells #[.int .i64 K,.string x,.bool f,.slice c n1 k1,.slice c' n' k',.int .i64 0,.int .i64 0,.int .i64 0] 46)).mono h2.size)
    have hbf:=bel_tr hbel hb2
    have hSL2:=hSL.below hb2
    have hE2:∀ j t,j<ts.length→ts[j]? = some t→TkO (w2.alloc (.cells #[.int .i64 K,.string x,.bool f,.slice c n1 k1,.slice c' n' k',.int .i64 0,.int .i64 0,.int .i64 0] 46)) w.heap.size (E j) t:=fun j t h1 h3=>(hE j t h1 h3).ku (Ku.of_below hb2)
    clear h2 hb2 hSL hE
    go_wp2_with fail
    refine (HPl _).mono ?_
    clear HPl
    rintro e w3 ⟨rfl,ez⟩
    subst w3
    go_wp2
    exact bodyPost_ret (v:=.tuple #[.slice va ts.length vc,.int .i64 ln,.int .i64 cn,.int .i64 cd]) (by simp [results,Tryz.results6,go_sem]) rfl ⟨_,_,_,_,rfl,⟨E,hSL2,fun j t h=>hE2 j t (List.getElem?_eq_some_iff.1 h).1 h⟩,hbf⟩
   | cons t ts2 =>
    have hti:ts[i]? = some t:=by
     have:=congrArg (fun l=>l[0]?) hd
     simpa using this
    have hil:i<ts.length:=(List.getElem?_eq_some_iff.1 hti).1
    have hdr:ts.drop (i+1)=ts2:=by rw [← List.tail_drop,hd];rfl
    obtain ⟨hl,hc,h0,hle,⟨r,hr,hx,hR⟩,hN⟩:t.l=lnO s p∧t.c=cnO s p∧0<t.x.size∧p+t.x.size≤s.size∧(∃ r:ByteArray,r.data.toList=s.data.toList.drop p∧r.extract 0 t.x.size=t.x∧Rd DcD r t.k t.x.size t.wd t.q)∧Ock DcD s ts2 (p+t.x.size+gpN (s.data.toList.drop (p+t.x.size))) p':=by
     have:=HO.out
     rw [hd] at this
     exact this
    have hTK:=tokenD wr hs hr hlt h0 hle hR
    rw [hx] at hTK
    obtain rfl:t.l=ln:=hl.trans hln
    obtain rfl:t.c=cn:=hc.trans hcn
    have HG:=fun u=>GapD s (p+t.x.size) u hle (by omega)
    have hgl:=gpN_le (s.data.toList.drop (p+t.x.size))
    rw [List.length_drop,len_list] at hgl
    obtain ⟨P,hP⟩:∃ P,p+t.x.size+gpN (s.data.toList.drop (p+t.x.size))=P:=⟨_,rfl⟩
    rw [hP] at hN HG
    obtain ⟨Q,hQ⟩:∃ Q,p+t.x.size=Q:=⟨_,rfl⟩
    rw [hQ] at HG hTK hle
    have HN:Hid (Ock DcD s (ts.drop (i+1)) P p'):=by show Ock _ _ _ _ _;rw [hdr];exact hN
    have hPl:P≤s.size:=by omega
    have HPp:Hid (p<P):=by show p<P;omega
    have HT:Hid (ts[i]? = some t):=hti
    clear HO hR hd hdr hN hl hc hln hcn hx hr hP hQ hgl hti h0 HEND
    go_wp2_with fail
    refine hTK.mono ?_
    clear hTK
    unfold tkC
    rintro e w2 ⟨f,c,n1,k1,c',n',k',rfl,hNm,h2⟩
    have RT:=Rw.new 46 w2 #[.int .i64 (t.k:Nat),.string t.x,.bool f,.slice c n1 k1,.slice c' n' k',.int .i64 (t.wd:Nat),.int .i64 0,.int .i64 0]
    have hkz:=bel_d0 w2 (.cells #[.int .i64 (t.k:Nat),.string t.x,.bool f,.slice c n1 k1,.slice c' n' k',.int .i64 (t.wd:Nat),.int .i64 0,.int .i64 0] 46)
    have hb2:=h2.trans (hkz.mono h2.size)
    have hbf:=bel_tr hbel hb2
    have hSL2:=hSL.below hb2
    have hE2:∀ j t',j<i→ts[j]? = some t'→TkO (w2.alloc (.cells #[.int .i64 (t.k:Nat),.string t.x,.bool f,.slice c n1 k1,.slice c' n' k',.int .i64 (t.wd:Nat),.int .i64 0,.int .i64 0] 46)) w.heap.size (E j) t':=fun j t' h1 h3=>(hE j t' h1 h3).ku (Ku.of_below hb2)
    have hNm2:=(hNm.ku (Ku.of_below hkz)).mono hbel.size
    obtain ⟨T,eT⟩:∃ T,T=w2.heap.size:=⟨_,rfl⟩
    rw [← eT] at RT
    have hTw:w.heap.size≤T:=by have:=hbel.size;have:=h2.size;omega
    have HGT:Hid (∀ g,Value.ownBlock (.slice va i vc)=some g→g<T):=fun g hg=>by have:=(hSL.lt g hg).2;have:=h2.size;omega
    clear h2 hb2 hSL hE hNm hkz hbel
    go_wp2_with fail
    try rw [← eT]
    clear eT
    generalize w2.alloc (.cells #[.int .i64 (t.k:Nat),.string t.x,.bool f,.slice c n1 k1,.slice c' n' k',.int .i64 (t.wd:Nat),.int .i64 0,.int .i64 0] 46)=W2 at *
    refine (HPl _).mono ?_
    clear HPl
    rintro e w3 ⟨rfl,ez⟩
    subst w3
    obtain ⟨R1,O1⟩:=RT.cellset 6 (.int .i64 t.l)
    obtain ⟨R2,O2⟩:=R1.cellset 7 (.int .i64 t.c)
    have O:=O1.trans O2
    clear O1 O2
    have x6:=(RT.cell 6).trans (show _=some (.int .i64 0) from rfl)
    have f6:=RT.frozen 6
    have x7:=(R1.cell 7).trans (show _=some (.int .i64 0) from rfl)
    have f7:=R1.frozen 7
    have y0:=(R2.cell 0).trans (show _=some (.int .i64 (t.k:Nat)) from rfl)
    have y1:=(R2.cell 1).trans (show _=some (.string t.x) from rfl)
    have y2:=(R2.cell 2).trans (show _=some (.bool f) from rfl)
    have y3:=(R2.cell 3).trans (show _=some (.slice c n1 k1) from rfl)
    have y4:=(R2.cell 4).trans (show _=some (.slice c' n' k') from rfl)
    have y5:=(R2.cell 5).trans (show _=some (.int .i64 (t.wd:Nat)) from rfl)
    have y6:=(R2.cell 6).trans (show _=some (.int .i64 t.l) from rfl)
    have y7:=(R2.cell 7).trans (show _=some (.int .i64 t.c) from rfl)
    have hbf3:=hbf.trans (O.below hTw)
    have hKu3:Ku W2 ((W2.setCell ⟨T,6,none⟩ (.int .i64 t.l)).setCell ⟨T,7,none⟩ (.int .i64 t.c)):=Ku.of_off O (fun c e=>by rw [show W2.heap[T]? = _ from RT] at e;cases e)
    have hSL3:SL ((W2.setCell ⟨T,6,none⟩ (.int .i64 t.l)).setCell ⟨T,7,none⟩ (.int .i64 t.c)) w.heap.size 46 8 (.slice va i vc) i E:=hSL2.kept (off_grw O) (fun g e1 e2=>by have:=HGT.out g e1;simp only [Option.some.injEq] at e2;omega)
    have hE3:∀ j t',j<i→ts[j]? = some t'→TkO ((W2.setCell ⟨T,6,none⟩ (.int .i64 t.l)).setCell ⟨T,7,none⟩ (.int .i64 t.c)) w.heap.size (E j) t':=fun j t' h1 h3=>(hE2 j t' h1 h3).ku hKu3
    have hNm3:=hNm2.ku hKu3
    clear hSL2 hE2 hNm2 hKu3 O R2 R1 RT hbf
    have hil2:i≤100000000:=by omega
    generalize hU:((W2.setCell ⟨T,6,none⟩ (.int .i64 t.l)).setCell ⟨T,7,none⟩ (.int .i64 t.c))=U at *
    have hz4:=bel_d0 U (.cells #[.int .i64 (t.k:Nat),.string t.x,.bool f,.slice c n1 k1,.slice c' n' k',.int .i64 (t.wd:Nat),.int .i64 t.l,.int .i64 t.c] 46)
    have hws:=hbf3.size
    go_wp2_with (first
     | (at_builtin;refine wpList_appendS _ rfl _ _ 24 46 8 104 rfl Tryz.underlying24 infTk (by decide) (by decide) w.heap.size (.slice va i vc) i E rfl (hSL3.below hz4) U.heap.size _ rfl [.int .i64 (t.k:Nat),.string t.x,.bool f,.slice c n1 k1,.slice c' n' k',.int .i64 (t.wd:Nat),.int .i64 t.l,.int .i64 t.c] rfl (fun u hu=>by simp only [List.mem_cons,List.not_mem_nil,or_false] at hu;rcases hu with rfl|rfl|rfl|rfl|rfl|rfl|rfl|rfl <;> rfl) (box_new U #[.int .i64 (t.k:Nat),.string t.x,.bool f,.slice c n1 k1,.slice c' n' k',.int .i64 (t.wd:Nat),.int .i64 t.l,.int .i64 t.c] 46) (by omega) (by simp;omega) (U.heap.size+1) (by simp) ?_;intro g1 cap1 w6 SN hgrow hat hlt)
     | fail)
    have hKu4:=(Ku.of_below hz4).trans (Ku.of_sl (hSL3.below hz4) (by decide) hgrow)
    have hbf4:=hbf3.trans ((hz4.mono hws).trans (grown_below hgrow (by simp;omega) (fun k hk=>((hSL3.below hz4).lt k hk).1)))
    have hE5:∀ j t',j<i+1→ts[j]? = some t'→TkO w6 w.heap.size (if j<i then E j else [.int .i64 (t.k:Nat),.string t.x,.bool f,.slice c n1 k1,.slice c' n' k',.int .i64 (t.wd:Nat),.int .i64 t.l,.int .i64 t.c]) t':=fun j t' h1 h3=>by
     by_cases hj:j<i
     ·rw [if_pos hj]
      exact (hE3 j t' hj h3).ku hKu4
     ·rw [if_neg hj]
      obtain rfl:j=i:=by omega
      obtain rfl:t=t':=Option.some.inj (HT.out.symm.trans h3)
      exact ⟨f,c,n1,k1,c',n',k',rfl,hNm3.ku hKu4⟩
    clear hgrow hat hlt hz4 hE3 hNm3 hSL3 hbf3 hKu4 y0 y1 y2 y3 y4 y5 y6 y7 x6 x7 f6 f7 hU
    refine (HG _).mono ?_
    clear HG
    rintro e w7 ⟨rfl,ez⟩
    subst w7
    have hdc:s.size-P<s.size-p:=by have:=HPp.out;omega
    go_wp2
    go_roundw
    case rel=>exact ⟨i+1,P,_,by omega,hPl,by first|rfl|go_num,HN,SN,hE5,hbf4⟩
    case measure=>simp [intOf];omega
  ·have hpI:¬ (p:Int)<(s.size:Int):=by omega
   have hil:i=ts.length:=by
    cases hd:ts.drop i with
    | nil=>have:=congrArg List.length hd;simp at this;omega
    | cons t ts2 =>
     have:=HO.out
     rw [hd] at this
     obtain ⟨_,_,h0,hle,_⟩:=this
     omega
   subst hil
   clear HO HEND
   go_wp2
   exact bodyPost_ret (v:=.tuple #[.slice va ts.length vc,.int .i64 0,.int .i64 0,.int .i64 0]) (by simp [results,Tryz.results6,go_sem]) rfl ⟨_,_,_,_,rfl,⟨E,hSL,fun j t h=>hE j t (List.getElem?_eq_some_iff.1 h).1 h⟩,hbel⟩
end Go.Proofs.YtgdilnljjgdinaaGreatDoor
