import Derived.Test.YtgdilnljjgdinaaGreatDoorR5IAll
import Derived.Test.YtgdilnljjgdinaaGreatDoorLxTAll
import Derived.Test.YtgdilnljjgdinaaGreatDoorLyAAll
import Derived.Test.YtgdilnljjgdinaaGreatDoorLxFAll
namespace Go.Proofs.YtgdilnljjgdinaaGreatDoor
open Go.RowKit Go.Shelf
def PD (D:ByteArray→Rat→Prop) (E:ByteArray→Int→Prop):Prop:=∀ s:ByteArray,s.size≤1048576 →
 (∃ r S,S≤3000000∧(∀ w,TB w→Parses s r S w)∧D s r∧0<s.size)∨(Fails s 11∧E s 5)∨(Fails s 12∧E s 8)∨(Fails s 0∧E s 3)
end Go.Proofs.YtgdilnljjgdinaaGreatDoor
namespace Go.Proofs.YtgdilnljjgdinaaGreatDoor
open Go.RowKit Go.Shelf
set_option maxRecDepth 100000 in
set_option maxHeartbeats 4000000 in
theorem signE (s:ByteArray) (w:World) (hno:∀ j,j<10→(sgX j).data.toList.isPrefixOf s.data.toList=false) (hG:Sgs w) {ev:Value} (E:Errs w 4 ev) :
  Calls Tryz.prog 71 #[.string s] w fun e w'=>e = .returned (.tuple #[.agg #[.int .i64 0,.string ⟨#[]⟩,.bool false,.slice none 0 0,.slice none 0 0,.int .i64 0,.int .i64 0,.int .i64 0],ev])∧Below w.heap.size w w':=by
 have HP:∀ i u,Calls Tryz.prog 51 #[.string s,.string (sgX i)] u fun e w'=>e = .returned (.bool ((sgX i).data.toList.isPrefixOf s.data.toList))∧w'=u:=fun i u=>pfxQ s (sgX i) u
 have HNo:∀ i,i<10→∀ u,Calls Tryz.prog 51 #[.string s,.string (sgX i)] u fun e w'=>e = .returned (.bool false)∧w'=u:=fun i hi u=>by have:=HP i u;rwa [hno i hi] at this
 clear HP hno
 have hix:=ixS
 have hgl:(⟨4,0,none⟩:Addr).block<w.heap.size:=World.block_lt_of_cell? _ _ E.1
 have R0:=Rw.new 46 w #[.int .i64 0,.string ⟨#[]⟩,.bool false,.slice none 0 0,.slice none 0 0,.int .i64 0,.int .i64 0,.int .i64 0]
 have hb0:Below w.heap.size w (w.alloc (.cells #[.int .i64 0,.string ⟨#[]⟩,.bool false,.slice none 0 0,.slice none 0 0,.int .i64 0,.int .i64 0,.int .i64 0] 46)):=(Below.refl _ _).alloc (Nat.le_refl _) _
 replace hG:=hG.below hb0
 have hsz:w.heap.size+1≤(w.alloc (.cells #[.int .i64 0,.string ⟨#[]⟩,.bool false,.slice none 0 0,.slice none 0 0,.int .i64 0,.int .i64 0,.int .i64 0] 46)).heap.size:=by simp
 go_enter Tryz.func71,Tryz.ntmps71
 go_wp2_with (refine hG.step rfl _ rfl rfl ?_)
 generalize w.alloc (.cells #[.int .i64 0,.string ⟨#[]⟩,.bool false,.slice none 0 0,.slice none 0 0,.int .i64 0,.int .i64 0,.int .i64 0] 46)=W0 at *
 go_loopw [7] (fun v wr=>∃ i:Nat,i≤10∧v = .int .i64 i∧Rw 46 wr w.heap.size #[.int .i64 0,.string ⟨#[]⟩,.bool false,.slice none 0 0,.slice none 0 0,.int .i64 0,.int .i64 0,.int .i64 0]∧w.heap.size+1≤wr.heap.size∧Below w.heap.size w wr) (fun v _=>10-(intOf v).toNat)
 case atStart=>exact ⟨0,by omega,rfl,R0,hsz,hb0⟩
 case round =>
  clear R0 hb0 hsz hG
  obtain ⟨i,hi,rfl,R0,hsz,hb⟩:=hrel
  by_cases he:i<10
  ·have hil:(i:Int)<10:=by omega
   have hw1:IntKind.i64.wrap ((i:Int)+1)=(i:Int)+1:=by rw [IntKind.wrap_i64];omega
   have hx:=hix i (by omega)
   have HNi:=HNo i he
   clear hix HNo E
   go_wp2_with fail
   refine (HNi _).mono ?_
   rintro e w2 ⟨rfl,rfl⟩
   have R1:=R0.alloc (.cells #[.string (sgX i),.int .i64 (sgK i:Nat)] 151)
   have hb1:=hb.alloc (by omega) (.cells #[.string (sgX i),.int .i64 (sgK i:Nat)] 151)
   go_wp2
   go_roundw
   case rel=>exact ⟨i+1,by omega,by go_num,R1,by simp;omega,hb1⟩
   case measure=>simp [intOf];omega
  ·have hil:¬ (i:Int)<10:=by omega
   obtain rfl:i=10:=by omega
   replace E:=E.below hb
   obtain ⟨ec,p,rfl⟩:=E
   have HB:∀ u:World,Below w.heap.size wr u→u.cell? ⟨4,0,none⟩=some (.iface 249 (.pointer (some p))):=fun u hu=>(hu.cell hgl).trans ec
   have r0:wr.cell? ⟨w.heap.size,0,none⟩=some (.int .i64 0):=R0.cell 0
   have q0:wr.frozen? ⟨w.heap.size,0,none⟩=false:=R0.frozen 0
   have r1:wr.cell? ⟨w.heap.size,1,none⟩=some (.string ⟨#[]⟩):=R0.cell 1
   have q1:wr.frozen? ⟨w.heap.size,1,none⟩=false:=R0.frozen 1
   have r2:wr.cell? ⟨w.heap.size,2,none⟩=some (.bool false):=R0.cell 2
   have q2:wr.frozen? ⟨w.heap.size,2,none⟩=false:=R0.frozen 2
   have r3:wr.cell? ⟨w.heap.size,3,none⟩=some (.slice none 0 0):=R0.cell 3
   have q3:wr.frozen? ⟨w.heap.size,3,none⟩=false:=R0.frozen 3
   have r4:wr.cell? ⟨w.heap.size,4,none⟩=some (.slice none 0 0):=R0.cell 4
   have q4:wr.frozen? ⟨w.heap.size,4,none⟩=false:=R0.frozen 4
   have r5:wr.cell? ⟨w.heap.size,5,none⟩=some (.int .i64 0):=R0.cell 5
   have q5:wr.frozen? ⟨w.heap.size,5,none⟩=false:=R0.frozen 5
   have r6:wr.cell? ⟨w.heap.size,6,none⟩=some (.int .i64 0):=R0.cell 6
   have q6:wr.frozen? ⟨w.heap.size,6,none⟩=false:=R0.frozen 6
   have r7:wr.cell? ⟨w.heap.size,7,none⟩=some (.int .i64 0):=R0.cell 7
   have q7:wr.frozen? ⟨w.heap.size,7,none⟩=false:=R0.frozen 7
   have HR0:Hid (Rw 46 wr w.heap.size #[.int .i64 0,.string ⟨#[]⟩,.bool false,.slice none 0 0,.slice none 0 0,.int .i64 0,.int .i64 0,.int .i64 0]):=R0
   have hnn:¬ w.heap.size=4:=by have:4<w.heap.size:=hgl;omega
   clear hix HNo R0
   go_wp2_with fail
   go_region_held3 (fun w'=>w'.cell? ⟨4,0,none⟩=some (.iface 249 (.pointer (some p))))
    (with_reducible refine HB _ ?_;repeat' (first|with_reducible exact Below.refl _ _|with_reducible refine bel_dr ?_|with_reducible refine bel_c ?_ ?_|omega))
    (fail)
   clear r0 q0 r1 q1 r2 q2 r3 q3 r4 q4 r5 q5 r6 q6 r7 q7 HB ec
   obtain ⟨RB0,OB⟩:=HR0.out.set8 (.int .i64 0) (.string ⟨#[]⟩) (.bool false) (.slice none 0 0) (.slice none 0 0) (.int .i64 0) (.int .i64 0) (.int .i64 0)
   have RB:=RB0.below (bel_d1 _)
   have bB:=bel_dr (hb.trans (OB.below (B:=w.heap.size) (Nat.le_refl _)))
   clear RB0 OB HR0
   generalize ((((((((wr.setCell ⟨w.heap.size,0,none⟩ (.int .i64 0)).setCell ⟨w.heap.size,1,none⟩ (.string ⟨#[]⟩)).setCell ⟨w.heap.size,2,none⟩ (.bool false)).setCell ⟨w.heap.size,3,none⟩ (.slice none 0 0)).setCell ⟨w.heap.size,4,none⟩ (.slice none 0 0)).setCell ⟨w.heap.size,5,none⟩ (.int .i64 0)).setCell ⟨w.heap.size,6,none⟩ (.int .i64 0)).setCell ⟨w.heap.size,7,none⟩ (.int .i64 0)).drew=WB at *
   go_wp2
   exact bodyPost_ret (RB.ret2 Tryz.results71 _ rfl Tryz.underlying46 tkI) rfl ⟨rfl,bB⟩
set_option maxRecDepth 100000 in
set_option maxHeartbeats 4000000 in
theorem read_char (s:ByteArray) (hs:s.size≤100000000) (h0:0<s.size) (hB:begL s.data.toList=false) (hC:nmB.contains (s.data.toList.getD 0 0)=false) (hno:∀ j,j<10→(sgX j).data.toList.isPrefixOf s.data.toList=false):ReadNo s 4:=by
 intro w ev E hT
 have HB:=fun u=>begQ s u (by omega) h0
 rw [hB] at HB
 have HI:=fun u=>nm_idx (s.data.toList.getD 0 0) u
 have hi:¬ 0≤Lib.indexByte nmB (s.data.toList.getD 0 0):=fun h=>by have:=(idx_nm _).1 h;rw [hC] at this;cases this
 have hby:=getD_get h0
 have h0I:(0:Int)<(s.size:Int):=by omega
 generalize Lib.indexByte nmB (s.data.toList.getD 0 0)=q at *
 generalize ((s.data.toList.getD 0 0).toNat:Int)=C at *
 have HN:=fun u (hu:Sgs u) (hE:Errs u 4 ev)=>signE s u hno hu hE
 clear hB hC hno
 have R0:=Rw.new 46 w #[.int .i64 0,.string ⟨#[]⟩,.bool false,.slice none 0 0,.slice none 0 0,.int .i64 0,.int .i64 0,.int .i64 0]
 have hb:Below w.heap.size w (w.alloc (.cells #[.int .i64 0,.string ⟨#[]⟩,.bool false,.slice none 0 0,.slice none 0 0,.int .i64 0,.int .i64 0,.int .i64 0] 46)):=(Below.refl _ _).alloc (Nat.le_refl _) _
 have hsz:w.heap.size+1≤(w.alloc (.cells #[.int .i64 0,.string ⟨#[]⟩,.bool false,.slice none 0 0,.slice none 0 0,.int .i64 0,.int .i64 0,.int .i64 0] 46)).heap.size:=by simp
 replace hT:=hT.below hb
 replace E:=E.below hb
 go_enter Tryz.func38,Tryz.ntmps38
 go_wp2_with fail
 generalize w.alloc (.cells #[.int .i64 0,.string ⟨#[]⟩,.bool false,.slice none 0 0,.slice none 0 0,.int .i64 0,.int .i64 0,.int .i64 0] 46)=W0 at *
 refine (HB _).mono ?_
 rintro e w1 ⟨rfl,hb1⟩
 replace hT:=hT.below hb1
 replace E:=E.below hb1
 replace R0:=R0.below hb1
 replace hb:=bel_tr hb hb1
 replace hsz:=Nat.le_trans hsz hb1.size
 clear HB hb1
 go_wp2_with fail
 refine (HI _).mono ?_
 rintro e w2 ⟨rfl,rfl⟩
 clear HI
 go_wp2_with fail
 refine (HN _ hT.S E).mono ?_
 rintro e w3 ⟨rfl,hb1⟩
 replace R0:=R0.below hb1
 replace hb:=bel_tr hb hb1
 replace hsz:=Nat.le_trans hsz hb1.size
 obtain ⟨p,rfl⟩:=E.2
 clear HN hb1 hT E
 go_wp2_with (refine R0.put #[.int .i64 0,.string ⟨#[]⟩,.bool false,.slice none 0 0,.slice none 0 0,.int .i64 0,.int .i64 0,.int .i64 0] rfl _ _ rfl rfl rfl tkI rfl (tkC_one 0 ⟨#[]⟩ 0 0 0 rfl rfl rfl) ?_)
 intro w4 R2 O
 have hb3:=hb.trans (O.below (B:=w.heap.size) (Nat.le_refl _))
 go_wp2
 exact bodyPost_ret (R2.ret2 Tryz.results38 _ rfl Tryz.underlying46 tkI) rfl ⟨rfl,hb3⟩
end Go.Proofs.YtgdilnljjgdinaaGreatDoor
namespace Go.Proofs.YtgdilnljjgdinaaGreatDoor
open Go.RowKit Go.Shelf
def Rd (D:ByteArray→Rat→Prop) (r:ByteArray) (k n wd:Nat) (q:Rat):Prop :=
 (begL r.data.toList=true∧k=2∧n=litN r.data.toList∧wd=0∧(∃ S,S≤3000000∧∀ w,TB w→Parses (r.extract 0 n) q S w)∧D (r.extract 0 n) q) ∨
 (begL r.data.toList=false∧nmB.contains (r.data.toList.getD 0 0)=true∧nmN r.data.toList=(k,wd,n)∧q=0) ∨
 (begL r.data.toList=false∧nmB.contains (r.data.toList.getD 0 0)=false∧wd=0∧q=0∧∃ i,i<10∧(sgX i).data.toList.isPrefixOf r.data.toList=true∧(∀ j,j<i→(sgX j).data.toList.isPrefixOf r.data.toList=false)∧k=sgK i∧n=(sgX i).size)
def Rn (E:ByteArray→Int→Prop) (r:ByteArray) (g:Nat) (code:Int):Prop :=
 (begL r.data.toList=true∧Fails (r.extract 0 (litN r.data.toList)) g∧E (r.extract 0 (litN r.data.toList)) code∧((g=11∧code=5)∨(g=12∧code=8)∨(g=0∧code=3))) ∨
 (begL r.data.toList=false∧nmB.contains (r.data.toList.getD 0 0)=false∧(∀ j,j<10→(sgX j).data.toList.isPrefixOf r.data.toList=false)∧g=4∧code=7)
theorem nmN_k (l:List UInt8) {K WD N:Nat} (h:nmN l=(K,WD,N)):K≠2∧(K=1∨K=9)∧N≤l.length:=by
 have h1:=ldL_le l nmB
 have h2:=pairN_le l
 unfold nmN at h
 split at h
 ·cases h;exact ⟨by decide,.inr rfl,h1⟩
 ·split at h
  ·cases h;exact ⟨by decide,.inr rfl,h2⟩
  ·cases h;exact ⟨by decide,.inl rfl,h1⟩
theorem ld_pos {l cs:List UInt8} (h0:0<l.length) (h:cs.contains (l.getD 0 0)=true):0<ldL l cs:=by
 cases l with
 | nil=>cases h0
 | cons b l=>rw [ldL_pos (by simpa using h)];omega
theorem nmN_pos {l:List UInt8} (h0:0<l.length) (hc:nmB.contains (l.getD 0 0)=true) {K WD N:Nat} (h:nmN l=(K,WD,N)):0<N:=by
 have h1:=ld_pos h0 hc
 have h2:ldL l nmB≤pairN l:=by unfold pairN;omega
 unfold nmN at h
 split at h
 ·cases h;exact h1
 ·split at h
  ·cases h;omega
  ·cases h;exact h1
theorem sg_first (l:List UInt8):∀ m,(∀ j,j<m→(sgX j).data.toList.isPrefixOf l=false)∨∃ i,i<m∧(sgX i).data.toList.isPrefixOf l=true∧∀ j,j<i→(sgX j).data.toList.isPrefixOf l=false
 | 0=>.inl fun j h=>absurd h (by omega)
 | m+1=>by
  rcases sg_first l m with h|⟨i,h1,h2⟩
  ·cases e:(sgX m).data.toList.isPrefixOf l with
   | true=>exact .inr ⟨m,by omega,e,h⟩
   | false =>
    refine .inl fun j hj=>?_
    by_cases hm:j=m
    ·subst hm;exact e
    ·exact h j (by omega)
  ·exact .inr ⟨i,by omega,h2⟩
theorem sgX_size:∀ i,i<10→0<(sgX i).size:=by decide
theorem rd_all {D:ByteArray→Rat→Prop} {E:ByteArray→Int→Prop} (hD:PD D E) (r:ByteArray) (hs:r.size≤1048576) (h0:0<r.size) :
  (∃ k n wd q,Rd D r k n wd q∧0<n∧n≤r.size∧ReadOk r k n wd q)∨(∃ g code,Rn E r g code∧ReadNo r g):=by
 have hl:r.data.toList.length=r.size:=len_list r
 cases hB:begL r.data.toList with
 | true =>
  have hn:=litN_le r.data.toList
  rw [hl] at hn
  have hes:=size_extract r 0 (litN r.data.toList) (by omega)
  rcases hD (r.extract 0 (litN r.data.toList)) (by omega) with ⟨q,S,h1,h3,h4,h5⟩|⟨h1,h2⟩|⟨h1,h2⟩|⟨h1,h2⟩
  ·exact .inl ⟨2,litN r.data.toList,0,q,.inl ⟨hB,rfl,rfl,rfl,⟨S,h1,h3⟩,h4⟩,by omega,hn,read_num r (by omega) h0 hB h3 h1⟩
  ·exact .inr ⟨_,5,.inl ⟨hB,h1,h2,.inl ⟨rfl,rfl⟩⟩,read_no r (by omega) h0 hB h1⟩
  ·exact .inr ⟨_,8,.inl ⟨hB,h1,h2,.inr (.inl ⟨rfl,rfl⟩)⟩,read_no r (by omega) h0 hB h1⟩
  ·exact .inr ⟨_,3,.inl ⟨hB,h1,h2,.inr (.inr ⟨rfl,rfl⟩)⟩,read_no r (by omega) h0 hB h1⟩
 | false =>
  cases hC:nmB.contains (r.data.toList.getD 0 0) with
  | true =>
   obtain ⟨⟨K,WD,N⟩,hK⟩:∃ x,nmN r.data.toList=x:=⟨_,rfl⟩
   have hk:=nmN_k _ hK
   exact .inl ⟨K,N,WD,0,.inr (.inl ⟨hB,hC,hK,rfl⟩),nmN_pos (by omega) hC hK,by omega,read_name r (by omega) h0 hB hC hK hk.1⟩
  | false =>
   rcases sg_first r.data.toList 10 with h|⟨i,h1,h2,h3⟩
   ·exact .inr ⟨_,7,.inr ⟨hB,hC,h,rfl,rfl⟩,read_char r (by omega) h0 hB hC h⟩
   ·refine .inl ⟨sgK i,(sgX i).size,0,0,.inr (.inr ⟨hB,hC,rfl,rfl,i,h1,h2,h3,rfl,rfl⟩),sgX_size i h1,?_,read_sign r (by omega) h0 hB hC i h1 h2 h3⟩
    obtain ⟨t,ht⟩:=List.isPrefixOf_iff_prefix.1 h2
    have:=congrArg List.length ht
    rw [List.length_append,hl,len_list] at this
    omega
end Go.Proofs.YtgdilnljjgdinaaGreatDoor
namespace Go.Proofs.YtgdilnljjgdinaaGreatDoor
open Go.RowKit Go.Shelf
def Pch (D:ByteArray→Rat→Prop) (r:ByteArray) (l c:Int):List Tok→ByteArray→Int→Int→Prop
 | [],r',l',c'=>r'=r∧l'=l∧c'=c
 | t::ts,r',l',c'=>0<r.size∧t.l=l∧t.c=c∧0<t.x.size∧(∃ n,n≤r.size∧r.extract 0 n=t.x∧Rd D r t.k n t.wd t.q) ∧
   ∃ r1 r2,r.extract t.x.size r.size=r1∧r1.extract (gpN r1.data.toList) r1.size=r2 ∧
    Pch D r2 (ovL (r1.extract 0 (gpN r1.data.toList)) (ovL t.x l)) (ovC (r1.extract 0 (gpN r1.data.toList)) (ovC t.x c)) ts r' l' c'
theorem ovL_bd {x:ByteArray} {l:Int} (h:0≤l):0≤ovL x l∧ovL x l≤l+x.size:=by
 unfold ovL
 have:=List.count_le_length (a:=(10:UInt8)) (l:=x.data.toList)
 rw [len_list] at this
 omega
theorem ovC_bd {x:ByteArray} {c:Int} (h:0≤c):0≤ovC x c∧ovC x c≤c+x.size+1:=by
 unfold ovC
 have:=last_bd x
 split
 ·omega
 ·omega
theorem ext0 (r:ByteArray) (n:Nat) (h:n≤r.size):(r.extract 0 n).size=n:=by rw [size_extract _ _ _ h];omega
theorem chn_all {D:ByteArray→Rat→Prop} {E:ByteArray→Int→Prop} (hD:PD D E):∀ (N:Nat) (r:ByteArray) (l c:Int),r.size≤N→r.size≤1048576→0≤l→l+2*r.size≤100000000→0≤c→c+4*r.size≤100000000 →
  ∃ ts R' L' C',Chn r l c ts R' L' C'∧Pch D r l c ts R' L' C'∧ts.length≤r.size∧R'.size≤r.size∧(R'.size=0∨(0<R'.size∧∃ g code,Rn E R' g code∧ReadNo R' g)):=by
 intro N
 induction N with
 | zero =>
  intro r l c h1 h2 h3 h4 h5 h6
  exact ⟨[],r,l,c,Chn.nil _ _ _,⟨rfl,rfl,rfl⟩,Nat.zero_le _,Nat.le_refl _,.inl (by omega)⟩
 | succ N ih =>
  intro r l c h1 h2 h3 h4 h5 h6
  by_cases h0:0<r.size
  ·rcases rd_all hD r h2 h0 with ⟨k,n,wd,q,hR,hn,hnr,hO⟩|⟨g,code,hR,hO⟩
   ·obtain ⟨x,hx⟩:∃ x,r.extract 0 n=x:=⟨_,rfl⟩
    have hxs:x.size=n:=by rw [← hx];exact ext0 r n hnr
    obtain ⟨r1,e2⟩:∃ r1,r.extract x.size r.size=r1:=⟨_,rfl⟩
    have hr1:r1.size=r.size-n:=by rw [← e2,size_extract _ _ _ (Nat.le_refl _),hxs]
    obtain ⟨g,e5⟩:∃ g,gpN r1.data.toList=g:=⟨_,rfl⟩
    have hg:g≤r1.size:=by rw [← e5,← len_list];exact gpN_le _
    obtain ⟨b,e6⟩:∃ b,r1.extract 0 g=b:=⟨_,rfl⟩
    have hbs:b.size=g:=by rw [← e6];exact ext0 r1 g hg
    obtain ⟨r2,e7⟩:∃ r2,r1.extract g r1.size=r2:=⟨_,rfl⟩
    have hr2:r2.size=r1.size-g:=by rw [← e7,size_extract _ _ _ (Nat.le_refl _)]
    have e1:r.extract 0 x.size=x:=by rw [hxs];exact hx
    have a1:=ovL_bd (x:=x) h3
    have a2:=ovC_bd (x:=x) h5
    have a3:=ovL_bd (x:=b) a1.1
    have a4:=ovC_bd (x:=b) a2.1
    obtain ⟨ts,R',L',C',p1,p2,p3,p4,p5⟩:=ih r2 (ovL b (ovL x l)) (ovC b (ovC x c)) (by omega) (by omega) a3.1 (by omega) a4.1 (by omega)
    refine ⟨⟨k,x,wd,l,c,q⟩::ts,R',L',C',?_,?_,by simp;omega,by omega,p5⟩
    ·exact Chn.cons h0 (by omega) hnr hx hO ⟨h3,by omega⟩ ⟨h5,by omega⟩ ⟨a1.1,by omega⟩ ⟨a2.1,by omega⟩ e1 e2 rfl rfl e5 e6 e7 rfl rfl (by omega) p1
    ·refine ⟨h0,rfl,rfl,by show 0<x.size;omega,⟨n,hnr,hx,hR⟩,r1,r2,e2,by rw [e5];exact e7,?_⟩
     rw [e5,e6];exact p2
   ·exact ⟨[],r,l,c,Chn.nil _ _ _,⟨rfl,rfl,rfl⟩,Nat.zero_le _,Nat.le_refl _,.inr ⟨h0,g,code,hR,hO⟩⟩
  ·exact ⟨[],r,l,c,Chn.nil _ _ _,⟨rfl,rfl,rfl⟩,Nat.zero_le _,Nat.le_refl _,.inl (by omega)⟩
end Go.Proofs.YtgdilnljjgdinaaGreatDoor
