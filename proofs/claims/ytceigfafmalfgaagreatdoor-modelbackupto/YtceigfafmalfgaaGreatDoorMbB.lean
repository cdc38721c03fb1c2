import Derived.Test.YtceigfafmalfgaaGreatDoorMbA
namespace Go.Proofs.YtceigfafmalfgaaGreatDoor
open Go.RowKit Go.Maps
set_option maxRecDepth 100000 in
set_option maxHeartbeats 8000000 in
theorem termsU {w:World} {B p q b:Nat} {D:DataW Value} {ns:List ByteArray} {ia:Option Addr} {n ic:Nat} {I:Nat→PI} {Z:Nat→Nat} (h:Pl w B p q b D ns) {wt:World} (hbt:Below wt.heap.size wt w) (hI:LI wt ia n I Z) (hz:∀ i,i<n→(I i).nm.size≤1000000000) (hn:n≤1048580) (u:Nat) (hun:u≤n) (hU:∀ i,i<u→¬ (I i).nm ∈ ns) (J:Nat→Nat) (hJ:∀ i,i+u<n→ns[J i]? = some (I (i+u)).nm) (_hl:ns.length≤1048580) :
  Calls Tryz.prog 33 #[.slice ia n ic,.map (some b)] w fun e w'=>∃ a cap E,e = .returned (.slice a (n-u) cap)∧SL w' w.heap.size 56 4 (.slice a (n-u) cap) (n-u) E∧(∀ i,i<n-u→TQ wt (E i) ⟨(J i:Int),(I (i+u)).coef⟩ (Z (i+u)))∧n-u≤cap∧Below w.heap.size w w':=by
 have HJ:Hid (∀ i,i+u<n→ns[J i]? = some (I (i+u)).nm):=hJ
 have HU:Hid (∀ i,i<u→¬ (I i).nm ∈ ns):=hU
 have HZ:Hid (∀ i,i<n→(I i).nm.size≤1000000000):=hz
 clear hJ hz hU
 go_enter Tryz.func33,Tryz.ntmps33
 go_wp2
 go_loopw [5,12] (fun s5 s12 wr=>∃ (j:Nat) (E:Nat→List Value),j≤n∧s12 = .int .i64 j∧SL wr w.heap.size 56 4 s5 (j-u) E∧(∀ i,i<j-u→∃ pc ac nc cc dc mc lc,E i=[.int .i64 (J i:Int),.bool pc,.slice ac nc cc,.slice dc mc lc]∧TR wt pc ac nc cc dc mc lc (I (i+u)).coef (Z (i+u)))∧Below w.heap.size w wr) (fun _ s12 _=>n-(intOf s12).toNat)
 case atStart=>exact ⟨0,fun _=>[],Nat.zero_le _,rfl,by rw [Nat.zero_sub];exact SL.nil _ _ _ _ _,fun i hi=>by omega,Below.refl _ _⟩
 case round =>
  obtain ⟨j,E,hj,rfl,hS,hE,hB⟩:=hrel
  obtain ⟨ga,gc,rfl,hgc⟩:=hS.form
  by_cases hlt:j<n
  ·have hkI:(j:Int)<(n:Int):=by omega
   have hkI2:(j:Int)*6=((j*6:Nat):Int):=by omega
   have hzj:=HZ.out j hlt
   have hTz:∃ x,x=j:=⟨_,rfl⟩
   by_cases hju:j<u
   ·have hnj:=HU.out j hju
    rcases hI with h0|⟨tb,to,eia,hel⟩
    ·omega
    have hT:=hel j hlt
    have hBt:Below wt.heap.size wt wr:=hbt.trans (hB.mono hbt.size)
    obtain ⟨pC,aC,nC,cC,dC,mC,lC,x0,x1,x2,hC⟩:=hT.coef
    obtain ⟨nm,enm⟩:∃ x,x=(I j).nm:=⟨_,rfl⟩
    obtain ⟨ln,eln⟩:∃ x,x=(I j).ln:=⟨_,rfl⟩
    obtain ⟨cl,ecl⟩:∃ x,x=(I j).cl:=⟨_,rfl⟩
    have x3:=kept_c hBt hT.nm
    have x4:=kept_c hBt hT.ln
    have x5:=kept_c hBt hT.cl
    replace x0:=kept_c hBt x0
    replace x1:=kept_c hBt x1
    replace x2:=kept_c hBt x2
    rw [← enm] at x3 hzj hnj
    rw [← eln] at x4
    rw [← ecl] at x5
    clear hel hT enm eln ecl
    rw [eia]
    have hz0:=bel_d0 wr (.cells #[.bool pC,.slice aC nC cC,.slice dC mC lC,.string nm,.int .i64 ln,.int .i64 cl] 59)
    have O4:=own_below h.own (bel_tr hB hz0)
    have hh0:Maps.has D (kS nm)=false:=by
     cases e:Maps.has D (kS nm)
     ·rfl
     ·exact absurd ((h.has nm).1 e) hnj
    obtain ⟨x,y,hrun,hx⟩:=O4.look_ok (string_keyed Tryz.underlying9) (t:=67) (e:=3) Tryz.underlying67 (z:=.int .i64 0) (Tryz.zeroValue3 _) (zd:=.held (.int .i64 0)) (zp:=[]) rfl (keyS hzj)
    rw [hh0] at hrun
    rw [atKey_of_not_has hh0] at hx
    simp only [rawR,Option.some.injEq,Prod.mk.injEq,DataW.held.injEq] at hx
    obtain ⟨rfl,_⟩:=hx
    have SN:=hS.below hz0
    have BN:Below w.heap.size w _:=bel_tr hB hz0
    have N4:=box_new wr #[.bool pC,.slice aC nC cC,.slice dC mC lC,.string nm,.int .i64 ln,.int .i64 cl] 59
    have n3:=N4 3 _ rfl
    have eju:j+1-u=j-u:=by omega
    rw [← eju] at SN hE
    obtain ⟨m1,em1⟩:∃ m1,m1=j-u:=⟨_,rfl⟩
    rw [← em1]
    have HE1:Hid (m1=j+1-u):=em1.trans eju.symm
    clear em1 eju
    clear hS hB hz0 O4 N4 hC
    go_wp2
    go_roundw
    case rel=>rw [HE1.out];first|exact ⟨j+1,by omega,by go_num,⟨_,SN,hE⟩,BN⟩|exact ⟨j+1,E,by omega,by go_num,SN,hE,BN⟩|((repeat apply Exists.intro);refine ⟨?_,rfl⟩;exact ⟨j+1,E,by omega,by go_num,SN,hE,BN⟩)
    case measure=>simp [intOf];omega
   obtain ⟨v0,ev0⟩:∃ v0,v0=j-u:=⟨_,rfl⟩
   have HV0:Hid (j=v0+u):=by show j=v0+u;omega
   have hv0:v0≤1048580:=by omega
   have hJj:=HJ.out v0 (by omega)
   rw [← HV0.out] at hJj
   rw [← ev0] at hS hE ⊢
   clear ev0
   rcases hI with h0|⟨tb,to,eia,hel⟩
   ·omega
   have hT:=hel j hlt
   have hBt:Below wt.heap.size wt wr:=hbt.trans (hB.mono hbt.size)
   obtain ⟨pC,aC,nC,cC,dC,mC,lC,x0,x1,x2,hC⟩:=hT.coef
   obtain ⟨nm,enm⟩:∃ x,x=(I j).nm:=⟨_,rfl⟩
   obtain ⟨ln,eln⟩:∃ x,x=(I j).ln:=⟨_,rfl⟩
   obtain ⟨cl,ecl⟩:∃ x,x=(I j).cl:=⟨_,rfl⟩
   have x3:=kept_c hBt hT.nm
   have x4:=kept_c hBt hT.ln
   have x5:=kept_c hBt hT.cl
   replace x0:=kept_c hBt x0
   replace x1:=kept_c hBt x1
   replace x2:=kept_c hBt x2
   rw [← enm] at x3 hzj hJj
   rw [← eln] at x4
   rw [← ecl] at x5
   clear hel hT enm eln ecl
   rw [eia]
   obtain ⟨v,ev⟩:∃ v,v=J v0:=⟨_,rfl⟩
   have EV:Hid (v=J v0):=ev
   rw [← ev] at hJj
   clear ev
   have hvl:v<ns.length:=(List.getElem?_eq_some_iff.1 hJj).1
   have hz0:=bel_d0 wr (.cells #[.bool pC,.slice aC nC cC,.slice dC mC lC,.string nm,.int .i64 ln,.int .i64 cl] 59)
   have O4:=own_below h.own (bel_tr hB hz0)
   obtain ⟨x,y,hrun,hx⟩:=O4.look_ok (string_keyed Tryz.underlying9) (t:=67) (e:=3) Tryz.underlying67 (z:=.int .i64 0) (Tryz.zeroValue3 _) (zd:=.held (.int .i64 0)) (zp:=[]) rfl (keyS hzj)
   rw [(h.has nm).2 (List.mem_of_getElem? hJj)] at hrun
   rw [h.idx v nm hJj] at hx
   simp only [rawR,Option.some.injEq,Prod.mk.injEq,DataW.held.injEq] at hx
   obtain ⟨rfl,_⟩:=hx
   have hSA:=hS.below (bel_tr hz0 (bel_d0 (wr.alloc (.cells #[.bool pC,.slice aC nC cC,.slice dC mC lC,.string nm,.int .i64 ln,.int .i64 cl] 59)) (.cells #[.int .i64 (v:Int),.bool pC,.slice aC nC cC,.slice dC mC lC] 56)))
   have N4:=box_new wr #[.bool pC,.slice aC nC cC,.slice dC mC lC,.string nm,.int .i64 ln,.int .i64 cl] 59
   have n0:=N4 0 _ rfl
   have n1:=N4 1 _ rfl
   have n2:=N4 2 _ rfl
   have n3:=N4 3 _ rfl
   have hsb:=hB.size
   have N5:=box_new (wr.alloc (.cells #[.bool pC,.slice aC nC cC,.slice dC mC lC,.string nm,.int .i64 ln,.int .i64 cl] 59)) #[.int .i64 (v:Int),.bool pC,.slice aC nC cC,.slice dC mC lC] 56
   rw [show (wr.alloc (.cells #[.bool pC,.slice aC nC cC,.slice dC mC lC,.string nm,.int .i64 ln,.int .i64 cl] 59)).heap.size=wr.heap.size+1 by simp] at N5
   go_wp2_with (at_builtin;refine wpList_appendS _ rfl _ _ 52 56 4 64 rfl Tryz.underlying52 infTerm (by decide) (by decide) w.heap.size (.slice ga v0 gc) v0 E rfl hSA (wr.heap.size+1) _ rfl [.int .i64 (v:Int),.bool pC,.slice aC nC cC,.slice dC mC lC] rfl (fun u hu=>by simp at hu;rcases hu with rfl|rfl|rfl|rfl <;> rfl) N5 (by omega) (by simp;omega) (wr.heap.size+1+1) (by simp) ?_)
   intro gN capN w6 SN hgrow hat _
   have HE1:Hid (j+1-u=v0+1):=by show j+1-u=v0+1;have:=HV0.out;omega
   have EN:∀ i,i<v0+1→∃ pc ac nc cc dc mc lc,(fun i=>if i<v0 then E i else [.int .i64 (v:Int),.bool pC,.slice aC nC cC,.slice dC mC lC]) i=[.int .i64 (J i:Int),.bool pc,.slice ac nc cc,.slice dc mc lc]∧TR wt pc ac nc cc dc mc lc (I (i+u)).coef (Z (i+u)):=by
    intro i hi
    by_cases hij:i<v0
    ·simp only [hij,if_true];exact hE i hij
    ·obtain rfl:i=v0:=by omega
     simp only [Nat.lt_irrefl,if_false]
     rw [← HV0.out]
     exact ⟨pC,aC,nC,cC,dC,mC,lC,by rw [EV.out],hC⟩
   have BN:Below w.heap.size w w6:=(bel_tr (bel_tr hB hz0) (bel_d0 _ _)).trans (grown_below hgrow (by simp;omega) (fun g hg=>(hS.lt g hg).1))
   clear hS hSA hE hB hz0 O4 hgrow hat N4 N5 n0 n1 n2 n3 x0 x1 x2 x3 x4 x5 hrun hC
   go_wp2
   go_roundw
   case rel=>first|exact ⟨j+1,by omega,by go_num,⟨(fun i=>if i<v0 then E i else [.int .i64 (v:Int),.bool pC,.slice aC nC cC,.slice dC mC lC]),by rw [HE1.out];exact SN,by rw [HE1.out];exact EN⟩,BN⟩|exact ⟨j+1,(fun i=>if i<v0 then E i else [.int .i64 (v:Int),.bool pC,.slice aC nC cC,.slice dC mC lC]),by omega,by go_num,by rw [HE1.out];exact SN,by rw [HE1.out];exact EN,BN⟩|((repeat apply Exists.intro);refine ⟨?_,rfl⟩;exact ⟨j+1,(fun i=>if i<v0 then E i else [.int .i64 (v:Int),.bool pC,.slice aC nC cC,.slice dC mC lC]),by omega,by go_num,by rw [HE1.out];exact SN,by rw [HE1.out];exact EN,BN⟩)
   case measure=>simp [intOf];omega
  ·have hkI:¬ (j:Int)<(n:Int):=by omega
   obtain rfl:j=n:=by omega
   go_wp2
   go_ret
   exact ⟨ga,gc,rfl,E,hS,hE,by omega,hB⟩
theorem infRat3:Inf 27 3 56:=inf_of (by kernel_rfl)
theorem lq_of_sl {w0 w:World} {B:Nat} {a:Option Addr} {m n cap:Nat} {E:Nat→List Value} {X:Nat→Rat} {Z:Nat→Nat} (hS:SL w B 27 3 (.slice a m cap) n E) (hE:∀ i,i<n→∃ p a na ca d nd cd,E i=[.bool p,.slice a na ca,.slice d nd cd]∧TR w0 p a na ca d nd cd (X i) (Z i)) (hb:Below w0.heap.size w0 w):LQ w a n X Z:=by
 rcases hS.cell with h0|⟨g,rfl,hc⟩
 ·exact .inl h0
 ·refine .inr ⟨g,0,rfl,fun i hi=>?_⟩
  obtain ⟨p,a,na,ca,d,nd,cd,e1,hR⟩:=hE i hi
  have hc':=hc i hi
  rw [e1] at hc'
  rw [Nat.zero_add]
  exact ⟨p,a,na,ca,d,nd,cd,hc' 0 _ rfl,hc' 1 _ rfl,hc' 2 _ rfl,hR.below hb⟩
def Mn (j u m:Nat):Prop:=m=min j u
set_option maxRecDepth 100000 in
set_option maxHeartbeats 8000000 in
theorem constantU {w0 w:World} (hb0:Below w0.heap.size w0 w) {ia:Option Addr} {n ic:Nat} {I:Nat→PI} {Z:Nat→Nat} (hI:LI w0 ia n I Z) (hn:n≤1048580) (u:Nat) (hun:u≤n) (hU:∀ i,i<u→(I i).nm.data.toList=[]) (hne:∀ i,u≤i→i<n→(I i).nm.data.toList≠[]) (T:Nat) (hz:∀ i,i<u→1≤Z i∧T+Z i≤6000000) (hT1:1≤T) (hsz:∀ k,k≤u→SzR (rsum (fun i=>(I i).coef) k) T) (hTB:TB w) :
  Calls Tryz.prog 16 #[.slice ia n ic] w fun e w'=>∃ f c n k c' n' k',e = .returned (.agg #[.bool f,.slice c n k,.slice c' n' k'])∧GR w' w.heap.size f c n k c' n' k' (rsum (fun i=>(I i).coef) u) T∧Below w.heap.size w w':=by
 have HN:Hid (∀ i,u≤i→i<n→(I i).nm.data.toList≠[]):=hne
 have HU:Hid (∀ i,i<u→(I i).nm.data.toList=[]):=hU
 have HZ:Hid (∀ i,i<u→1≤Z i∧T+Z i≤6000000):=hz
 have HS:Hid (∀ k,k≤u→SzR (rsum (fun i=>(I i).coef) k) T):=hsz
 clear hne hU hz hsz
 have R0:=Rw.new 27 w #[.bool false,.slice none 0 0,.slice none 0 0]
 have hz:=bel_d0 w (.cells #[.bool false,.slice none 0 0,.slice none 0 0] 27)
 have hs:(w.alloc (.cells #[.bool false,.slice none 0 0,.slice none 0 0] 27)).heap.size=w.heap.size+1:=by simp
 have hs0:=hb0.size
 go_enter Tryz.func16,Tryz.ntmps16
 go_wp2
 generalize w.alloc (.cells #[.bool false,.slice none 0 0,.slice none 0 0] 27)=W at *
 go_loopw [3,8] (fun s3 s8 wr=>∃ (j m:Nat) (E:Nat→List Value),j≤n∧Mn j u m∧s8 = .int .i64 j∧SL wr W.heap.size 27 3 s3 m E∧(∀ i,i<m→∃ p a na ca d nd cd,E i=[.bool p,.slice a na ca,.slice d nd cd]∧TR w0 p a na ca d nd cd (I i).coef (Z i))∧Below W.heap.size W wr) (fun _ s8 _=>n-(intOf s8).toNat)
 case atStart=>exact ⟨0,0,fun _=>[],Nat.zero_le _,by show 0=min 0 u;omega,rfl,SL.nil _ _ _ _ _,fun i hi=>by omega,Below.refl _ _⟩
 case round =>
  obtain ⟨j,m,E,hj,hm,rfl,hS,hE,hB⟩:=hrel
  obtain ⟨ga,gc,rfl,hgc⟩:=hS.form
  by_cases hlt:j<n
  ·have hkI:(j:Int)<(n:Int):=by omega
   have hkI2:(j:Int)*6=((j*6:Nat):Int):=by omega
   have HM:Hid (m=min j u):=hm
   have hun2:=HU.out j
   have hnn2:=HN.out j
   rcases hI with h0|⟨tb,to,eia,hel⟩
   ·omega
   have hT:=hel j hlt
   have hbr:Below w0.heap.size w0 wr:=hb0.trans ((bel_tr hz hB).mono hs0)
   obtain ⟨pC,aC,nC,cC,dC,mC,lC,x0,x1,x2,hC⟩:=hT.coef
   obtain ⟨nm,enm⟩:∃ x,x=(I j).nm:=⟨_,rfl⟩
   obtain ⟨ln,eln⟩:∃ x,x=(I j).ln:=⟨_,rfl⟩
   obtain ⟨cl,ecl⟩:∃ x,x=(I j).cl:=⟨_,rfl⟩
   have x3:=kept_c hbr hT.nm
   have x4:=kept_c hbr hT.ln
   have x5:=kept_c hbr hT.cl
   replace x0:=kept_c hbr x0
   replace x1:=kept_c hbr x1
   replace x2:=kept_c hbr x2
   rw [← enm] at x3 hun2 hnn2
   rw [← eln] at x4
   rw [← ecl] at x5
   clear hel hT enm eln ecl
   rw [eia]
   have hz0:=bel_d0 wr (.cells #[.bool pC,.slice aC nC cC,.slice dC mC lC,.string nm,.int .i64 ln,.int .i64 cl] 59)
   by_cases hju:j<u
   ·have he2:nm.toList=[]:=by rw [ByteArray.toList_eq];exact hun2 hju
    have he3:nm.toList.isEmpty=true:=by simpa using he2
    obtain rfl:m=j:=by have:=HM.out;omega
    have HM3:Mn (m+1) u (m+1):=by show m+1=min (m+1) u;omega
    clear hm HM hun2 hnn2
    have hSA:=hS.below (bel_tr hz0 (bel_d0 (wr.alloc (.cells #[.bool pC,.slice aC nC cC,.slice dC mC lC,.string nm,.int .i64 ln,.int .i64 cl] 59)) (.cells #[.bool pC,.slice aC nC cC,.slice dC mC lC] 27)))
    have N4:=box_new wr #[.bool pC,.slice aC nC cC,.slice dC mC lC,.string nm,.int .i64 ln,.int .i64 cl] 59
    have n0:=N4 0 _ rfl
    have n1:=N4 1 _ rfl
    have n2:=N4 2 _ rfl
    have n3:=N4 3 _ rfl
    have hsb:=hB.size
    have N5:=box_new (wr.alloc (.cells #[.bool pC,.slice aC nC cC,.slice dC mC lC,.string nm,.int .i64 ln,.int .i64 cl] 59)) #[.bool pC,.slice aC nC cC,.slice dC mC lC] 27
    rw [show (wr.alloc (.cells #[.bool pC,.slice aC nC cC,.slice dC mC lC,.string nm,.int .i64 ln,.int .i64 cl] 59)).heap.size=wr.heap.size+1 by simp] at N5
    go_wp2_with (at_builtin;refine wpList_appendS _ rfl _ _ 97 27 3 56 rfl Tryz.underlying97 infRat3 (by decide) (by decide) W.heap.size (.slice ga m gc) m E rfl hSA (wr.heap.size+1) _ rfl [.bool pC,.slice aC nC cC,.slice dC mC lC] rfl (fun u hu=>by simp at hu;rcases hu with rfl|rfl|rfl <;> rfl) N5 (by omega) (by simp;omega) (wr.heap.size+1+1) (by simp) ?_)
    intro gN capN w6 SN hgrow hat _
    have EN:∀ i,i<m+1→∃ p a na ca d nd cd,(fun i=>if i<m then E i else [.bool pC,.slice aC nC cC,.slice dC mC lC]) i=[.bool p,.slice a na ca,.slice d nd cd]∧TR w0 p a na ca d nd cd (I i).coef (Z i):=by
     intro i hi
     by_cases hij:i<m
     ·simp only [hij,if_true];exact hE i hij
     ·obtain rfl:i=m:=by omega
      simp only [Nat.lt_irrefl,if_false]
      exact ⟨pC,aC,nC,cC,dC,mC,lC,rfl,hC⟩
    have BN:Below W.heap.size W w6:=(bel_tr (bel_tr hB hz0) (bel_d0 _ _)).trans (grown_below hgrow (by simp;omega) (fun g hg=>(hS.lt g hg).1))
    clear hS hSA hE hB hz0 hgrow hat N4 N5 n0 n1 n2 n3 x0 x1 x2 x3 x4 x5 hC hbr
    go_wp2
    go_roundw
    case rel=>exact ⟨m+1,m+1,(fun i=>if i<m then E i else [.bool pC,.slice aC nC cC,.slice dC mC lC]),by omega,HM3,by go_num,(by rw [hs];exact SN),EN,BN⟩
    case measure=>simp [intOf];omega
   ·have he2:¬ nm.toList=[]:=by rw [ByteArray.toList_eq];exact hnn2 (by omega) hlt
    have he3:nm.toList.isEmpty=false:=by simpa using he2
    have HM2:Mn (j+1) u m:=by show m=min (j+1) u;have:=HM.out;omega
    have N4:=box_new wr #[.bool pC,.slice aC nC cC,.slice dC mC lC,.string nm,.int .i64 ln,.int .i64 cl] 59
    have n3:=N4 3 _ rfl
    have SN:=hS.below hz0
    have BN:=bel_tr hB hz0
    clear hm HM hun2 hnn2 hS hB hz0 hbr N4
    go_wp2
    go_roundw
    case rel=>first|exact ⟨j+1,m,E,by omega,HM2,by go_num,SN,hE,BN⟩|((repeat apply Exists.intro);refine ⟨?_,rfl⟩;exact ⟨j+1,m,E,by omega,HM2,by go_num,SN,hE,BN⟩)|exact ⟨j+1,by omega,by go_num,m,HM2,⟨_,SN,hE⟩,BN⟩|exact ⟨j+1,m,by omega,HM2,by go_num,⟨_,SN,hE⟩,BN⟩
    case measure=>simp [intOf];omega
  ·have hkI:¬ (j:Int)<(n:Int):=by omega
   obtain rfl:m=u:=by have h:m=min j u:=hm;omega
   clear hm
   have hbr:Below w0.heap.size w0 wr:=hb0.trans ((bel_tr hz hB).mono hs0)
   have R1:=R0.below hB
   have HL:=lq_of_sl (X:=fun i=>(I i).coef) (Z:=Z) hS hE hbr
   have HH:=sumQ ga m gc (fun i=>(I i).coef) Z T wr HL HZ.out hT1 HS.out (by omega) ((hTB.below hz).below hB)
   clear hS hE HL hbr
   go_wp2_with fail
   refine HH.mono ?_
   rintro e w2 ⟨f,c,n1,k,c',n',k',rfl,G,hb⟩
   have R2:=R1.below hb
   go_wp2_with (refine R2.put #[.bool f,.slice c n1 k,.slice c' n' k'] rfl _ _ rfl rfl rfl ratI rfl (by simp [Value.oneCell']) ?_)
   intro w3 R3 O3
   go_wp2
   have hs1:=hB.size
   have hs2:=hb.size
   have G2:=G.keep (R2.noW (by decide)) O3.grown
   exact bodyPost_ret (R3.ret1 Tryz.results16 _ rfl Tryz.underlying27 ratI) rfl ⟨f,c,n1,k,c',n',k',rfl,G2.mono (by omega),(bel_tr hz (bel_tr hB hb)).trans (O3.below (Nat.le_refl _))⟩
end Go.Proofs.YtceigfafmalfgaaGreatDoor
