import Derived.Test.YtceigfafmalfgaaGreatDoorPrK
namespace Go.Proofs.YtceigfafmalfgaaGreatDoor
open Go.RowKit Go.Maps
theorem own_below {w w':World} {k:TypeId} {R:Value→Option (DataW Value × List MemPlace)} {b n:Nat} {D:DataW Value} (h:w.ownsMap Tryz.prog k R b n D) (hb:Below w.heap.size w w'):w'.ownsMap Tryz.prog k R b n D:=by
 have hl:=h.lt
 obtain ⟨es,c,e1,e2⟩:=h
 exact ⟨es,c,(hb.block b hl).trans e1,e2⟩
def Tkn (T:Txt) (j:Nat) (s:ByteArray):Prop:=s=T.nm∨∃ q,q<j∧(T.C q).nm=s∧s.data.toList≠[]
set_option maxRecDepth 100000 in
set_option maxHeartbeats 8000000 in
theorem takenQ (T:Txt) (w:World) (hT:TX w T) (hK:T.K≤1048580) (hnd:∀ j,j<T.cn→(T.C j).nm.data.toList≠[]→¬ Tkn T j (T.C j).nm) :
  Calls Tryz.prog 14 #[T.val] w fun e w'=>∃ b D,e = .returned (.tuple #[.map (some b),.nilIface])∧w'.ownsMap Tryz.prog 9 rawR b (T.cn+1) D∧w.heap.size≤b∧(∀ s,Maps.has D (kS s)=true↔Tkn T T.cn s)∧(∀ s,D.atKey (kS s) (.held (.agg #[])) = .held (.agg #[]))∧Below w.heap.size w w':=by
 have hnm:T.nm.size≤1000000000:=by have:=hT.all;omega
 have hcn:T.cn≤1048580:=by have:=hT.all;have:=tot_len T.ZC T.cn;omega
 have HND:Hid (∀ j,j<T.cn→(T.C j).nm.data.toList≠[]→¬ Tkn T j (T.C j).nm):=hnd
 clear hnd
 have hmm:=@run_makeMap Tryz.prog
 have R0:=Rw.new 43 w #[.bool T.mx,.string T.nm,.slice T.ia T.n T.ic,.slice T.ca T.cn T.cc,.slice T.la T.ln T.lc,.slice T.wa T.wn T.wc,.slice none 0 0]
 have hb0:=bel_d0 w (.cells #[.bool T.mx,.string T.nm,.slice T.ia T.n T.ic,.slice T.ca T.cn T.cc,.slice T.la T.ln T.lc,.slice T.wa T.wn T.wc,.slice none 0 0] 43)
 have es:(w.alloc (.cells #[.bool T.mx,.string T.nm,.slice T.ia T.n T.ic,.slice T.ca T.cn T.cc,.slice T.la T.ln T.lc,.slice T.wa T.wn T.wc,.slice none 0 0] 43)).heap.size=w.heap.size+1:=by simp
 have M0:=World.ownsMap_made (w.alloc (.cells #[.bool T.mx,.string T.nm,.slice T.ia T.n T.ic,.slice T.ca T.cn T.cc,.slice T.la T.ln T.lc,.slice T.wa T.wn T.wc,.slice none 0 0] 43)) Tryz.prog 9 rawR
 rw [es] at M0
 have R1:=R0.alloc (.map #[] 0)
 have hb1:=bel_tr hb0 (bel_d0 (w.alloc (.cells #[.bool T.mx,.string T.nm,.slice T.ia T.n T.ic,.slice T.ca T.cn T.cc,.slice T.la T.ln T.lc,.slice T.wa T.wn T.wc,.slice none 0 0] 43)) (.map #[] 0))
 have hIM:=M0.isMap
 obtain ⟨w3,hrun0,ho,hg⟩:=M0.update (string_keyed Tryz.underlying9) Tryz.underlying64 (by decide) (keyS hnm) (val:=.agg #[]) (d:=.held (.agg #[])) (ps:=[]) rfl
 have es2:((w.alloc (.cells #[.bool T.mx,.string T.nm,.slice T.ia T.n T.ic,.slice T.ca T.cn T.cc,.slice T.la T.ln T.lc,.slice T.wa T.wn T.wc,.slice none 0 0] 43)).alloc (.map #[] 0)).heap.size=w.heap.size+1+1:=by simp
 have R3:=R1.kept hg (fun e=>by simp at e)
 have hb3:=hb1.trans (grown_below hg (by omega) (fun k e=>by cases e;omega))
 have x3:=(R3.cell 3).trans (show _=some (.slice T.ca T.cn T.cc) from rfl)
 have h3:∀ s,Maps.has ((DataW.map []:DataW Value).put (kS T.nm) (.held (.agg #[]))) (kS s)=true↔Tkn T 0 s:=by
  intro s
  by_cases e:s=T.nm
  ·subst e
   rw [has_put_same hIM (key_str _)]
   exact ⟨fun _=>.inl rfl,fun _=>rfl⟩
  ·rw [has_put_other (fun e2=>e (kS_inj e2))]
   constructor
   ·intro h;cases h
   ·rintro (h|⟨q,hq,_⟩)
    ·exact absurd h e
    ·omega
 have v3:∀ s,((DataW.map []:DataW Value).put (kS T.nm) (.held (.agg #[]))).atKey (kS s) (.held (.agg #[])) = .held (.agg #[]):=by
  intro s
  by_cases e:s=T.nm
  ·subst e
   exact atKey_put_same hIM (key_str _) _ _
  ·rw [atKey_put_other (fun e2=>e (kS_inj e2))]
   rfl
 clear R0 R1 M0 hb0 hb1 es es2 hg
 unfold Txt.val
 go_enter Tryz.func14,Tryz.ntmps14
 go_wp2
 clear hmm hrun0
 go_loopw [17] (fun s17 wr=>∃ (j:Nat) (D:DataW Value),j≤T.cn∧s17 = .int .i64 j∧wr.ownsMap Tryz.prog 9 rawR (w.heap.size+1) (j+1) D∧(∀ s,Maps.has D (kS s)=true↔Tkn T j s)∧(∀ s,D.atKey (kS s) (.held (.agg #[])) = .held (.agg #[]))∧Below w.heap.size w wr) (fun s17 _=>T.cn-(intOf s17).toNat)
 case atStart=>exact ⟨0,_,Nat.zero_le _,rfl,ho,h3,v3,hb3⟩
 case round =>
  clear ho h3 v3 hb3 x3 R3
  obtain ⟨j,D,hj,rfl,hO,hH,hV,hB⟩:=hrel
  by_cases hlt:j<T.cn
  ·have hkI:(j:Int)<(T.cn:Int):=by omega
   have hkI2:(j:Int)*12=((j*12:Nat):Int):=by omega
   have hal:=hT.all
   have hnj:=HND.out j hlt
   rcases hT.c with h0|⟨cb,co,eca,hel⟩
   ·omega
   have hC:=hel j hlt
   have hZj:=tot_le (Z:=T.ZC) hlt
   have hns:(T.C j).nm.size≤1000000000:=hC.snm
   obtain ⟨nm,enm⟩:∃ x,x=(T.C j).nm:=⟨_,rfl⟩
   obtain ⟨ln,eln⟩:∃ x,x=(T.C j).ln:=⟨_,rfl⟩
   obtain ⟨cl,ecl⟩:∃ x,x=(T.C j).cl:=⟨_,rfl⟩
   obtain ⟨n,en⟩:∃ x,x=(T.C j).n:=⟨_,rfl⟩
   obtain ⟨hl,ehl⟩:∃ x,x=(T.C j).hlo:=⟨_,rfl⟩
   obtain ⟨hh,ehh⟩:∃ x,x=(T.C j).hhi:=⟨_,rfl⟩
   have x0:=kept_c hB hC.nm
   have x1:=kept_c hB hC.ln
   have x2:=kept_c hB hC.cl
   obtain ⟨ia,ic,Zi,x3,_,_,_⟩:=hC.items
   have x4:=kept_c hB hC.hlo
   obtain ⟨p2,a2,n2,k2,d2,m2,l2,x5,x6,x7,_⟩:=hC.lo
   have x8:=kept_c hB hC.hhi
   obtain ⟨p3,a3,n3,k3,d3,m3,l3,x9,x10,x11,_⟩:=hC.hi
   replace x3:=kept_c hB x3
   replace x5:=kept_c hB x5
   replace x6:=kept_c hB x6
   replace x7:=kept_c hB x7
   replace x9:=kept_c hB x9
   replace x10:=kept_c hB x10
   replace x11:=kept_c hB x11
   rw [← enm] at x0 hns hnj
   rw [← eln] at x1
   rw [← ecl] at x2
   rw [← en] at x3
   rw [← ehl] at x4
   rw [← ehh] at x8
   have EN:Hid (nm=(T.C j).nm):=enm
   clear hel hC enm eln ecl en ehl ehh
   have hz0:=bel_d0 wr (.cells #[.string nm,.int .i64 ln,.int .i64 cl,.slice ia n ic,.bool hl,.bool p2,.slice a2 n2 k2,.slice d2 m2 l2,.bool hh,.bool p3,.slice a3 n3 k3,.slice d3 m3 l3] 61)
   have O4:=own_below hO hz0
   have hB4:=bel_tr hB hz0
   rw [eca]
   by_cases he:nm.data.toList=[]
   ·have he2:nm.toList=[]:=by rw [ByteArray.toList_eq];exact he
    have he3:nm.toList.isEmpty=true:=by simpa using he2
    have HN:∀ s,Maps.has D (kS s)=true↔Tkn T (j+1) s:=fun s=>(hH s).trans (by
     constructor
     ·rintro (h|⟨q,hq,h1,h2⟩)
      ·exact .inl h
      ·exact .inr ⟨q,by omega,h1,h2⟩
     ·rintro (h|⟨q,hq,h1,h2⟩)
      ·exact .inl h
      ·rcases (by omega:q<j∨q=j) with h3|rfl
       ·exact .inr ⟨q,h3,h1,h2⟩
       ·rw [← EN.out] at h1;rw [← h1] at h2;exact absurd he h2)
    have O5:=O4.mono (Nat.le_succ (j+1))
    clear hO O4 hB hz0 hH
    go_wp2
    go_roundw
    case rel=>exact ⟨j+1,D,by omega,by go_num,O5,HN,hV,hB4⟩
    case measure=>simp [intOf];omega
   ·have he2:¬ nm.toList=[]:=by rw [ByteArray.toList_eq];exact he
    have he3:nm.toList.isEmpty=false:=by simpa using he2
    have hno:¬ Tkn T j nm:=hnj he
    have hh0:Maps.has D (kS nm)=false:=by
     cases e:Maps.has D (kS nm)
     ·rfl
     ·exact absurd ((hH nm).1 e) hno
    obtain ⟨x,y,hrun,hx⟩:=O4.look_ok (string_keyed Tryz.underlying9) (t:=64) (e:=88) Tryz.underlying64 (z:=.agg #[]) (Tryz.zeroValue88 _) (zd:=.held (.agg #[])) (zp:=[]) rfl (keyS hns)
    rw [hh0] at hrun
    rw [atKey_of_not_has hh0] at hx
    simp only [rawR,Option.some.injEq,Prod.mk.injEq,DataW.held.injEq] at hx
    obtain ⟨rfl,_⟩:=hx
    have hz1:=bel_d0 (wr.alloc (.cells #[.string nm,.int .i64 ln,.int .i64 cl,.slice ia n ic,.bool hl,.bool p2,.slice a2 n2 k2,.slice d2 m2 l2,.bool hh,.bool p3,.slice a3 n3 k3,.slice d3 m3 l3] 61)) (.cells #[] 88)
    have O5:=own_below O4 hz1
    have hB5:=bel_tr hB4 hz1
    obtain ⟨w6,hrun6,ho6,hg6⟩:=O5.update (string_keyed Tryz.underlying9) Tryz.underlying64 (by unfold maxLen;omega) (keyS hns) (val:=.agg #[]) (d:=.held (.agg #[])) (ps:=[]) rfl
    have hIM:=hO.isMap
    have hs5:=hB5.size
    have BN:Below w.heap.size w w6:=hB5.trans (grown_below hg6 hs5 (fun k e=>by cases e;omega))
    have HN:∀ s,Maps.has (D.put (kS nm) (.held (.agg #[]))) (kS s)=true↔Tkn T (j+1) s:=fun s=>by
     by_cases e:s=nm
     ·subst e
      rw [has_put_same hIM (key_str _)]
      exact ⟨fun _=>.inr ⟨j,by omega,EN.out.symm,he⟩,fun _=>rfl⟩
     ·rw [has_put_other (fun e2=>e (kS_inj e2)),hH s]
      constructor
      ·rintro (h|⟨q,hq,h1,h2⟩)
       ·exact .inl h
       ·exact .inr ⟨q,by omega,h1,h2⟩
      ·rintro (h|⟨q,hq,h1,h2⟩)
       ·exact .inl h
       ·rcases (by omega:q<j∨q=j) with h3|rfl
        ·exact .inr ⟨q,h3,h1,h2⟩
        ·exact absurd (h1.symm.trans EN.out.symm) e
    have VN:∀ s,(D.put (kS nm) (.held (.agg #[]))).atKey (kS s) (.held (.agg #[])) = .held (.agg #[]):=fun s=>by
     by_cases e:s=nm
     ·subst e
      exact atKey_put_same hIM (key_str _) _ _
     ·rw [atKey_put_other (fun e2=>e (kS_inj e2))]
      exact hV s
    have n0:=kept_c hz1 (box_new wr #[.string nm,.int .i64 ln,.int .i64 cl,.slice ia n ic,.bool hl,.bool p2,.slice a2 n2 k2,.slice d2 m2 l2,.bool hh,.bool p3,.slice a3 n3 k3,.slice d3 m3 l3] 61 0 _ rfl)
    clear hO O4 O5 hB hB4 hB5 hz0 hz1 hH hg6
    go_wp2
    go_roundw
    case rel=>exact ⟨j+1,_,by omega,by go_num,ho6,HN,VN,BN⟩
    case measure=>simp [intOf];omega
  ·have hkI:¬ (j:Int)<(T.cn:Int):=by omega
   obtain rfl:j=T.cn:=by omega
   go_wp2
   exact bodyPost_ret (v:=.tuple #[.map (some (w.heap.size+1)),.nilIface]) (by simp [results,Tryz.results14,go_sem]) rfl ⟨w.heap.size+1,rfl,D,hO,by omega,hH,hV,hB⟩
end Go.Proofs.YtceigfafmalfgaaGreatDoor
namespace Go.Proofs.YtceigfafmalfgaaGreatDoor
open Go.RowKit Go.Maps
set_option maxRecDepth 100000 in
set_option maxHeartbeats 4000000 in
theorem boundOfQ (v:Int) (w:World) (h0:-9223372036854775808≤v) (h1:v<9223372036854775808) :
  Calls Tryz.prog 32 #[.int .i64 v] w fun e w'=>∃ f c n k c' n' k',e = .returned (.agg #[.bool true,.bool f,.slice c n k,.slice c' n' k'])∧GR w' w.heap.size f c n k c' n' k' (v:Rat) 1∧Below w.heap.size w w':=by
 have R0:=Rw.new 49 w #[.bool false,.bool false,.slice none 0 0,.slice none 0 0]
 have hz:=bel_d0 w (.cells #[.bool false,.bool false,.slice none 0 0,.slice none 0 0] 49)
 go_enter Tryz.func32,Tryz.ntmps32
 go_wp2_with fail
 refine (ofQ v _ h0 h1).mono ?_
 rintro e w2 ⟨f,c,n,k,c',n',k',rfl,G,hb⟩
 have R1:=R0.below hb
 go_wp2_with (refine R1.put #[.bool true,.bool f,.slice c n k,.slice c' n' k'] rfl _ _ rfl rfl rfl bndI rfl (by simp [Value.oneCell']) ?_)
 intro w3 R2 O2
 go_wp2
 have hs2:=hb.size
 have hs3:(w.alloc (.cells #[.bool false,.bool false,.slice none 0 0,.slice none 0 0] 49)).heap.size=w.heap.size+1:=by simp
 have G2:=G.keep (R1.noW (by decide)) O2.grown
 exact bodyPost_ret (R2.ret1 Tryz.results32 _ rfl Tryz.underlying49 bndI) rfl ⟨f,c,n,k,c',n',k',rfl,G2.mono (by omega),(bel_tr hz hb).trans (O2.below (Nat.le_refl _))⟩
def TQ (w:World) (cs:List Value) (t:PT) (Y:Nat):Prop:=∃ p a na ca d nd cd,cs=[.int .i64 t.var,.bool p,.slice a na ca,.slice d nd cd]∧TR w p a na ca d nd cd t.coef Y
set_option maxRecDepth 100000 in
set_option maxHeartbeats 8000000 in
theorem termsS {w:World} {B p q b:Nat} {D:DataW Value} {ns:List ByteArray} {ia:Option Addr} {n ic:Nat} {I:Nat→PI} {Z:Nat→Nat} (h:Pl w B p q b D ns) {wt:World} (hbt:Below wt.heap.size wt w) (hI:LI wt ia n I Z) (hz:∀ i,i<n→(I i).nm.size≤1000000000) (hn:n≤1048576) (J:Nat→Nat) (hJ:∀ i,i<n→ns[J i]? = some (I i).nm) (_hl:ns.length≤1048576) :
  Calls Tryz.prog 33 #[.slice ia n ic,.map (some b)] w fun e w'=>∃ a cap E,e = .returned (.slice a n cap)∧SL w' w.heap.size 56 4 (.slice a n cap) n E∧(∀ i,i<n→TQ wt (E i) ⟨(J i:Int),(I i).coef⟩ (Z i))∧n≤cap∧Below w.heap.size w w':=by
 have HJ:Hid (∀ i,i<n→ns[J i]? = some (I i).nm):=hJ
 have HZ:Hid (∀ i,i<n→(I i).nm.size≤1000000000):=hz
 clear hJ hz
 go_enter Tryz.func33,Tryz.ntmps33
 go_wp2
 go_loopw [5,12] (fun s5 s12 wr=>∃ (j:Nat) (E:Nat→List Value),j≤n∧s12 = .int .i64 j∧SL wr w.heap.size 56 4 s5 j E∧(∀ i,i<j→∃ pc ac nc cc dc mc lc,E i=[.int .i64 (J i:Int),.bool pc,.slice ac nc cc,.slice dc mc lc]∧TR wt pc ac nc cc dc mc lc (I i).coef (Z i))∧Below w.heap.size w wr) (fun _ s12 _=>n-(intOf s12).toNat)
 case atStart=>exact ⟨0,fun _=>[],Nat.zero_le _,rfl,SL.nil _ _ _ _ _,fun i hi=>by omega,Below.refl _ _⟩
 case round =>
  obtain ⟨j,E,hj,rfl,hS,hE,hB⟩:=hrel
  obtain ⟨ga,gc,rfl,hgc⟩:=hS.form
  by_cases hlt:j<n
  ·have hkI:(j:Int)<(n:Int):=by omega
   have hkI2:(j:Int)*6=((j*6:Nat):Int):=by omega
   have hzj:=HZ.out j hlt
   have hJj:=HJ.out j hlt
   rcases hI with h0|⟨tb,to,eia,hel⟩
   ·omega
   have hT:=hel j hlt
   have hBt:Below wt.heap.size wt wr:=hbt.trans (hB.mono hbt.size)
   obtain ⟨pC,aC,nC,cC,dC,mC,lC,x0,x1,x2,hC⟩:=hT.coef
   obtain ⟨nm,enm⟩:∃ x,x=(I j).nm:=⟨_,rfl⟩
   obtain ⟨ln,eln⟩:∃ x,x=(I j).ln:=⟨_,rfl⟩
   obtain ⟨cl,ecl⟩:∃ x,x=(I j).cl:=⟨_,rfl⟩
   have x3:=kept_c hBt hT.nm
   have x4:=kept_c hBt hT.ln
   have x5:=kept_c hBt hT.cl
   replace x0:=kept_c hBt x0
   replace x1:=kept_c hBt x1
   replace x2:=kept_c hBt x2
   rw [← enm] at x3 hzj hJj
   rw [← eln] at x4
   rw [← ecl] at x5
   clear hel hT enm eln ecl
   rw [eia]
   obtain ⟨v,ev⟩:∃ v,v=J j:=⟨_,rfl⟩
   have EV:Hid (v=J j):=ev
   rw [← ev] at hJj
   clear ev
   have hvl:v<ns.length:=(List.getElem?_eq_some_iff.1 hJj).1
   have hz0:=bel_d0 wr (.cells #[.bool pC,.slice aC nC cC,.slice dC mC lC,.string nm,.int .i64 ln,.int .i64 cl] 59)
   have O4:=own_below h.own (bel_tr hB hz0)
   obtain ⟨x,y,hrun,hx⟩:=O4.look_ok (string_keyed Tryz.underlying9) (t:=67) (e:=3) Tryz.underlying67 (z:=.int .i64 0) (Tryz.zeroValue3 _) (zd:=.held (.int .i64 0)) (zp:=[]) rfl (keyS hzj)
   rw [(h.has nm).2 (List.mem_of_getElem? hJj)] at hrun
   rw [h.idx v nm hJj] at hx
   simp only [rawR,Option.some.injEq,Prod.mk.injEq,DataW.held.injEq] at hx
   obtain ⟨rfl,_⟩:=hx
   have hSA:=hS.below (bel_tr hz0 (bel_d0 (wr.alloc (.cells #[.bool pC,.slice aC nC cC,.slice dC mC lC,.string nm,.int .i64 ln,.int .i64 cl] 59)) (.cells #[.int .i64 (v:Int),.bool pC,.slice aC nC cC,.slice dC mC lC] 56)))
   have N4:=box_new wr #[.bool pC,.slice aC nC cC,.slice dC mC lC,.string nm,.int .i64 ln,.int .i64 cl] 59
   have n0:=N4 0 _ rfl
   have n1:=N4 1 _ rfl
   have n2:=N4 2 _ rfl
   have n3:=N4 3 _ rfl
   have hsb:=hB.size
   have N5:=box_new (wr.alloc (.cells #[.bool pC,.slice aC nC cC,.slice dC mC lC,.string nm,.int .i64 ln,.int .i64 cl] 59)) #[.int .i64 (v:Int),.bool pC,.slice aC nC cC,.slice dC mC lC] 56
   rw [show (wr.alloc (.cells #[.bool pC,.slice aC nC cC,.slice dC mC lC,.string nm,.int .i64 ln,.int .i64 cl] 59)).heap.size=wr.heap.size+1 by simp] at N5
   go_wp2_with (at_builtin;refine wpList_appendS _ rfl _ _ 52 56 4 64 rfl Tryz.underlying52 infTerm (by decide) (by decide) w.heap.size (.slice ga j gc) j E rfl hSA (wr.heap.size+1) _ rfl [.int .i64 (v:Int),.bool pC,.slice aC nC cC,.slice dC mC lC] rfl (fun u hu=>by simp at hu;rcases hu with rfl|rfl|rfl|rfl <;> rfl) N5 (by omega) (by simp;omega) (wr.heap.size+1+1) (by simp) ?_)
   intro gN capN w6 SN hgrow hat _
   have EN:∀ i,i<j+1→∃ pc ac nc cc dc mc lc,(fun i=>if i<j then E i else [.int .i64 (v:Int),.bool pC,.slice aC nC cC,.slice dC mC lC]) i=[.int .i64 (J i:Int),.bool pc,.slice ac nc cc,.slice dc mc lc]∧TR wt pc ac nc cc dc mc lc (I i).coef (Z i):=by
    intro i hi
    by_cases hij:i<j
    ·simp only [hij,if_true];exact hE i hij
    ·obtain rfl:i=j:=by omega
     simp only [Nat.lt_irrefl,if_false]
     exact ⟨pC,aC,nC,cC,dC,mC,lC,by rw [EV.out],hC⟩
   have BN:Below w.heap.size w w6:=(bel_tr (bel_tr hB hz0) (bel_d0 _ _)).trans (grown_below hgrow (by simp;omega) (fun g hg=>(hS.lt g hg).1))
   clear hS hSA hE hB hz0 O4 hgrow hat N4 N5 n0 n1 n2 n3 x0 x1 x2 x3 x4 x5 hrun hC
   go_wp2
   go_roundw
   case rel=>first|exact ⟨j+1,by omega,by go_num,⟨_,SN,EN⟩,BN⟩|exact ⟨j+1,_,by omega,by go_num,SN,EN,BN⟩|((repeat apply Exists.intro);refine ⟨?_,rfl⟩;exact ⟨j+1,_,by omega,by go_num,SN,EN,BN⟩)
   case measure=>simp [intOf];omega
  ·have hkI:¬ (j:Int)<(n:Int):=by omega
   obtain rfl:j=n:=by omega
   go_wp2
   go_ret
   exact ⟨ga,gc,rfl,E,hS,hE,hgc,hB⟩
theorem lt_of_sl {w0 w:World} {B:Nat} {a:Option Addr} {m n cap:Nat} {E:Nat→List Value} {u:Nat→PT} {Z:Nat→Nat} (hS:SL w B 56 4 (.slice a m cap) n E) (hE:∀ i,i<n→TQ w0 (E i) (u i) (Z i)) (hb:Below w0.heap.size w0 w)
  (hz:∀ i,i<n→1≤Z i∧SzR (u i).coef (Z i)∧-9223372036854775808≤(u i).var∧(u i).var≤9223372036854775807):LT w a n u Z:=by
 rcases hS.cell with h0|⟨g,rfl,hc⟩
 ·exact .inl h0
 ·refine .inr ⟨g,0,rfl,fun i hi=>?_⟩
  obtain ⟨pc,ac,nc,cc,dc,mc,lc,e1,hR⟩:=hE i hi
  have hc':=hc i hi
  rw [e1] at hc'
  rw [Nat.zero_add]
  exact ⟨hc' 0 _ rfl,⟨pc,ac,nc,cc,dc,mc,lc,hc' 1 _ rfl,hc' 2 _ rfl,hc' 3 _ rfl,hR.below hb⟩,(hz i hi).1,(hz i hi).2.1,(hz i hi).2.2.1,(hz i hi).2.2.2⟩
theorem termsA {w:World} {B p q b:Nat} {D:DataW Value} {ns:List ByteArray} {ia:Option Addr} {n ic:Nat} {I:Nat→PI} {Z:Nat→Nat} (h:Pl w B p q b D ns) (hI:LI w ia n I Z) (hz:∀ i,i<n→(I i).nm.size≤1000000000) (hn:n≤1048576) (J:Nat→Nat) (hJ:∀ i,i<n→ns[J i]? = some (I i).nm) (hl:ns.length≤1048576) :
  Calls Tryz.prog 33 #[.slice ia n ic,.map (some b)] w fun e w'=>∃ a cap,e = .returned (.slice a n cap)∧LT w' a n (fun i=>⟨(J i:Int),(I i).coef⟩) Z∧n≤cap∧Below w.heap.size w w':=by
 refine (termsS h (Below.refl _ _) hI hz hn J hJ hl).mono ?_
 rintro e w' ⟨a,cap,E,rfl,hS,hE,hc,hb⟩
 refine ⟨a,cap,rfl,lt_of_sl hS hE hb (fun i hi=>?_),hc,hb⟩
 have hvl:J i<ns.length:=(List.getElem?_eq_some_iff.1 (hJ i hi)).1
 rcases hI with h0|⟨tb,to,eia,hel⟩
 ·omega
 ·exact ⟨(hel i hi).s1,(hel i hi).sz,by show -9223372036854775808≤(J i:Int);omega,by show (J i:Int)≤9223372036854775807;omega⟩
end Go.Proofs.YtceigfafmalfgaaGreatDoor
namespace Go.Proofs.YtceigfafmalfgaaGreatDoor
open Go.RowKit Go.Maps
theorem ratI:(Tryz.prog.info? 27).map (·.size)=some 3:=by kernel_rfl
set_option maxRecDepth 100000 in
set_option maxHeartbeats 8000000 in
theorem constantA {w:World} {ia:Option Addr} {n ic:Nat} {I:Nat→PI} {Z:Nat→Nat} (hI:LI w ia n I Z) (hn:n≤1048576) (hne:∀ i,i<n→(I i).nm.data.toList≠[]) (hT:TB w) :
  Calls Tryz.prog 16 #[.slice ia n ic] w fun e w'=>∃ f c n k c' n' k',e = .returned (.agg #[.bool f,.slice c n k,.slice c' n' k'])∧GR w' w.heap.size f c n k c' n' k' 0 1∧Below w.heap.size w w':=by
 have HN:Hid (∀ i,i<n→(I i).nm.data.toList≠[]):=hne
 clear hne
 have R0:=Rw.new 27 w #[.bool false,.slice none 0 0,.slice none 0 0]
 have hz:=bel_d0 w (.cells #[.bool false,.slice none 0 0,.slice none 0 0] 27)
 have hs:(w.alloc (.cells #[.bool false,.slice none 0 0,.slice none 0 0] 27)).heap.size=w.heap.size+1:=by simp
 go_enter Tryz.func16,Tryz.ntmps16
 go_wp2
 generalize w.alloc (.cells #[.bool false,.slice none 0 0,.slice none 0 0] 27)=W at *
 go_loopw [3,8] (fun s3 s8 wr=>∃ (j:Nat),j≤n∧s8 = .int .i64 j∧s3 = .slice none 0 0∧Below W.heap.size W wr) (fun _ s8 _=>n-(intOf s8).toNat)
 case atStart=>exact ⟨0,Nat.zero_le _,rfl,rfl,Below.refl _ _⟩
 case round =>
  obtain ⟨j,hj,rfl,rfl,hB⟩:=hrel
  by_cases hlt:j<n
  ·have hkI:(j:Int)<(n:Int):=by omega
   have hkI2:(j:Int)*6=((j*6:Nat):Int):=by omega
   have hnj:=HN.out j hlt
   rcases hI with h0|⟨tb,to,eia,hel⟩
   ·omega
   have hT:=(hel j hlt).below (bel_tr hz hB)
   obtain ⟨pC,aC,nC,cC,dC,mC,lC,x0,x1,x2,hC⟩:=hT.coef
   obtain ⟨nm,enm⟩:∃ x,x=(I j).nm:=⟨_,rfl⟩
   obtain ⟨ln,eln⟩:∃ x,x=(I j).ln:=⟨_,rfl⟩
   obtain ⟨cl,ecl⟩:∃ x,x=(I j).cl:=⟨_,rfl⟩
   have x3:=hT.nm
   have x4:=hT.ln
   have x5:=hT.cl
   rw [← enm] at x3 hnj
   rw [← eln] at x4
   rw [← ecl] at x5
   have he2:¬ nm.toList=[]:=by rw [ByteArray.toList_eq];exact hnj
   have he3:nm.toList.isEmpty=false:=by simpa using he2
   clear hel hT enm eln ecl
   rw [eia]
   have hB4:=bel_tr hB (bel_d0 wr (.cells #[.bool pC,.slice aC nC cC,.slice dC mC lC,.string nm,.int .i64 ln,.int .i64 cl] 59))
   clear hB
   go_wp2
   go_roundw
   case rel=>first|exact ⟨j+1,by omega,by go_num,hB4⟩|exact ⟨j+1,by omega,by go_num,rfl,hB4⟩
   case measure=>simp [intOf];omega
  ·have hkI:¬ (j:Int)<(n:Int):=by omega
   obtain rfl:j=n:=by omega
   have R1:=R0.below hB
   have HH:=sumQ none 0 0 (fun _=>0) (fun _=>1) 1 wr (.inl rfl) (fun i hi=>by omega) (by omega) (fun k hk=>by
    obtain rfl:k=0:=by omega
    exact sz_zero (by omega)) (by omega) ((hT.below hz).below hB)
   go_wp2_with fail
   refine HH.mono ?_
   rintro e w2 ⟨f,c,n1,k,c',n',k',rfl,G,hb⟩
   have R2:=R1.below hb
   go_wp2_with (refine R2.put #[.bool f,.slice c n1 k,.slice c' n' k'] rfl _ _ rfl rfl rfl ratI rfl (by simp [Value.oneCell']) ?_)
   intro w3 R3 O3
   go_wp2
   have hs1:=hB.size
   have hs2:=hb.size
   have G2:=G.keep (R2.noW (by decide)) O3.grown
   exact bodyPost_ret (R3.ret1 Tryz.results16 _ rfl Tryz.underlying27 ratI) rfl ⟨f,c,n1,k,c',n',k',rfl,G2.mono (by omega),(bel_tr hz (bel_tr hB hb)).trans (O3.below (Nat.le_refl _))⟩
theorem Rw.set4 {t:TypeId} {w:World} {R:Nat} {a0 a1 a2 a3:Value} (h:Rw t w R #[a0,a1,a2,a3]) (b0 b1 b2 b3:Value) :
  Rw t ((((w.setCell ⟨R,0,none⟩ b0).setCell ⟨R,1,none⟩ b1).setCell ⟨R,2,none⟩ b2).setCell ⟨R,3,none⟩ b3) R #[b0,b1,b2,b3] ∧
  Off R w ((((w.setCell ⟨R,0,none⟩ b0).setCell ⟨R,1,none⟩ b1).setCell ⟨R,2,none⟩ b2).setCell ⟨R,3,none⟩ b3):=by
 refine ⟨?_,(((Off.refl _ _).set 0 b0).set 1 b1).set 2 b2 |>.set 3 b3⟩
 have:=((((h.set 0 b0).1.set 1 b1).1.set 2 b2).1.set 3 b3).1
 simpa using this
set_option maxRecDepth 100000 in
set_option maxHeartbeats 8000000 in
theorem lessBQ {h p q:Bool} {a b:Option Addr} {na nb ca cb:Nat} {d e0:Option Addr} {nd ne cd ce:Nat} {r s:Rat} {S R:Nat} (w:World) (hr:TR w p a na ca d nd cd r S) (hs:TR w q b nb cb e0 ne ce s R) (hSR:S+R≤6000000) (hS1:1≤S) (hR1:1≤R) (hT:TB w) :
  Calls Tryz.prog 35 #[.agg #[.bool h,.bool p,.slice a na ca,.slice d nd cd],.agg #[.bool q,.slice b nb cb,.slice e0 ne ce]] w fun e w'=>∃ f c n k c' n' k',e = .returned (.agg #[.bool h,.bool f,.slice c n k,.slice c' n' k'])∧GR w' w.heap.size f c n k c' n' k' (r-s) (S+R+1)∧Below w.heap.size w w':=by
 obtain ⟨P0,P1,P2,hb,hsz⟩:=boxc3 w #[.bool h,.bool p,.slice a na ca,.slice d nd cd] 49 #[.bool q,.slice b nb cb,.slice e0 ne ce] 27 #[.bool false,.bool false,.slice none 0 0,.slice none 0 0] 49
 have R0:=Rw.new 49 ((w.alloc (.cells #[.bool h,.bool p,.slice a na ca,.slice d nd cd] 49)).alloc (.cells #[.bool q,.slice b nb cb,.slice e0 ne ce] 27)) #[.bool false,.bool false,.slice none 0 0,.slice none 0 0]
 rw [show ((w.alloc (.cells #[.bool h,.bool p,.slice a na ca,.slice d nd cd] 49)).alloc (.cells #[.bool q,.slice b nb cb,.slice e0 ne ce] 27)).heap.size=w.heap.size+2 by simp] at R0
 go_enter Tryz.func35,Tryz.ntmps35
 go_wp2_with fail
 generalize ((w.alloc (.cells #[.bool h,.bool p,.slice a na ca,.slice d nd cd] 49)).alloc (.cells #[.bool q,.slice b nb cb,.slice e0 ne ce] 27)).alloc (.cells #[.bool false,.bool false,.slice none 0 0,.slice none 0 0] 49)=W at *
 have hr1:=hr.below hb
 have hs1:=hs.below hb
 have hT1:=hT.below hb
 have HS:Hid (W.heap.size=w.heap.size+3):=hsz
 clear hsz
 have HB:∀ w',Below W.heap.size W w'→(w'.cell? ⟨w.heap.size,0,none⟩=some (.bool h)∧w'.cell? ⟨w.heap.size,1,none⟩=some (.bool p)∧w'.cell? ⟨w.heap.size,2,none⟩=some (.slice a na ca)∧w'.cell? ⟨w.heap.size,3,none⟩=some (.slice d nd cd)∧w'.cell? ⟨w.heap.size+1,0,none⟩=some (.bool q)∧w'.cell? ⟨w.heap.size+1,1,none⟩=some (.slice b nb cb)∧w'.cell? ⟨w.heap.size+1,2,none⟩=some (.slice e0 ne ce)):=fun w' hh=>⟨kept_c hh (P0 0 _ rfl),kept_c hh (P0 1 _ rfl),kept_c hh (P0 2 _ rfl),kept_c hh (P0 3 _ rfl),kept_c hh (P1 0 _ rfl),kept_c hh (P1 1 _ rfl),kept_c hh (P1 2 _ rfl)⟩
 have HO:∀ w1 w',Below W.heap.size W w1→Off (w.heap.size+2) w1 w'→(w'.cell? ⟨w.heap.size,0,none⟩=some (.bool h)∧w'.cell? ⟨w.heap.size,1,none⟩=some (.bool p)∧w'.cell? ⟨w.heap.size,2,none⟩=some (.slice a na ca)∧w'.cell? ⟨w.heap.size,3,none⟩=some (.slice d nd cd)∧w'.cell? ⟨w.heap.size+1,0,none⟩=some (.bool q)∧w'.cell? ⟨w.heap.size+1,1,none⟩=some (.slice b nb cb)∧w'.cell? ⟨w.heap.size+1,2,none⟩=some (.slice e0 ne ce)):=fun w1 w' hh O=>by
  obtain ⟨y0,y1,y2,y3,y4,y5,y6⟩:=HB w1 hh
  refine ⟨(O.cell ?_).trans y0,(O.cell ?_).trans y1,(O.cell ?_).trans y2,(O.cell ?_).trans y3,(O.cell ?_).trans y4,(O.cell ?_).trans y5,(O.cell ?_).trans y6⟩ <;> (show _≠_;simp)
 obtain ⟨y0,y1,y2,y3,y4,y5,y6⟩:=HB W (Below.refl _ _)
 go_region_held3 (fun w'=>w'.cell? ⟨w.heap.size,0,none⟩=some (.bool h)∧w'.cell? ⟨w.heap.size,1,none⟩=some (.bool p)∧w'.cell? ⟨w.heap.size,2,none⟩=some (.slice a na ca)∧w'.cell? ⟨w.heap.size,3,none⟩=some (.slice d nd cd)∧w'.cell? ⟨w.heap.size+1,0,none⟩=some (.bool q)∧w'.cell? ⟨w.heap.size+1,1,none⟩=some (.slice b nb cb)∧w'.cell? ⟨w.heap.size+1,2,none⟩=some (.slice e0 ne ce))
  (first|(with_reducible refine HB _ ?_;first|with_reducible exact hc1|with_reducible exact Below.refl _ _|with_reducible exact bel_d1 _)|(exact HO _ _ hc1 (R1.set4 _ _ _ _).2))
  ((first
   | (go_at_call 50;go_fit (subQ _ (hr1.below (bel_d1 _)) (hs1.below (bel_d1 _)) hSR hS1 hR1 (hT1.below (bel_d1 _)));rintro e v1 ⟨f,c,n,k,c',n',k',rfl,G,hb1⟩;have hc1:Below W.heap.size W v1:=bel_tr (bel_d1 _) hb1;have R1:=R0.below hc1;have z0:=(R1.cell 0).trans (show _=some (.bool false) from rfl);have z1:=(R1.cell 1).trans (show _=some (.bool false) from rfl);have z2:=(R1.cell 2).trans (show _=some (.slice none 0 0) from rfl);have z3:=(R1.cell 3).trans (show _=some (.slice none 0 0) from rfl);have u0:=R1.frozen 0;have u1:=R1.frozen 1;have u2:=R1.frozen 2;have u3:=R1.frozen 3)))
 obtain ⟨R2,O2⟩:=R1.set4 (.bool h) (.bool f) (.slice c n k) (.slice c' n' k')
 have hs2:=HS.out
 have hs3:=hc1.size
 have G2:=G.keep (R1.noW (by decide)) O2.grown
 go_wp2
 exact bodyPost_ret (R2.ret1 Tryz.results35 _ rfl Tryz.underlying49 bndI) rfl ⟨f,c,n,k,c',n',k',rfl,G2.mono (show w.heap.size≤W.heap.size by omega),(bel_tr hb hc1).trans (O2.below (by omega))⟩
end Go.Proofs.YtceigfafmalfgaaGreatDoor
