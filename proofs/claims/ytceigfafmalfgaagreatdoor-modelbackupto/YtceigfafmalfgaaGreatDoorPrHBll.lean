import Derived.Test.YtceigfafmalfgaaGreatDoorLxTAll
import Derived.StringKeys
namespace Go.Proofs.YtceigfafmalfgaaGreatDoor
open Go.RowKit Go.Maps
def kS (s:ByteArray):Lit:=.string s.data.toList
theorem kS_inj {s t:ByteArray} (h:kS s=kS t):s=t:=by
 simp only [kS,Lit.string.injEq] at h
 exact ByteArray.ext (Array.toList_inj.1 h)
theorem key_str (s:ByteArray):WideAt.IsKeyLit (kS s):=trivial
theorem keyS {s:ByteArray} (h:s.size≤1000000000):keyOf Tryz.prog 9 (.string s)=some (kS s):=Go.WideMaps.keyOf_string_mk Tryz.underlying9 (by unfold maxLen;omega)
def stq (ns:List ByteArray) (s:ByteArray):List ByteArray:=if s.data.toList=[]∨s.data.toList ∈ ns.map (·.data.toList) then ns else ns++[s]
theorem mem_data {ns:List ByteArray} {s:ByteArray}:s.data.toList ∈ ns.map (·.data.toList)↔s ∈ ns:=by
 rw [List.mem_map]
 constructor
 ·rintro ⟨t,h1,h2⟩
  have:t=s:=kS_inj (by unfold kS;rw [h2])
  rw [← this];exact h1
 ·intro h;exact ⟨s,h,rfl⟩
structure Pl (w:World) (B p q b:Nat) (D:DataW Value) (ns:List ByteArray):Prop where
 cp:Rw 67 w p #[.map (some b)]
 nm:∃ v E,Rw 68 w q #[v]∧SL w B 9 1 v ns.length E∧∀ (i:Nat) s,ns[i]? = some s→E i=[.string s]
 own:w.ownsMap Tryz.prog 9 rawR b ns.length D
 idx:∀ (j:Nat) s,ns[j]? = some s→D.atKey (kS s) (.held (.int .i64 0)) = .held (.int .i64 (j:Int))
 has:∀ s,Maps.has D (kS s)=true↔s ∈ ns
 bp:B≤p
 bq:B≤q
 bb:B≤b
 bs:B≤w.heap.size
structure FK (q b:Nat) (w w':World):Prop where
 os:w'.os=w.os
 tape:w'.tape=w.tape
 output:w'.output=w.output
 size:w.heap.size≤w'.heap.size
 block:∀ k,k<w.heap.size→k≠q→k≠b→(∀ cur,w.heap[k]? ≠ some (.cells cur 9 (0,0)))→w'.heap[k]? = w.heap[k]?
theorem FK.refl (q b:Nat) (w:World):FK q b w w:=⟨rfl,rfl,rfl,Nat.le_refl _,fun _ _ _ _ _=>rfl⟩
theorem FK.trans {q b:Nat} {w w1 w2:World} (h:FK q b w w1) (k:FK q b w1 w2):FK q b w w2 :=
 ⟨k.os.trans h.os,k.tape.trans h.tape,k.output.trans h.output,Nat.le_trans h.size k.size,fun i hi h1 h2 h3=>(k.block i (Nat.lt_of_lt_of_le hi h.size) h1 h2 (fun cur e=>h3 cur ((h.block i hi h1 h2 h3).symm.trans e))).trans (h.block i hi h1 h2 h3)⟩
theorem FK.of_below {q b:Nat} {w w':World} (h:Below w.heap.size w w'):FK q b w w':=⟨h.os,h.tape,h.output,h.size,fun k hk _ _ _=>h.block k hk⟩
theorem FK.rw {q b:Nat} {w w':World} (h:FK q b w w') {t:TypeId} {R:Nat} {cs:Array Value} (hr:Rw t w R cs) (h1:R≠q) (h2:R≠b) (ht:t≠9):Rw t w' R cs :=
 (h.block R hr.lt h1 h2 (fun cur e=>by unfold Rw at hr;rw [hr] at e;simp only [Option.some.injEq,Obj.cells.injEq] at e;exact ht e.2.1)).trans hr
theorem FK.of_grown {q b:Nat} {w w':World} {row:Option Nat} (hg:w.grownBy w' row) (hr:∀ k,row=some k→k=q∨k=b∨∃ cur,w.heap[k]? = some (.cells cur 9 (0,0))):FK q b w w' :=
 ⟨hg.os,hg.tape,hg.output,hg.size,fun k hk h1 h2 h3=>hg.block k hk fun e=>by
  rcases hr k e.symm with e|e|⟨cur,e⟩
  ·exact h1 e
  ·exact h2 e
  ·exact h3 cur e⟩
theorem SL.cells {w:World} {B:Nat} {T:TypeId} {c:Nat} {v:Value} {n:Nat} {E:Nat→List Value} (h:SL w B T c v n E):∀ g,v.ownBlock=some g→∃ cur,w.heap[g]? = some (.cells cur T (0,0)):=by
 intro g e
 obtain ⟨vs,h1,_⟩:=h
 rcases h1.2 with ⟨rfl,_⟩|⟨g',cap,cur,e1,_,f1,_⟩
 ·cases e
 ·subst e1
  simp [Value.ownBlock] at e
  subst e
  exact ⟨cur,f1⟩
theorem infStr:Inf 9 1 16:=inf_of (by kernel_rfl)
theorem Pl.below {w w':World} {B p q b:Nat} {D:DataW Value} {ns:List ByteArray} (h:Pl w B p q b D ns) (hb:Below w.heap.size w w'):Pl w' B p q b D ns:=by
 obtain ⟨v,E,h1,h2,h3⟩:=h.nm
 refine ⟨h.cp.below hb,⟨v,E,h1.below hb,h2.below hb,h3⟩,?_,h.idx,h.has,h.bp,h.bq,h.bb,Nat.le_trans h.bs hb.size⟩
 have hl:=h.own.lt
 obtain ⟨es,c,e1,e2⟩:=h.own
 exact ⟨es,c,(hb.block b hl).trans e1,e2⟩
theorem Pl.step {w w1 w2:World} {B p q b:Nat} {D:DataW Value} {ns:List ByteArray} {s:ByteArray} (h:Pl w B p q b D ns) (hs:s ∉ ns) (ho:w1.ownsMap Tryz.prog 9 rawR b (ns.length+1) (D.put (kS s) (.held (.int .i64 (ns.length:Int))))) (hg:w.grownBy w1 (some b))
  {v v':Value} {E:Nat→List Value} (hq:Rw 68 w q #[v]) (hE:∀ (i:Nat) s,ns[i]? = some s→E i=[.string s]) (hS:SL w2 B 9 1 v' (ns.length+1) (fun i=>if i<ns.length then E i else [.string s])) (hg2:w1.grownBy w2 v.ownBlock)
  (hv:v.ownBlock≠some p∧v.ownBlock≠some q∧v.ownBlock≠some b) (hb:∀ k,v'.ownBlock=some k→k≠q) (hpq:p≠q∧p≠b∧q≠b):Pl (w2.setCell ⟨q,0,none⟩ v') B p q b (D.put (kS s) (.held (.int .i64 (ns.length:Int)))) (ns++[s]):=by
 have hM:=h.own.isMap
 have hq2:Rw 68 w2 q #[v]:=(hq.kept hg (fun e=>hpq.2.2 (by cases e;rfl))).kept hg2 hv.2.1
 obtain ⟨hq3,O⟩:=hq2.set 0 v'
 have hS3:=hS.kept O.grown (fun g e e2=>hb g e (by cases e2;rfl))
 refine ⟨?_,⟨v',_,by simpa using hq3,by simpa using hS3,?_⟩,?_,?_,?_,h.bp,h.bq,h.bb,?_⟩
 ·exact (((h.cp.kept hg (fun e=>hpq.2.1 (by cases e;rfl))).kept hg2 hv.1).off O hpq.1)
 ·intro i u hu
  by_cases hi:i<ns.length
  ·rw [List.getElem?_append_left hi] at hu
   rw [if_pos hi]
   exact hE i u hu
  ·rw [List.getElem?_append_right (by omega)] at hu
   rw [if_neg hi]
   have h1:i-ns.length=0:=by
    have:=(List.getElem?_eq_some_iff.1 hu).1
    simp at this
    omega
   rw [h1] at hu
   simp at hu
   rw [hu]
 ·rw [List.length_append]
  refine (ho.kept hg2 (fun e=>hv.2.2 e.symm)).kept O.grown (fun e=>hpq.2.2 (by cases e;rfl))
 ·intro j u hu
  by_cases hj:j<ns.length
  ·rw [List.getElem?_append_left hj] at hu
   rw [atKey_put_other (fun e=>hs (by rw [← kS_inj e];exact List.mem_of_getElem? hu))]
   exact h.idx j u hu
  ·rw [List.getElem?_append_right (by omega)] at hu
   have h1:j-ns.length=0:=by
    have:=(List.getElem?_eq_some_iff.1 hu).1
    simp at this
    omega
   rw [h1] at hu
   simp at hu
   obtain rfl:j=ns.length:=by omega
   rw [← hu,atKey_put_same hM (key_str _)]
 ·intro u
  rw [List.mem_append,List.mem_singleton]
  by_cases e:u=s
  ·subst e
   rw [has_put_same hM (key_str _)]
   simp
  ·rw [has_put_other (fun e2=>e (kS_inj e2)),h.has u]
   simp [e]
 ·have:=hg.size;have:=hg2.size;have:=O.size;have:=h.bs;omega
end Go.Proofs.YtceigfafmalfgaaGreatDoor
namespace Go.Proofs.YtceigfafmalfgaaGreatDoor
open Go.RowKit Go.Maps
set_option maxRecDepth 100000 in
set_option maxHeartbeats 4000000 in
theorem standQ {w:World} {B p q b:Nat} {D:DataW Value} {ns:List ByteArray} (s:ByteArray) (h:Pl w B p q b D ns) (hs:s.size≤1000000000) (hl:ns.length≤1000000000) (hpq:p≠q∧p≠b∧q≠b) :
  Calls Tryz.prog 28 #[.string s,.pointer (some ⟨p,0,none⟩),.pointer (some ⟨q,0,none⟩)] w fun e w'=>e = .returned (.tuple #[])∧∃ D',Pl w' B p q b D' (stq ns s)∧FK q b w w'∧Below B w w':=by
 obtain ⟨v,E,hq,hS,hE⟩:=h.nm
 obtain ⟨na,nc,rfl,hnc⟩:=hS.form
 have c0:=(h.cp.cell 0).trans (show _=some (.map (some b)) from rfl)
 have q0:=(hq.cell 0).trans (show _=some (.slice na ns.length nc) from rfl)
 have q1:=hq.frozen 0
 obtain ⟨x,y,hrun,hx⟩:=h.own.look_ok (string_keyed Tryz.underlying9) (t:=67) (e:=3) Tryz.underlying67 (z:=.int .i64 0) (Tryz.zeroValue3 w) (zd:=.held (.int .i64 0)) (zp:=[]) rfl (keyS hs)
 by_cases he:s.data.toList=[]
 ·have he2:s.toList=[]:=by rw [ByteArray.toList_eq];exact he
  have e1:stq ns s=ns:=by unfold stq;rw [if_pos (.inl he)]
  rw [e1]
  go_enter Tryz.func28,Tryz.ntmps28
  go_wp2
  go_end0
  exact ⟨rfl,D,h,FK.refl _ _ _,Below.refl _ _⟩
 have he2:¬ s.toList=[]:=by rw [ByteArray.toList_eq];exact he
 have he3:s.toList.isEmpty=false:=by simpa using he2
 by_cases hin:s ∈ ns
 ·have hh:Maps.has D (kS s)=true:=(h.has s).2 hin
  rw [hh] at hrun
  have e1:stq ns s=ns:=by unfold stq;rw [if_pos (.inr (mem_data.2 hin))]
  rw [e1]
  go_enter Tryz.func28,Tryz.ntmps28
  go_wp2
  go_end0
  exact ⟨rfl,D,h,FK.refl _ _ _,Below.refl _ _⟩
 ·have hh:Maps.has D (kS s)=false:=by
   cases e:Maps.has D (kS s)
   ·rfl
   ·exact absurd ((h.has s).1 e) hin
  rw [hh] at hrun
  have e1:stq ns s=ns++[s]:=by unfold stq;rw [if_neg (fun h=>h.elim he (fun h=>hin (mem_data.1 h)))]
  rw [e1]
  obtain ⟨w1,hrun1,ho,hg⟩:=h.own.update (string_keyed Tryz.underlying9) Tryz.underlying67 (by unfold maxLen;omega) (keyS hs) (val:=.int .i64 (ns.length:Int)) (d:=.held (.int .i64 (ns.length:Int))) (ps:=[]) rfl
  have hs1:=hg.size
  have hbs:=h.bs
  have hmap:∃ es c,w.heap[b]? = some (.map es c):=by obtain ⟨es,c,e,_⟩:=h.own;exact ⟨es,c,e⟩
  have hvb:(Value.slice na ns.length nc).ownBlock≠some b:=by
   obtain ⟨vs,r,_⟩:=hS
   rcases row_map r hmap with e|e
   ·rw [e];intro e2;cases e2
   ·exact e
  have hvq:=hS.neR hq (by decide)
  have hvp:=hS.neR h.cp (by decide)
  have hS1:=hS.kept hg (fun g e e2=>hvb (e.trans e2.symm))
  have hq1:=hq.kept hg (fun e=>hpq.2.2 (by cases e;rfl))
  have r0:=(hq1.cell 0).trans (show _=some (.slice na ns.length nc) from rfl)
  have r1:=hq1.frozen 0
  have hB1:B≤w1.heap.size:=by omega
  have HSS:=hS1.below (bel_d0 w1 (.cells #[.string s] 9))
  have HPL:Hid (Pl w B p q b D ns):=h
  clear h
  go_enter Tryz.func28,Tryz.ntmps28
  go_wp2_with (at_builtin;refine wpList_appendS _ rfl _ _ 68 9 1 16 rfl Tryz.underlying68 infStr (by decide) (by decide) B (.slice na ns.length nc) ns.length E rfl HSS w1.heap.size _ rfl [.string s] rfl (fun u hu=>by simp at hu;rw [hu];rfl) (box_new w1 #[.string s] 9) (by omega) (by simp;omega) (w1.heap.size+1) (by simp) ?_)
  intro g cap w2 SN hgrow hat _
  have hq2:=(hq1.below (bel_d0 w1 (.cells #[.string s] 9))).kept hgrow hvq
  have s0:=(hq2.cell 0).trans (show _=some (.slice na ns.length nc) from rfl)
  have s1:=hq2.frozen 0
  have hg2:w1.grownBy w2 (Value.slice na ns.length nc).ownBlock:=(World.grownBy_alloc w1 (.cells #[.string s] 9) _).trans hgrow
  have hne:=SN.neR hq2 (by decide)
  have PN:=HPL.out.step hin ho hg hq hE SN hg2 ⟨hvp,hvq,hvb⟩ (fun k e e2=>hne (by rw [e,e2])) hpq
  have hO:=((Off.refl q w2).set 0 (.slice (some ⟨g,0,none⟩) (ns.length+1) cap)).grown
  have FN:FK q b w _:=((FK.of_grown hg (fun k e=>.inr (.inl (by cases e;rfl)))).trans (FK.of_grown hg2 (fun k e=>.inr (.inr (hS1.cells k e))))).trans (FK.of_grown hO (fun k e=>.inl (by cases e;rfl)))
  have hs2:=hg2.size
  have BN:Below B w _:=((grown_below hg hbs (fun k e=>by cases e;exact HPL.out.bb)).trans (grown_below hg2 hB1 (fun k e=>(hS1.lt k e).1))).trans (grown_below hO (by omega) (fun k e=>by cases e;exact HPL.out.bq))
  clear HSS hS1 hq1 r0 r1 hg hgrow hg2 hO hat SN HPL hq2
  go_wp2
  go_end0
  exact ⟨rfl,_,PN,FN,BN⟩
end Go.Proofs.YtceigfafmalfgaaGreatDoor
namespace Go.Proofs.YtceigfafmalfgaaGreatDoor
open Go.RowKit Go.Maps
structure PI where
 coef:Rat
 nm:ByteArray
 ln:Int
 cl:Int
structure ItemAt (w:World) (b o:Nat) (t:PI) (S:Nat):Prop where
 coef:C3 w b o t.coef S
 nm:w.cell? ⟨b,o+3,none⟩=some (.string t.nm)
 ln:w.cell? ⟨b,o+4,none⟩=some (.int .i64 t.ln)
 cl:w.cell? ⟨b,o+5,none⟩=some (.int .i64 t.cl)
 s1:1≤S
 sz:SzR t.coef S
 snm:t.nm.size≤1000000000
theorem ItemAt.below {w w':World} {b o:Nat} {t:PI} {S:Nat} (h:ItemAt w b o t S) (hb:Below w.heap.size w w'):ItemAt w' b o t S:=⟨h.coef.below hb,kept_c hb h.nm,kept_c hb h.ln,kept_c hb h.cl,h.s1,h.sz,h.snm⟩
def LI (w:World) (a:Option Addr) (n:Nat) (I:Nat→PI) (Z:Nat→Nat):Prop:=n=0∨∃ b o,a=some ⟨b,o,none⟩∧∀ i,i<n→ItemAt w b (o+i*6) (I i) (Z i)
theorem LI.below {w w':World} {a:Option Addr} {n:Nat} {I:Nat→PI} {Z:Nat→Nat} (h:LI w a n I Z) (hb:Below w.heap.size w w'):LI w' a n I Z:=by
 rcases h with h|⟨b,o,rfl,h⟩
 ·exact .inl h
 ·exact .inr ⟨b,o,rfl,fun i hi=>(h i hi).below hb⟩
def fol (ns:List ByteArray) (I:Nat→PI):Nat→List ByteArray
 | 0=>ns
 | j+1=>stq (fol ns I j) (I j).nm
theorem stq_len (ns:List ByteArray) (s:ByteArray):(stq ns s).length≤ns.length+1:=by
 unfold stq
 split
 ·omega
 ·rw [List.length_append];exact Nat.le_refl _
theorem fol_len (ns:List ByteArray) (I:Nat→PI):∀ j,(fol ns I j).length≤ns.length+j
 | 0=>Nat.le_refl _
 | j+1=>by have:=fol_len ns I j;have:=stq_len (fol ns I j) (I j).nm;show (stq _ _).length≤_;omega
set_option maxRecDepth 100000 in
set_option maxHeartbeats 4000000 in
theorem itemsQ {w:World} {B p q b r:Nat} {D:DataW Value} {ns:List ByteArray} {ia:Option Addr} {n ic:Nat} {I:Nat→PI} {Z:Nat→Nat} (h:Pl w B p q b D ns) (hI:∀ w',Below B w w'→LI w' ia n I Z) (hz:∀ i,i<n→(I i).nm.size≤1000000000) (hl:ns.length+n≤1000000000) (hpq:p≠q∧p≠b∧q≠b)
  (hr:Rw 94 w r #[.func (.func 28) #[] #[.pointer (some ⟨p,0,none⟩),.pointer (some ⟨q,0,none⟩)]]) (hrq:r≠q∧r≠b) :
  Calls Tryz.prog 29 #[.slice ia n ic,.pointer (some ⟨r,0,none⟩)] w fun e w'=>e = .returned (.tuple #[])∧∃ D',Pl w' B p q b D' (fol ns I n)∧FK q b w w'∧Below B w w':=by
 have HI:Hid (∀ w',Below B w w'→LI w' ia n I Z):=hI
 have HZ:Hid (∀ i,i<n→(I i).nm.size≤1000000000):=hz
 clear hI hz
 go_enter Tryz.func29,Tryz.ntmps29
 go_wp2
 go_loopw [7] (fun s7 wr=>∃ (j:Nat) (D:DataW Value),j≤n∧s7 = .int .i64 j∧Pl wr B p q b D (fol ns I j)∧FK q b w wr∧Below B w wr) (fun s7 _=>n-(intOf s7).toNat)
 case atStart=>exact ⟨0,D,Nat.zero_le _,rfl,h,FK.refl _ _ _,Below.refl _ _⟩
 case round =>
  clear h
  obtain ⟨j,D,hj,rfl,h,hF,hB⟩:=hrel
  by_cases hlt:j<n
  ·have hkI:(j:Int)<(n:Int):=by omega
   have hkI2:(j:Int)*6=((j*6:Nat):Int):=by omega
   have hz:=HZ.out j hlt
   rcases HI.out wr hB with h0|⟨tb,to,eia,hel⟩
   ·omega
   have hT:=hel j hlt
   obtain ⟨pC,aC,nC,cC,dC,mC,lC,x0,x1,x2,_⟩:=hT.coef
   obtain ⟨nm,enm⟩:∃ x,x=(I j).nm:=⟨_,rfl⟩
   obtain ⟨ln,eln⟩:∃ x,x=(I j).ln:=⟨_,rfl⟩
   obtain ⟨cl,ecl⟩:∃ x,x=(I j).cl:=⟨_,rfl⟩
   have x3:=hT.nm
   have x4:=hT.ln
   have x5:=hT.cl
   rw [← enm] at x3 hz
   rw [← eln] at x4
   rw [← ecl] at x5
   have EN:Hid (nm=(I j).nm):=enm
   clear hel hT enm eln ecl
   rw [eia]
   have hrr:=hF.rw hr hrq.1 hrq.2 (by decide)
   have y0:=((hrr.below (bel_d0 wr (.cells #[.bool pC,.slice aC nC cC,.slice dC mC lC,.string nm,.int .i64 ln,.int .i64 cl] 59))).cell 0).trans (show _=some (.func (.func 28) #[] #[.pointer (some ⟨p,0,none⟩),.pointer (some ⟨q,0,none⟩)]) from rfl)
   have hz0:=bel_d0 wr (.cells #[.bool pC,.slice aC nC cC,.slice dC mC lC,.string nm,.int .i64 ln,.int .i64 cl] 59)
   have h4:=h.below hz0
   have hfl:=fol_len ns I j
   go_wp2_with fail
   refine (standQ nm h4 hz (by omega) hpq).mono ?_
   rintro e w5 ⟨rfl,D',h5,hF5,hB5⟩
   have PN:Pl w5 B p q b D' (fol ns I (j+1)):=by show Pl w5 B p q b D' (stq _ _);rw [← EN.out];exact h5
   have FN:FK q b w w5:=(hF.trans (FK.of_below hz0)).trans hF5
   have BN:Below B w w5:=(hB.trans (hz0.mono h.bs)).trans hB5
   clear h h4 h5 hF hB hF5 hB5 y0 hz0 x0 x1 x2 x3 x4 x5
   rw [← eia]
   go_wp2
   go_roundw
   case rel=>first|exact ⟨j+1,by omega,by go_num,D',PN,FN,BN⟩|exact ⟨j+1,D',by omega,by go_num,PN,FN,BN⟩
   case measure=>simp [intOf];omega
  ·have hkI:¬ (j:Int)<(n:Int):=by omega
   obtain rfl:j=n:=by omega
   go_wp2
   go_end0
   exact ⟨rfl,⟨D,h⟩,hF,hB⟩
end Go.Proofs.YtceigfafmalfgaaGreatDoor
