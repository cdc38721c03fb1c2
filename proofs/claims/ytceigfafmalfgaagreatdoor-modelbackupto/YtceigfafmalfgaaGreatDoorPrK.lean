import Derived.Test.YtceigfafmalfgaaGreatDoorPrHBll
namespace Go.Proofs.YtceigfafmalfgaaGreatDoor
open Go.RowKit Go.Maps
structure PC where
 nm:ByteArray
 ln:Int
 cl:Int
 n:Nat
 I:Nat→PI
 hlo:Bool
 lo:Rat
 hhi:Bool
 hi:Rat
structure ClaimAt (w:World) (b o:Nat) (t:PC) (S:Nat):Prop where
 nm:w.cell? ⟨b,o,none⟩=some (.string t.nm)
 ln:w.cell? ⟨b,o+1,none⟩=some (.int .i64 t.ln)
 cl:w.cell? ⟨b,o+2,none⟩=some (.int .i64 t.cl)
 items:∃ a cap Z,w.cell? ⟨b,o+3,none⟩=some (.slice a t.n cap)∧LI w a t.n t.I Z∧tot Z t.n≤S∧t.n≤cap
 hlo:w.cell? ⟨b,o+4,none⟩=some (.bool t.hlo)
 lo:C3 w b (o+5) t.lo S
 hhi:w.cell? ⟨b,o+8,none⟩=some (.bool t.hhi)
 hi:C3 w b (o+9) t.hi S
 s1:1≤S
 slo:SzR t.lo S
 shi:SzR t.hi S
 snm:t.nm.size≤1000000000
theorem ClaimAt.below {w w':World} {b o:Nat} {t:PC} {S:Nat} (h:ClaimAt w b o t S) (hb:Below w.heap.size w w'):ClaimAt w' b o t S:=by
 obtain ⟨a,cap,Z,h1,h2,h3⟩:=h.items
 exact ⟨kept_c hb h.nm,kept_c hb h.ln,kept_c hb h.cl,⟨a,cap,Z,kept_c hb h1,h2.below hb,h3⟩,kept_c hb h.hlo,h.lo.below hb,kept_c hb h.hhi,h.hi.below hb,h.s1,h.slo,h.shi,h.snm⟩
def LC (w:World) (a:Option Addr) (n:Nat) (C:Nat→PC) (Z:Nat→Nat):Prop:=n=0∨∃ b o,a=some ⟨b,o,none⟩∧∀ i,i<n→ClaimAt w b (o+i*12) (C i) (Z i)
theorem LC.below {w w':World} {a:Option Addr} {n:Nat} {C:Nat→PC} {Z:Nat→Nat} (h:LC w a n C Z) (hb:Below w.heap.size w w'):LC w' a n C Z:=by
 rcases h with h|⟨b,o,rfl,h⟩
 ·exact .inl h
 ·exact .inr ⟨b,o,rfl,fun i hi=>(h i hi).below hb⟩
structure PL where
 nm:ByteArray
 ln:Int
 cl:Int
 slo:Bool
 shi:Bool
 hlo:Bool
 lo:Rat
 hhi:Bool
 hi:Rat
structure LimAt (w:World) (b o:Nat) (t:PL) (S:Nat):Prop where
 nm:w.cell? ⟨b,o,none⟩=some (.string t.nm)
 ln:w.cell? ⟨b,o+1,none⟩=some (.int .i64 t.ln)
 cl:w.cell? ⟨b,o+2,none⟩=some (.int .i64 t.cl)
 slo:w.cell? ⟨b,o+3,none⟩=some (.bool t.slo)
 shi:w.cell? ⟨b,o+4,none⟩=some (.bool t.shi)
 hlo:w.cell? ⟨b,o+5,none⟩=some (.bool t.hlo)
 lo:C3 w b (o+6) t.lo S
 hhi:w.cell? ⟨b,o+9,none⟩=some (.bool t.hhi)
 hi:C3 w b (o+10) t.hi S
 s1:1≤S
 zlo:SzR t.lo S
 zhi:SzR t.hi S
 snm:t.nm.size≤1000000000
theorem LimAt.below {w w':World} {b o:Nat} {t:PL} {S:Nat} (h:LimAt w b o t S) (hb:Below w.heap.size w w'):LimAt w' b o t S :=
 ⟨kept_c hb h.nm,kept_c hb h.ln,kept_c hb h.cl,kept_c hb h.slo,kept_c hb h.shi,kept_c hb h.hlo,h.lo.below hb,kept_c hb h.hhi,h.hi.below hb,h.s1,h.zlo,h.zhi,h.snm⟩
def LL (w:World) (a:Option Addr) (n:Nat) (L:Nat→PL) (Z:Nat→Nat):Prop:=n=0∨∃ b o,a=some ⟨b,o,none⟩∧∀ i,i<n→LimAt w b (o+i*13) (L i) (Z i)
theorem LL.below {w w':World} {a:Option Addr} {n:Nat} {L:Nat→PL} {Z:Nat→Nat} (h:LL w a n L Z) (hb:Below w.heap.size w w'):LL w' a n L Z:=by
 rcases h with h|⟨b,o,rfl,h⟩
 ·exact .inl h
 ·exact .inr ⟨b,o,rfl,fun i hi=>(h i hi).below hb⟩
structure PM where
 nm:ByteArray
 ln:Int
 cl:Int
def MenAt (w:World) (b o:Nat) (t:PM):Prop:=w.cell? ⟨b,o,none⟩=some (.string t.nm)∧w.cell? ⟨b,o+1,none⟩=some (.int .i64 t.ln)∧w.cell? ⟨b,o+2,none⟩=some (.int .i64 t.cl)∧t.nm.size≤1000000000
def LN (w:World) (a:Option Addr) (n:Nat) (M:Nat→PM):Prop:=n=0∨∃ b o,a=some ⟨b,o,none⟩∧∀ i,i<n→MenAt w b (o+i*3) (M i)
theorem LN.below {w w':World} {a:Option Addr} {n:Nat} {M:Nat→PM} (h:LN w a n M) (hb:Below w.heap.size w w'):LN w' a n M:=by
 rcases h with h|⟨b,o,rfl,h⟩
 ·exact .inl h
 ·exact .inr ⟨b,o,rfl,fun i hi=>by
   obtain ⟨h1,h2,h3,h4⟩:=h i hi
   exact ⟨kept_c hb h1,kept_c hb h2,kept_c hb h3,h4⟩⟩
structure Txt where
 mx:Bool
 nm:ByteArray
 ia:Option Addr
 n:Nat
 ic:Nat
 ca:Option Addr
 cn:Nat
 cc:Nat
 I:Nat→PI
 ZI:Nat→Nat
 C:Nat→PC
 ZC:Nat→Nat
 K:Nat
 la:Option Addr
 ln:Nat
 lc:Nat
 L:Nat→PL
 ZL:Nat→Nat
 wa:Option Addr
 wn:Nat
 wc:Nat
 M:Nat→PM
abbrev Txt.val (T:Txt):Value:=.agg #[.bool T.mx,.string T.nm,.slice T.ia T.n T.ic,.slice T.ca T.cn T.cc,.slice T.la T.ln T.lc,.slice T.wa T.wn T.wc,.slice none 0 0]
structure TX (w:World) (T:Txt):Prop where
 i:LI w T.ia T.n T.I T.ZI
 c:LC w T.ca T.cn T.C T.ZC
 all:tot T.ZI T.n+tot T.ZC T.cn+T.nm.size≤T.K
 ic:T.n≤T.ic
 cc:T.cn≤T.cc
 l:LL w T.la T.ln T.L T.ZL
 m:LN w T.wa T.wn T.M
 lw:T.ln≤1048580∧T.wn≤1048580
theorem TX.below {w w':World} {T:Txt} (h:TX w T) (hb:Below w.heap.size w w'):TX w' T:=⟨h.i.below hb,h.c.below hb,h.all,h.ic,h.cc,h.l.below hb,h.m.below hb,h.lw⟩
def folC (ns:List ByteArray) (C:Nat→PC):Nat→List ByteArray
 | 0=>ns
 | j+1=>fol (folC ns C j) (C j).I (C j).n
theorem folC_len {w:World} {a:Option Addr} {n:Nat} {C:Nat→PC} {Z:Nat→Nat} (h:LC w a n C Z) (ns:List ByteArray):∀ j,j≤n→(folC ns C j).length≤ns.length+tot Z j
 | 0,_=>Nat.le_add_right _ _
 | j+1,hj=>by
  have ih:=folC_len h ns j (by omega)
  have h1:=fol_len (folC ns C j) (C j).I (C j).n
  rcases h with h0|⟨b,o,_,hc⟩
  ·omega
  ·obtain ⟨a',cap,Z',_,_,h3,_⟩:=(hc j (by omega)).items
   have h4:=tot_len Z' (C j).n
   show (fol _ _ _).length≤ns.length+(tot Z j+Z j+1)
   omega
def folL (ns:List ByteArray) (L:Nat→PL):Nat→List ByteArray
 | 0=>ns
 | j+1=>stq (folL ns L j) (L j).nm
theorem folL_len (ns:List ByteArray) (L:Nat→PL):∀ j,(folL ns L j).length≤ns.length+j
 | 0=>Nat.le_refl _
 | j+1=>by have:=folL_len ns L j;have:=stq_len (folL ns L j) (L j).nm;show (stq _ _).length≤_;omega
def folM (ns:List ByteArray) (M:Nat→PM):Nat→List ByteArray
 | 0=>ns
 | j+1=>stq (folM ns M j) (M j).nm
theorem folM_len (ns:List ByteArray) (M:Nat→PM):∀ j,(folM ns M j).length≤ns.length+j
 | 0=>Nat.le_refl _
 | j+1=>by have:=folM_len ns M j;have:=stq_len (folM ns M j) (M j).nm;show (stq _ _).length≤_;omega
def allNames (T:Txt):List ByteArray:=folM (folL (folC (fol [] T.I T.n) T.C T.cn) T.L T.ln) T.M T.wn
theorem run_store_fun (P:Program) (w:World) (a:Addr) (m:Mode) (f:Fn) (b c:Array Value):(store a (.func f b c) m).run P w=stored P w a (.func f b c) m:=run_store P w a _ m rfl
theorem Rw.same {t:TypeId} {w:World} {R:Nat} {v:Value} (h:Rw t w R #[v]):w.setCell ⟨R,0,none⟩ v=w:=by
 have hh:(w.setCell ⟨R,0,none⟩ v).heap=w.heap:=by
  apply Array.ext_getElem?
  intro i
  by_cases e:i=R
  ·subst e
   have h2:=(h.set 0 v).1
   unfold Rw at h h2
   rw [h2,h]
   simp
  ·exact ((h.set 0 v).2.block i e)
 cases w
 simp only [World.setCell] at hh ⊢
 rw [hh]
theorem places_start (w:World) (c0 c4:Array Value) (W:World) (hW:W=((((w.alloc (.cells c0 43)).alloc (.cells #[.map (some (w.heap.size+1+1+1))] 67)).alloc (.cells #[.slice none 0 0] 68)).alloc (.map #[] 0)).alloc (.cells c4 94)) :
  Rw 43 W w.heap.size c0∧Pl W w.heap.size (w.heap.size+1) (w.heap.size+1+1) (w.heap.size+1+1+1) (.map []) []∧Rw 94 W (w.heap.size+1+1+1+1) c4∧Below w.heap.size w W:=by
 have R0:=Rw.new 43 w c0
 have e1:(w.alloc (.cells c0 43)).heap.size=w.heap.size+1:=by simp
 generalize hw1:w.alloc (.cells c0 43)=w1 at *
 have R1:=Rw.new 67 w1 #[.map (some (w.heap.size+1+1+1))]
 have e2:(w1.alloc (.cells #[.map (some (w.heap.size+1+1+1))] 67)).heap.size=w.heap.size+1+1:=by simp [e1]
 have b1:=bel_d0 w1 (.cells #[.map (some (w.heap.size+1+1+1))] 67)
 generalize hw2:w1.alloc (.cells #[.map (some (w.heap.size+1+1+1))] 67)=w2 at *
 have R2:=Rw.new 68 w2 #[.slice none 0 0]
 have e3:(w2.alloc (.cells #[.slice none 0 0] 68)).heap.size=w.heap.size+1+1+1:=by simp [e2]
 have b2:=bel_d0 w2 (.cells #[.slice none 0 0] 68)
 generalize hw3:w2.alloc (.cells #[.slice none 0 0] 68)=w3 at *
 have M:=World.ownsMap_made w3 Tryz.prog 9 rawR
 have e4:(w3.alloc (.map #[] 0)).heap.size=w.heap.size+1+1+1+1:=by simp [e3]
 have b3:=bel_d0 w3 (.map #[] 0)
 generalize hw4:w3.alloc (.map #[] 0)=w4 at *
 have R4:=Rw.new 94 w4 c4
 have b4:=bel_d0 w4 (.cells c4 94)
 have M2:=M.alloc (.cells c4 94)
 have b0:Below w.heap.size w w1:=by rw [← hw1];exact bel_d0 _ _
 have e5:(w4.alloc (.cells c4 94)).heap.size=w.heap.size+1+1+1+1+1:=by simp [e4]
 rw [← hW] at R4 b4 M2 e5
 rw [e4] at R4
 rw [e3] at M2
 rw [e2] at R2
 rw [e1] at R1
 refine ⟨(((R0.below b1).below b2).below b3).below b4,⟨((R1.below b2).below b3).below b4,⟨_,fun _=>[],(R2.below b3).below b4,SL.nil _ _ _ _ _,fun i s h=>by simp at h⟩,M2,fun j s h=>by simp at h,fun s=>?_,by omega,by omega,by omega,by omega⟩,R4,bel_tr (bel_tr (bel_tr (bel_tr b0 b1) b2) b3) b4⟩
 constructor
 ·intro h;cases h
 ·intro h;cases h
set_option maxRecDepth 100000 in
set_option maxHeartbeats 4000000 in
theorem mentionsQ {w:World} {B p q b r:Nat} {D:DataW Value} {ns:List ByteArray} {ia:Option Addr} {n ic:Nat} {M:Nat→PM} (h:Pl w B p q b D ns) (hI:∀ w',Below B w w'→LN w' ia n M) (hl:ns.length+n≤1000000000) (hpq:p≠q∧p≠b∧q≠b)
  (hr:Rw 94 w r #[.func (.func 28) #[] #[.pointer (some ⟨p,0,none⟩),.pointer (some ⟨q,0,none⟩)]]) (hrq:r≠q∧r≠b) :
  Calls Tryz.prog 30 #[.slice ia n ic,.pointer (some ⟨r,0,none⟩)] w fun e w'=>e = .returned (.tuple #[])∧∃ D',Pl w' B p q b D' (folM ns M n)∧FK q b w w'∧Below B w w':=by
 have HI:Hid (∀ w',Below B w w'→LN w' ia n M):=hI
 clear hI
 go_enter Tryz.func30,Tryz.ntmps30
 go_wp2
 go_loopw [7] (fun s7 wr=>∃ (j:Nat) (D:DataW Value),j≤n∧s7 = .int .i64 j∧Pl wr B p q b D (folM ns M j)∧FK q b w wr∧Below B w wr) (fun s7 _=>n-(intOf s7).toNat)
 case atStart=>exact ⟨0,D,Nat.zero_le _,rfl,h,FK.refl _ _ _,Below.refl _ _⟩
 case round =>
  clear h
  obtain ⟨j,D,hj,rfl,h,hF,hB⟩:=hrel
  by_cases hlt:j<n
  ·have hkI:(j:Int)<(n:Int):=by omega
   have hkI2:(j:Int)*3=((j*3:Nat):Int):=by omega
   rcases HI.out wr hB with h0|⟨tb,to,eia,hel⟩
   ·omega
   obtain ⟨x3,x4,x5,hz⟩:=hel j hlt
   obtain ⟨nm,enm⟩:∃ x,x=(M j).nm:=⟨_,rfl⟩
   obtain ⟨ln,eln⟩:∃ x,x=(M j).ln:=⟨_,rfl⟩
   obtain ⟨cl,ecl⟩:∃ x,x=(M j).cl:=⟨_,rfl⟩
   rw [← enm] at x3 hz
   rw [← eln] at x4
   rw [← ecl] at x5
   have EN:Hid (nm=(M j).nm):=enm
   clear hel enm eln ecl
   rw [eia]
   have hrr:=hF.rw hr hrq.1 hrq.2 (by decide)
   have y0:=((hrr.below (bel_d0 wr (.cells #[.string nm,.int .i64 ln,.int .i64 cl] 79))).cell 0).trans (show _=some (.func (.func 28) #[] #[.pointer (some ⟨p,0,none⟩),.pointer (some ⟨q,0,none⟩)]) from rfl)
   have hz0:=bel_d0 wr (.cells #[.string nm,.int .i64 ln,.int .i64 cl] 79)
   have h4:=h.below hz0
   have hfl:=folM_len ns M j
   go_wp2_with fail
   refine (standQ nm h4 hz (by omega) hpq).mono ?_
   rintro e w5 ⟨rfl,D',h5,hF5,hB5⟩
   have PN:Pl w5 B p q b D' (folM ns M (j+1)):=by show Pl w5 B p q b D' (stq _ _);rw [← EN.out];exact h5
   have FN:FK q b w w5:=(hF.trans (FK.of_below hz0)).trans hF5
   have BN:Below B w w5:=(hB.trans (hz0.mono h.bs)).trans hB5
   clear h h4 h5 hF hB hF5 hB5 y0 hz0 x3 x4 x5
   rw [← eia]
   go_wp2
   go_roundw
   case rel=>first|exact ⟨j+1,by omega,by go_num,D',PN,FN,BN⟩|exact ⟨j+1,D',by omega,by go_num,PN,FN,BN⟩
   case measure=>simp [intOf];omega
  ·have hkI:¬ (j:Int)<(n:Int):=by omega
   obtain rfl:j=n:=by omega
   go_wp2
   go_end0
   exact ⟨rfl,⟨D,h⟩,hF,hB⟩
set_option maxRecDepth 100000 in
set_option maxHeartbeats 8000000 in
theorem placesQ (T:Txt) (w:World) (hT:TX w T) (hK:T.K≤1048580) :
  Calls Tryz.prog 15 #[T.val] w fun e w'=>∃ p q b D v,e = .returned (.tuple #[.map (some b),v])∧Pl w' w.heap.size p q b D (allNames T)∧Rw 68 w' q #[v]∧Below w.heap.size w w':=by
 have hmm:=@run_makeMap Tryz.prog
 have hsf:=@run_store_fun Tryz.prog
 unfold Txt.val
 go_enter Tryz.func15,Tryz.ntmps15
 go_wp2_with fail
 obtain ⟨W,hW⟩:∃ W,W=((((w.alloc (.cells #[.bool T.mx,.string T.nm,.slice T.ia T.n T.ic,.slice T.ca T.cn T.cc,.slice T.la T.ln T.lc,.slice T.wa T.wn T.wc,.slice none 0 0] 43)).alloc (.cells #[.map (some (w.heap.size+1+1+1))] 67)).alloc (.cells #[.slice none 0 0] 68)).alloc (.map #[] 0)).alloc (.cells #[.func (.func 28) #[] #[.pointer (some ⟨w.heap.size+1,0,none⟩),.pointer (some ⟨w.heap.size+1+1,0,none⟩)]] 94):=⟨_,rfl⟩
 rw [← hW]
 obtain ⟨X0,P0,RR,hb0⟩:=places_start w _ _ W hW
 clear hW
 obtain ⟨p,hp⟩:∃ p,p=w.heap.size+1:=⟨_,rfl⟩
 obtain ⟨q,hq⟩:∃ q,q=w.heap.size+1+1:=⟨_,rfl⟩
 obtain ⟨b,hb⟩:∃ b,b=w.heap.size+1+1+1:=⟨_,rfl⟩
 obtain ⟨r,hr⟩:∃ r,r=w.heap.size+1+1+1+1:=⟨_,rfl⟩
 rw [← hr,← hb,← hq,← hp]
 rw [← hb,← hq,← hp] at P0
 rw [← hr,← hq,← hp] at RR
 have hpq:p≠q∧p≠b∧q≠b:=by omega
 have hrq:r≠q∧r≠b:=by omega
 have h0q:w.heap.size≠q∧w.heap.size≠b:=by omega
 have HPQ:Hid (p≠q∧p≠b∧q≠b):=hpq
 have HRQ:Hid (r≠q∧r≠b):=hrq
 have H0Q:Hid (w.heap.size≠q∧w.heap.size≠b):=h0q
 clear hpq hrq h0q hp hq hb hr
 have hnn:T.n≤1048580:=by have:=hT.all;have:=tot_len T.ZI T.n;omega
 have hcn:T.cn≤1048580:=by have:=hT.all;have:=tot_len T.ZC T.cn;omega
 refine (itemsQ P0 (fun w' h=>hT.i.below (hb0.trans h)) (fun i hi=>by
  rcases hT.i with h0|⟨b',o',_,hel⟩
  ·omega
  ·exact (hel i hi).snm) (by show 0+T.n≤_;omega) HPQ.out RR HRQ.out).mono ?_
 rintro e w6 ⟨rfl,D6,P6,F6,B6⟩
 have X6:=F6.rw X0 H0Q.out.1 H0Q.out.2 (by decide)
 have hb6:=hb0.trans B6
 have x3:=(X6.cell 3).trans (show _=some (.slice T.ca T.cn T.cc) from rfl)
 clear P0 hmm
 go_wp2
 go_loopw [22] (fun s22 wr=>∃ (j:Nat) (D:DataW Value),j≤T.cn∧s22 = .int .i64 j∧Pl wr w.heap.size p q b D (folC (fol [] T.I T.n) T.C j)∧FK q b W wr∧Below w.heap.size w wr) (fun s22 _=>T.cn-(intOf s22).toNat)
 case atStart=>exact ⟨0,D6,Nat.zero_le _,rfl,P6,F6,hb6⟩
 case round =>
  clear P6 F6 hb6 x3 X6 B6
  obtain ⟨j,D,hj,rfl,h,hF,hB⟩:=hrel
  by_cases hlt:j<T.cn
  ·have hkI:(j:Int)<(T.cn:Int):=by omega
   have hkI2:(j:Int)*12=((j*12:Nat):Int):=by omega
   have hfl:=folC_len hT.c (fol [] T.I T.n) j (by omega)
   have hfl2:(fol [] T.I T.n).length≤T.n:=by have:=fol_len [] T.I T.n;simpa using this
   have hto:=tot_mono T.ZC hj
   have hal:=hT.all
   rcases hT.c with h0|⟨cb,co,eca,hel⟩
   ·omega
   have hC:=hel j hlt
   have hZj:=tot_le (Z:=T.ZC) hlt
   obtain ⟨nm,enm⟩:∃ x,x=(T.C j).nm:=⟨_,rfl⟩
   obtain ⟨ln,eln⟩:∃ x,x=(T.C j).ln:=⟨_,rfl⟩
   obtain ⟨cl,ecl⟩:∃ x,x=(T.C j).cl:=⟨_,rfl⟩
   obtain ⟨n,en⟩:∃ x,x=(T.C j).n:=⟨_,rfl⟩
   obtain ⟨hl,ehl⟩:∃ x,x=(T.C j).hlo:=⟨_,rfl⟩
   obtain ⟨hh,ehh⟩:∃ x,x=(T.C j).hhi:=⟨_,rfl⟩
   have x0:=kept_c hB hC.nm
   have x1:=kept_c hB hC.ln
   have x2:=kept_c hB hC.cl
   obtain ⟨ia,ic,Zi,x3,hLI,htot,hic⟩:=hC.items
   have x4:=kept_c hB hC.hlo
   obtain ⟨p2,a2,n2,k2,d2,m2,l2,x5,x6,x7,_⟩:=hC.lo
   have x8:=kept_c hB hC.hhi
   obtain ⟨p3,a3,n3,k3,d3,m3,l3,x9,x10,x11,_⟩:=hC.hi
   replace x3:=kept_c hB x3
   replace x5:=kept_c hB x5
   replace x6:=kept_c hB x6
   replace x7:=kept_c hB x7
   replace x9:=kept_c hB x9
   replace x10:=kept_c hB x10
   replace x11:=kept_c hB x11
   rw [← enm] at x0
   rw [← eln] at x1
   rw [← ecl] at x2
   rw [← en] at x3 hLI htot hic
   rw [← ehl] at x4
   rw [← ehh] at x8
   have EN:Hid (n=(T.C j).n):=en
   clear hel hC enm eln ecl en ehl ehh
   have hz0:=bel_d0 wr (.cells #[.string nm,.int .i64 ln,.int .i64 cl,.slice ia n ic,.bool hl,.bool p2,.slice a2 n2 k2,.slice d2 m2 l2,.bool hh,.bool p3,.slice a3 n3 k3,.slice d3 m3 l3] 61)
   have h4:=h.below hz0
   have hB4:=bel_tr hB hz0
   have RR4:=(hF.rw RR HRQ.out.1 HRQ.out.2 (by decide)).below hz0
   have hnl:=tot_len Zi n
   rw [eca]
   go_wp2_with fail
   refine (itemsQ h4 (fun w' hh=>hLI.below (hB4.trans hh)) (fun i hi=>by
    rcases hLI with h0|⟨b',o',_,hel⟩
    ·omega
    ·exact (hel i hi).snm) (by omega) HPQ.out RR4 HRQ.out).mono ?_
   rintro e w7 ⟨rfl,D7,P7,F7,B7⟩
   have PN:Pl w7 w.heap.size p q b D7 (folC (fol [] T.I T.n) T.C (j+1)):=by show Pl w7 w.heap.size p q b D7 (fol _ _ _);rw [← EN.out];exact P7
   have FN:FK q b W w7:=(hF.trans (FK.of_below hz0)).trans F7
   have BN:Below w.heap.size w w7:=hB4.trans B7
   clear h h4 hF hB hB4 F7 B7 P7 hz0 x0 x1 x2 x3 x4 x5 x6 x7 x8 x9 x10 x11 hLI RR4
   rw [← eca]
   go_wp2
   go_roundw
   case rel=>exact ⟨j+1,D7,by omega,by go_num,PN,FN,BN⟩
   case measure=>simp [intOf];omega
  ·have hkI:¬ (j:Int)<(T.cn:Int):=by omega
   obtain rfl:j=T.cn:=by omega
   have X7:=hF.rw X0 H0Q.out.1 H0Q.out.2 (by decide)
   have x4:=(X7.cell 4).trans (show _=some (.slice T.la T.ln T.lc) from rfl)
   have hfl1:=folC_len hT.c (fol [] T.I T.n) T.cn (Nat.le_refl _)
   have hfl2:(fol [] T.I T.n).length≤T.n:=by have:=fol_len [] T.I T.n;simpa using this
   have hal:=hT.all
   have hlw:=hT.lw
   have hto:=tot_len T.ZC T.cn
   have hLen:(folC (fol [] T.I T.n) T.C T.cn).length≤100000000:=by have:=tot_len T.ZI T.n;omega
   obtain ⟨ns,hns⟩:∃ ns,ns=folC (fol [] T.I T.n) T.C T.cn:=⟨_,rfl⟩
   have HNS:Hid (ns=folC (fol [] T.I T.n) T.C T.cn):=hns
   rw [← hns] at h hLen
   clear hns hfl1 hfl2 hal hto
   go_wp2
   go_loopw [34] (fun s34 wq=>∃ (k:Nat) (D:DataW Value),k≤T.ln∧s34 = .int .i64 k∧Pl wq w.heap.size p q b D (folL ns T.L k)∧FK q b W wq∧Below w.heap.size w wq) (fun s34 _=>T.ln-(intOf s34).toNat)
   case atStart=>exact ⟨0,D,Nat.zero_le _,rfl,h,hF,hB⟩
   case round =>
    clear h hF hB x4 X7
    obtain ⟨k,D,hk,rfl,h,hF,hB⟩:=hrel
    by_cases hlt:k<T.ln
    ·have hkI:(k:Int)<(T.ln:Int):=by omega
     have hkI2:(k:Int)*13=((k*13:Nat):Int):=by omega
     have hfl:=folL_len ns T.L k
     rcases hT.l with h0|⟨lb,lo,ela,hel⟩
     ·omega
     have hC:=hel k hlt
     obtain ⟨nm,enm⟩:∃ x,x=(T.L k).nm:=⟨_,rfl⟩
     obtain ⟨ln,eln⟩:∃ x,x=(T.L k).ln:=⟨_,rfl⟩
     obtain ⟨cl,ecl⟩:∃ x,x=(T.L k).cl:=⟨_,rfl⟩
     obtain ⟨sl,esl⟩:∃ x,x=(T.L k).slo:=⟨_,rfl⟩
     obtain ⟨sh,esh⟩:∃ x,x=(T.L k).shi:=⟨_,rfl⟩
     obtain ⟨hl,ehl⟩:∃ x,x=(T.L k).hlo:=⟨_,rfl⟩
     obtain ⟨hh,ehh⟩:∃ x,x=(T.L k).hhi:=⟨_,rfl⟩
     have hsn:=hC.snm
     have x0:=kept_c hB hC.nm
     have x1:=kept_c hB hC.ln
     have x2:=kept_c hB hC.cl
     have x3:=kept_c hB hC.slo
     have x4:=kept_c hB hC.shi
     have x5:=kept_c hB hC.hlo
     obtain ⟨p2,a2,n2,k2,d2,m2,l2,x6,x7,x8,_⟩:=hC.lo
     have x9:=kept_c hB hC.hhi
     obtain ⟨p3,a3,n3,k3,d3,m3,l3,x10,x11,x12,_⟩:=hC.hi
     replace x6:=kept_c hB x6
     replace x7:=kept_c hB x7
     replace x8:=kept_c hB x8
     replace x10:=kept_c hB x10
     replace x11:=kept_c hB x11
     replace x12:=kept_c hB x12
     rw [← enm] at x0 hsn
     rw [← eln] at x1
     rw [← ecl] at x2
     rw [← esl] at x3
     rw [← esh] at x4
     rw [← ehl] at x5
     rw [← ehh] at x9
     have EN:Hid (nm=(T.L k).nm):=enm
     clear hel hC enm eln ecl esl esh ehl ehh
     have hz0:=bel_d0 wr (.cells #[.string nm,.int .i64 ln,.int .i64 cl,.bool sl,.bool sh,.bool hl,.bool p2,.slice a2 n2 k2,.slice d2 m2 l2,.bool hh,.bool p3,.slice a3 n3 k3,.slice d3 m3 l3] 77)
     have h4:=h.below hz0
     have RR4:=(hF.rw RR HRQ.out.1 HRQ.out.2 (by decide)).below hz0
     have y0:=(RR4.cell 0).trans (show _=some (.func (.func 28) #[] #[.pointer (some ⟨p,0,none⟩),.pointer (some ⟨q,0,none⟩)]) from rfl)
     rw [ela]
     go_wp2_with fail
     refine (standQ nm h4 hsn (by omega) HPQ.out).mono ?_
     rintro e w7 ⟨rfl,D7,P7,F7,B7⟩
     have PN:Pl w7 w.heap.size p q b D7 (folL ns T.L (k+1)):=by show Pl w7 w.heap.size p q b D7 (stq _ _);rw [← EN.out];exact P7
     have FN:FK q b W w7:=(hF.trans (FK.of_below hz0)).trans F7
     have BN:Below w.heap.size w w7:=(bel_tr hB hz0).trans B7
     clear h h4 hF hB F7 B7 P7 hz0 x0 x1 x2 x3 x4 x5 x6 x7 x8 x9 x10 x11 x12 RR4 y0
     rw [← ela]
     go_wp2
     go_roundw
     case rel=>first|exact ⟨k+1,D7,by omega,by go_num,PN,FN,BN⟩|exact ⟨k+1,by omega,by go_num,D7,PN,FN,BN⟩
     case measure=>simp [intOf];omega
    ·have hkI:¬ (k:Int)<(T.ln:Int):=by omega
     obtain rfl:k=T.ln:=by omega
     have hfl:=folL_len ns T.L T.ln
     have X8:=hF.rw X0 H0Q.out.1 H0Q.out.2 (by decide)
     have x5:=(X8.cell 5).trans (show _=some (.slice T.wa T.wn T.wc) from rfl)
     have R8:=hF.rw RR HRQ.out.1 HRQ.out.2 (by decide)
     go_wp2_with fail
     refine (mentionsQ h (fun w' hh=>hT.m.below (hB.trans hh)) (by omega) HPQ.out R8 HRQ.out).mono ?_
     rintro e w8 ⟨rfl,D8,h8,F8,B8⟩
     replace hF:=hF.trans F8
     replace hB:=hB.trans B8
     have hfm:=folM_len (folL ns T.L T.ln) T.M T.wn
     have X9:=hF.rw X0 H0Q.out.1 H0Q.out.2 (by decide)
     have x6:=(X9.cell 6).trans (show _=some (.slice none 0 0) from rfl)
     have R9:=hF.rw RR HRQ.out.1 HRQ.out.2 (by decide)
     clear h F8 B8 x5 R8 X8 X9
     go_wp2_with fail
     refine (mentionsQ (n:=0) (M:=T.M) h8 (fun w' hh=>.inl rfl) (by omega) HPQ.out R9 HRQ.out).mono ?_
     rintro e w9 ⟨rfl,D9,h9,F9,B9⟩
     replace hB:=hB.trans B9
     replace h9:Pl w9 w.heap.size p q b D9 (allNames T):=by unfold allNames;rw [← HNS.out];exact h9
     clear h8 hF F9 B9 x6 R9
     obtain ⟨v,E,hq,hS,hE⟩:=h9.nm
     have c0:=(h9.cp.cell 0).trans (show _=some (.map (some b)) from rfl)
     have c1:=h9.cp.frozen 0
     have d0:=(hq.cell 0).trans (show _=some v from rfl)
     have d1:=hq.frozen 0
     obtain ⟨na,nc,rfl,hnc⟩:=hS.form
     have es1:w9.drew.setCell ⟨p,0,none⟩ (.map (some b))=w9.drew:=Rw.same (w:=w9.drew) h9.cp
     have es2:w9.drew.setCell ⟨q,0,none⟩ (.slice na (allNames T).length nc)=w9.drew:=Rw.same (w:=w9.drew) hq
     have PN:Pl w9.drew w.heap.size p q b D9 (allNames T):=h9.below (bel_d1 _)
     have hqd:Rw 68 w9.drew q #[.slice na (allNames T).length nc]:=hq
     have hBd:=bel_tr hB (bel_d1 w9)
     have g0:w9.drew.frozen? ⟨p,0,none⟩=false:=c1
     have g1:w9.drew.frozen? ⟨q,0,none⟩=false:=d1
     go_wp2_with fail
     go_region_held3 (fun w'=>w'.cell? ⟨p,0,none⟩=some (.map (some b))∧w'.cell? ⟨q,0,none⟩=some (.slice na (allNames T).length nc))
      (exact ⟨c0,d0⟩)
      (fail)
     have k0:w9.drew.cell? ⟨p,0,none⟩=some (.map (some b)):=c0
     have k1:w9.drew.cell? ⟨q,0,none⟩=some (.slice na (allNames T).length nc):=d0
     go_wp2
     exact bodyPost_ret (v:=.tuple #[.map (some b),.slice na (allNames T).length nc]) (by simp [results,Tryz.results15,go_sem,k0,k1]) rfl ⟨p,q,b,D9,_,rfl,PN,hqd,hBd⟩
end Go.Proofs.YtceigfafmalfgaaGreatDoor
