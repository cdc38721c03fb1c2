import Derived.Test.YtmeimjakdheidaaGreatDoorShE
import Derived.Test.YtmeimjakdheidaaGreatDoorPqBAll
namespace Go.Proofs.YtmeimjakdheidaaGreatDoor
open Go.RowKit
theorem StC.five {w:World} {R F:Nat} {v:PV} {u S:Nat} {cs:List Value} (h:StC w R F v u S cs):∃ c0 c1 c2 c3 c4,cs=[c0,c1,c2,c3,c4]∧c0 = .int .i64 (u:Nat)∧(c0.oneCell'=true∧c1.oneCell'=true∧c2.oneCell'=true∧c3.oneCell'=true∧c4.oneCell'=true):=by
 rcases h with ⟨_,_,_,_,_,_,_,_,_,_,e,_⟩|⟨_,_,_,_,_,_,_,_,_,_,_,e,_⟩|⟨_,_,_,_,e,_⟩ <;> exact ⟨_,_,_,_,_,e,rfl,rfl,rfl,rfl,rfl,rfl⟩
theorem StQ.form {w:World} {R F:Nat} {V:Nat→PV} {n S:Nat} {v:Value} (h:StQ w R F V n S v):∃ a cap,v = .slice a n cap∧n≤cap:=by
 obtain ⟨E,h1,h2⟩:=h
 exact h1.form
theorem StQ.at {w:World} {R F:Nat} {V:Nat→PV} {n S:Nat} {sa:Option Addr} {m sc:Nat} (h:StQ w R F V n S (.slice sa m sc)) {i:Nat} (hi:i<n):∃ g c0 c1 c2 c3 c4,sa=some ⟨g,0,none⟩∧StC w R F (V i) (clm V i) S [c0,c1,c2,c3,c4]∧c0 = .int .i64 (clm V i:Nat)∧(c0.oneCell'=true∧c1.oneCell'=true∧c2.oneCell'=true∧c3.oneCell'=true∧c4.oneCell'=true)∧w.cell? ⟨g,i*5,none⟩=some c0∧w.cell? ⟨g,i*5+1,none⟩=some c1∧w.cell? ⟨g,i*5+2,none⟩=some c2∧w.cell? ⟨g,i*5+3,none⟩=some c3∧w.cell? ⟨g,i*5+4,none⟩=some c4:=by
 obtain ⟨E,h1,h2⟩:=h
 have hc:=h2 i hi
 obtain ⟨c0,c1,c2,c3,c4,e,e0,ho⟩:=hc.five
 rcases h1.cell with h0|⟨g,ea,hcell⟩
 ·omega
 have hk:=hcell i hi
 rw [e] at hk hc
 exact ⟨g,c0,c1,c2,c3,c4,ea,hc,e0,ho,by simpa using hk 0 _ rfl,hk 1 _ rfl,hk 2 _ rfl,hk 3 _ rfl,hk 4 _ rfl⟩
set_option maxRecDepth 100000 in
set_option maxHeartbeats 8000000 in
theorem pointQ {R F:Nat} {V:Nat→PV} {n S:Nat} {sa:Option Addr} {sc:Nat} {a1' a2' a3' a4' a5' c' a7':Value} {xa:Option Addr} {m xc:Nat} {X:Nat→Rat} {T:Nat} (w:World) (hr:Rw 61 w R #[.slice sa n sc,a1',a2',a3',a4',a5',c',a7']) (hs:StQ w R F V n S (.slice sa n sc)) (hx:LQ w xa m X (fun _=>T)) (hT1:1≤T) (hST:S+T≤6000000∧T+T≤6000000) (hS1:1≤S) (hn:n≤1048576) (hT:TB w) :
 Calls Tryz.prog 9 #[.pointer (some ⟨R,0,none⟩),.slice xa m xc] w fun e w'=>∃ a cap,e = .returned (.slice a n cap)∧RL w' w.heap.size (.slice a n cap) n (fun q=>ptv (V q) (clm V q) (zn m X)) (S+T+T+1)∧Below w.heap.size w w':=by
 have y0:=(hr.cell 0).trans (show _=some (.slice sa n sc) from rfl)
 go_enter Tryz.func9,Tryz.ntmps9
 go_wp2_with fail
 clear y0 hr
 go_loopw [5,13] (fun s5 s wr=>∃ (i:Nat) (o1:Option Addr) (k1:Nat),i≤n∧s = .int .i64 i∧s5 = .slice o1 i k1∧RL wr w.heap.size (.slice o1 i k1) i (fun q=>ptv (V q) (clm V q) (zn m X)) (S+T+T+1)∧Below w.heap.size w wr) (fun _ t _=>n-(intOf t).toNat)
 case atStart=>exact ⟨0,none,0,Nat.zero_le _,rfl,rfl,RL.nil _ _ _ _,Below.refl _ _⟩
 case round =>
  obtain ⟨i,o1,k1,hi,rfl,rfl,L,hb⟩:=hrel
  by_cases hlt:i<n
  ·have hkI:(i:Int)<(n:Int):=by omega
   have hkI2:(i:Int)*5=((i*5:Nat):Int):=by omega
   obtain ⟨g,c0,c1,c2,c3,c4,hsa,SC,ec0,⟨o0,o1',o2,o3,o4⟩,r0,r1,r2,r3,r4⟩:=(hs.below hb).at hlt
   have hsa':sa=some ⟨g,0,none⟩:=hsa
   clear hsa
   clear ec0
   have RS:=Rw.new 70 wr #[.int .i64 0,.int .i64 0,.nilFunc,.nilFunc,.nilFunc]
   have hz0:=aI wr (.cells #[.int .i64 0,.int .i64 0,.nilFunc,.nilFunc,.nilFunc] 70)
   go_wp2_with (refine RS.put #[c0,c1,c2,c3,c4] rfl _ _ rfl rfl rfl stpI rfl (by simp [o0,o1',o2,o3,o4]) ?_)
   intro W2 RS2 OS
   have hz:Below wr.heap.size wr W2:=hz0.trans (OS.below (Nat.le_refl _))
   have n2:=(RS2.cell 2).trans (show _=some c2 from rfl)
   have SC2:=SC.below hz
   have hx2:=(hx.below hb).below hz
   have hT2:=(hT.below hb).below hz
   have L2:=L.below hz
   have hb2:=aF hb hz
   clear RS OS hz0 r0 r1 r2 r3 r4
   go_wp2_with (refine wX rfl _ _ _ rfl SC2 rfl rfl rfl hx2 hT1 hST hS1 hT2 ?_)
   clear n2 RS2 SC SC2 hx2 hT2 L hb hz
   rintro w2 _ ⟨f,u1,n1,l1,d1,m1,l2,rfl,G⟩ hx3
   have hs3:=Below.size hx3
   have hs4:=hb2.size
   replace L2:=L2.below hx3
   replace hb2:=aF hb2 hx3
   clear hx3
   have hrow:∀ g,(Value.slice o1 i k1).ownBlock=some g→w.heap.size≤g:=fun g hg=>(L2.lt g hg).1
   have hs5:=hb2.size
   go_wp2_with (at_builtin;refine sQ _ rfl _ _ rfl w.heap.size (.slice o1 i k1) i (fun q=>ptv (V q) (clm V q) (zn m X)) (S+T+T+1) rfl (L2.below (aI _ _)) w2.heap.size _ rfl f u1 n1 l1 d1 m1 l2 (iW rfl) ((G.mono (by omega)).below (aI _ _)) (by omega) (by simp;omega) (w2.heap.size+1) (by simp) ?_)
   intro g1 cap1 w3 LN hgrow hat _
   have hg2:=grown_below (B:=w.heap.size) hgrow (by simp;omega) hrow
   have hbN:Below w.heap.size w w3:=(fB hb2).trans hg2
   clear hgrow hat hrow L2 G hb2
   try rw [← hsa']
   clear hsa'
   go_wp2
   go_roundw
   case rel=>first|exact ⟨i+1,_,_,by omega,by go_num,rfl,LN,hbN⟩|((repeat apply Exists.intro);refine ⟨?_,rfl⟩;exact ⟨i+1,_,_,by omega,by go_num,rfl,LN,hbN⟩)
   case measure=>simp [intOf];omega
  ·have hkI:¬ (i:Int)<(n:Int):=by omega
   obtain rfl:i=n:=by omega
   go_wp2
   go_ret
   exact ⟨_,_,rfl,L,hb⟩
theorem nP (w:World) {o:Oper} {a:Act} {K:Act→World→Prop} {Q:Exit→Act→World→Prop} (s x:Operand) (L T:TypeId) (c y q:Nat)
 (ho:o.op = .call { callee:=.builtin .append,args:=#[s,x],argTypes:=#[L,L] }) (hL:Tryz.prog.underlying L=some (.slice T)) (hI:Inf T c y) (hc0:0<c) (hy:y≤1000) (hq:0<q∧q≤10)
 (B:Nat) (v:Value) (n:Nat) (E:Nat→List Value) (hs:a.eval s=v) (hown:SL w B T c v n E) (h k:Nat) (hx:a.eval x = .slice (some ⟨h,0,none⟩) q k)
 (D:Nat→List Value) (cs:List Value) (hcs:cs.length=q*c) (hD:∀ i,i<q→∀ j u,(D i)[j]? = some u→j<c∧cs[i*c+j]? = some u) (h1:∀ u ∈ cs,u.oneCell'=true) (hbox:BoxC w h cs)
 (hlen:n≤1000000000) (hB:B≤w.heap.size) (H:Nat) (hH:w.heap.size=H)
 (hK:∀ g cap w',SL w' B T c (.slice (some ⟨g,0,none⟩) (n+q) cap) (n+q) (fun i=>if i<n then E i else D (i-n))→w.grownBy w' v.ownBlock→(v.ownBlock=some g∨g=H)→g<w'.heap.size→K (a.put o.dst (.slice (some ⟨g,0,none⟩) (n+q) cap)) w') :
 Oper.wp Tryz.prog o a w K Q:=by
 obtain ⟨vs,g1,g2⟩:=hown
 obtain ⟨i0,z,hi,hz,hs3,hb56,hz3⟩:=hI
 have hyn:(n+q)*y≤1000000010*1000:=Nat.mul_le_mul (by omega) hy
 refine wp_append_lies w s x L ho B T i0 z c y hL hi hz hs3 hb56 hz3 hc0 v n vs hs g1 ⟨h,0,none⟩ q k cs hx (by omega) ?_ h1 hq.1 (by unfold maxLen;omega) (by omega) hB H hH ?_
 ·intro j u hj
  have:=hbox j u hj
  by_cases e:j=0
  ·subst e;simpa [Addr.add] using this
  ·simpa [Addr.add,e] using this
 ·intro g cap w' r1 r2 r3 r4
  refine hK g cap w' ⟨_,r1,fun i hi j u hu=>?_⟩ r2 r3 r4
  have hl:vs.length=n*c:=g1.1
  by_cases e:i<n
  ·simp only [e,if_true] at hu
   obtain ⟨k1,k2⟩:=g2 i e j u hu
   have hlt:i*c+j<vs.length:=(List.getElem?_eq_some_iff.1 k2).1
   exact ⟨k1,by rw [List.getElem?_append_left hlt];exact k2⟩
  ·simp only [e,if_false] at hu
   obtain ⟨k1,k2⟩:=hD (i-n) (by omega) j u hu
   refine ⟨k1,?_⟩
   have e2:i*c=n*c+(i-n)*c:=by rw [← Nat.add_mul,Nat.add_sub_cancel' (Nat.le_of_not_lt e)]
   rw [e2,List.getElem?_append_right (by omega),hl,show n*c+(i-n)*c+j-n*c=(i-n)*c+j by omega]
   exact k2
end Go.Proofs.YtmeimjakdheidaaGreatDoor
