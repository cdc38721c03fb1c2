import Derived.Test.YtmeimjakdheidaaGreatDoorNumAll
import Derived.Test.YtmeimjakdheidaaGreatDoorCards
import Derived.Test.YtmeimjakdheidaaGreatDoorTie
import Derived.ProofKit
import Derived.OpenShut
import Derived.LaidMore
import Derived.Deep.DeepHandedRow
import Derived.Deep.DeepWitnessRowRef
import Derived.Test.YtmeimjakdheidaaGreatDoorRatAll
import Derived.Stop.LaidErr
import Derived.MakeChecks
import Derived.Shelf.Spec.TrailingZeros
set_option maxHeartbeats 4000000
namespace Go.Proofs.YtmeimjakdheidaaGreatDoor
open Go.ChangeShapes Go.WideShapes Go.ChangeAt Go.RowKit
theorem own:ownKnob Tryz.prog.godebug=none:=by kernel_rfl
theorem laidOut:laidOutB Tryz.prog=true:=by kernel_rfl
theorem cellsU64:Tryz.prog.cellsOf 118=1:=by kernel_rfl
theorem iL {H:Type} (d:DataW H):1≤Rows.uptoBulk d:=by
 cases d with
 | lit l=>cases l <;> simp [Rows.uptoBulk]
 | nil=>simp [Rows.uptoBulk]
 | ptr d=>simp [Rows.uptoBulk]
 | slice elems spare=>simp [Rows.uptoBulk]
 | agg parts=>simp [Rows.uptoBulk]
 | iface t d=>simp [Rows.uptoBulk]
 | map entries=>simp [Rows.uptoBulk]
 | held h=>simp [Rows.uptoBulk]
theorem qM {H:Type} (l:List (DataW H)):l.length≤Rows.uptoBulkAll l:=by
 induction l with
 | nil=>simp [Rows.uptoBulkAll]
 | cons x r ih=>have:=iL x;simp only [Rows.uptoBulkAll,List.length_cons];omega
theorem sG {H:Type} (elems spare:List (DataW H)):elems.length+spare.length≤Rows.uptoBulk (.slice elems spare):=by
 have h1:=qM elems
 have h2:=qM spare
 simp only [Rows.uptoBulk]
 omega
theorem qN {H:Type} {enc:TypeId × Value→H} {W:World} {t:TypeId} {v:Value} {d:DataW H} {p:List MemPlace} (h:DataW.Trod enc Tryz.prog W 0 (fun _=>true) true t v d p):∀ x ∈ p,x.block<W.heap.size:=by
 obtain ⟨m,hm⟩:=h;exact DataW.trod_lt m _ _ _ hm
end Go.Proofs.YtmeimjakdheidaaGreatDoor
namespace Go.Proofs.YtmeimjakdheidaaGreatDoor
open Go.ChangeShapes Go.WideShapes Go.ChangeAt Go.RowKit
theorem cellsInt:Tryz.prog.cellsOf 25=2:=by kernel_rfl
theorem mP:Tryz.prog.cellsOf 4=1:=by kernel_rfl
theorem uQ:Tryz.prog.cellsOf 23=1:=by kernel_rfl
end Go.Proofs.YtmeimjakdheidaaGreatDoor
namespace Go.Proofs.YtmeimjakdheidaaGreatDoor
open Go.ChangeShapes Go.WideShapes Go.ChangeAt Go.RowKit
theorem lG:Tryz.prog.cellsOf 27=3:=by kernel_rfl
end Go.Proofs.YtmeimjakdheidaaGreatDoor
namespace Go.Proofs.YtmeimjakdheidaaGreatDoor
open Go.ChangeShapes Go.WideShapes Go.ChangeAt Go.RowKit
end Go.Proofs.YtmeimjakdheidaaGreatDoor
namespace Go.Proofs.YtmeimjakdheidaaGreatDoor
open Go.ChangeShapes Go.WideShapes Go.ChangeAt Go.RowKit
theorem u8Cells:Tryz.prog.cellsOf 5=1:=by kernel_rfl
theorem tab_head {n:String} {tab:List Nat} {r:List (String × DataW Unit)} {W:World} {g:Nat} (hg:Tryz.prog.globalNamed n=some g) (ht:(Tryz.prog.globals[g]?).map (·.type)=some 180) (hl:tab.length=64)
 (h:laidMet Tryz.prog ((n,.agg (tab.map fun (k:Nat)=>.lit (.int .u8 (k:Int))))::r) W):TabAt g tab W∧g<W.heap.size:=by
 obtain ⟨ps,⟨g0,t0,cs0,f0,p0,q0,hg0,ht0,hv0,hd0,_,e0⟩,_,hrows⟩:=h
 obtain rfl:=Option.some.inj (hg.symm.trans hg0)
 obtain rfl:=Option.some.inj (ht.symm.trans ht0)
 obtain ⟨xs,m,rfl,hx,hlen,hn,hel⟩:=DataW.trod_array Tryz.underlying180 hd0
 have hmap:tab.map (fun (k:Nat)=>(DataW.lit (.int .u8 (k:Int)):DataW Unit))=xs.map (·.1):=by
  have:=congrArg Prod.fst hx
  simpa using this
 have hT:TabAt g tab W:=fun j hj=>by
  have hj':j<64:=by omega
  have e1:=hel j hj'
  rw [u8Cells,List.getElem?_eq_getElem (by omega)] at e1
  obtain ⟨z,hz1,hz2,_⟩:=DataW.trod_int Tryz.underlying5 e1
  have e2:=congrArg (fun l=>l[j]?) hmap
  simp only [List.getElem?_map,List.getElem?_eq_getElem hj,List.getElem?_eq_getElem (show j<xs.length by omega),Option.map_some,hz2] at e2
  have e3:(tab[j]:Int)=z:=by
   have:=Option.some.inj e2
   simp only [DataW.lit.injEq,Lit.int.injEq,true_and] at this
   exact this
  have e4:cs0.toList[j]? = some (.int .u8 z):=by
   have:=congrArg (fun l=>l[0]?) hz1
   simp only [Nat.mul_one] at this
   rw [List.getElem?_take_of_lt (by omega),List.getElem?_drop,Nat.add_zero] at this
   simpa using this
  have e5:=World.var?_cell hg hv0 j
  rw [e5]
  have e6:cs0[j]? = some (.int .u8 z):=by simpa using e4
  rw [e6,← e3]
  simp [List.getD,List.getElem?_eq_getElem hj]
 exact ⟨hT,World.block_lt_of_cell? _ _ (hT 0 (by omega))⟩
end Go.Proofs.YtmeimjakdheidaaGreatDoor
namespace Go.Proofs.YtmeimjakdheidaaGreatDoor
open Go.RowKit
theorem TR.neg {w:World} {p:Bool} {a:Option Addr} {na ca:Nat} {d:Option Addr} {nd cd:Nat} {r:Rat} {S:Nat} (h:TR w p a na ca d nd cd r S):TR w (!p) a na ca d nd cd (-r) S:=by
 obtain ⟨x,y,⟨m,h1,h2⟩,h3,h4⟩:=h
 exact ⟨-x,y,⟨m,h1,by rw [ws_not,h2]⟩,h3,by rw [← h4,Rat.neg_divInt]⟩
theorem box_rrii (w:World) (u v z u' v' z' u2 v2 u3 v3:Value) (t t':TypeId):Var3 ((((w.alloc (.cells #[u,v,z] t)).alloc (.cells #[u',v',z'] t)).alloc (.cells #[u2,v2] t')).alloc (.cells #[u3,v3] t')) w.heap.size u v z∧Var3 ((((w.alloc (.cells #[u,v,z] t)).alloc (.cells #[u',v',z'] t)).alloc (.cells #[u2,v2] t')).alloc (.cells #[u3,v3] t')) (w.heap.size+1) u' v' z' ∧
 Var2 ((((w.alloc (.cells #[u,v,z] t)).alloc (.cells #[u',v',z'] t)).alloc (.cells #[u2,v2] t')).alloc (.cells #[u3,v3] t')) (w.heap.size+2) u2 v2∧Var2 ((((w.alloc (.cells #[u,v,z] t)).alloc (.cells #[u',v',z'] t)).alloc (.cells #[u2,v2] t')).alloc (.cells #[u3,v3] t')) (w.heap.size+3) u3 v3 ∧
 Below w.heap.size w ((((w.alloc (.cells #[u,v,z] t)).alloc (.cells #[u',v',z'] t)).alloc (.cells #[u2,v2] t')).alloc (.cells #[u3,v3] t'))∧((((w.alloc (.cells #[u,v,z] t)).alloc (.cells #[u',v',z'] t)).alloc (.cells #[u2,v2] t')).alloc (.cells #[u3,v3] t')).heap.size=w.heap.size+4:=by
 obtain ⟨a1,a2,a3,a4⟩:=lD w u v z u' v' z' t
 obtain ⟨b1,b2,b3,b4⟩:=kY ((w.alloc (.cells #[u,v,z] t)).alloc (.cells #[u',v',z'] t)) u2 v2 u3 v3 t'
 rw [a4] at b1 b2
 exact ⟨a1.below b3,a2.below b3,b1,b2,aF a3 b3,by simp⟩
theorem productQ {p q:Bool} {a b:Option Addr} {na nb ca cb:Nat} {d e0:Option Addr} {nd ne cd ce:Nat} {r s:Rat} {S R:Nat} (w:World) (hr:TR w p a na ca d nd cd r S) (hs:TR w q b nb cb e0 ne ce s R) (hSR:S+R≤6000000) (hS1:1≤S) (hR1:1≤R) :
 Calls Tryz.prog 61 #[.agg #[.bool p,.slice a na ca,.slice d nd cd],.agg #[.bool q,.slice b nb cb,.slice e0 ne ce]] w fun e w'=>∃ f c n k g c' n' k' x' y',e = .returned (.tuple #[.agg #[.bool f,.slice c n k],.agg #[.bool g,.slice c' n' k']])∧TI w' f c n k x' (S+R)∧TI w' g c' n' k' y' (S+R)∧0<y'∧Rat.divInt x' y'=r*s∧Below w.heap.size w w':=by
 obtain ⟨P0,P1,R0,R1,hb0,hsz⟩:=box_rrii w (.bool p) (.slice a na ca) (.slice d nd cd) (.bool q) (.slice b nb cb) (.slice e0 ne ce) (.bool false) (.slice none 0 0) (.bool false) (.slice none 0 0) 27 25
 replace hr:=hr.below hb0
 replace hs:=hs.below hb0
 go_enter Tryz.func61,Tryz.ntmps61
 obtain ⟨p0c0,p0c1,p0c2,p0c3,p0c4,p0c5⟩:=id P0
 obtain ⟨p1c0,p1c1,p1c2,p1c3,p1c4,p1c5⟩:=id P1
 go_wp2_with fail
 generalize (((w.alloc (.cells #[.bool p,.slice a na ca,.slice d nd cd] 27)).alloc (.cells #[.bool q,.slice b nb cb,.slice e0 ne ce] 27)).alloc (.cells #[.bool false,.slice none 0 0] 25)).alloc (.cells #[.bool false,.slice none 0 0] 25)=W0 at *
 refine (iY _ hr (by omega) hS1).mono ?_
 rintro e w1 ⟨f1,c1,n1,k1,f2,c2,n2,k2,x1,y1,rfl,T1,T2,hy1,hq1,hx⟩
 clear p0c0 p0c1 p0c2 p0c3 p0c4 p0c5 p1c0 p1c1 p1c2 p1c3 p1c4 p1c5
 replace hr:=hr.below hx
 replace hs:=hs.below hx
 replace R0:=R0.below hx
 replace R1:=R1.below hx
 replace P0:=P0.below hx
 replace P1:=P1.below hx
 replace hb0:=aF hb0 hx
 have hsw1:W0.heap.size≤w1.heap.size:=Below.size hx
 clear hx
 obtain ⟨p0c0,p0c1,p0c2,p0c3,p0c4,p0c5⟩:=id P0
 obtain ⟨p1c0,p1c1,p1c2,p1c3,p1c4,p1c5⟩:=id P1
 clear p0c0 p0c1 p0c2 p0c3 p0c4 p0c5 P0
 clear hr
 obtain ⟨V1,V2,hx,hsxw2⟩:=kY w1 (.bool f1) (.slice c1 n1 k1) (.bool f2) (.slice c2 n2 k2) 25
 clear p1c0 p1c1 p1c2 p1c3 p1c4 p1c5
 replace hs:=hs.below hx
 replace R0:=R0.below hx
 replace R1:=R1.below hx
 replace T1:=T1.below hx
 replace T2:=T2.below hx
 replace P1:=P1.below hx
 replace hb0:=aF hb0 hx
 have hsw2:w1.heap.size≤((w1.alloc (.cells #[.bool f1,.slice c1 n1 k1] 25)).alloc (.cells #[.bool f2,.slice c2 n2 k2] 25)).heap.size:=Below.size hx
 clear hx
 obtain ⟨p1c0,p1c1,p1c2,p1c3,p1c4,p1c5⟩:=id P1
 obtain ⟨v1c0,v1c1,v1c2,v1c3⟩:=id V1
 obtain ⟨v2c0,v2c1,v2c2,v2c3⟩:=id V2
 go_wp2_with fail
 generalize (w1.alloc (.cells #[.bool f1,.slice c1 n1 k1] 25)).alloc (.cells #[.bool f2,.slice c2 n2 k2] 25)=w2 at *
 refine (iY _ hs (by omega) hR1).mono ?_
 rintro e w3 ⟨f3,c3,n3,k3,f4,c4,n4,k4,x2,y2,rfl,T3,T4,hy2,hq2,hx⟩
 clear p1c0 p1c1 p1c2 p1c3 p1c4 p1c5 v1c0 v1c1 v1c2 v1c3 v2c0 v2c1 v2c2 v2c3
 replace hs:=hs.below hx
 replace R0:=R0.below hx
 replace R1:=R1.below hx
 replace T1:=T1.below hx
 replace T2:=T2.below hx
 replace P1:=P1.below hx
 replace V1:=V1.below hx
 replace V2:=V2.below hx
 replace hb0:=aF hb0 hx
 have hsw3:w2.heap.size≤w3.heap.size:=Below.size hx
 clear hx
 obtain ⟨p1c0,p1c1,p1c2,p1c3,p1c4,p1c5⟩:=id P1
 obtain ⟨v1c0,v1c1,v1c2,v1c3⟩:=id V1
 obtain ⟨v2c0,v2c1,v2c2,v2c3⟩:=id V2
 clear p1c0 p1c1 p1c2 p1c3 p1c4 p1c5 P1
 clear hs
 obtain ⟨V3,V4,hx,hsxw4⟩:=kY w3 (.bool f3) (.slice c3 n3 k3) (.bool f4) (.slice c4 n4 k4) 25
 clear v1c0 v1c1 v1c2 v1c3 v2c0 v2c1 v2c2 v2c3
 replace R0:=R0.below hx
 replace R1:=R1.below hx
 replace T1:=T1.below hx
 replace T2:=T2.below hx
 replace T3:=T3.below hx
 replace T4:=T4.below hx
 replace V1:=V1.below hx
 replace V2:=V2.below hx
 replace hb0:=aF hb0 hx
 have hsw4:w3.heap.size≤((w3.alloc (.cells #[.bool f3,.slice c3 n3 k3] 25)).alloc (.cells #[.bool f4,.slice c4 n4 k4] 25)).heap.size:=Below.size hx
 clear hx
 obtain ⟨v1c0,v1c1,v1c2,v1c3⟩:=id V1
 obtain ⟨v2c0,v2c1,v2c2,v2c3⟩:=id V2
 obtain ⟨v3c0,v3c1,v3c2,v3c3⟩:=id V3
 obtain ⟨v4c0,v4c1,v4c2,v4c3⟩:=id V4
 go_wp2_with fail
 generalize (w3.alloc (.cells #[.bool f3,.slice c3 n3 k3] 25)).alloc (.cells #[.bool f4,.slice c4 n4 k4] 25)=w4 at *
 have HV:Hid (Rat.divInt (x1*x2) (y1*y2)=r*s):=by show _=_;rw [← hq1,← hq2,Rat.divInt_mul_divInt]
 have hyy:=Int.mul_pos hy1 hy2
 go_region_held3 (fun w'=>w'.cell? ⟨w1.heap.size,0,none⟩=some (.bool f1)∧w'.cell? ⟨w1.heap.size,1,none⟩=some (.slice c1 n1 k1)∧w'.cell? ⟨w1.heap.size+1,0,none⟩=some (.bool f2)∧w'.cell? ⟨w1.heap.size+1,1,none⟩=some (.slice c2 n2 k2)∧w'.cell? ⟨w3.heap.size,0,none⟩=some (.bool f3)∧w'.cell? ⟨w3.heap.size,1,none⟩=some (.slice c3 n3 k3)∧w'.cell? ⟨w3.heap.size+1,0,none⟩=some (.bool f4)∧w'.cell? ⟨w3.heap.size+1,1,none⟩=some (.slice c4 n4 k4))
  (refine ⟨?_,?_,?_,?_,?_,?_,?_,?_⟩ <;> first|with_reducible exact aG hc2 (by assumption)|with_reducible exact aG hc1 (by assumption)|with_reducible exact aG (aK _) (by assumption)|with_reducible exact fG (aG hc2 (by assumption)) (by simp <;> omega)|with_reducible exact fG (fG (aG hc2 (by assumption)) (by simp <;> omega)) (by simp <;> omega))
  ((first
   | (go_at_call 33;go_fit (wG _ (T1.below (aK _)) (T3.below (aK _)) (by omega) (by omega));rintro e v1 ⟨g1,u1,m1,l1,rfl,K1,hb1⟩;have hd1:Below w4.heap.size w4 v1:=(by first|exact hb1|exact aF (aK w4) hb1);have hc1:=hd1)
   | (go_at_call 33;go_fit (wG _ (T2.below hc1) (T4.below hc1) (by omega) (by omega));rintro e v2 ⟨g2,u2,m2,l2,rfl,K2,hb2⟩;have hd2:Below v1.heap.size v1 v2:=(by first|exact hb2|exact aF (aK v1) hb2);have hc2:=aF hc1 hd2;have RZ:=R0.below hc2;have QZ:=R1.below hc2;obtain ⟨z0,z1,z2,z3⟩:=id RZ;obtain ⟨i0,i1,i2,i3⟩:=id QZ)))
 obtain ⟨V,O⟩:=RZ.set (.bool g1) (.slice u1 m1 l1)
 have QZ':=QZ.off O (by omega)
 obtain ⟨V1',O1⟩:=QZ'.set (.bool g2) (.slice u2 m2 l2)
 have V0':=V.off O1 (by omega)
 have hsv:=Below.size hc1
 have hdr:w4.drew.heap.size=w4.heap.size:=rfl
 have hsv2:=Below.size hc2
 have hw:=((aF hb0 hc2).trans (O.below (by omega))).trans (O1.below (by omega))
 have E1:=((((K1.below hd2).mono (B':=w.heap.size+4) (by omega)).off O (by omega)).off O1 (by omega)).ti
 have E2:=(((K2.mono (B':=w.heap.size+4) (by omega)).off O (by omega)).off O1 (by omega)).ti
 clear hb1 hb2 hc1 hc2 hd1 hd2 K1 K2 T1 T2 T3 T4 R0 R1 RZ QZ QZ' V O O1 hb0 z0 z1 z2 z3 i0 i1 i2 i3
 clear v1c0 v1c1 v1c2 v1c3 v2c0 v2c1 v2c2 v2c3 v3c0 v3c1 v3c2 v3c3 v4c0 v4c1 v4c2 v4c3
 clear V1 V2 V3 V4
 go_wp2
 refine bodyPost_ret (v:=.tuple #[.agg #[.bool g1,.slice u1 m1 l1],.agg #[.bool g2,.slice u2 m2 l2]]) (by simp [results,Tryz.results61,go_sem,V0'.c0,V0'.c1,V1'.c0,V1'.c1]) rfl ⟨_,_,_,_,_,_,_,_,_,_,rfl,E1,E2,hyy,HV.out,hw⟩
theorem mulQ {p q:Bool} {a b:Option Addr} {na nb ca cb:Nat} {d e0:Option Addr} {nd ne cd ce:Nat} {r s:Rat} {S R:Nat} (w:World) (hr:TR w p a na ca d nd cd r S) (hs:TR w q b nb cb e0 ne ce s R) (hSR:S+R≤6000000) (hS1:1≤S) (hR1:1≤R) (hT:TB w) :
 Calls Tryz.prog 29 #[.agg #[.bool p,.slice a na ca,.slice d nd cd],.agg #[.bool q,.slice b nb cb,.slice e0 ne ce]] w fun e w'=>∃ f c n k c' n' k',e = .returned (.agg #[.bool f,.slice c n k,.slice c' n' k'])∧GR w' w.heap.size f c n k c' n' k' (r*s) (S+R)∧Below w.heap.size w w':=by
 obtain ⟨P0,P1,R0,hb0,hsz⟩:=kD w (.bool p) (.slice a na ca) (.slice d nd cd) (.bool q) (.slice b nb cb) (.slice e0 ne ce) (.bool false) (.slice none 0 0) (.slice none 0 0) 27
 replace hr:=hr.below hb0
 replace hs:=hs.below hb0
 replace hT:=hT.below hb0
 go_enter Tryz.func29,Tryz.ntmps29
 obtain ⟨p0c0,p0c1,p0c2,p0c3,p0c4,p0c5⟩:=id P0
 obtain ⟨p1c0,p1c1,p1c2,p1c3,p1c4,p1c5⟩:=id P1
 go_wp2_with fail
 generalize ((w.alloc (.cells #[.bool p,.slice a na ca,.slice d nd cd] 27)).alloc (.cells #[.bool q,.slice b nb cb,.slice e0 ne ce] 27)).alloc (.cells #[.bool false,.slice none 0 0,.slice none 0 0] 27)=W0 at *
 refine (productQ _ hr hs (by omega) (by omega) (by omega)).mono ?_
 rintro e w1 ⟨f1,c1,n1,k1,f2,c2,n2,k2,x1,y1,rfl,T1,T2,hy1,hq1,hx⟩
 clear p0c0 p0c1 p0c2 p0c3 p0c4 p0c5 p1c0 p1c1 p1c2 p1c3 p1c4 p1c5
 replace hr:=hr.below hx
 replace hs:=hs.below hx
 replace hT:=hT.below hx
 replace R0:=R0.below hx
 replace P0:=P0.below hx
 replace P1:=P1.below hx
 replace hb0:=aF hb0 hx
 have hsw1:W0.heap.size≤w1.heap.size:=Below.size hx
 clear hx
 obtain ⟨p0c0,p0c1,p0c2,p0c3,p0c4,p0c5⟩:=id P0
 obtain ⟨p1c0,p1c1,p1c2,p1c3,p1c4,p1c5⟩:=id P1
 clear p0c0 p0c1 p0c2 p0c3 p0c4 p0c5 P0
 clear p1c0 p1c1 p1c2 p1c3 p1c4 p1c5 P1
 clear hr
 clear hs
 go_wp2_with fail
 refine (oG _ T1 T2 (by omega) (by omega) hT).mono ?_
 rintro e w2 ⟨g5,u5,m5,l5,u6,m6,l6,rfl,GG,hx⟩
 replace hT:=hT.below hx
 replace R0:=R0.below hx
 replace T1:=T1.below hx
 replace T2:=T2.below hx
 replace hb0:=aF hb0 hx
 have hsw2:w1.heap.size≤w2.heap.size:=Below.size hx
 clear hx
 replace GG:=GG.val hq1
 clear T1 T2 hT hq1 hy1
 obtain ⟨z0,z1,z2,z3,z4,z5⟩:=id R0
 obtain ⟨V,O⟩:=R0.set (.bool g5) (.slice u5 m5 l5) (.slice u6 m6 l6)
 have GF:=(GG.mono (B':=w.heap.size+3) (by omega)).off O (by omega)
 have hw:=hb0.trans (O.below (by omega))
 clear R0 O GG hb0
 go_wp2
 refine bodyPost_ret (v:=.agg #[.bool g5,.slice u5 m5 l5,.slice u6 m6 l6]) (by simp [results,Tryz.results29,go_sem,V.c0,V.c1,V.c2]) rfl ⟨_,_,_,_,_,_,_,rfl,GF.mono (by omega),hw⟩
theorem jB {p q:Bool} {a b:Option Addr} {na nb ca cb:Nat} {d e0:Option Addr} {nd ne cd ce:Nat} {r s:Rat} {S R:Nat} (w:World) (hr:TR w p a na ca d nd cd r S) (hs:TR w q b nb cb e0 ne ce s R) (hSR:S+R≤6000000) (hS1:1≤S) (hR1:1≤R) (hT:TB w) :
 Calls Tryz.prog 27 #[.agg #[.bool p,.slice a na ca,.slice d nd cd],.agg #[.bool q,.slice b nb cb,.slice e0 ne ce]] w fun e w'=>∃ f c n k c' n' k',e = .returned (.agg #[.bool f,.slice c n k,.slice c' n' k'])∧GR w' w.heap.size f c n k c' n' k' (r-s) (S+R+1)∧Below w.heap.size w w':=by
 replace hs:=hs.neg
 obtain ⟨P0,P1,R0,hb0,hsz⟩:=kD w (.bool p) (.slice a na ca) (.slice d nd cd) (.bool !q) (.slice b nb cb) (.slice e0 ne ce) (.bool false) (.slice none 0 0) (.slice none 0 0) 27
 replace hr:=hr.below hb0
 replace hs:=hs.below hb0
 replace hT:=hT.below hb0
 go_enter Tryz.func27,Tryz.ntmps27
 obtain ⟨p0c0,p0c1,p0c2,p0c3,p0c4,p0c5⟩:=id P0
 obtain ⟨p1c0,p1c1,p1c2,p1c3,p1c4,p1c5⟩:=id P1
 go_wp2_with fail
 generalize ((w.alloc (.cells #[.bool p,.slice a na ca,.slice d nd cd] 27)).alloc (.cells #[.bool !q,.slice b nb cb,.slice e0 ne ce] 27)).alloc (.cells #[.bool false,.slice none 0 0,.slice none 0 0] 27)=W0 at *
 refine (addQ _ hr hs (by omega) (by omega) (by omega) hT).mono ?_
 rintro e w1 ⟨g5,u5,m5,l5,u6,m6,l6,rfl,GG,hx⟩
 clear p0c0 p0c1 p0c2 p0c3 p0c4 p0c5 p1c0 p1c1 p1c2 p1c3 p1c4 p1c5
 replace hr:=hr.below hx
 replace hs:=hs.below hx
 replace hT:=hT.below hx
 replace R0:=R0.below hx
 replace P0:=P0.below hx
 replace P1:=P1.below hx
 replace hb0:=aF hb0 hx
 have hsw1:W0.heap.size≤w1.heap.size:=Below.size hx
 clear hx
 replace GG:=GG.val (Rat.sub_eq_add_neg r s).symm
 obtain ⟨p0c0,p0c1,p0c2,p0c3,p0c4,p0c5⟩:=id P0
 obtain ⟨p1c0,p1c1,p1c2,p1c3,p1c4,p1c5⟩:=id P1
 clear p0c0 p0c1 p0c2 p0c3 p0c4 p0c5 p1c0 p1c1 p1c2 p1c3 p1c4 p1c5
 clear P0 P1 hr hs hT
 obtain ⟨z0,z1,z2,z3,z4,z5⟩:=id R0
 obtain ⟨V,O⟩:=R0.set (.bool g5) (.slice u5 m5 l5) (.slice u6 m6 l6)
 have GF:=(GG.mono (B':=w.heap.size+3) (by omega)).off O (by omega)
 have hw:=hb0.trans (O.below (by omega))
 clear R0 O GG hb0
 go_wp2
 refine bodyPost_ret (v:=.agg #[.bool g5,.slice u5 m5 l5,.slice u6 m6 l6]) (by simp [results,Tryz.results27,go_sem,V.c0,V.c1,V.c2]) rfl ⟨_,_,_,_,_,_,_,rfl,GF.mono (by omega),hw⟩
theorem ofQ (v:Int) (w:World) (h0:-9223372036854775808≤v) (h1:v<9223372036854775808) :
 Calls Tryz.prog 56 #[.int .i64 v] w fun e w'=>∃ f c n k c' n' k',e = .returned (.agg #[.bool f,.slice c n k,.slice c' n' k'])∧GR w' w.heap.size f c n k c' n' k' ((v:Rat)) (1)∧Below w.heap.size w w':=by
 have R0:=aU w (.bool false) (.slice none 0 0) (.slice none 0 0) 27
 have hb0:=aI w (.cells #[.bool false,.slice none 0 0,.slice none 0 0] 27)
 have hsz:(w.alloc (.cells #[.bool false,.slice none 0 0,.slice none 0 0] 27)).heap.size=w.heap.size+1:=by simp
 go_enter Tryz.func56,Tryz.ntmps56
 go_wp2_with fail
 generalize w.alloc (.cells #[.bool false,.slice none 0 0,.slice none 0 0] 27)=W0 at *
 refine (ofT v _ h0 h1).mono ?_
 rintro e w1 ⟨g5,u5,m5,l5,rfl,K1,hx⟩
 replace R0:=R0.below hx
 replace hb0:=aF hb0 hx
 have hsw1:W0.heap.size≤w1.heap.size:=Below.size hx
 clear hx
 go_wp2_with fail
 refine (ofG 1 _ (by decide) (by decide)).mono ?_
 rintro e w2 ⟨u6,m6,l6,rfl,K2,hx⟩
 have HNE:=NB.of K1.parts.2 K2 (Nat.le_refl _)
 replace R0:=R0.below hx
 replace K1:=K1.below hx
 replace hb0:=aF hb0 hx
 have hsw2:w1.heap.size≤w2.heap.size:=Below.size hx
 clear hx
 have GG:GR w2 (w.heap.size+1) g5 u5 m5 l5 u6 m6 l6 (v:Rat) 1:=⟨K1.mono (by omega),K2.mono (by omega),HNE⟩
 clear K1 K2
 obtain ⟨z0,z1,z2,z3,z4,z5⟩:=id R0
 obtain ⟨V,O⟩:=R0.set (.bool g5) (.slice u5 m5 l5) (.slice u6 m6 l6)
 have GF:=(GG.mono (B':=w.heap.size+1) (by omega)).off O (by omega)
 have hw:=hb0.trans (O.below (by omega))
 clear R0 O GG hb0
 go_wp2
 refine bodyPost_ret (v:=.agg #[.bool g5,.slice u5 m5 l5,.slice u6 m6 l6]) (by simp [results,Tryz.results56,go_sem,V.c0,V.c1,V.c2]) rfl ⟨_,_,_,_,_,_,_,rfl,GF.mono (by omega),hw⟩
end Go.Proofs.YtmeimjakdheidaaGreatDoor
