import Derived.Test.YtdcocflnafcikaaGreatDoorNumAll
import Derived.Test.YtdcocflnafcikaaGreatDoorCards
import Derived.Test.YtdcocflnafcikaaGreatDoorTie
import Derived.ProofKit
import Derived.OpenShut
import Derived.LaidMore
import Derived.Deep.DeepHandedRow
import Derived.Deep.DeepWitnessRowRef
import Derived.Test.YtdcocflnafcikaaGreatDoorRatAll
import Derived.Stop.LaidErr
import Derived.MakeChecks
import Derived.Shelf.Spec.TrailingZeros
set_option maxHeartbeats 4000000
namespace Go.Proofs.YtdcocflnafcikaaGreatDoor
open Go.ChangeShapes Go.WideShapes Go.ChangeAt Go.RowKit
theorem own:ownKnob Tryz.prog.godebug=none:=by kernel_rfl
theorem laidOut:laidOutB Tryz.prog=true:=by kernel_rfl
theorem cellsU64:Tryz.prog.cellsOf 63=1:=by kernel_rfl
theorem iU {H:Type} (d:DataW H):1≤Rows.uptoBulk d:=by
 cases d with
 | lit l=>cases l <;> simp [Rows.uptoBulk]
 | nil=>simp [Rows.uptoBulk]
 | ptr d=>simp [Rows.uptoBulk]
 | slice elems spare=>simp [Rows.uptoBulk]
 | agg parts=>simp [Rows.uptoBulk]
 | iface t d=>simp [Rows.uptoBulk]
 | map entries=>simp [Rows.uptoBulk]
 | held h=>simp [Rows.uptoBulk]
theorem oC {H:Type} (l:List (DataW H)):l.length≤Rows.uptoBulkAll l:=by
 induction l with
 | nil=>simp [Rows.uptoBulkAll]
 | cons x r ih=>have:=iU x;simp only [Rows.uptoBulkAll,List.length_cons];omega
theorem yD {H:Type} (elems spare:List (DataW H)):elems.length+spare.length≤Rows.uptoBulk (.slice elems spare):=by
 have h1:=oC elems
 have h2:=oC spare
 simp only [Rows.uptoBulk]
 omega
theorem wK {H:Type} {enc:TypeId × Value→H} {W:World} {t:TypeId} {v:Value} {d:DataW H} {p:List MemPlace} (h:DataW.Trod enc Tryz.prog W 0 (fun _=>true) true t v d p):∀ x ∈ p,x.block<W.heap.size:=by
 obtain ⟨m,hm⟩:=h;exact DataW.trod_lt m _ _ _ hm
end Go.Proofs.YtdcocflnafcikaaGreatDoor
namespace Go.Proofs.YtdcocflnafcikaaGreatDoor
open Go.ChangeShapes Go.WideShapes Go.ChangeAt Go.RowKit
theorem cellsInt:Tryz.prog.cellsOf 25=2:=by kernel_rfl
theorem kH:Tryz.prog.cellsOf 4=1:=by kernel_rfl
theorem rQ:Tryz.prog.cellsOf 23=1:=by kernel_rfl
end Go.Proofs.YtdcocflnafcikaaGreatDoor
namespace Go.Proofs.YtdcocflnafcikaaGreatDoor
open Go.ChangeShapes Go.WideShapes Go.ChangeAt Go.RowKit
theorem lQ:Tryz.prog.cellsOf 27=3:=by kernel_rfl
end Go.Proofs.YtdcocflnafcikaaGreatDoor
namespace Go.Proofs.YtdcocflnafcikaaGreatDoor
open Go.ChangeShapes Go.WideShapes Go.ChangeAt Go.RowKit
end Go.Proofs.YtdcocflnafcikaaGreatDoor
namespace Go.Proofs.YtdcocflnafcikaaGreatDoor
open Go.ChangeShapes Go.WideShapes Go.ChangeAt Go.RowKit
theorem u8Cells:Tryz.prog.cellsOf 5=1:=by kernel_rfl
theorem tab_head {n:String} {tab:List Nat} {r:List (String × DataW Unit)} {W:World} {g:Nat} (hg:Tryz.prog.globalNamed n=some g) (ht:(Tryz.prog.globals[g]?).map (·.type)=some 224) (hl:tab.length=64)
 (h:laidMet Tryz.prog ((n,.agg (tab.map fun (k:Nat)=>.lit (.int .u8 (k:Int))))::r) W):TabAt g tab W∧g<W.heap.size:=by
 obtain ⟨ps,⟨g0,t0,cs0,f0,p0,q0,hg0,ht0,hv0,hd0,_,e0⟩,_,hrows⟩:=h
 obtain rfl:=Option.some.inj (hg.symm.trans hg0)
 obtain rfl:=Option.some.inj (ht.symm.trans ht0)
 obtain ⟨xs,m,rfl,hx,hlen,hn,hel⟩:=DataW.trod_array Tryz.underlying224 hd0
 have hmap:tab.map (fun (k:Nat)=>(DataW.lit (.int .u8 (k:Int)):DataW Unit))=xs.map (·.1):=by
  have:=congrArg Prod.fst hx
  simpa using this
 have hT:TabAt g tab W:=fun j hj=>by
  have hj':j<64:=by omega
  have e1:=hel j hj'
  rw [u8Cells,List.getElem?_eq_getElem (by omega)] at e1
  obtain ⟨z,hz1,hz2,_⟩:=DataW.trod_int Tryz.underlying5 e1
  have e2:=congrArg (fun l=>l[j]?) hmap
  simp only [List.getElem?_map,List.getElem?_eq_getElem hj,List.getElem?_eq_getElem (show j<xs.length by omega),Option.map_some,hz2] at e2
  have e3:(tab[j]:Int)=z:=by
   have:=Option.some.inj e2
   simp only [DataW.lit.injEq,Lit.int.injEq,true_and] at this
   exact this
  have e4:cs0.toList[j]? = some (.int .u8 z):=by
   have:=congrArg (fun l=>l[0]?) hz1
   simp only [Nat.mul_one] at this
   rw [List.getElem?_take_of_lt (by omega),List.getElem?_drop,Nat.add_zero] at this
   simpa using this
  have e5:=World.var?_cell hg hv0 j
  rw [e5]
  have e6:cs0[j]? = some (.int .u8 z):=by simpa using e4
  rw [e6,← e3]
  simp [List.getD,List.getElem?_eq_getElem hj]
 exact ⟨hT,World.block_lt_of_cell? _ _ (hT 0 (by omega))⟩
end Go.Proofs.YtdcocflnafcikaaGreatDoor
namespace Go.Proofs.YtdcocflnafcikaaGreatDoor
open Go.RowKit
theorem TR.neg {w:World} {p:Bool} {a:Option Addr} {na ca:Nat} {d:Option Addr} {nd cd:Nat} {r:Rat} {S:Nat} (h:TR w p a na ca d nd cd r S):TR w (!p) a na ca d nd cd (-r) S:=by
 obtain ⟨x,y,⟨m,h1,h2⟩,h3,h4⟩:=h
 exact ⟨-x,y,⟨m,h1,by rw [ws_not,h2]⟩,h3,by rw [← h4,Rat.neg_divInt]⟩
theorem subQ {p q:Bool} {a b:Option Addr} {na nb ca cb:Nat} {d e0:Option Addr} {nd ne cd ce:Nat} {r s:Rat} {S R:Nat} (w:World) (hr:TR w p a na ca d nd cd r S) (hs:TR w q b nb cb e0 ne ce s R) (hSR:S+R≤6000000) (hS1:1≤S) (hR1:1≤R) (hT:TB w) :
 Calls Tryz.prog 115 #[.agg #[.bool p,.slice a na ca,.slice d nd cd],.agg #[.bool q,.slice b nb cb,.slice e0 ne ce]] w fun e w'=>∃ f c n k c' n' k',e = .returned (.agg #[.bool f,.slice c n k,.slice c' n' k'])∧GR w' w.heap.size f c n k c' n' k' (r-s) (S+R+1)∧Below w.heap.size w w':=by
 replace hs:=hs.neg
 obtain ⟨P0,P1,R0,hb0,hsz⟩:=oZ w (.bool p) (.slice a na ca) (.slice d nd cd) (.bool !q) (.slice b nb cb) (.slice e0 ne ce) (.bool false) (.slice none 0 0) (.slice none 0 0) 27
 replace hr:=hr.below hb0
 replace hs:=hs.below hb0
 replace hT:=hT.below hb0
 go_enter Tryz.func115,Tryz.ntmps115
 obtain ⟨p0c0,p0c1,p0c2,p0c3,p0c4,p0c5⟩:=id P0
 obtain ⟨p1c0,p1c1,p1c2,p1c3,p1c4,p1c5⟩:=id P1
 go_wp2_with fail
 generalize ((w.alloc (.cells #[.bool p,.slice a na ca,.slice d nd cd] 27)).alloc (.cells #[.bool !q,.slice b nb cb,.slice e0 ne ce] 27)).alloc (.cells #[.bool false,.slice none 0 0,.slice none 0 0] 27)=W0 at *
 refine (addQ _ hr hs (by omega) (by omega) (by omega) hT).mono ?_
 rintro e w1 ⟨g5,u5,m5,l5,u6,m6,l6,rfl,GG,hx⟩
 clear p0c0 p0c1 p0c2 p0c3 p0c4 p0c5 p1c0 p1c1 p1c2 p1c3 p1c4 p1c5
 replace hr:=hr.below hx
 replace hs:=hs.below hx
 replace hT:=hT.below hx
 replace R0:=R0.below hx
 replace P0:=P0.below hx
 replace P1:=P1.below hx
 replace hb0:=aF hb0 hx
 have hsw1:W0.heap.size≤w1.heap.size:=Below.size hx
 clear hx
 replace GG:=GG.val (Rat.sub_eq_add_neg r s).symm
 obtain ⟨p0c0,p0c1,p0c2,p0c3,p0c4,p0c5⟩:=id P0
 obtain ⟨p1c0,p1c1,p1c2,p1c3,p1c4,p1c5⟩:=id P1
 clear p0c0 p0c1 p0c2 p0c3 p0c4 p0c5 p1c0 p1c1 p1c2 p1c3 p1c4 p1c5
 clear P0 P1 hr hs hT
 obtain ⟨z0,z1,z2,z3,z4,z5⟩:=id R0
 obtain ⟨V,O⟩:=R0.set (.bool g5) (.slice u5 m5 l5) (.slice u6 m6 l6)
 have GF:=(GG.mono (B':=w.heap.size+3) (by omega)).off O (by omega)
 have hw:=hb0.trans (O.below (by omega))
 clear R0 O GG hb0
 go_wp2
 refine bodyPost_ret (v:=.agg #[.bool g5,.slice u5 m5 l5,.slice u6 m6 l6]) (by simp [results,Tryz.results115,go_sem,V.c0,V.c1,V.c2]) rfl ⟨_,_,_,_,_,_,_,rfl,GF.mono (by omega),hw⟩
theorem ofQ (v:Int) (w:World) (h0:-9223372036854775808≤v) (h1:v<9223372036854775808) :
 Calls Tryz.prog 64 #[.int .i64 v] w fun e w'=>∃ f c n k c' n' k',e = .returned (.agg #[.bool f,.slice c n k,.slice c' n' k'])∧GR w' w.heap.size f c n k c' n' k' ((v:Rat)) (1)∧Below w.heap.size w w':=by
 have R0:=bF w (.bool false) (.slice none 0 0) (.slice none 0 0) 27
 have hb0:=aG w (.cells #[.bool false,.slice none 0 0,.slice none 0 0] 27)
 have hsz:(w.alloc (.cells #[.bool false,.slice none 0 0,.slice none 0 0] 27)).heap.size=w.heap.size+1:=by simp
 go_enter Tryz.func64,Tryz.ntmps64
 go_wp2_with fail
 generalize w.alloc (.cells #[.bool false,.slice none 0 0,.slice none 0 0] 27)=W0 at *
 refine (ofT v _ h0 h1).mono ?_
 rintro e w1 ⟨g5,u5,m5,l5,rfl,K1,hx⟩
 replace R0:=R0.below hx
 replace hb0:=aF hb0 hx
 have hsw1:W0.heap.size≤w1.heap.size:=Below.size hx
 clear hx
 go_wp2_with fail
 refine (ofG 1 _ (by decide) (by decide)).mono ?_
 rintro e w2 ⟨u6,m6,l6,rfl,K2,hx⟩
 have HNE:=NB.of K1.parts.2 K2 (Nat.le_refl _)
 replace R0:=R0.below hx
 replace K1:=K1.below hx
 replace hb0:=aF hb0 hx
 have hsw2:w1.heap.size≤w2.heap.size:=Below.size hx
 clear hx
 have GG:GR w2 (w.heap.size+1) g5 u5 m5 l5 u6 m6 l6 (v:Rat) 1:=⟨K1.mono (by omega),K2.mono (by omega),HNE⟩
 clear K1 K2
 obtain ⟨z0,z1,z2,z3,z4,z5⟩:=id R0
 obtain ⟨V,O⟩:=R0.set (.bool g5) (.slice u5 m5 l5) (.slice u6 m6 l6)
 have GF:=(GG.mono (B':=w.heap.size+1) (by omega)).off O (by omega)
 have hw:=hb0.trans (O.below (by omega))
 clear R0 O GG hb0
 go_wp2
 refine bodyPost_ret (v:=.agg #[.bool g5,.slice u5 m5 l5,.slice u6 m6 l6]) (by simp [results,Tryz.results64,go_sem,V.c0,V.c1,V.c2]) rfl ⟨_,_,_,_,_,_,_,rfl,GF.mono (by omega),hw⟩
end Go.Proofs.YtdcocflnafcikaaGreatDoor
