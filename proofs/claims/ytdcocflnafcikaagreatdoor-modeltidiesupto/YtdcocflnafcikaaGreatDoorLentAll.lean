import Derived.Test.YtdcocflnafcikaaGreatDoorNumAll
import Derived.Test.YtdcocflnafcikaaGreatDoorWhEAll
set_option maxHeartbeats 1000000
namespace Go.Proofs.YtdcocflnafcikaaGreatDoor
open Go.RowKit
def bQ (xs:List Int):List Int:=xs++List.replicate 24 3789677025
theorem jK (xs:List Int):(bQ xs).length=xs.length+24:=by simp [bQ]
theorem yK {xs:List Int} {i:Nat} (h:i<xs.length):lm (bQ xs) i=lm xs i:=fF h
theorem yL {xs:List Int} {i:Nat} (h:xs.length≤i) (h2:i<xs.length+24):lm (bQ xs) i=3789677025:=by
 unfold bQ
 rw [eX h]
 have e:(List.replicate 24 (3789677025:Int))[i-xs.length]? = some 3789677025:=by rw [List.getElem?_replicate,if_pos (by omega)]
 unfold lm
 rw [List.getD_eq_getElem?_getD,e]
 rfl
structure Lnt (w:World) (r gf cf gw cw n:Nat) (fs ws:List Int):Prop where
 c0:w.cell? ⟨r,0,none⟩=some (.slice (some ⟨gf,0,none⟩) fs.length cf)
 c1:w.cell? ⟨r,1,none⟩=some (.slice (some ⟨gw,0,none⟩) ws.length cw)
 c2:w.cell? ⟨r,2,none⟩=some (.int .i64 n)
 rf:Row w gf cf fs
 rw:Row w gw cw ws
 ne:gf≠gw
 lf:r<gf
 lw:r<gw
 le:n≤fs.length
 lr:r<w.heap.size
 eq:fs.length=ws.length
theorem Lnt.below {w w':World} {r gf cf gw cw n:Nat} {fs ws:List Int} (h:Lnt w r gf cf gw cw n fs ws) (hb:Below w.heap.size w w'):Lnt w' r gf cf gw cw n fs ws :=
 ⟨by rw [hb.cell (by exact h.lr)];exact h.c0,by rw [hb.cell (by exact h.lr)];exact h.c1,by rw [hb.cell (by exact h.lr)];exact h.c2,h.rf.belowAll hb,h.rw.belowAll hb,h.ne,h.lf,h.lw,h.le,by have:=hb.size;have:=h.lr;omega,h.eq⟩
def LendAt (w wr:World) (n k:Nat) (F:List Int):Prop :=
 ∃ vf vw,wr.cell? ⟨w.heap.size,0,none⟩=some vf∧wr.cell? ⟨w.heap.size,1,none⟩=some vw∧wr.cell? ⟨w.heap.size,2,none⟩=some (.int .i64 n) ∧
  wr.frozen? ⟨w.heap.size,0,none⟩=false∧wr.frozen? ⟨w.heap.size,1,none⟩=false∧OwnV wr (w.heap.size+1) vf (F.take k)∧OwnV wr (w.heap.size+1) vw (F.take k) ∧
  (∀ g,vf.ownBlock=some g→vw.ownBlock≠some g)∧Below w.heap.size w wr∧w.heap.size<wr.heap.size
theorem kX {w w':World} {row:Option Nat} (hg:w.grownBy w' row) {p:Addr} (hp:p.block<w.heap.size) (hr:some p.block≠row):w'.cell? p=w.cell? p:=World.cell?_of_block (w:=w) (hg.block p.block hp hr)
theorem mD {w w':World} {row:Option Nat} (hg:w.grownBy w' row) {p:Addr} (hp:p.block<w.heap.size) (hr:some p.block≠row):w'.frozen? p=w.frozen? p:=World.frozen?_of_block (w:=w) (hg.block p.block hp hr)
theorem OwnV.grown {w w':World} {B:Nat} {v:Value} {xs:List Int} {row:Option Nat} (h:OwnV w B v xs) (hg:w.grownBy w' row) (hne:v.ownBlock=none∨v.ownBlock≠row):OwnV w' B v xs:=World.ownsRow.kept h hg hne
theorem OwnV.set_below {w:World} {B:Nat} {v:Value} {xs:List Int} (h:OwnV w B v xs) {p:Addr} (hp:p.block<B) (u:Value):OwnV (w.setCell p u) B v xs:=ownsRow_setCell_below h hp u
theorem fA {w w1:World} {r:Nat} {v:Value} {xs:List Int} (hv:OwnV w (r+1) v xs) (hr:r<w.heap.size) (blk:Obj) (hgrow:(w.alloc blk).grownBy w1 v.ownBlock) (i:Nat) :
 w1.cell? ⟨r,i,none⟩=w.cell? ⟨r,i,none⟩∧w1.frozen? ⟨r,i,none⟩=w.frozen? ⟨r,i,none⟩:=by
 have hra:r<(w.alloc blk).heap.size:=by simp;omega
 have hne:some r≠v.ownBlock:=fun e=>by have:=(hv.lt r e.symm).1;omega
 constructor
 ·rw [kX hgrow (p:=⟨r,i,none⟩) hra hne]
  exact World.cell?_of_block (w:=w) (Below.heap_alloc _ _ _ hr)
 ·rw [mD hgrow (p:=⟨r,i,none⟩) hra hne]
  exact World.frozen?_of_block (w:=w) (Below.heap_alloc _ _ _ hr)
theorem jL {w w0 w1:World} {r g cap:Nat} {f f':Nat} {v v':Value} {xs ys:List Int} {u0:Value} {z:Int} {n:Nat} (_hf:f≠f')
 (hc':w.cell? ⟨r,f',none⟩=some v') (hc2:w.cell? ⟨r,2,none⟩=some u0) (hz':w.frozen? ⟨r,f',none⟩=false) (hz:w.frozen? ⟨r,f,none⟩=false) (_hf2:f≠2)
 (hv:OwnV w (r+1) v xs) (hv':OwnV w (r+1) v' ys) (hdis:∀ k,v.ownBlock=some k→v'.ownBlock≠some k) (hr:r<w.heap.size) (hbel:Below r w0 w) (blk:Obj)
 (hown:OwnV w1 (r+1) (.slice (some ⟨g,0,none⟩) (n+1) cap) (xs++[z])) (hgrow:(w.alloc blk).grownBy w1 v.ownBlock) (hat:v.ownBlock=some g∨g=w.heap.size+1) (val:Value) (hval:val = .slice (some ⟨g,0,none⟩) (n+1) cap) :
 (w1.setCell ⟨r,f,none⟩ val).cell? ⟨r,f',none⟩=some v'∧(w1.setCell ⟨r,f,none⟩ val).cell? ⟨r,2,none⟩=some u0∧(w1.setCell ⟨r,f,none⟩ val).frozen? ⟨r,f',none⟩=false∧(w1.setCell ⟨r,f,none⟩ val).frozen? ⟨r,f,none⟩=false ∧
  OwnV (w1.setCell ⟨r,f,none⟩ val) (r+1) val (xs++[z])∧OwnV (w1.setCell ⟨r,f,none⟩ val) (r+1) v' ys∧(∀ k,val.ownBlock=some k→v'.ownBlock≠some k)∧Below r w0 (w1.setCell ⟨r,f,none⟩ val)∧r<(w1.setCell ⟨r,f,none⟩ val).heap.size:=by
 have hrow:∀ k,v.ownBlock=some k→r+1≤k:=fun k hk=>(hv.lt k hk).1
 have hra:r<(w.alloc blk).heap.size:=by simp;omega
 have hne:some r≠v.ownBlock:=fun e=>by have:=hrow r e.symm;omega
 have hcell:∀ i,w1.cell? ⟨r,i,none⟩=w.cell? ⟨r,i,none⟩:=fun i=>by
  rw [kX hgrow (p:=⟨r,i,none⟩) hra hne]
  exact World.cell?_of_block (w:=w) (Below.heap_alloc _ _ _ hr)
 have hfrz:∀ i,w1.frozen? ⟨r,i,none⟩=w.frozen? ⟨r,i,none⟩:=fun i=>by
  rw [mD hgrow (p:=⟨r,i,none⟩) hra hne]
  exact World.frozen?_of_block (w:=w) (Below.heap_alloc _ _ _ hr)
 have hv'1:OwnV w1 (r+1) v' ys:=by
  refine (hv'.alloc blk).grown hgrow ?_
  cases e:v'.ownBlock with
  | none=>exact .inl rfl
  | some k=>exact .inr (fun e2=>hdis k e2.symm e)
 subst hval
 refine ⟨?_,?_,?_,?_,hown.set_below (by simp) _,hv'1.set_below (by simp) _,?_,?_,?_⟩
 ·rw [World.cell?_setCell_other _ _ _ _ (by simp)];rw [hcell];exact hc'
 ·rw [World.cell?_setCell_other _ _ _ _ (by simp)];rw [hcell];exact hc2
 ·rw [World.frozen?_setCell];rw [hfrz];exact hz'
 ·rw [World.frozen?_setCell];rw [hfrz];exact hz
 ·intro k hk
  simp only [Value.ownBlock,Option.some.injEq] at hk
  subst hk
  rcases hat with e|e
  ·exact hdis g e
  ·intro e2;have:=(hv'.lt g e2).2;omega
 ·exact (hbel.trans (((Below.refl _ _).alloc (by omega) blk).trans (grown_below hgrow (by simp;omega) (fun k hk=>by have:=hrow k hk;omega)))).setCell (Nat.le_refl _) _
 ·have:=hgrow.size;simp at this ⊢;omega
theorem rcut_none (a:Option Addr) (cap:Nat) (w:World):Calls Tryz.prog 104 #[.slice a 0 cap] w fun e w'=>e = .returned (.slice a 0 cap)∧w=w':=by
 go_enter Tryz.func104,Tryz.ntmps104
 go_wp2
 go_loop [3] (fun i=>i = .int .i64 0) (fun _=>0)
 case atStart=>rfl
 case round =>
  subst hrel
  go_wp2
  go_ret
  exact ⟨by simp,rfl⟩
theorem rcut_some (b o cap:Nat) (xs:List Int) (w:World) (hl:xs.length≤cap) (hm:xs.length≤1099511627776) (hc:∀ i,i<xs.length→w.cell? ⟨b,o+i,none⟩=some (.int .u64 (lm xs i))) :
 Calls Tryz.prog 104 #[.slice (some ⟨b,o,none⟩) xs.length cap] w fun e w'=>e = .returned (.slice (some ⟨b,o,none⟩) (aI xs) cap)∧w=w':=by
 go_enter Tryz.func104,Tryz.ntmps104
 go_wp2
 go_loop [3] (fun i=>∃ k:Nat,k≤xs.length∧i = .int .i64 k∧tl xs k=aI xs) (fun i=>(intOf i).toNat)
 case atStart=>exact ⟨_,Nat.le_refl _,rfl,rfl⟩
 case round =>
  obtain ⟨k,hk,rfl,ht⟩:=hrel
  have HT:Hid (tl xs k=aI xs):=ht
  clear ht
  by_cases hk0:k=0
  ·subst hk0
   go_wp2
   go_ret
   exact ⟨kD HT.out,rfl⟩
  ·obtain ⟨j,rfl⟩:∃ j,k=j+1:=⟨k-1,by omega⟩
   have hcj:=hc j (by omega)
   by_cases hz:lm xs j=0
   ·have HT2:Hid (tl xs j=aI xs):=by have:=HT.out;unfold tl at this;rw [if_pos hz] at this;exact this
    rw [hz] at hcj
    clear hz
    go_wp2
    go_round
    case rel=>exact ⟨j,by omega,by go_num,HT2.out⟩
    case measure=>simp [intOf]
   ·have HT2:Hid (j+1=aI xs):=by have:=HT.out;unfold tl at this;rw [if_neg hz] at this;exact this
    have hzb:(lm xs j == 0)=false:=by simpa using hz
    clear hz
    go_wp2
    go_ret
    exact ⟨kD HT2.out,rfl⟩
theorem iZ (a:Option Addr) (n cap:Nat) (xs:List Int) (w:World) (hn:n=xs.length) (hl:n≤cap) (hm:n≤1099511627776) (hr:Reads w a xs) :
 Calls Tryz.prog 104 #[.slice a n cap] w fun e w'=>e = .returned (.slice a (aI xs) cap)∧w=w':=by
 subst hn
 rcases hr with rfl|⟨b,o,rfl,hc⟩
 ·exact rcut_none a cap w
 ·exact rcut_some b o cap xs w hl hm hc
def wS (xs ys:List Int):Int:=if xs.length=ys.length then bU xs ys xs.length else kN (decide (xs.length<ys.length))
theorem wU (a b:Option Addr) (na nb ca cb:Nat) (xs ys:List Int) (w:World) (hna:na=xs.length) (hnb:nb=ys.length)
 (hma:na≤1099511627776) (hmb:nb≤1099511627776) (hra:Reads w a xs) (hrb:Reads w b ys) :
 Calls Tryz.prog 125 #[.slice a na ca,.slice b nb cb] w fun e w'=>e = .returned (.int .i64 (wS xs ys))∧∃ n,w'=w.drewN n:=by
 unfold wS
 subst hna hnb
 by_cases hne:xs.length=ys.length
 ·have HN:Hid (xs.length=ys.length):=hne
  have hb:((xs.length:Int) != (ys.length:Int))=false:=by simp [hne]
  have HG:Hid ((if xs.length=ys.length then bU xs ys xs.length else kN (decide (xs.length<ys.length)))=bU xs ys ys.length):=by show _=_;rw [if_pos hne,hne]
  rw [HG.out]
  go_enter Tryz.func125,Tryz.ntmps125
  go_wp2_with fail
  go_loopw [5] (fun i wr=>∃ k m:Nat,k≤ys.length∧i = .int .i64 ((k:Int)-1)∧bU xs ys k=bU xs ys ys.length∧wr=w.drewN m) (fun i _=>(intOf i+1).toNat)
  case atStart=>exact ⟨_,0,Nat.le_refl _,rfl,rfl,rfl⟩
  case round =>
   obtain ⟨k,m,hk,rfl,ht,rfl⟩:=hrel
   have HT:Hid (bU xs ys k=bU xs ys ys.length):=ht
   have hxy:xs.length=ys.length:=hne
   clear ht hb hne
   by_cases hk0:k=0
   ·subst hk0
    clear hxy
    go_wp2
    go_ret
    exact ⟨fZ HT.out,m,rfl⟩
   ·obtain ⟨j,rfl⟩:∃ j,k=j+1:=⟨k-1,by omega⟩
    obtain ⟨b1,o1,rfl,hc1⟩:=hra.at (by omega)
    obtain ⟨b2,o2,rfl,hc2⟩:=hrb.at (by omega)
    have h1:=hc1 j (by omega)
    have h2:=hc2 j (by omega)
    have hj:(j:Int)<(ys.length:Int):=by omega
    have hjx:(j:Int)<(xs.length:Int):=by omega
    clear hc1 hc2 hxy
    by_cases hz:lm xs j=lm ys j
    ·have HT2:Hid (bU xs ys j=bU xs ys ys.length):=(jT hz).symm.trans HT.out
     rw [hz] at h1
     clear hz
     have t1:decide (lm ys j<lm ys j)=false:=by simp
     go_wp2
     go_quiet (fail)
     obtain ⟨W2,hW2⟩:∃ W2,W2=(w.drewN m).drewN nq:=⟨_,rfl⟩
     have g1:W2.cell? ⟨b1,o1+j,none⟩=some (.int .u64 (lm ys j)):=by rw [hW2];simpa using h1
     have g2:W2.cell? ⟨b2,o2+j,none⟩=some (.int .u64 (lm ys j)):=by rw [hW2];simpa using h2
     rw [← hW2]
     have HW2:Hid (∃ q,W2=w.drewN q):=⟨m+nq,by rw [hW2];simp⟩
     clear hW2 h1 h2
     go_wp2
     go_quiet (fail)
     obtain ⟨q,hq⟩:=HW2.out
     go_wp2
     go_roundw
     case rel=>exact ⟨j,q+nq,by omega,by go_num,HT2.out,by first|rfl|(rw [hq];simp)⟩
     case measure=>simp [intOf]
    ·by_cases hlt:lm xs j<lm ys j
     ·have t1:decide (lm xs j<lm ys j)=true:=by simpa using hlt
      have HT2:Hid (-1=bU xs ys ys.length):=by show _=_;rw [← HT.out,iR hz,t1];rfl
      clear hz
      go_wp2
      go_quiet (fail)
      go_wp2
      go_ret
      exact ⟨fZ HT2.out,m+nq,by simp⟩
     ·have t1:decide (lm xs j<lm ys j)=false:=by simpa using hlt
      have t2:decide (lm ys j<lm xs j)=true:=by simp;omega
      have HT2:Hid (1=bU xs ys ys.length):=by show _=_;rw [← HT.out,iR hz,t1];rfl
      clear hz
      go_wp2
      go_quiet (fail)
      obtain ⟨W2,hW2⟩:∃ W2,W2=(w.drewN m).drewN nq:=⟨_,rfl⟩
      have g1:W2.cell? ⟨b1,o1+j,none⟩=some (.int .u64 (lm xs j)):=by rw [hW2];simpa using h1
      have g2:W2.cell? ⟨b2,o2+j,none⟩=some (.int .u64 (lm ys j)):=by rw [hW2];simpa using h2
      rw [← hW2]
      have HW2:Hid (∃ q,W2=w.drewN q):=⟨m+nq,by rw [hW2];simp⟩
      clear hW2 h1 h2
      go_wp2
      go_quiet (fail)
      obtain ⟨q,hq⟩:=HW2.out
      go_wp2
      go_ret
      exact ⟨fZ HT2.out,q+nq,by first|rfl|(rw [hq];simp)⟩
 ·have hb:((xs.length:Int) != (ys.length:Int))=true:=by simp;omega
  rw [if_neg hne]
  clear hne
  by_cases hlt:xs.length<ys.length
  all_goals
   go_enter Tryz.func125,Tryz.ntmps125
   go_wp2
   go_ret
   exact ⟨fZ (by simp [kN,hlt]),0,rfl⟩
def hv:List Int→List Int
 | []=>[]
 | x::xs=>x%4294967296::x/4294967296::hv xs
theorem fU (xs:List Int):(hv xs).length=2*xs.length:=by
 induction xs with
 | nil=>rfl
 | cons x xs ih=>simp [hv,ih];omega
theorem hv_append (xs ys:List Int):hv (xs++ys)=hv xs++hv ys:=by
 induction xs with
 | nil=>rfl
 | cons x xs ih=>simp [hv,ih]
theorem hv_snoc (xs:List Int) (k:Nat) (h:k<xs.length):hv (xs.take k)++[lm xs k%4294967296,lm xs k/4294967296]=hv (xs.take (k+1)):=by
 rw [← fJ xs k h,hv_append];rfl
theorem keep_far {w w1:World} {blk:Obj} {row:Option Nat} {p:Addr} {v:Value} {B:Nat} (hg:((w.alloc blk).drew).grownBy w1 row) (hc:w.cell? p=some v) (hr:∀ q,row=some q→B≤q) (hp:p.block<B):w1.cell? p=some v:=by
 have hlt:=World.block_lt_of_cell? _ _ hc
 rw [kX hg (p:=p) (by simp;omega) (fun e=>by have:=hr _ e.symm;omega)]
 have:(w.alloc blk).drew.cell? p=w.cell? p:=World.cell?_of_block (w:=w) (Below.heap_alloc _ _ _ hlt)
 rw [this];exact hc
theorem jM (a:Option Addr) (n cap:Nat) (xs:List Int) (w:World) (hn:n=xs.length) (hl:n≤cap) (hm:n≤400000000000) (hr:Reads w a xs) (hx:AllW xs) :
 Calls Tryz.prog 99 #[.slice a n cap] w fun e w'=>∃ c cc,e = .returned (.slice c (aI (hv xs)) cc)∧aI (hv xs)≤cc∧Reads w' c (hv xs)∧Below w.heap.size w w':=by
 subst hn
 go_enter Tryz.func99,Tryz.ntmps99
 go_wp2
 go_loopw [3,4] (fun v i wr=>∃ k:Nat,k≤xs.length∧i = .int .i64 k∧OwnV wr w.heap.size v (hv (xs.take k))∧Below w.heap.size w wr) (fun _ i _=>xs.length-(intOf i).toNat)
 case atStart=>exact ⟨0,Nat.zero_le _,rfl,OwnV.nil _ _,Below.refl _ _⟩
 case round =>
  obtain ⟨k,hk,rfl,hown,hbel⟩:=hrel
  by_cases hlt:k<xs.length
  ·obtain ⟨b1,o1,rfl,hc1⟩:=hr.at (by omega)
   have h1:=hc1 k hlt
   have h2:wr.cell? ⟨b1,o1+k,none⟩=some (.int .u64 (lm xs k)):=by
    have:=World.block_lt_of_cell? _ _ h1
    rw [hbel.cell (p:=⟨b1,o1+k,none⟩) (by simpa using this)];exact h1
   have HT:Hid (hv (xs.take k)++[lm xs k%4294967296,lm xs k/4294967296]=hv (xs.take (k+1))):=hv_snoc xs k hlt
   have HK:Hid ((hv (xs.take k)).length=2*k):=by show _=_;rw [fU,List.length_take];omega
   obtain ⟨x0,x1⟩:=hx.at k
   have hkl:(k:Int)<(xs.length:Int):=by omega
   have hb1:b1<w.heap.size:=by simpa using World.block_lt_of_cell? _ _ h1
   clear hc1 h1 hr hx
   generalize hv (xs.take k)=F at *
   generalize lm xs k=X at *
   have T1:X.tmod 4294967296=X%4294967296:=Int.tmod_eq_emod_of_nonneg x0
   have T2:IntKind.u64.wrap (X.tdiv 4294967296)=X/4294967296:=by rw [Int.tdiv_eq_ediv_of_nonneg x0,IntKind.wrap_u64];omega
   have hsz:=hbel.size
   have hrow:∀ q,u3.ownBlock=some q→w.heap.size≤q:=fun q hq=>(hown.lt q hq).1
   go_wp2
   go_region_held3 (fun w'=>w'.cell? ⟨b1,o1+k,none⟩=some (.int .u64 X)) (first|(go_keep;done)|exact keep_far hgrow h2 hrow hb1)
    ((refine tC 22 Tryz.underlying22 _ (by rfl) _ _ (by rfl) w.heap.size u3 F (2*k) HK (by rfl) (by exact (hown.alloc _).drew) wr.heap.size _ (X%4294967296) (X/4294967296) (by rfl) (by simp) (by simp) (by omega) (by simp;omega) (wr.heap.size+1) (by simp) ?_;intro g cap1 w1 hown1 hgrow hat hlt1))
   have hbel1:Below w.heap.size w w1:=hbel.trans (((Below.refl _ _).alloc (by omega) _).drew.trans (grown_below hgrow (by simp;omega) hrow))
   rw [HT.out] at hown1
   clear hgrow hat hown
   go_wp2
   go_roundw
   case rel=>exact ⟨k+1,by omega,by go_num,hown1,hbel1⟩
   case measure=>simp [intOf];omega
  ·obtain rfl:k=xs.length:=by omega
   rw [List.take_length] at hown
   obtain ⟨c,cc,rfl⟩:=hown.slice
   obtain ⟨h1,h2,h3⟩:=hown.reads
   have hlh:=fU xs
   have HLH:Hid ((hv xs).length=2*xs.length):=hlh
   have hml:(hv xs).length≤1099511627776:=by omega
   have htl:aI (hv xs)≤(hv xs).length:=bD _ _
   clear hlh
   go_wp2_with fail
   refine (iZ c _ cc (hv xs) _ rfl h2 hml h3).mono ?_
   rintro e w1 ⟨rfl,rfl⟩
   go_wp2
   go_ret
   exact ⟨c,cc,rfl,by omega,h3,hbel⟩
end Go.Proofs.YtdcocflnafcikaaGreatDoor
namespace Go.Proofs.YtdcocflnafcikaaGreatDoor
/-! The same as in Val,of half limbs (by program out of that text). -/
def AllH (xs:List Int):Prop:=∀ x ∈ xs,0≤x∧x<4294967296
theorem AllH.at {xs:List Int} (h:AllH xs) (i:Nat):0≤lm xs i∧lm xs i<4294967296:=by
 by_cases hi:i<xs.length
 ·exact h (lm xs i) (List.mem_of_getElem? (lI hi))
 ·rw [fE (by omega)];omega
theorem AllH.set {xs:List Int} (h:AllH xs) (i:Nat) (z:Int) (hz:0≤z∧z<4294967296):AllH (xs.set i z):=by
 intro x hx
 rcases List.mem_or_eq_of_mem_set hx with h1|rfl
 ·exact h x h1
 ·exact hz
theorem AllH.take {xs:List Int} (h:AllH xs) (n:Nat):AllH (xs.take n):=fun x hx=>h x (List.mem_of_mem_take hx)
theorem AllH.append {xs ys:List Int} (h:AllH xs) (k:AllH ys):AllH (xs++ys):=fun x hx=>(List.mem_append.1 hx).elim (h x) (k x)
theorem AllH.nil:AllH []:=fun x hx=>by cases hx
theorem AllH.trim {xs:List Int} (h:AllH xs):AllH (trimL xs):=h.take _
theorem AllH.replicate (n:Nat):AllH (List.replicate n 0):=fun x hx=>by rw [List.eq_of_mem_replicate hx];omega
/-! ### What the limbs are worth -/
def pwH (k:Nat):Int:=4294967296^k
theorem dG (k:Nat):pwH (k+1)=pwH k*4294967296:=Int.pow_succ _ _
theorem gJ (k:Nat):0<pwH k:=Int.pow_pos (by decide)
theorem uO (a b:Nat):pwH (a+b)=pwH a*pwH b:=Int.pow_add _ _ _
theorem jA {a b:Nat} (h:a≤b):pwH a≤pwH b:=by
 obtain ⟨c,rfl⟩:∃ c,b=a+c:=⟨b-a,by omega⟩
 rw [uO]
 have h1:=gJ c
 have h2:=gJ a
 have:=Int.mul_le_mul_of_nonneg_left (a:=1) (b:=pwH c) (c:=pwH a) (by omega) (by omega)
 omega
def vH (us:List Int):Nat→Int
 | 0=>0
 | n+1=>vH us n+lm us n*pwH n
def aY (us:List Int):Int:=vH us us.length
theorem jB {us vs:List Int} {n:Nat} (h:∀ i,i<n→lm us i=lm vs i):vH us n=vH vs n:=by
 induction n with
 | zero=>rfl
 | succ n ih=>simp only [vH];rw [ih (fun i hi=>h i (by omega)),h n (by omega)]
theorem vH_set_ge {us:List Int} {n i:Nat} {z:Int} (h:n≤i):vH (us.set i z) n=vH us n :=
 jB fun j hj=>by rw [bG,if_neg (by omega)]
theorem yM {us:List Int} {n i:Nat} (z:Int) (h:i<n) (hl:i<us.length):vH (us.set i z) n=vH us n+(z-lm us i)*pwH i:=by
 induction n with
 | zero=>omega
 | succ n ih =>
  simp only [vH]
  rcases Nat.lt_or_ge i n with h1|h1
  ·rw [ih h1,bG,if_neg (by omega)];omega
  ·obtain rfl:i=n:=by omega
   rw [vH_set_ge (Nat.le_refl _),bG,if_pos ⟨rfl,hl⟩,Int.sub_mul];omega
theorem zY {us:List Int} {m n:Nat} (hmn:m≤n) (h:∀ i,m≤i→i<n→lm us i=0):vH us n=vH us m:=by
 induction n with
 | zero =>
  obtain rfl:m=0:=by omega
  rfl
 | succ n ih =>
  rcases Nat.lt_or_ge n m with h1|h1
  ·obtain rfl:m=n+1:=by omega
   rfl
  ·simp only [vH];rw [ih h1 (fun i a b=>h i a (by omega)),h n h1 (by omega)];omega
theorem dN {us:List Int} {n:Nat} (h:us.length≤n):vH us n=aY us:=zY h (fun _ a _=>fE a)
theorem jY {us:List Int} (hu:AllH us) (n:Nat):0≤vH us n∧vH us n<pwH n:=by
 induction n with
 | zero=>simp [vH,pwH]
 | succ n ih =>
  simp only [vH]
  rw [dG]
  have h:=hu.at n
  have hp:=gJ n
  have h1:0≤lm us n*pwH n:=Int.mul_nonneg h.1 (by omega)
  have h2:lm us n*pwH n≤4294967295*pwH n:=Int.mul_le_mul_of_nonneg_right (by omega) (by omega)
  omega
theorem pG {us:List Int} (hu:AllH us):0≤aY us:=(jY hu _).1
theorem pI {us:List Int} (hu:AllH us):aY us<pwH us.length:=(jY hu _).2
theorem mF (xs:List Int):vH xs (aI xs)=aY xs:=(zY (bD _ _) (gB xs xs.length).1).symm
theorem qQ (xs:List Int):aY (trimL xs)=aY xs:=by
 unfold aY
 rw [aK]
 show _=aY xs
 rw [← mF]
 exact jB fun i hi=>by unfold trimL;rw [dS hi]
theorem mG {xs:List Int} (hx:AllH xs) (h:0<aI xs):pwH (aI xs-1)≤aY xs:=by
 rw [← mF]
 obtain ⟨k,hk⟩:∃ k,aI xs=k+1:=⟨aI xs-1,by omega⟩
 rw [hk]
 simp only [vH]
 have hne:=(gB xs xs.length).2 h
 have e:tl xs xs.length=k+1:=hk
 rw [e] at hne
 simp only [Nat.add_sub_cancel] at hne ⊢
 have h1:=hx.at k
 have h2:=(jY hx k).1
 have h3:1*pwH k≤lm xs k*pwH k:=Int.mul_le_mul_of_nonneg_right (by omega) (by have:=gJ k;omega)
 omega
theorem jO {xs:List Int} (hx:AllH xs):aY xs<pwH (aI xs):=by rw [← mF];exact (jY hx _).2
theorem yN {xs ys:List Int} (hx:AllH xs) (hy:AllH ys) (h:aY xs≤aY ys):aI xs≤aI ys:=by
 rcases Nat.lt_or_ge (aI ys) (aI xs) with e|e
 ·have h1:=mG hx (by omega)
  have h2:=jO hy
  have h3:=jA (show aI ys≤aI xs-1 by omega)
  omega
 ·exact e
/-! ### the order -/
theorem yO {xs ys:List Int} (hx:AllH xs) (hy:AllH ys) (k:Nat):(bU xs ys k=0∧vH xs k=vH ys k)∨(bU xs ys k = -1∧vH xs k<vH ys k)∨(bU xs ys k=1∧vH ys k<vH xs k):=by
 induction k with
 | zero=>simp [bU,vH]
 | succ k ih =>
  simp only [vH]
  by_cases h:lm xs k=lm ys k
  ·rw [jT h,h];omega
  ·rw [iR h]
   have a:=jY hx k
   have b:=jY hy k
   have hp:=gJ k
   by_cases h2:lm xs k<lm ys k
   ·have:=Int.mul_le_mul_of_nonneg_right (a:=lm xs k+1) (b:=lm ys k) (c:=pwH k) (by omega) (by omega)
    rw [Int.add_mul] at this
    right;left
    exact ⟨by simp [kN,h2],by omega⟩
   ·have:=Int.mul_le_mul_of_nonneg_right (a:=lm ys k+1) (b:=lm xs k) (c:=pwH k) (by omega) (by omega)
    rw [Int.add_mul] at this
    right;right
    exact ⟨by simp [kN,h2],by omega⟩
theorem rZ {xs ys:List Int} (hx:AllH xs) (hy:AllH ys):(cmpL xs ys=0∧aY xs=aY ys)∨(cmpL xs ys = -1∧aY xs<aY ys)∨(cmpL xs ys=1∧aY ys<aY xs):=by
 unfold cmpL
 by_cases h:aI xs=aI ys
 ·rw [if_pos h]
  have:=yO hx hy (aI xs)
  have e:vH ys (aI xs)=aY ys:=by rw [h,mF]
  rw [mF,e] at this
  exact this
 ·rw [if_neg h]
  by_cases h2:aI xs<aI ys
  ·right;left
   refine ⟨by simp [kN,h2],?_⟩
   have h1:=mG hy (by omega)
   have h3:=jO hx
   have h4:=jA (show aI xs≤aI ys-1 by omega)
   omega
  ·right;right
   refine ⟨by simp [kN,h2],?_⟩
   have h1:=mG hx (by omega)
   have h3:=jO hy
   have h4:=jA (show aI ys≤aI xs-1 by omega)
   omega
/-! ### halves and wholes -/
theorem mJ {xs:List Int} (h:AllW xs):AllH (hv xs):=by
 induction xs with
 | nil=>exact AllH.nil
 | cons x xs ih =>
  have hx:=h x (List.mem_cons_self)
  have:=ih (fun y hy=>h y (List.mem_cons_of_mem _ hy))
  intro y hy
  simp only [hv,List.mem_cons] at hy
  rcases hy with rfl|rfl|hy
  ·omega
  ·exact ⟨by have:=hx.1;omega,by have:=hx.2;omega⟩
  ·exact this y hy
theorem zZ (n:Nat):pwH (2*n)=pw n:=by
 induction n with
 | zero=>rfl
 | succ n ih=>rw [show 2*(n+1)=2*n+1+1 by omega,dG,dG,ih,bV,Int.mul_assoc];rfl
theorem lm_hv (xs:List Int) (i:Nat):lm (hv xs) (2*i)=lm xs i%4294967296∧lm (hv xs) (2*i+1)=lm xs i/4294967296:=by
 induction xs generalizing i with
 | nil=>simp [hv,lm]
 | cons x xs ih =>
  cases i with
  | zero=>simp [hv,lm]
  | succ i =>
   have:=ih i
   rw [show 2*(i+1)=(2*i)+1+1 by omega]
   simp only [hv,lm,List.getD_cons_succ] at this ⊢
   exact this
theorem vH_hv (xs:List Int) (n:Nat):vH (hv xs) (2*n)=vS xs n:=by
 induction n with
 | zero=>rfl
 | succ n ih =>
  rw [show 2*(n+1)=2*n+1+1 by omega]
  simp only [vH,vS]
  obtain ⟨a,b⟩:=lm_hv xs n
  rw [ih,a,b,dG,zZ]
  have e:lm xs n/4294967296*(pw n*4294967296)=lm xs n/4294967296*4294967296*pw n:=by rw [Int.mul_comm (pw n),Int.mul_assoc]
  rw [e,Int.add_assoc,← Int.add_mul]
  congr 2
  omega
theorem pJ (xs:List Int):aY (hv xs)=val xs:=by
 unfold aY val;rw [fU];exact vH_hv xs _
theorem yP {xs ys:List Int} {n m:Nat} (k:Nat) (h1:k≤n) (h2:k≤m):bU (xs.take n) (ys.take m) k=bU xs ys k:=by
 induction k with
 | zero=>rfl
 | succ k ih=>simp only [bU];rw [dS (by omega),dS (by omega),ih (by omega) (by omega)]
end Go.Proofs.YtdcocflnafcikaaGreatDoor
namespace Go.Proofs.YtdcocflnafcikaaGreatDoor
open Go.RowKit
def nbL (c:List Int):List Int:=(List.range ((c.length+1)/2)).map fun (k:Nat)=>lm c (2*k)+4294967296*lm c (2*k+1)
theorem iH (c:List Int):(nbL c).length=(c.length+1)/2:=by simp [nbL]
theorem yQ (c:List Int) (k:Nat):lm (nbL c) k=lm c (2*k)+4294967296*lm c (2*k+1):=by
 by_cases h:k<(c.length+1)/2
 ·simp [lm,nbL,h]
 ·rw [fE (by rw [iH];omega),fE (us:=c) (by omega),fE (us:=c) (by omega)];rfl
theorem allW_nbL {c:List Int} (h:AllH c):AllW (nbL c):=by
 intro x hx
 simp only [nbL,List.mem_map] at hx
 obtain ⟨k,_,rfl⟩:=hx
 have a:=h.at (2*k)
 have b:=h.at (2*k+1)
 exact ⟨by omega,by omega⟩
theorem vS_nbL (c:List Int) (n:Nat):vS (nbL c) n=vH c (2*n):=by
 induction n with
 | zero=>rfl
 | succ n ih =>
  rw [show 2*(n+1)=2*n+1+1 by omega]
  simp only [vH,vS]
  rw [ih,yQ,dG,zZ,Int.add_mul,Int.mul_comm 4294967296,Int.mul_assoc,Int.mul_comm 4294967296]
  omega
theorem val_nbL (c:List Int):val (nbL c)=aY c:=by
 unfold val
 rw [iH,vS_nbL,dN (by omega)]
theorem nf_nbL {c:List Int} (h:AllH c) (ht:aI c=c.length):NF (nbL c):=by
 refine ⟨allW_nbL h,?_⟩
 unfold aI
 rw [iH]
 refine rJ _ _ _ (Nat.le_refl _) (fun i h1 h2=>by omega) (fun hp=>?_)
 have hc:0<c.length:=by omega
 have hne:=(gB c c.length).2 (by have:tl c c.length=c.length:=ht;omega)
 have e:tl c c.length=c.length:=ht
 rw [e] at hne
 rw [yQ]
 have a:=h.at (2*((c.length+1)/2-1))
 have b:=h.at (2*((c.length+1)/2-1)+1)
 have hpar:c.length%2=0∨c.length%2=1:=by omega
 rcases hpar with hk|hk
 ·have e2:2*((c.length+1)/2-1)+1=c.length-1:=by omega
  rw [e2] at b ⊢
  omega
 ·have e2:2*((c.length+1)/2-1)=c.length-1:=by omega
  rw [e2] at a ⊢
  omega
def kY (hs:List Int):List Int:=nbL (trimL hs)
theorem nf_numL {hs:List Int} (h:AllH hs):NF (kY hs)∧val (kY hs)=aY hs∧(kY hs).length≤hs.length:=by
 have ht:aI hs≤hs.length:=bD _ _
 refine ⟨nf_nbL h.trim (by rw [dU,aK]),?_,?_⟩
 ·unfold kY;rw [val_nbL,qQ]
 ·unfold kY;rw [iH,aK];omega
theorem qR (a:Option Addr) (n cap:Nat) (hs:List Int) (w:World) (hn:n=hs.length) (hl:n≤cap) (hm:n≤1000000000) (hr:Reads w a hs) (hh:AllH hs) :
 Calls Tryz.prog 100 #[.slice a n cap] w fun e w'=>∃ c cc,e = .returned (.slice c (kY hs).length cc)∧OwnV w' w.heap.size (.slice c (kY hs).length cc) (kY hs)∧Below w.heap.size w w':=by
 have ht:aI hs≤hs.length:=bD _ _
 subst hn
 go_enter Tryz.func100,Tryz.ntmps100
 go_wp2_with fail
 refine (iZ a _ cap hs _ rfl hl (by omega) hr).mono ?_
 rintro e w1 ⟨rfl,rfl⟩
 have HL:Hid ((trimL hs).length=aI hs):=aK hs
 have hr2:Reads w a (trimL hs):=hr.take _
 have hh2:AllH (trimL hs):=hh.trim
 have HD:Hid (kY hs=nbL (trimL hs)):=rfl
 clear hr hh
 generalize trimL hs=c at *
 generalize aI hs=t at *
 have HNB:Hid ((nbL c).length=(t+1)/2):=by show _=_;rw [iH,HL.out]
 go_wp2
 go_loopw [4,5] (fun v s wr=>∃ k:Nat,k≤(t+1)/2∧s = .int .i64 (2*(k:Int))∧OwnV wr w.heap.size v ((nbL c).take k)∧Below w.heap.size w wr) (fun _ s _=>t+2-(intOf s).toNat)
 case atStart=>exact ⟨0,Nat.zero_le _,rfl,OwnV.nil _ _,Below.refl _ _⟩
 case round =>
  obtain ⟨k,hk,rfl,hown,hbel⟩:=hrel
  by_cases hlt:2*k<t
  ·obtain ⟨b1,o1,rfl,hc1⟩:=hr2.at (by rw [HL.out];omega)
   have hl2:2*(k:Int)<(t:Int):=by omega
   have h1:=hc1 (2*k) (by rw [HL.out];exact hlt)
   have hb1:=World.block_lt_of_cell? _ _ h1
   have g1:wr.cell? ⟨b1,o1+2*k,none⟩=some (.int .u64 (lm c (2*k))):=by rw [hbel.cell (p:=⟨b1,o1+2*k,none⟩) (by simpa using hb1)];exact h1
   obtain ⟨x0,x1⟩:=hh2.at (2*k)
   obtain ⟨y0,y1⟩:=hh2.at (2*k+1)
   have HK:Hid (((nbL c).take k).length=k):=by show _=_;rw [List.length_take,HNB.out];omega
   have HT:Hid ((nbL c).take k++[lm c (2*k)+4294967296*lm c (2*k+1)]=(nbL c).take (k+1)):=by show _=_;rw [← yQ];exact fJ _ _ (by rw [HNB.out];omega)
   have hsz:=hbel.size
   have hrow:∀ q,u4.ownBlock=some q→w.heap.size≤q:=fun q hq=>(hown.lt q hq).1
   by_cases hlt2:2*k+1<t
   ·have hl3:2*(k:Int)+1<(t:Int):=by omega
    have h2:=hc1 (2*k+1) (by rw [HL.out];exact hlt2)
    have g2:wr.cell? ⟨b1,o1+(2*k+1),none⟩=some (.int .u64 (lm c (2*k+1))):=by rw [hbel.cell (p:=⟨b1,o1+(2*k+1),none⟩) (by simpa using hb1)];exact h2
    clear hc1 h1 h2 hh2
    generalize (nbL c).take k=F at *
    generalize lm c (2*k)=X at *
    generalize lm c (2*k+1)=Z at *
    go_wp2_with (at_builtin;refine bC 23 Tryz.underlying23 _ rfl _ _ rfl w.heap.size u4 F k HK rfl (hown.alloc _) wr.heap.size _ (X+4294967296*Z) rfl (cell_new1 rfl) (by omega) (by simp;omega) (wr.heap.size+1) (by simp) ?_)
    intro g cap1 w1 hown1 hgrow _ _
    have hbel1:Below w.heap.size w w1:=hbel.trans (((Below.refl _ _).alloc (by omega) _).trans (grown_below hgrow (by simp;omega) hrow))
    rw [HT.out] at hown1
    clear hgrow hown
    go_wp2
    go_roundw
    case rel=>exact ⟨k+1,by omega,by go_num,hown1,hbel1⟩
    case measure=>simp [intOf];omega
   ·have hl3:¬ 2*(k:Int)+1<(t:Int):=by omega
    have hz:lm c (2*k+1)=0:=fE (by rw [HL.out];omega)
    have HT2:Hid ((nbL c).take k++[lm c (2*k)]=(nbL c).take (k+1)):=by show _=_;rw [← HT.out,hz];simp
    clear hc1 h1 hh2 HT hz y0 y1
    generalize (nbL c).take k=F at *
    generalize lm c (2*k)=X at *
    go_wp2_with (at_builtin;refine bC 23 Tryz.underlying23 _ rfl _ _ rfl w.heap.size u4 F k HK rfl (hown.alloc _) wr.heap.size _ X rfl (cell_new1 rfl) (by omega) (by simp;omega) (wr.heap.size+1) (by simp) ?_)
    intro g cap1 w1 hown1 hgrow _ _
    have hbel1:Below w.heap.size w w1:=hbel.trans (((Below.refl _ _).alloc (by omega) _).trans (grown_below hgrow (by simp;omega) hrow))
    rw [HT2.out] at hown1
    clear hgrow hown
    go_wp2
    go_roundw
    case rel=>exact ⟨k+1,by omega,by go_num,hown1,hbel1⟩
    case measure=>simp [intOf];omega
  ·obtain rfl:k=(t+1)/2:=by omega
   rw [← HNB.out,List.take_length,← HD.out] at hown
   obtain ⟨c',cc,rfl⟩:=hown.slice
   go_wp2
   go_ret
   exact ⟨c',cc,rfl,hown,hbel⟩
theorem numL_hv {xs:List Int} (h:AllW xs):kY (hv xs)=trimL xs:=by
 obtain ⟨h1,h2,_⟩:=nf_numL (mJ h)
 exact rO h1 (NF.trimL h) (by rw [h2,pJ,aX])
theorem numL_trim (hs:List Int):kY (trimL hs)=kY hs:=by unfold kY;rw [vI]
theorem kK (a:Option Addr) (n cap:Nat) (xs:List Int) (w:World) (hn:n=xs.length) (hl:n≤cap) (hm:n≤400000000) (hr:Reads w a xs) (hx:AllW xs) :
 Calls Tryz.prog 68 #[.slice a n cap] w fun e w'=>∃ c cc,e = .returned (.slice c (aI xs) cc)∧OwnV w' w.heap.size (.slice c (aI xs) cc) (trimL xs)∧Below w.heap.size w w':=by
 subst hn
 have ht:aI (hv xs)≤(hv xs).length:=bD _ _
 have hlh:=fU xs
 have hb:aI (hv xs)≤1000000000:=by omega
 have HE:Hid (kY (trimL (hv xs))=trimL xs):=by show _=_;rw [numL_trim];exact numL_hv hx
 have HE2:Hid ((kY (trimL (hv xs))).length=aI xs):=by show _=_;rw [HE.out,aK]
 clear hlh
 go_enter Tryz.func68,Tryz.ntmps68
 go_wp2_with fail
 refine (jM a _ cap xs _ rfl hl (by omega) hr hx).mono ?_
 rintro e w1 ⟨c,cc,rfl,hc,hrc,hbel1⟩
 go_wp2_with fail
 refine (qR c (aI (hv xs)) cc (trimL (hv xs)) _ (aK _).symm hc hb (hrc.take _) (mJ hx).trim).mono ?_
 rintro e w2 ⟨d,cd,rfl,hown,hbel2⟩
 rw [HE2.out] at hown
 rw [HE.out] at hown
 rw [HE2.out]
 have hown2:=hown.mono hbel1.size
 clear HE HE2
 go_wp2
 go_ret
 exact ⟨d,cd,rfl,hown2,aF hbel1 hbel2⟩
theorem rof_any (v:Int) (w:World) (h0:0≤v) (h1:v<18446744073709551616) :
 Calls Tryz.prog 101 #[.int .u64 v] w fun e w'=>∃ c cc,e = .returned (.slice c (aI [v]) cc)∧OwnV w' w.heap.size (.slice c (aI [v]) cc) (trimL [v])∧Below w.heap.size w w':=by
 go_enter Tryz.func101,Tryz.ntmps101
 go_wp2_with fail
 have k1:Blk (w.alloc (Obj.cells #[Value.int IntKind.u64 v] 63)) w.heap.size [v]:=oO [v]
 refine (kK _ 1 1 [v] _ rfl (Nat.le_refl _) (by omega) k1.reads' (fun x hx=>by simp at hx;subst hx;exact ⟨h0,h1⟩)).mono ?_
 rintro e w2 ⟨d,cd,rfl,hown,hbel2⟩
 have hown2:=hown.mono (B':=w.heap.size) (by simp)
 have hb:=aF ((Below.refl w.heap.size w).alloc (Nat.le_refl _) (Obj.cells #[Value.int IntKind.u64 v] 63)) hbel2
 go_wp2
 go_ret
 exact ⟨d,cd,rfl,hown2,hb⟩
def nG (xs:List Int):Int:=if aI xs=1 then lm xs 0 else 0
def gW (xs:List Int):Bool:=decide (aI xs≤1)
theorem fB (a:Option Addr) (n cap:Nat) (xs:List Int) (w:World) (hn:n=xs.length) (hl:n≤cap) (hm:n≤400000000) (hr:Reads w a xs) (hx:AllW xs) :
 Calls Tryz.prog 102 #[.slice a n cap] w fun e w'=>e = .returned (.tuple #[.int .u64 (nG xs),.bool (gW xs)])∧Below w.heap.size w w':=by
 subst hn
 go_enter Tryz.func102,Tryz.ntmps102
 go_wp2_with fail
 refine (kK a _ cap xs _ rfl hl hm hr hx).mono ?_
 rintro e w1 ⟨c,cc,rfl,hown,hbel⟩
 obtain ⟨q1,q2,hr2⟩:=hown.reads
 have HL:=aK xs
 have HLL:Hid ((trimL xs).length=aI xs):=HL
 have HU:Hid (nG xs=if aI xs=1 then lm xs 0 else 0):=rfl
 have HF:Hid (gW xs=decide (aI xs≤1)):=rfl
 have H0:Hid (aI xs=1→lm (trimL xs) 0=lm xs 0):=fun h=>pX (by omega)
 clear HL q1
 generalize aI xs=m at *
 by_cases h0:m=0
 ·subst h0
  go_wp2
  go_ret2
  exact ⟨by rw [HU.out,HF.out];rfl,hbel⟩
 ·by_cases h1:m=1
  ·subst h1
   obtain ⟨b1,o1,rfl,hc1⟩:=hr2.at (by rw [HLL.out];omega)
   have cc0:=hc1 0 (by rw [HLL.out];omega)
   rw [Nat.add_zero,H0.out rfl] at cc0
   clear hc1
   go_wp2
   go_ret2
   exact ⟨by rw [HU.out,HF.out];rfl,hbel⟩
  ·have t0:((m:Int) == 0)=false:=by simp;omega
   have t1:(1:Int)<(m:Int):=by omega
   go_wp2
   go_ret2
   refine ⟨?_,hbel⟩
   rw [HU.out,HF.out,if_neg h1]
   have:decide (m≤1)=false:=by simp;omega
   rw [this];rfl
theorem qU (a b:Option Addr) (na nb ca cb:Nat) (xs ys:List Int) (w:World) (hna:na=xs.length) (hnb:nb=ys.length) (hma:na≤1099511627776) (hra:Reads w a xs) (hrb:Reads w b ys) (hxy:xs=ys) :
 Calls Tryz.prog 45 #[.slice a na ca,.slice b nb cb] w fun e w'=>e = .returned (.bool true)∧∃ m,w'=w.drewN m:=by
 subst hna hnb hxy
 have t1:((xs.length:Int) != (xs.length:Int))=false:=by simp
 go_enter Tryz.func45,Tryz.ntmps45
 go_wp2
 go_loopw [5] (fun i wr=>∃ k m:Nat,k≤xs.length∧i = .int .i64 k∧wr=w.drewN m) (fun i _=>xs.length-(intOf i).toNat)
 case atStart=>exact ⟨0,0,Nat.zero_le _,rfl,rfl⟩
 case round =>
  obtain ⟨k,m,hk,rfl,rfl⟩:=hrel
  by_cases hlt:k<xs.length
  ·obtain ⟨b1,o1,rfl,hc1⟩:=hra.at (by omega)
   obtain ⟨b2,o2,rfl,hc2⟩:=hrb.at (by omega)
   have h1:=hc1 k hlt
   have h2:=hc2 k hlt
   have hkl:(k:Int)<(xs.length:Int):=by omega
   have hb:(lm xs k != lm xs k)=false:=by simp
   clear hc1 hc2
   go_wp2
   go_quiet (fail)
   go_wp2
   go_roundw
   case rel=>exact ⟨k+1,m+nq,by omega,by go_num,rfl⟩
   case measure=>simp [intOf];omega
  ·go_wp2
   go_ret
   exact ⟨rfl,m,rfl⟩
theorem sameG {a b:Option Addr} {na nb ca cb B B':Nat} {x y:Int} {S R:Nat} (w:World) (ha:Got w B (.slice a na ca) x S) (hb:Got w B' (.slice b nb cb) y R) (hxy:x=y) (hS:S≤1000000000000) :
 Calls Tryz.prog 45 #[.slice a na ca,.slice b nb cb] w fun e w'=>e = .returned (.bool true)∧Below w.heap.size w w':=by
 obtain ⟨xs,h1,h2,h3⟩:=got_eq ha hb hxy
 obtain ⟨r1,r2,r3⟩:=h1.reads
 obtain ⟨s1,s2,s3⟩:=h2.reads
 refine (qU a b na nb ca cb xs xs w r1 s1 (by omega) r3 s3 rfl).mono ?_
 rintro e w' ⟨rfl,m,rfl⟩
 exact ⟨rfl,dB (Below.refl _ _) m⟩
def HNum (w:World) (a:Option Addr) (n cap:Nat) (x:Int) (S:Nat):Prop:=∃ hs,n=hs.length∧n≤cap∧Reads w a hs∧AllH hs∧aY hs=x∧n≤S∧aI hs=hs.length
theorem HNum.below {w w':World} {a:Option Addr} {n cap:Nat} {x:Int} {S:Nat} (h:HNum w a n cap x S) (hb:Below w.heap.size w w'):HNum w' a n cap x S:=by
 obtain ⟨xs,h1,h2,h3,h4⟩:=h
 exact ⟨xs,h1,h2,h3.below hb,h4⟩
theorem HNum.of_trim {w:World} {a:Option Addr} {cap:Nat} {hs:List Int} {S:Nat} (hr:Reads w a hs) (hl:aI hs≤cap) (hh:AllH hs) (hS:aI hs≤S):HNum w a (aI hs) cap (aY hs) S :=
 ⟨trimL hs,(aK hs).symm,hl,hr.take _,hh.trim,qQ hs,hS,by rw [dU,aK]⟩
theorem iO {a:Option Addr} {na ca:Nat} {x:Int} {S:Nat} (w:World) (ha:Num w a na ca x S) (hS:S≤400000000000) :
 Calls Tryz.prog 99 #[.slice a na ca] w fun e w'=>∃ c n cc,e = .returned (.slice c n cc)∧HNum w' c n cc x (2*S)∧Below w.heap.size w w':=by
 obtain ⟨xs,a1,a2,a3,a4,a5,a6⟩:=ha
 refine (jM a na ca xs w a1 a2 (by omega) a3 a4).mono ?_
 rintro e w' ⟨c,cc,rfl,h1,h2,h3⟩
 have hl:aI (hv xs)≤(hv xs).length:=bD _ _
 rw [fU] at hl
 refine ⟨c,_,cc,rfl,?_,h3⟩
 rw [← a5,← pJ]
 exact HNum.of_trim h2 h1 (mJ a4) (by omega)
theorem pK {a:Option Addr} {n cap:Nat} (hs:List Int) (w:World) (hn:n=hs.length) (hl:n≤cap) (hm:n≤1000000000) (hr:Reads w a hs) (hh:AllH hs) (S:Nat) (hS:n≤S) :
 Calls Tryz.prog 100 #[.slice a n cap] w fun e w'=>∃ c nc cc,e = .returned (.slice c nc cc)∧Got w' w.heap.size (.slice c nc cc) (aY hs) S∧Below w.heap.size w w':=by
 refine (qR a n cap hs w hn hl hm hr hh).mono ?_
 rintro e w' ⟨c,cc,rfl,h1,h2⟩
 obtain ⟨f1,f2,f3⟩:=nf_numL hh
 exact ⟨c,_,cc,rfl,⟨_,h1,f1,f2,by omega⟩,h2⟩
theorem numberV {a:Option Addr} {n cap:Nat} {x:Int} {S:Nat} (w:World) (h:HNum w a n cap x S) (hm:S≤1000000000) :
 Calls Tryz.prog 100 #[.slice a n cap] w fun e w'=>∃ c nc cc,e = .returned (.slice c nc cc)∧Got w' w.heap.size (.slice c nc cc) x S∧Below w.heap.size w w':=by
 obtain ⟨hs,h1,h2,h3,h4,h5,h6,h7⟩:=h
 subst h5
 exact pK hs w h1 h2 (by omega) h3 h4 S h6
theorem iI (a:Option Addr) (n cap:Nat) (hs:List Int) (i:Nat) (w:World) (hn:n=hs.length) (hm:n≤1099511627776) (hr:Reads w a hs) :
 Calls Tryz.prog 114 #[.slice a n cap,.int .i64 i] w fun e w'=>e = .returned (.int .u64 (lm hs i))∧w=w':=by
 subst hn
 by_cases hi:i<hs.length
 ·obtain ⟨b1,o1,rfl,hc1⟩:=hr.at (by omega)
  have h1:=hc1 i hi
  have hil:(i:Int)<(hs.length:Int):=by omega
  clear hc1
  go_enter Tryz.func114,Tryz.ntmps114
  go_wp2
  go_ret
  exact ⟨rfl,rfl⟩
 ·have hil:¬ (i:Int)<(hs.length:Int):=by omega
  rw [fE (by omega)]
  go_enter Tryz.func114,Tryz.ntmps114
  go_wp2
  go_ret
  exact ⟨rfl,rfl⟩
theorem uP {F:List Int} {k:Nat} (d:Int) (h:F.length=k):vH (F++[d]) (k+1)=vH F k+d*pwH k:=by
 subst h
 show vH (F++[d]) F.length+lm (F++[d]) F.length*pwH F.length=_
 rw [eX (Nat.le_refl _),Nat.sub_self,jB (us:=F++[d]) (vs:=F) (n:=F.length) (fun i hi=>fF hi)]
 rfl
theorem jC {F:List Int} {d:Int} (h:AllH F) (h0:0≤d) (h1:d<4294967296):AllH (F++[d]):=h.append (fun x hx=>by simp at hx;subst hx;exact ⟨h0,h1⟩)
theorem rnormR {a:Option Addr} {na ca:Nat} {x:Int} {S:Nat} (w:World) (ha:Num w a na ca x S) (hS:S≤100000000) :
 Calls Tryz.prog 68 #[.slice a na ca] w fun e w'=>∃ c n cc,e = .returned (.slice c n cc)∧Got w' w.heap.size (.slice c n cc) x S∧Below w.heap.size w w':=by
 obtain ⟨xs,h1,h2,h3,h4,h5,h6⟩:=ha
 refine (kK a na ca xs w h1 h2 (by omega) h3 h4).mono ?_
 rintro e w' ⟨c,cc,rfl,ho,hb⟩
 have hl:aI xs≤xs.length:=bD _ _
 exact ⟨c,_,cc,rfl,⟨trimL xs,ho,NF.trimL h4,by rw [aX];exact h5,by rw [aK];omega⟩,hb⟩
theorem uS {a:Option Addr} {na ca:Nat} {m:Int} {S:Nat} (p:Bool) (w:World) (ha:Num w a na ca m S) (hS:S≤90000000) :
 Calls Tryz.prog 69 #[.agg #[.bool p,.slice a na ca]] w fun e w'=>∃ f c n d,e = .returned (.agg #[.bool f,.slice c n d])∧GI w' w.heap.size (.agg #[.bool f,.slice c n d]) (ws p m) (S)∧Below w.heap.size w w':=by
 obtain ⟨P0,R0,hb0,hsz⟩:=xO w (.bool p) (.slice a na ca) (.bool false) (.slice none 0 0) 25
 replace ha:=ha.below hb0
 go_enter Tryz.func69,Tryz.ntmps69
 go_wp2_with fail
 generalize (w.alloc (.cells #[.bool p,.slice a na ca] 25)).alloc (.cells #[.bool false,.slice none 0 0] 25)=W0 at *
 obtain ⟨p00,p01,p02,p03⟩:=id P0
 refine (rnormR _ ha (by omega)).mono ?_
 rintro e w2 ⟨c1,n1,d1,rfl,G,hb1⟩
 have R1:=R0.below hb1
 have hw2:=aF hb0 hb1
 replace P0:=P0.below hb1
 clear p00 p01 p02 p03
 obtain ⟨p00,p01,p02,p03⟩:=id P0
 obtain ⟨r0,r1,r2,r3⟩:=id R1
 cases p with
 | false =>
  have GF:GI w2 W0.heap.size (.agg #[.bool false,.slice c1 n1 d1]) (ws false m) S:=G.gi false
  obtain ⟨V,O⟩:=R1.set (.bool false) (.slice c1 n1 d1)
  clear P0 R0 ha hb0 hb1 G
  go_wp2
  refine bodyPost_ret (v:=.agg #[.bool false,.slice c1 n1 d1]) (by simp [results,Tryz.results69,go_sem,V.c0,V.c1]) rfl ⟨_,_,_,_,rfl,((GF.off O (by omega)).mono (by omega)),hw2.trans (O.below (by omega))⟩
 | true =>
  have GF:GI w2 W0.heap.size (.agg #[.bool (decide (0<n1)),.slice c1 n1 d1]) (ws true m) S:=G.gi true
  obtain ⟨V,O⟩:=R1.set (.bool (decide (0<n1))) (.slice c1 n1 d1)
  clear P0 R0 ha hb0 hb1 G
  go_wp2
  refine bodyPost_ret (v:=.agg #[.bool (decide (0<n1)),.slice c1 n1 d1]) (by simp [results,Tryz.results69,go_sem,V.c0,V.c1]) rfl ⟨_,_,_,_,rfl,((GF.off O (by omega)).mono (by omega)),hw2.trans (O.below (by omega))⟩
theorem kZ {a:Option Addr} {n c:Nat} {m:Int} {S:Nat} (b:Bool) (w:World) (h:Num w a n c m S) (hS:S≤90000000) :
 Calls Tryz.prog 89 #[.bool b,.slice a n c] w fun e w'=>∃ f c n d,e = .returned (.agg #[.bool f,.slice c n d])∧GI w' w.heap.size (.agg #[.bool f,.slice c n d]) (ws b m) (S)∧Below w.heap.size w w':=by
 obtain ⟨R0,hb0,hsz⟩:=box1 w (.bool false) (.slice none 0 0) 25
 replace h:=h.below hb0
 go_enter Tryz.func89,Tryz.ntmps89
 go_wp2_with fail
 generalize w.alloc (.cells #[.bool false,.slice none 0 0] 25)=W0 at *
 refine (uS b _ h hS).mono ?_
 rintro e w2 ⟨f1,c1,n1,d1,rfl,GF,hb1⟩
 have R1:=R0.below hb1
 have hw2:=aF hb0 hb1
 obtain ⟨r0,r1,r2,r3⟩:=id R1
 obtain ⟨V,O⟩:=R1.set (.bool f1) (.slice c1 n1 d1)
 clear R0 h hb0 hb1
 go_wp2
 refine bodyPost_ret (v:=.agg #[.bool f1,.slice c1 n1 d1]) (by simp [results,Tryz.results89,go_sem,V.c0,V.c1]) rfl ⟨_,_,_,_,rfl,((GF.off O (by omega)).mono (by omega)),hw2.trans (O.below (by omega))⟩
theorem sD {w:World} {z:Int}:Num (w.alloc (.cells #[.int .u64 z] 63)) (some ⟨w.heap.size,0,none⟩) 1 1 z 1↔(0≤z∧z<18446744073709551616):=by
 constructor
 ·rintro ⟨xs,h1,h2,h3,h4,h5,h6⟩
  have a:=fM h4
  have b:=fO h4
  rw [h5] at a b
  rw [← h1] at b
  have e:pw 1=18446744073709551616:=by simp [pw]
  omega
 ·rintro ⟨h0,h1⟩
  refine ⟨[z],rfl,Nat.le_refl _,.inr ⟨_,_,rfl,fun i hi=>?_⟩,fun x hx=>by simp at hx;subst hx;exact ⟨h0,h1⟩,by simp [Go.Proofs.YtdcocflnafcikaaGreatDoor.val,vS,lm,pw],Nat.le_refl _⟩
  obtain rfl:i=0:=by simp at hi;omega
  simp [lm]
theorem rofI (v:Int) (w:World) (h0:-9223372036854775808≤v) (h1:v<9223372036854775808) :
 Calls Tryz.prog 58 #[.int .i64 v] w fun e w'=>∃ f c n d,e = .returned (.agg #[.bool f,.slice c n d])∧GI w' w.heap.size (.agg #[.bool f,.slice c n d]) (v) (1)∧Below w.heap.size w w':=by
 obtain ⟨R0,hb0,hsz⟩:=box1 w (.bool false) (.slice none 0 0) 25
 by_cases hv:v<0
 ·go_enter Tryz.func58,Tryz.ntmps58
  have K:Num _ _ _ _ _ _:=(sD (w:=w.alloc (.cells #[.bool false,.slice none 0 0] 25)) (z:=-(v+1)+1)).2 ⟨by omega,by omega⟩
  have hx:Below (w.alloc (.cells #[.bool false,.slice none 0 0] 25)).heap.size (w.alloc (.cells #[.bool false,.slice none 0 0] 25)) ((w.alloc (.cells #[.bool false,.slice none 0 0] 25)).alloc (.cells #[.int .u64 (-(v+1)+1)] 63)):=(Below.refl _ _).alloc (Nat.le_refl _) _
  rw [hsz] at K
  replace R0:=R0.below hx
  go_wp2_with fail
  generalize w.alloc (.cells #[.bool false,.slice none 0 0] 25)=W0 at *
  generalize W0.alloc (.cells #[.int .u64 (-(v+1)+1)] 63)=W1 at *
  refine (kZ true _ K (by omega)).mono ?_
  rintro e w2 ⟨f1,c1,n1,d1,rfl,G,hb2⟩
  have R1:=R0.below hb2
  have hw2:=aF (aF hb0 hx) hb2
  have hs1:=hx.size
  have GF:GI w2 W1.heap.size (.agg #[.bool f1,.slice c1 n1 d1]) v 1:=G.val (by simp [ws];try omega)
  obtain ⟨r0,r1,r2,r3⟩:=id R1
  obtain ⟨V,O⟩:=R1.set (.bool f1) (.slice c1 n1 d1)
  clear R0 hb0 hb2 hx K G
  go_wp2
  refine bodyPost_ret (v:=.agg #[.bool f1,.slice c1 n1 d1]) (by simp [results,Tryz.results58,go_sem,V.c0,V.c1]) rfl ⟨_,_,_,_,rfl,((GF.off O (by omega)).mono (by omega)),hw2.trans (O.below (by omega))⟩
 ·go_enter Tryz.func58,Tryz.ntmps58
  have K:Num _ _ _ _ _ _:=(sD (w:=w.alloc (.cells #[.bool false,.slice none 0 0] 25)) (z:=v)).2 ⟨by omega,by omega⟩
  have hx:Below (w.alloc (.cells #[.bool false,.slice none 0 0] 25)).heap.size (w.alloc (.cells #[.bool false,.slice none 0 0] 25)) ((w.alloc (.cells #[.bool false,.slice none 0 0] 25)).alloc (.cells #[.int .u64 (v)] 63)):=(Below.refl _ _).alloc (Nat.le_refl _) _
  rw [hsz] at K
  replace R0:=R0.below hx
  go_wp2_with fail
  generalize w.alloc (.cells #[.bool false,.slice none 0 0] 25)=W0 at *
  generalize W0.alloc (.cells #[.int .u64 (v)] 63)=W1 at *
  refine (kZ false _ K (by omega)).mono ?_
  rintro e w2 ⟨f1,c1,n1,d1,rfl,G,hb2⟩
  have R1:=R0.below hb2
  have hw2:=aF (aF hb0 hx) hb2
  have hs1:=hx.size
  have GF:GI w2 W1.heap.size (.agg #[.bool f1,.slice c1 n1 d1]) v 1:=G.val (by simp [ws];try omega)
  obtain ⟨r0,r1,r2,r3⟩:=id R1
  obtain ⟨V,O⟩:=R1.set (.bool f1) (.slice c1 n1 d1)
  clear R0 hb0 hb2 hx K G
  go_wp2
  refine bodyPost_ret (v:=.agg #[.bool f1,.slice c1 n1 d1]) (by simp [results,Tryz.results58,go_sem,V.c0,V.c1]) rfl ⟨_,_,_,_,rfl,((GF.off O (by omega)).mono (by omega)),hw2.trans (O.below (by omega))⟩
end Go.Proofs.YtdcocflnafcikaaGreatDoor
