import Derived.Test.YtceigfafmalfgaaGreatDoorNumAll
import Derived.Test.YtceigfafmalfgaaGreatDoorWhEAll
namespace Go.Proofs.YtceigfafmalfgaaGreatDoor
open Go.RowKit
theorem grown_cell {w w':World} {row:Option Nat} (hg:w.grownBy w' row) {p:Addr} (hp:p.block<w.heap.size) (hr:some p.block≠row):w'.cell? p=w.cell? p:=World.cell?_of_block (w:=w) (hg.block p.block hp hr)
set_option maxHeartbeats 400000 in
theorem rcut_none (a:Option Addr) (cap:Nat) (w:World):Calls Tryz.prog 112 #[.slice a 0 cap] w fun e w'=>e = .returned (.slice a 0 cap)∧w=w':=by
 go_enter Tryz.func112,Tryz.ntmps112
 go_wp2
 go_loop [3] (fun i=>i = .int .i64 0) (fun _=>0)
 case atStart=>rfl
 case round =>
  subst hrel
  go_wp2
  go_ret
  exact ⟨by simp,rfl⟩
set_option maxHeartbeats 400000 in
theorem rcut_some (b o cap:Nat) (xs:List Int) (w:World) (hl:xs.length≤cap) (hm:xs.length≤1099511627776) (hc:∀ i,i<xs.length→w.cell? ⟨b,o+i,none⟩=some (.int .u64 (lm xs i))) :
  Calls Tryz.prog 112 #[.slice (some ⟨b,o,none⟩) xs.length cap] w fun e w'=>e = .returned (.slice (some ⟨b,o,none⟩) (tlen xs) cap)∧w=w':=by
 go_enter Tryz.func112,Tryz.ntmps112
 go_wp2
 go_loop [3] (fun i=>∃ k:Nat,k≤xs.length∧i = .int .i64 k∧tl xs k=tlen xs) (fun i=>(intOf i).toNat)
 case atStart=>exact ⟨_,Nat.le_refl _,rfl,rfl⟩
 case round =>
  obtain ⟨k,hk,rfl,ht⟩:=hrel
  have HT:Hid (tl xs k=tlen xs):=ht
  clear ht
  by_cases hk0:k=0
  ·subst hk0
   go_wp2
   go_ret
   exact ⟨ret_slice HT.out,rfl⟩
  ·obtain ⟨j,rfl⟩:∃ j,k=j+1:=⟨k-1,by omega⟩
   have hcj:=hc j (by omega)
   by_cases hz:lm xs j=0
   ·have HT2:Hid (tl xs j=tlen xs):=by have:=HT.out;unfold tl at this;rw [if_pos hz] at this;exact this
    rw [hz] at hcj
    clear hz
    go_wp2
    go_round
    case rel=>exact ⟨j,by omega,by go_num,HT2.out⟩
    case measure=>simp [intOf]
   ·have HT2:Hid (j+1=tlen xs):=by have:=HT.out;unfold tl at this;rw [if_neg hz] at this;exact this
    have hzb:(lm xs j == 0)=false:=by simpa using hz
    clear hz
    go_wp2
    go_ret
    exact ⟨ret_slice HT2.out,rfl⟩
theorem rcut_any (a:Option Addr) (n cap:Nat) (xs:List Int) (w:World) (hn:n=xs.length) (hl:n≤cap) (hm:n≤1099511627776) (hr:Reads w a xs) :
  Calls Tryz.prog 112 #[.slice a n cap] w fun e w'=>e = .returned (.slice a (tlen xs) cap)∧w=w':=by
 subst hn
 rcases hr with rfl|⟨b,o,rfl,hc⟩
 ·exact rcut_none a cap w
 ·exact rcut_some b o cap xs w hl hm hc
def rcmpL (xs ys:List Int):Int:=if xs.length=ys.length then cmpTo xs ys xs.length else ordI (decide (xs.length<ys.length))
set_option maxHeartbeats 1000000 in
theorem rcmp_any (a b:Option Addr) (na nb ca cb:Nat) (xs ys:List Int) (w:World) (hna:na=xs.length) (hnb:nb=ys.length)
  (hma:na≤1099511627776) (hmb:nb≤1099511627776) (hra:Reads w a xs) (hrb:Reads w b ys) :
  Calls Tryz.prog 147 #[.slice a na ca,.slice b nb cb] w fun e w'=>e = .returned (.int .i64 (rcmpL xs ys))∧∃ n,w'=w.drewN n:=by
 unfold rcmpL
 subst hna hnb
 by_cases hne:xs.length=ys.length
 ·have HN:Hid (xs.length=ys.length):=hne
  have hb:((xs.length:Int) != (ys.length:Int))=false:=by simp [hne]
  have HG:Hid ((if xs.length=ys.length then cmpTo xs ys xs.length else ordI (decide (xs.length<ys.length)))=cmpTo xs ys ys.length):=by show _=_;rw [if_pos hne,hne]
  rw [HG.out]
  go_enter Tryz.func147,Tryz.ntmps147
  go_wp2_with fail
  go_loopw [5] (fun i wr=>∃ k m:Nat,k≤ys.length∧i = .int .i64 ((k:Int)-1)∧cmpTo xs ys k=cmpTo xs ys ys.length∧wr=w.drewN m) (fun i _=>(intOf i+1).toNat)
  case atStart=>exact ⟨_,0,Nat.le_refl _,rfl,rfl,rfl⟩
  case round =>
   obtain ⟨k,m,hk,rfl,ht,rfl⟩:=hrel
   have HT:Hid (cmpTo xs ys k=cmpTo xs ys ys.length):=ht
   have hxy:xs.length=ys.length:=hne
   clear ht hb hne
   by_cases hk0:k=0
   ·subst hk0
    clear hxy
    go_wp2
    go_ret
    exact ⟨ret_int HT.out,m,rfl⟩
   ·obtain ⟨j,rfl⟩:∃ j,k=j+1:=⟨k-1,by omega⟩
    obtain ⟨b1,o1,rfl,hc1⟩:=hra.at (by omega)
    obtain ⟨b2,o2,rfl,hc2⟩:=hrb.at (by omega)
    have h1:=hc1 j (by omega)
    have h2:=hc2 j (by omega)
    have hj:(j:Int)<(ys.length:Int):=by omega
    have hjx:(j:Int)<(xs.length:Int):=by omega
    clear hc1 hc2 hxy
    by_cases hz:lm xs j=lm ys j
    ·have HT2:Hid (cmpTo xs ys j=cmpTo xs ys ys.length):=(cmpTo_eq hz).symm.trans HT.out
     rw [hz] at h1
     clear hz
     have t1:decide (lm ys j<lm ys j)=false:=by simp
     go_wp2
     go_quiet (fail)
     obtain ⟨W2,hW2⟩:∃ W2,W2=(w.drewN m).drewN nq:=⟨_,rfl⟩
     have g1:W2.cell? ⟨b1,o1+j,none⟩=some (.int .u64 (lm ys j)):=by rw [hW2];simpa using h1
     have g2:W2.cell? ⟨b2,o2+j,none⟩=some (.int .u64 (lm ys j)):=by rw [hW2];simpa using h2
     rw [← hW2]
     have HW2:Hid (∃ q,W2=w.drewN q):=⟨m+nq,by rw [hW2];simp⟩
     clear hW2 h1 h2
     go_wp2
     go_quiet (fail)
     obtain ⟨q,hq⟩:=HW2.out
     go_wp2
     go_roundw
     case rel=>exact ⟨j,q+nq,by omega,by go_num,HT2.out,by first|rfl|(rw [hq];simp)⟩
     case measure=>simp [intOf]
    ·by_cases hlt:lm xs j<lm ys j
     ·have t1:decide (lm xs j<lm ys j)=true:=by simpa using hlt
      have HT2:Hid (-1=cmpTo xs ys ys.length):=by show _=_;rw [← HT.out,cmpTo_ne hz,t1];rfl
      clear hz
      go_wp2
      go_quiet (fail)
      go_wp2
      go_ret
      exact ⟨ret_int HT2.out,m+nq,by simp⟩
     ·have t1:decide (lm xs j<lm ys j)=false:=by simpa using hlt
      have t2:decide (lm ys j<lm xs j)=true:=by simp;omega
      have HT2:Hid (1=cmpTo xs ys ys.length):=by show _=_;rw [← HT.out,cmpTo_ne hz,t1];rfl
      clear hz
      go_wp2
      go_quiet (fail)
      obtain ⟨W2,hW2⟩:∃ W2,W2=(w.drewN m).drewN nq:=⟨_,rfl⟩
      have g1:W2.cell? ⟨b1,o1+j,none⟩=some (.int .u64 (lm xs j)):=by rw [hW2];simpa using h1
      have g2:W2.cell? ⟨b2,o2+j,none⟩=some (.int .u64 (lm ys j)):=by rw [hW2];simpa using h2
      rw [← hW2]
      have HW2:Hid (∃ q,W2=w.drewN q):=⟨m+nq,by rw [hW2];simp⟩
      clear hW2 h1 h2
      go_wp2
      go_quiet (fail)
      obtain ⟨q,hq⟩:=HW2.out
      go_wp2
      go_ret
      exact ⟨ret_int HT2.out,q+nq,by first|rfl|(rw [hq];simp)⟩
 ·have hb:((xs.length:Int) != (ys.length:Int))=true:=by simp;omega
  rw [if_neg hne]
  clear hne
  by_cases hlt:xs.length<ys.length
  all_goals
   go_enter Tryz.func147,Tryz.ntmps147
   go_wp2
   go_ret
   exact ⟨ret_int (by simp [ordI,hlt]),0,rfl⟩
def hv:List Int→List Int
 | []=>[]
 | x::xs=>x%4294967296::x/4294967296::hv xs
theorem length_hv (xs:List Int):(hv xs).length=2*xs.length:=by
 induction xs with
 | nil=>rfl
 | cons x xs ih=>simp [hv,ih];omega
theorem hv_append (xs ys:List Int):hv (xs++ys)=hv xs++hv ys:=by
 induction xs with
 | nil=>rfl
 | cons x xs ih=>simp [hv,ih]
theorem hv_snoc (xs:List Int) (k:Nat) (h:k<xs.length):hv (xs.take k)++[lm xs k%4294967296,lm xs k/4294967296]=hv (xs.take (k+1)):=by
 rw [← take_snoc_lm xs k h,hv_append];rfl
theorem keep_far {w w1:World} {blk:Obj} {row:Option Nat} {p:Addr} {v:Value} {B:Nat} (hg:((w.alloc blk).drew).grownBy w1 row) (hc:w.cell? p=some v) (hr:∀ q,row=some q→B≤q) (hp:p.block<B):w1.cell? p=some v:=by
 have hlt:=World.block_lt_of_cell? _ _ hc
 rw [grown_cell hg (p:=p) (by simp;omega) (fun e=>by have:=hr _ e.symm;omega)]
 have:(w.alloc blk).drew.cell? p=w.cell? p:=World.cell?_of_block (w:=w) (Below.heap_alloc _ _ _ hlt)
 rw [this];exact hc
set_option maxHeartbeats 1000000 in
theorem halves_any (a:Option Addr) (n cap:Nat) (xs:List Int) (w:World) (hn:n=xs.length) (hl:n≤cap) (hm:n≤400000000000) (hr:Reads w a xs) (hx:AllW xs) :
  Calls Tryz.prog 79 #[.slice a n cap] w fun e w'=>∃ c cc,e = .returned (.slice c (tlen (hv xs)) cc)∧tlen (hv xs)≤cc∧Reads w' c (hv xs)∧Below w.heap.size w w':=by
 subst hn
 go_enter Tryz.func79,Tryz.ntmps79
 go_wp2
 go_loopw [3,4] (fun v i wr=>∃ k:Nat,k≤xs.length∧i = .int .i64 k∧OwnV wr w.heap.size v (hv (xs.take k))∧Below w.heap.size w wr) (fun _ i _=>xs.length-(intOf i).toNat)
 case atStart=>exact ⟨0,Nat.zero_le _,rfl,OwnV.nil _ _,Below.refl _ _⟩
 case round =>
  obtain ⟨k,hk,rfl,hown,hbel⟩:=hrel
  by_cases hlt:k<xs.length
  ·obtain ⟨b1,o1,rfl,hc1⟩:=hr.at (by omega)
   have h1:=hc1 k hlt
   have h2:wr.cell? ⟨b1,o1+k,none⟩=some (.int .u64 (lm xs k)):=by
    have:=World.block_lt_of_cell? _ _ h1
    rw [hbel.cell (p:=⟨b1,o1+k,none⟩) (by simpa using this)];exact h1
   have HT:Hid (hv (xs.take k)++[lm xs k%4294967296,lm xs k/4294967296]=hv (xs.take (k+1))):=hv_snoc xs k hlt
   have HK:Hid ((hv (xs.take k)).length=2*k):=by show _=_;rw [length_hv,List.length_take];omega
   obtain ⟨x0,x1⟩:=hx.at k
   have hkl:(k:Int)<(xs.length:Int):=by omega
   have hb1:b1<w.heap.size:=by simpa using World.block_lt_of_cell? _ _ h1
   clear hc1 h1 hr hx
   generalize hv (xs.take k)=F at *
   generalize lm xs k=X at *
   have T1:X.tmod 4294967296=X%4294967296:=Int.tmod_eq_emod_of_nonneg x0
   have T2:IntKind.u64.wrap (X.tdiv 4294967296)=X/4294967296:=by rw [Int.tdiv_eq_ediv_of_nonneg x0,IntKind.wrap_u64];omega
   have hsz:=hbel.size
   have hrow:∀ q,u3.ownBlock=some q→w.heap.size≤q:=fun q hq=>(hown.lt q hq).1
   go_wp2
   go_region_held3 (fun w'=>w'.cell? ⟨b1,o1+k,none⟩=some (.int .u64 X)) (first|(go_keep;done)|exact keep_far hgrow h2 hrow hb1)
    ((refine step_append2 22 Tryz.underlying22 _ (by rfl) _ _ (by rfl) w.heap.size u3 F (2*k) HK (by rfl) (by exact (hown.alloc _).drew) wr.heap.size _ (X%4294967296) (X/4294967296) (by rfl) (by simp) (by simp) (by omega) (by simp;omega) (wr.heap.size+1) (by simp) ?_;intro g cap1 w1 hown1 hgrow hat hlt1))
   have hbel1:Below w.heap.size w w1:=hbel.trans (((Below.refl _ _).alloc (by omega) _).drew.trans (grown_below hgrow (by simp;omega) hrow))
   rw [HT.out] at hown1
   clear hgrow hat hown
   go_wp2
   go_roundw
   case rel=>exact ⟨k+1,by omega,by go_num,hown1,hbel1⟩
   case measure=>simp [intOf];omega
  ·obtain rfl:k=xs.length:=by omega
   rw [List.take_length] at hown
   obtain ⟨c,cc,rfl⟩:=hown.slice
   obtain ⟨h1,h2,h3⟩:=hown.reads
   have hlh:=length_hv xs
   have HLH:Hid ((hv xs).length=2*xs.length):=hlh
   have hml:(hv xs).length≤1099511627776:=by omega
   have htl:tlen (hv xs)≤(hv xs).length:=tl_le _ _
   clear hlh
   go_wp2_with fail
   refine (rcut_any c _ cc (hv xs) _ rfl h2 hml h3).mono ?_
   rintro e w1 ⟨rfl,rfl⟩
   go_wp2
   go_ret
   exact ⟨c,cc,rfl,by omega,h3,hbel⟩
end Go.Proofs.YtceigfafmalfgaaGreatDoor
namespace Go.Proofs.YtceigfafmalfgaaGreatDoor
/-! The same as in Val,of half limbs (by program out of that text). -/
def AllH (xs:List Int):Prop:=∀ x ∈ xs,0≤x∧x<4294967296
theorem AllH.at {xs:List Int} (h:AllH xs) (i:Nat):0≤lm xs i∧lm xs i<4294967296:=by
 by_cases hi:i<xs.length
 ·exact h (lm xs i) (List.mem_of_getElem? (lm_lt hi))
 ·rw [lm_ge (by omega)];omega
theorem AllH.set {xs:List Int} (h:AllH xs) (i:Nat) (z:Int) (hz:0≤z∧z<4294967296):AllH (xs.set i z):=by
 intro x hx
 rcases List.mem_or_eq_of_mem_set hx with h1|rfl
 ·exact h x h1
 ·exact hz
theorem AllH.take {xs:List Int} (h:AllH xs) (n:Nat):AllH (xs.take n):=fun x hx=>h x (List.mem_of_mem_take hx)
theorem AllH.append {xs ys:List Int} (h:AllH xs) (k:AllH ys):AllH (xs++ys):=fun x hx=>(List.mem_append.1 hx).elim (h x) (k x)
theorem AllH.nil:AllH []:=fun x hx=>by cases hx
theorem AllH.trim {xs:List Int} (h:AllH xs):AllH (trimL xs):=h.take _
theorem AllH.replicate (n:Nat):AllH (List.replicate n 0):=fun x hx=>by rw [List.eq_of_mem_replicate hx];omega
/-! ### What the limbs are worth -/
def pwH (k:Nat):Int:=4294967296^k
theorem pwH_succ (k:Nat):pwH (k+1)=pwH k*4294967296:=Int.pow_succ _ _
theorem pwH_pos (k:Nat):0<pwH k:=Int.pow_pos (by decide)
theorem pwH_add (a b:Nat):pwH (a+b)=pwH a*pwH b:=Int.pow_add _ _ _
theorem pwH_mono {a b:Nat} (h:a≤b):pwH a≤pwH b:=by
 obtain ⟨c,rfl⟩:∃ c,b=a+c:=⟨b-a,by omega⟩
 rw [pwH_add]
 have h1:=pwH_pos c
 have h2:=pwH_pos a
 have:=Int.mul_le_mul_of_nonneg_left (a:=1) (b:=pwH c) (c:=pwH a) (by omega) (by omega)
 omega
def vH (us:List Int):Nat→Int
 | 0=>0
 | n+1=>vH us n+lm us n*pwH n
def valH (us:List Int):Int:=vH us us.length
theorem vH_congr {us vs:List Int} {n:Nat} (h:∀ i,i<n→lm us i=lm vs i):vH us n=vH vs n:=by
 induction n with
 | zero=>rfl
 | succ n ih=>simp only [vH];rw [ih (fun i hi=>h i (by omega)),h n (by omega)]
theorem vH_set_ge {us:List Int} {n i:Nat} {z:Int} (h:n≤i):vH (us.set i z) n=vH us n :=
 vH_congr fun j hj=>by rw [lm_set,if_neg (by omega)]
theorem vH_set {us:List Int} {n i:Nat} (z:Int) (h:i<n) (hl:i<us.length):vH (us.set i z) n=vH us n+(z-lm us i)*pwH i:=by
 induction n with
 | zero=>omega
 | succ n ih =>
  simp only [vH]
  rcases Nat.lt_or_ge i n with h1|h1
  ·rw [ih h1,lm_set,if_neg (by omega)];omega
  ·obtain rfl:i=n:=by omega
   rw [vH_set_ge (Nat.le_refl _),lm_set,if_pos ⟨rfl,hl⟩,Int.sub_mul];omega
theorem vH_tail {us:List Int} {m n:Nat} (hmn:m≤n) (h:∀ i,m≤i→i<n→lm us i=0):vH us n=vH us m:=by
 induction n with
 | zero =>
  obtain rfl:m=0:=by omega
  rfl
 | succ n ih =>
  rcases Nat.lt_or_ge n m with h1|h1
  ·obtain rfl:m=n+1:=by omega
   rfl
  ·simp only [vH];rw [ih h1 (fun i a b=>h i a (by omega)),h n h1 (by omega)];omega
theorem vH_long {us:List Int} {n:Nat} (h:us.length≤n):vH us n=valH us:=vH_tail h (fun _ a _=>lm_ge a)
theorem vH_nn {us:List Int} (hu:AllH us) (n:Nat):0≤vH us n∧vH us n<pwH n:=by
 induction n with
 | zero=>simp [vH,pwH]
 | succ n ih =>
  simp only [vH]
  rw [pwH_succ]
  have h:=hu.at n
  have hp:=pwH_pos n
  have h1:0≤lm us n*pwH n:=Int.mul_nonneg h.1 (by omega)
  have h2:lm us n*pwH n≤4294967295*pwH n:=Int.mul_le_mul_of_nonneg_right (by omega) (by omega)
  omega
theorem valH_nn {us:List Int} (hu:AllH us):0≤valH us:=(vH_nn hu _).1
theorem valH_lt {us:List Int} (hu:AllH us):valH us<pwH us.length:=(vH_nn hu _).2
theorem vH_trim (xs:List Int):vH xs (tlen xs)=valH xs:=(vH_tail (tl_le _ _) (tl_spec xs xs.length).1).symm
theorem valH_trimL (xs:List Int):valH (trimL xs)=valH xs:=by
 unfold valH
 rw [length_trimL]
 show _=valH xs
 rw [← vH_trim]
 exact vH_congr fun i hi=>by unfold trimL;rw [lm_take hi]
theorem valH_ge {xs:List Int} (hx:AllH xs) (h:0<tlen xs):pwH (tlen xs-1)≤valH xs:=by
 rw [← vH_trim]
 obtain ⟨k,hk⟩:∃ k,tlen xs=k+1:=⟨tlen xs-1,by omega⟩
 rw [hk]
 simp only [vH]
 have hne:=(tl_spec xs xs.length).2 h
 have e:tl xs xs.length=k+1:=hk
 rw [e] at hne
 simp only [Nat.add_sub_cancel] at hne ⊢
 have h1:=hx.at k
 have h2:=(vH_nn hx k).1
 have h3:1*pwH k≤lm xs k*pwH k:=Int.mul_le_mul_of_nonneg_right (by omega) (by have:=pwH_pos k;omega)
 omega
theorem valH_lt_tlen {xs:List Int} (hx:AllH xs):valH xs<pwH (tlen xs):=by rw [← vH_trim];exact (vH_nn hx _).2
theorem tlenH_mono {xs ys:List Int} (hx:AllH xs) (hy:AllH ys) (h:valH xs≤valH ys):tlen xs≤tlen ys:=by
 rcases Nat.lt_or_ge (tlen ys) (tlen xs) with e|e
 ·have h1:=valH_ge hx (by omega)
  have h2:=valH_lt_tlen hy
  have h3:=pwH_mono (show tlen ys≤tlen xs-1 by omega)
  omega
 ·exact e
/-! ### the order -/
theorem cmpToH_val {xs ys:List Int} (hx:AllH xs) (hy:AllH ys) (k:Nat):(cmpTo xs ys k=0∧vH xs k=vH ys k)∨(cmpTo xs ys k = -1∧vH xs k<vH ys k)∨(cmpTo xs ys k=1∧vH ys k<vH xs k):=by
 induction k with
 | zero=>simp [cmpTo,vH]
 | succ k ih =>
  simp only [vH]
  by_cases h:lm xs k=lm ys k
  ·rw [cmpTo_eq h,h];omega
  ·rw [cmpTo_ne h]
   have a:=vH_nn hx k
   have b:=vH_nn hy k
   have hp:=pwH_pos k
   by_cases h2:lm xs k<lm ys k
   ·have:=Int.mul_le_mul_of_nonneg_right (a:=lm xs k+1) (b:=lm ys k) (c:=pwH k) (by omega) (by omega)
    rw [Int.add_mul] at this
    right;left
    exact ⟨by simp [ordI,h2],by omega⟩
   ·have:=Int.mul_le_mul_of_nonneg_right (a:=lm ys k+1) (b:=lm xs k) (c:=pwH k) (by omega) (by omega)
    rw [Int.add_mul] at this
    right;right
    exact ⟨by simp [ordI,h2],by omega⟩
theorem cmpLH_val {xs ys:List Int} (hx:AllH xs) (hy:AllH ys):(cmpL xs ys=0∧valH xs=valH ys)∨(cmpL xs ys = -1∧valH xs<valH ys)∨(cmpL xs ys=1∧valH ys<valH xs):=by
 unfold cmpL
 by_cases h:tlen xs=tlen ys
 ·rw [if_pos h]
  have:=cmpToH_val hx hy (tlen xs)
  have e:vH ys (tlen xs)=valH ys:=by rw [h,vH_trim]
  rw [vH_trim,e] at this
  exact this
 ·rw [if_neg h]
  by_cases h2:tlen xs<tlen ys
  ·right;left
   refine ⟨by simp [ordI,h2],?_⟩
   have h1:=valH_ge hy (by omega)
   have h3:=valH_lt_tlen hx
   have h4:=pwH_mono (show tlen xs≤tlen ys-1 by omega)
   omega
  ·right;right
   refine ⟨by simp [ordI,h2],?_⟩
   have h1:=valH_ge hx (by omega)
   have h3:=valH_lt_tlen hy
   have h4:=pwH_mono (show tlen ys≤tlen xs-1 by omega)
   omega
/-! ### halves and wholes -/
theorem allH_hv {xs:List Int} (h:AllW xs):AllH (hv xs):=by
 induction xs with
 | nil=>exact AllH.nil
 | cons x xs ih =>
  have hx:=h x (List.mem_cons_self)
  have:=ih (fun y hy=>h y (List.mem_cons_of_mem _ hy))
  intro y hy
  simp only [hv,List.mem_cons] at hy
  rcases hy with rfl|rfl|hy
  ·omega
  ·exact ⟨by have:=hx.1;omega,by have:=hx.2;omega⟩
  ·exact this y hy
theorem pwH_two (n:Nat):pwH (2*n)=pw n:=by
 induction n with
 | zero=>rfl
 | succ n ih=>rw [show 2*(n+1)=2*n+1+1 by omega,pwH_succ,pwH_succ,ih,pw_succ,Int.mul_assoc];rfl
theorem lm_hv (xs:List Int) (i:Nat):lm (hv xs) (2*i)=lm xs i%4294967296∧lm (hv xs) (2*i+1)=lm xs i/4294967296:=by
 induction xs generalizing i with
 | nil=>simp [hv,lm]
 | cons x xs ih =>
  cases i with
  | zero=>simp [hv,lm]
  | succ i =>
   have:=ih i
   rw [show 2*(i+1)=(2*i)+1+1 by omega]
   simp only [hv,lm,List.getD_cons_succ] at this ⊢
   exact this
theorem vH_hv (xs:List Int) (n:Nat):vH (hv xs) (2*n)=vS xs n:=by
 induction n with
 | zero=>rfl
 | succ n ih =>
  rw [show 2*(n+1)=2*n+1+1 by omega]
  simp only [vH,vS]
  obtain ⟨a,b⟩:=lm_hv xs n
  rw [ih,a,b,pwH_succ,pwH_two]
  have e:lm xs n/4294967296*(pw n*4294967296)=lm xs n/4294967296*4294967296*pw n:=by rw [Int.mul_comm (pw n),Int.mul_assoc]
  rw [e,Int.add_assoc,← Int.add_mul]
  congr 2
  omega
theorem valH_hv (xs:List Int):valH (hv xs)=val xs:=by
 unfold valH val;rw [length_hv];exact vH_hv xs _
theorem cmpTo_take {xs ys:List Int} {n m:Nat} (k:Nat) (h1:k≤n) (h2:k≤m):cmpTo (xs.take n) (ys.take m) k=cmpTo xs ys k:=by
 induction k with
 | zero=>rfl
 | succ k ih=>simp only [cmpTo];rw [lm_take (by omega),lm_take (by omega),ih (by omega) (by omega)]
end Go.Proofs.YtceigfafmalfgaaGreatDoor
namespace Go.Proofs.YtceigfafmalfgaaGreatDoor
open Go.RowKit
def nbL (c:List Int):List Int:=(List.range ((c.length+1)/2)).map fun (k:Nat)=>lm c (2*k)+4294967296*lm c (2*k+1)
theorem length_nbL (c:List Int):(nbL c).length=(c.length+1)/2:=by simp [nbL]
theorem lm_nbL (c:List Int) (k:Nat):lm (nbL c) k=lm c (2*k)+4294967296*lm c (2*k+1):=by
 by_cases h:k<(c.length+1)/2
 ·simp [lm,nbL,h]
 ·rw [lm_ge (by rw [length_nbL];omega),lm_ge (us:=c) (by omega),lm_ge (us:=c) (by omega)];rfl
theorem allW_nbL {c:List Int} (h:AllH c):AllW (nbL c):=by
 intro x hx
 simp only [nbL,List.mem_map] at hx
 obtain ⟨k,_,rfl⟩:=hx
 have a:=h.at (2*k)
 have b:=h.at (2*k+1)
 exact ⟨by omega,by omega⟩
theorem vS_nbL (c:List Int) (n:Nat):vS (nbL c) n=vH c (2*n):=by
 induction n with
 | zero=>rfl
 | succ n ih =>
  rw [show 2*(n+1)=2*n+1+1 by omega]
  simp only [vH,vS]
  rw [ih,lm_nbL,pwH_succ,pwH_two,Int.add_mul,Int.mul_comm 4294967296,Int.mul_assoc,Int.mul_comm 4294967296]
  omega
theorem val_nbL (c:List Int):val (nbL c)=valH c:=by
 unfold val
 rw [length_nbL,vS_nbL,vH_long (by omega)]
theorem nf_nbL {c:List Int} (h:AllH c) (ht:tlen c=c.length):NF (nbL c):=by
 refine ⟨allW_nbL h,?_⟩
 unfold tlen
 rw [length_nbL]
 refine tl_unique _ _ _ (Nat.le_refl _) (fun i h1 h2=>by omega) (fun hp=>?_)
 have hc:0<c.length:=by omega
 have hne:=(tl_spec c c.length).2 (by have:tl c c.length=c.length:=ht;omega)
 have e:tl c c.length=c.length:=ht
 rw [e] at hne
 rw [lm_nbL]
 have a:=h.at (2*((c.length+1)/2-1))
 have b:=h.at (2*((c.length+1)/2-1)+1)
 have hpar:c.length%2=0∨c.length%2=1:=by omega
 rcases hpar with hk|hk
 ·have e2:2*((c.length+1)/2-1)+1=c.length-1:=by omega
  rw [e2] at b ⊢
  omega
 ·have e2:2*((c.length+1)/2-1)=c.length-1:=by omega
  rw [e2] at a ⊢
  omega
def numL (hs:List Int):List Int:=nbL (trimL hs)
theorem nf_numL {hs:List Int} (h:AllH hs):NF (numL hs)∧val (numL hs)=valH hs∧(numL hs).length≤hs.length:=by
 have ht:tlen hs≤hs.length:=tl_le _ _
 refine ⟨nf_nbL h.trim (by rw [tlen_trimL,length_trimL]),?_,?_⟩
 ·unfold numL;rw [val_nbL,valH_trimL]
 ·unfold numL;rw [length_nbL,length_trimL];omega
set_option maxHeartbeats 1000000 in
theorem number_any (a:Option Addr) (n cap:Nat) (hs:List Int) (w:World) (hn:n=hs.length) (hl:n≤cap) (hm:n≤1000000000) (hr:Reads w a hs) (hh:AllH hs) :
  Calls Tryz.prog 80 #[.slice a n cap] w fun e w'=>∃ c cc,e = .returned (.slice c (numL hs).length cc)∧OwnV w' w.heap.size (.slice c (numL hs).length cc) (numL hs)∧Below w.heap.size w w':=by
 have ht:tlen hs≤hs.length:=tl_le _ _
 subst hn
 go_enter Tryz.func80,Tryz.ntmps80
 go_wp2_with fail
 refine (rcut_any a _ cap hs _ rfl hl (by omega) hr).mono ?_
 rintro e w1 ⟨rfl,rfl⟩
 have HL:Hid ((trimL hs).length=tlen hs):=length_trimL hs
 have hr2:Reads w a (trimL hs):=hr.take _
 have hh2:AllH (trimL hs):=hh.trim
 have HD:Hid (numL hs=nbL (trimL hs)):=rfl
 clear hr hh
 generalize trimL hs=c at *
 generalize tlen hs=t at *
 have HNB:Hid ((nbL c).length=(t+1)/2):=by show _=_;rw [length_nbL,HL.out]
 go_wp2
 go_loopw [4,5] (fun v s wr=>∃ k:Nat,k≤(t+1)/2∧s = .int .i64 (2*(k:Int))∧OwnV wr w.heap.size v ((nbL c).take k)∧Below w.heap.size w wr) (fun _ s _=>t+2-(intOf s).toNat)
 case atStart=>exact ⟨0,Nat.zero_le _,rfl,OwnV.nil _ _,Below.refl _ _⟩
 case round =>
  obtain ⟨k,hk,rfl,hown,hbel⟩:=hrel
  by_cases hlt:2*k<t
  ·obtain ⟨b1,o1,rfl,hc1⟩:=hr2.at (by rw [HL.out];omega)
   have hl2:2*(k:Int)<(t:Int):=by omega
   have h1:=hc1 (2*k) (by rw [HL.out];exact hlt)
   have hb1:=World.block_lt_of_cell? _ _ h1
   have g1:wr.cell? ⟨b1,o1+2*k,none⟩=some (.int .u64 (lm c (2*k))):=by rw [hbel.cell (p:=⟨b1,o1+2*k,none⟩) (by simpa using hb1)];exact h1
   obtain ⟨x0,x1⟩:=hh2.at (2*k)
   obtain ⟨y0,y1⟩:=hh2.at (2*k+1)
   have HK:Hid (((nbL c).take k).length=k):=by show _=_;rw [List.length_take,HNB.out];omega
   have HT:Hid ((nbL c).take k++[lm c (2*k)+4294967296*lm c (2*k+1)]=(nbL c).take (k+1)):=by show _=_;rw [← lm_nbL];exact take_snoc_lm _ _ (by rw [HNB.out];omega)
   have hsz:=hbel.size
   have hrow:∀ q,u4.ownBlock=some q→w.heap.size≤q:=fun q hq=>(hown.lt q hq).1
   by_cases hlt2:2*k+1<t
   ·have hl3:2*(k:Int)+1<(t:Int):=by omega
    have h2:=hc1 (2*k+1) (by rw [HL.out];exact hlt2)
    have g2:wr.cell? ⟨b1,o1+(2*k+1),none⟩=some (.int .u64 (lm c (2*k+1))):=by rw [hbel.cell (p:=⟨b1,o1+(2*k+1),none⟩) (by simpa using hb1)];exact h2
    clear hc1 h1 h2 hh2
    generalize (nbL c).take k=F at *
    generalize lm c (2*k)=X at *
    generalize lm c (2*k+1)=Z at *
    go_wp2_with (at_builtin;refine wpList_append1 23 Tryz.underlying23 _ rfl _ _ rfl w.heap.size u4 F k HK rfl (hown.alloc _) wr.heap.size _ (X+4294967296*Z) rfl (cell_new1 rfl) (by omega) (by simp;omega) (wr.heap.size+1) (by simp) ?_)
    intro g cap1 w1 hown1 hgrow _ _
    have hbel1:Below w.heap.size w w1:=hbel.trans (((Below.refl _ _).alloc (by omega) _).trans (grown_below hgrow (by simp;omega) hrow))
    rw [HT.out] at hown1
    clear hgrow hown
    go_wp2
    go_roundw
    case rel=>exact ⟨k+1,by omega,by go_num,hown1,hbel1⟩
    case measure=>simp [intOf];omega
   ·have hl3:¬ 2*(k:Int)+1<(t:Int):=by omega
    have hz:lm c (2*k+1)=0:=lm_ge (by rw [HL.out];omega)
    have HT2:Hid ((nbL c).take k++[lm c (2*k)]=(nbL c).take (k+1)):=by show _=_;rw [← HT.out,hz];simp
    clear hc1 h1 hh2 HT hz y0 y1
    generalize (nbL c).take k=F at *
    generalize lm c (2*k)=X at *
    go_wp2_with (at_builtin;refine wpList_append1 23 Tryz.underlying23 _ rfl _ _ rfl w.heap.size u4 F k HK rfl (hown.alloc _) wr.heap.size _ X rfl (cell_new1 rfl) (by omega) (by simp;omega) (wr.heap.size+1) (by simp) ?_)
    intro g cap1 w1 hown1 hgrow _ _
    have hbel1:Below w.heap.size w w1:=hbel.trans (((Below.refl _ _).alloc (by omega) _).trans (grown_below hgrow (by simp;omega) hrow))
    rw [HT2.out] at hown1
    clear hgrow hown
    go_wp2
    go_roundw
    case rel=>exact ⟨k+1,by omega,by go_num,hown1,hbel1⟩
    case measure=>simp [intOf];omega
  ·obtain rfl:k=(t+1)/2:=by omega
   rw [← HNB.out,List.take_length,← HD.out] at hown
   obtain ⟨c',cc,rfl⟩:=hown.slice
   go_wp2
   go_ret
   exact ⟨c',cc,rfl,hown,hbel⟩
theorem numL_hv {xs:List Int} (h:AllW xs):numL (hv xs)=trimL xs:=by
 obtain ⟨h1,h2,_⟩:=nf_numL (allH_hv h)
 exact nf_unique h1 (NF.trimL h) (by rw [h2,valH_hv,val_trimL])
theorem numL_trim (hs:List Int):numL (trimL hs)=numL hs:=by unfold numL;rw [trimL_trimL]
set_option maxHeartbeats 400000 in
theorem rnorm_any (a:Option Addr) (n cap:Nat) (xs:List Int) (w:World) (hn:n=xs.length) (hl:n≤cap) (hm:n≤400000000) (hr:Reads w a xs) (hx:AllW xs) :
  Calls Tryz.prog 63 #[.slice a n cap] w fun e w'=>∃ c cc,e = .returned (.slice c (tlen xs) cc)∧OwnV w' w.heap.size (.slice c (tlen xs) cc) (trimL xs)∧Below w.heap.size w w':=by
 subst hn
 have ht:tlen (hv xs)≤(hv xs).length:=tl_le _ _
 have hlh:=length_hv xs
 have hb:tlen (hv xs)≤1000000000:=by omega
 have HE:Hid (numL (trimL (hv xs))=trimL xs):=by show _=_;rw [numL_trim];exact numL_hv hx
 have HE2:Hid ((numL (trimL (hv xs))).length=tlen xs):=by show _=_;rw [HE.out,length_trimL]
 clear hlh
 go_enter Tryz.func63,Tryz.ntmps63
 go_wp2_with fail
 refine (halves_any a _ cap xs _ rfl hl (by omega) hr hx).mono ?_
 rintro e w1 ⟨c,cc,rfl,hc,hrc,hbel1⟩
 go_wp2_with fail
 refine (number_any c (tlen (hv xs)) cc (trimL (hv xs)) _ (length_trimL _).symm hc hb (hrc.take _) (allH_hv hx).trim).mono ?_
 rintro e w2 ⟨d,cd,rfl,hown,hbel2⟩
 rw [HE2.out] at hown
 rw [HE.out] at hown
 rw [HE2.out]
 have hown2:=hown.mono hbel1.size
 clear HE HE2
 go_wp2
 go_ret
 exact ⟨d,cd,rfl,hown2,bel_tr hbel1 hbel2⟩
set_option maxHeartbeats 400000 in
theorem rof_any (v:Int) (w:World) (h0:0≤v) (h1:v<18446744073709551616) :
  Calls Tryz.prog 64 #[.int .u64 v] w fun e w'=>∃ c cc,e = .returned (.slice c (tlen [v]) cc)∧OwnV w' w.heap.size (.slice c (tlen [v]) cc) (trimL [v])∧Below w.heap.size w w':=by
 go_enter Tryz.func64,Tryz.ntmps64
 go_wp2_with fail
 have k1:Blk (w.alloc (Obj.cells #[Value.int IntKind.u64 v] 57)) w.heap.size [v]:=blk_new [v]
 refine (rnorm_any _ 1 1 [v] _ rfl (Nat.le_refl _) (by omega) k1.reads' (fun x hx=>by simp at hx;subst hx;exact ⟨h0,h1⟩)).mono ?_
 rintro e w2 ⟨d,cd,rfl,hown,hbel2⟩
 have hown2:=hown.mono (B':=w.heap.size) (by simp)
 have hb:=bel_tr ((Below.refl w.heap.size w).alloc (Nat.le_refl _) (Obj.cells #[Value.int IntKind.u64 v] 57)) hbel2
 go_wp2
 go_ret
 exact ⟨d,cd,rfl,hown2,hb⟩
def uval (xs:List Int):Int:=if tlen xs=1 then lm xs 0 else 0
def ufit (xs:List Int):Bool:=decide (tlen xs≤1)
set_option maxHeartbeats 400000 in
theorem ruint64_any (a:Option Addr) (n cap:Nat) (xs:List Int) (w:World) (hn:n=xs.length) (hl:n≤cap) (hm:n≤400000000) (hr:Reads w a xs) (hx:AllW xs) :
  Calls Tryz.prog 125 #[.slice a n cap] w fun e w'=>e = .returned (.tuple #[.int .u64 (uval xs),.bool (ufit xs)])∧Below w.heap.size w w':=by
 subst hn
 go_enter Tryz.func125,Tryz.ntmps125
 go_wp2_with fail
 refine (rnorm_any a _ cap xs _ rfl hl hm hr hx).mono ?_
 rintro e w1 ⟨c,cc,rfl,hown,hbel⟩
 obtain ⟨q1,q2,hr2⟩:=hown.reads
 have HL:=length_trimL xs
 have HLL:Hid ((trimL xs).length=tlen xs):=HL
 have HU:Hid (uval xs=if tlen xs=1 then lm xs 0 else 0):=rfl
 have HF:Hid (ufit xs=decide (tlen xs≤1)):=rfl
 have H0:Hid (tlen xs=1→lm (trimL xs) 0=lm xs 0):=fun h=>lm_trimL (by omega)
 clear HL q1
 generalize tlen xs=m at *
 by_cases h0:m=0
 ·subst h0
  go_wp2
  go_ret2
  exact ⟨by rw [HU.out,HF.out];rfl,hbel⟩
 ·by_cases h1:m=1
  ·subst h1
   obtain ⟨b1,o1,rfl,hc1⟩:=hr2.at (by rw [HLL.out];omega)
   have cc0:=hc1 0 (by rw [HLL.out];omega)
   rw [Nat.add_zero,H0.out rfl] at cc0
   clear hc1
   go_wp2
   go_ret2
   exact ⟨by rw [HU.out,HF.out];rfl,hbel⟩
  ·have t0:((m:Int) == 0)=false:=by simp;omega
   have t1:(1:Int)<(m:Int):=by omega
   go_wp2
   go_ret2
   refine ⟨?_,hbel⟩
   rw [HU.out,HF.out,if_neg h1]
   have:decide (m≤1)=false:=by simp;omega
   rw [this];rfl
set_option maxHeartbeats 400000 in
theorem same_any (a b:Option Addr) (na nb ca cb:Nat) (xs ys:List Int) (w:World) (hna:na=xs.length) (hnb:nb=ys.length) (hma:na≤1099511627776) (hra:Reads w a xs) (hrb:Reads w b ys) (hxy:xs=ys) :
  Calls Tryz.prog 25 #[.slice a na ca,.slice b nb cb] w fun e w'=>e = .returned (.bool true)∧∃ m,w'=w.drewN m:=by
 subst hna hnb hxy
 have t1:((xs.length:Int) != (xs.length:Int))=false:=by simp
 go_enter Tryz.func25,Tryz.ntmps25
 go_wp2
 go_loopw [5] (fun i wr=>∃ k m:Nat,k≤xs.length∧i = .int .i64 k∧wr=w.drewN m) (fun i _=>xs.length-(intOf i).toNat)
 case atStart=>exact ⟨0,0,Nat.zero_le _,rfl,rfl⟩
 case round =>
  obtain ⟨k,m,hk,rfl,rfl⟩:=hrel
  by_cases hlt:k<xs.length
  ·obtain ⟨b1,o1,rfl,hc1⟩:=hra.at (by omega)
   obtain ⟨b2,o2,rfl,hc2⟩:=hrb.at (by omega)
   have h1:=hc1 k hlt
   have h2:=hc2 k hlt
   have hkl:(k:Int)<(xs.length:Int):=by omega
   have hb:(lm xs k != lm xs k)=false:=by simp
   clear hc1 hc2
   go_wp2
   go_quiet (fail)
   go_wp2
   go_roundw
   case rel=>exact ⟨k+1,m+nq,by omega,by go_num,rfl⟩
   case measure=>simp [intOf];omega
  ·go_wp2
   go_ret
   exact ⟨rfl,m,rfl⟩
theorem sameG {a b:Option Addr} {na nb ca cb B B':Nat} {x y:Int} {S R:Nat} (w:World) (ha:Got w B (.slice a na ca) x S) (hb:Got w B' (.slice b nb cb) y R) (hxy:x=y) (hS:S≤1000000000000) :
  Calls Tryz.prog 25 #[.slice a na ca,.slice b nb cb] w fun e w'=>e = .returned (.bool true)∧Below w.heap.size w w':=by
 obtain ⟨xs,h1,h2,h3⟩:=got_eq ha hb hxy
 obtain ⟨r1,r2,r3⟩:=h1.reads
 obtain ⟨s1,s2,s3⟩:=h2.reads
 refine (same_any a b na nb ca cb xs xs w r1 s1 (by omega) r3 s3 rfl).mono ?_
 rintro e w' ⟨rfl,m,rfl⟩
 exact ⟨rfl,belN (Below.refl _ _) m⟩
def HNum (w:World) (a:Option Addr) (n cap:Nat) (x:Int) (S:Nat):Prop:=∃ hs,n=hs.length∧n≤cap∧Reads w a hs∧AllH hs∧valH hs=x∧n≤S∧tlen hs=hs.length
theorem HNum.below {w w':World} {a:Option Addr} {n cap:Nat} {x:Int} {S:Nat} (h:HNum w a n cap x S) (hb:Below w.heap.size w w'):HNum w' a n cap x S:=by
 obtain ⟨xs,h1,h2,h3,h4⟩:=h
 exact ⟨xs,h1,h2,h3.below hb,h4⟩
theorem HNum.of_trim {w:World} {a:Option Addr} {cap:Nat} {hs:List Int} {S:Nat} (hr:Reads w a hs) (hl:tlen hs≤cap) (hh:AllH hs) (hS:tlen hs≤S):HNum w a (tlen hs) cap (valH hs) S :=
 ⟨trimL hs,(length_trimL hs).symm,hl,hr.take _,hh.trim,valH_trimL hs,hS,by rw [tlen_trimL,length_trimL]⟩
theorem halvesV {a:Option Addr} {na ca:Nat} {x:Int} {S:Nat} (w:World) (ha:Num w a na ca x S) (hS:S≤400000000000) :
  Calls Tryz.prog 79 #[.slice a na ca] w fun e w'=>∃ c n cc,e = .returned (.slice c n cc)∧HNum w' c n cc x (2*S)∧Below w.heap.size w w':=by
 obtain ⟨xs,a1,a2,a3,a4,a5,a6⟩:=ha
 refine (halves_any a na ca xs w a1 a2 (by omega) a3 a4).mono ?_
 rintro e w' ⟨c,cc,rfl,h1,h2,h3⟩
 have hl:tlen (hv xs)≤(hv xs).length:=tl_le _ _
 rw [length_hv] at hl
 refine ⟨c,_,cc,rfl,?_,h3⟩
 rw [← a5,← valH_hv]
 exact HNum.of_trim h2 h1 (allH_hv a4) (by omega)
theorem numberL {a:Option Addr} {n cap:Nat} (hs:List Int) (w:World) (hn:n=hs.length) (hl:n≤cap) (hm:n≤1000000000) (hr:Reads w a hs) (hh:AllH hs) (S:Nat) (hS:n≤S) :
  Calls Tryz.prog 80 #[.slice a n cap] w fun e w'=>∃ c nc cc,e = .returned (.slice c nc cc)∧Got w' w.heap.size (.slice c nc cc) (valH hs) S∧Below w.heap.size w w':=by
 refine (number_any a n cap hs w hn hl hm hr hh).mono ?_
 rintro e w' ⟨c,cc,rfl,h1,h2⟩
 obtain ⟨f1,f2,f3⟩:=nf_numL hh
 exact ⟨c,_,cc,rfl,⟨_,h1,f1,f2,by omega⟩,h2⟩
theorem numberV {a:Option Addr} {n cap:Nat} {x:Int} {S:Nat} (w:World) (h:HNum w a n cap x S) (hm:S≤1000000000) :
  Calls Tryz.prog 80 #[.slice a n cap] w fun e w'=>∃ c nc cc,e = .returned (.slice c nc cc)∧Got w' w.heap.size (.slice c nc cc) x S∧Below w.heap.size w w':=by
 obtain ⟨hs,h1,h2,h3,h4,h5,h6,h7⟩:=h
 subst h5
 exact numberL hs w h1 h2 (by omega) h3 h4 S h6
set_option maxHeartbeats 400000 in
theorem at_any (a:Option Addr) (n cap:Nat) (hs:List Int) (i:Nat) (w:World) (hn:n=hs.length) (hm:n≤1099511627776) (hr:Reads w a hs) :
  Calls Tryz.prog 124 #[.slice a n cap,.int .i64 i] w fun e w'=>e = .returned (.int .u64 (lm hs i))∧w=w':=by
 subst hn
 by_cases hi:i<hs.length
 ·obtain ⟨b1,o1,rfl,hc1⟩:=hr.at (by omega)
  have h1:=hc1 i hi
  have hil:(i:Int)<(hs.length:Int):=by omega
  clear hc1
  go_enter Tryz.func124,Tryz.ntmps124
  go_wp2
  go_ret
  exact ⟨rfl,rfl⟩
 ·have hil:¬ (i:Int)<(hs.length:Int):=by omega
  rw [lm_ge (by omega)]
  go_enter Tryz.func124,Tryz.ntmps124
  go_wp2
  go_ret
  exact ⟨rfl,rfl⟩
theorem vH_app {F:List Int} {k:Nat} (d:Int) (h:F.length=k):vH (F++[d]) (k+1)=vH F k+d*pwH k:=by
 subst h
 show vH (F++[d]) F.length+lm (F++[d]) F.length*pwH F.length=_
 rw [lm_append_right (Nat.le_refl _),Nat.sub_self,vH_congr (us:=F++[d]) (vs:=F) (n:=F.length) (fun i hi=>lm_append_left hi)]
 rfl
theorem allH_app {F:List Int} {d:Int} (h:AllH F) (h0:0≤d) (h1:d<4294967296):AllH (F++[d]):=h.append (fun x hx=>by simp at hx;subst hx;exact ⟨h0,h1⟩)
theorem rnormR {a:Option Addr} {na ca:Nat} {x:Int} {S:Nat} (w:World) (ha:Num w a na ca x S) (hS:S≤100000000) :
  Calls Tryz.prog 63 #[.slice a na ca] w fun e w'=>∃ c n cc,e = .returned (.slice c n cc)∧Got w' w.heap.size (.slice c n cc) x S∧Below w.heap.size w w':=by
 obtain ⟨xs,h1,h2,h3,h4,h5,h6⟩:=ha
 refine (rnorm_any a na ca xs w h1 h2 (by omega) h3 h4).mono ?_
 rintro e w' ⟨c,cc,rfl,ho,hb⟩
 have hl:tlen xs≤xs.length:=tl_le _ _
 exact ⟨c,_,cc,rfl,⟨trimL xs,ho,NF.trimL h4,by rw [val_trimL];exact h5,by rw [length_trimL];omega⟩,hb⟩
set_option maxHeartbeats 1000000 in
theorem rnormI {a:Option Addr} {na ca:Nat} {m:Int} {S:Nat} (p:Bool) (w:World) (ha:Num w a na ca m S) (hS:S≤90000000) :
  Calls Tryz.prog 47 #[.agg #[.bool p,.slice a na ca]] w fun e w'=>∃ f c n d,e = .returned (.agg #[.bool f,.slice c n d])∧GI w' w.heap.size (.agg #[.bool f,.slice c n d]) (ws p m) (S)∧Below w.heap.size w w':=by
 obtain ⟨P0,R0,hb0,hsz⟩:=box2 w (.bool p) (.slice a na ca) (.bool false) (.slice none 0 0) 25
 replace ha:=ha.below hb0
 go_enter Tryz.func47,Tryz.ntmps47
 go_wp2_with fail
 generalize (w.alloc (.cells #[.bool p,.slice a na ca] 25)).alloc (.cells #[.bool false,.slice none 0 0] 25)=W0 at *
 obtain ⟨p00,p01,p02,p03⟩:=id P0
 refine (rnormR _ ha (by omega)).mono ?_
 rintro e w2 ⟨c1,n1,d1,rfl,G,hb1⟩
 have R1:=R0.below hb1
 have hw2:=bel_tr hb0 hb1
 replace P0:=P0.below hb1
 clear p00 p01 p02 p03
 obtain ⟨p00,p01,p02,p03⟩:=id P0
 obtain ⟨r0,r1,r2,r3⟩:=id R1
 cases p with
 | false =>
  have GF:GI w2 W0.heap.size (.agg #[.bool false,.slice c1 n1 d1]) (ws false m) S:=G.gi false
  obtain ⟨V,O⟩:=R1.set (.bool false) (.slice c1 n1 d1)
  clear P0 R0 ha hb0 hb1 G
  go_wp2
  refine bodyPost_ret (v:=.agg #[.bool false,.slice c1 n1 d1]) (by simp [results,Tryz.results47,go_sem,V.c0,V.c1]) rfl ⟨_,_,_,_,rfl,((GF.off O (by omega)).mono (by omega)),hw2.trans (O.below (by omega))⟩
 | true =>
  have GF:GI w2 W0.heap.size (.agg #[.bool (decide (0<n1)),.slice c1 n1 d1]) (ws true m) S:=G.gi true
  obtain ⟨V,O⟩:=R1.set (.bool (decide (0<n1))) (.slice c1 n1 d1)
  clear P0 R0 ha hb0 hb1 G
  go_wp2
  refine bodyPost_ret (v:=.agg #[.bool (decide (0<n1)),.slice c1 n1 d1]) (by simp [results,Tryz.results47,go_sem,V.c0,V.c1]) rfl ⟨_,_,_,_,rfl,((GF.off O (by omega)).mono (by omega)),hw2.trans (O.below (by omega))⟩
set_option maxHeartbeats 1000000 in
theorem rfromI {a:Option Addr} {n c:Nat} {m:Int} {S:Nat} (b:Bool) (w:World) (h:Num w a n c m S) (hS:S≤90000000) :
  Calls Tryz.prog 46 #[.bool b,.slice a n c] w fun e w'=>∃ f c n d,e = .returned (.agg #[.bool f,.slice c n d])∧GI w' w.heap.size (.agg #[.bool f,.slice c n d]) (ws b m) (S)∧Below w.heap.size w w':=by
 obtain ⟨R0,hb0,hsz⟩:=box1 w (.bool false) (.slice none 0 0) 25
 replace h:=h.below hb0
 go_enter Tryz.func46,Tryz.ntmps46
 go_wp2_with fail
 generalize w.alloc (.cells #[.bool false,.slice none 0 0] 25)=W0 at *
 refine (rnormI b _ h hS).mono ?_
 rintro e w2 ⟨f1,c1,n1,d1,rfl,GF,hb1⟩
 have R1:=R0.below hb1
 have hw2:=bel_tr hb0 hb1
 obtain ⟨r0,r1,r2,r3⟩:=id R1
 obtain ⟨V,O⟩:=R1.set (.bool f1) (.slice c1 n1 d1)
 clear R0 h hb0 hb1
 go_wp2
 refine bodyPost_ret (v:=.agg #[.bool f1,.slice c1 n1 d1]) (by simp [results,Tryz.results46,go_sem,V.c0,V.c1]) rfl ⟨_,_,_,_,rfl,((GF.off O (by omega)).mono (by omega)),hw2.trans (O.below (by omega))⟩
theorem reads_one {w:World} {z:Int}:Num (w.alloc (.cells #[.int .u64 z] 57)) (some ⟨w.heap.size,0,none⟩) 1 1 z 1↔(0≤z∧z<18446744073709551616):=by
 constructor
 ·rintro ⟨xs,h1,h2,h3,h4,h5,h6⟩
  have a:=val_nn h4
  have b:=val_lt h4
  rw [h5] at a b
  rw [← h1] at b
  have e:pw 1=18446744073709551616:=by simp [pw]
  omega
 ·rintro ⟨h0,h1⟩
  refine ⟨[z],rfl,Nat.le_refl _,.inr ⟨_,_,rfl,fun i hi=>?_⟩,fun x hx=>by simp at hx;subst hx;exact ⟨h0,h1⟩,by simp [Go.Proofs.YtceigfafmalfgaaGreatDoor.val,vS,lm,pw],Nat.le_refl _⟩
  obtain rfl:i=0:=by simp at hi;omega
  simp [lm]
set_option maxHeartbeats 1000000 in
theorem rofI (v:Int) (w:World) (h0:-9223372036854775808≤v) (h1:v<9223372036854775808) :
  Calls Tryz.prog 26 #[.int .i64 v] w fun e w'=>∃ f c n d,e = .returned (.agg #[.bool f,.slice c n d])∧GI w' w.heap.size (.agg #[.bool f,.slice c n d]) (v) (1)∧Below w.heap.size w w':=by
 obtain ⟨R0,hb0,hsz⟩:=box1 w (.bool false) (.slice none 0 0) 25
 by_cases hv:v<0
 ·go_enter Tryz.func26,Tryz.ntmps26
  have K:Num _ _ _ _ _ _:=(reads_one (w:=w.alloc (.cells #[.bool false,.slice none 0 0] 25)) (z:=-(v+1)+1)).2 ⟨by omega,by omega⟩
  have hx:Below (w.alloc (.cells #[.bool false,.slice none 0 0] 25)).heap.size (w.alloc (.cells #[.bool false,.slice none 0 0] 25)) ((w.alloc (.cells #[.bool false,.slice none 0 0] 25)).alloc (.cells #[.int .u64 (-(v+1)+1)] 57)):=(Below.refl _ _).alloc (Nat.le_refl _) _
  rw [hsz] at K
  replace R0:=R0.below hx
  go_wp2_with fail
  generalize w.alloc (.cells #[.bool false,.slice none 0 0] 25)=W0 at *
  generalize W0.alloc (.cells #[.int .u64 (-(v+1)+1)] 57)=W1 at *
  refine (rfromI true _ K (by omega)).mono ?_
  rintro e w2 ⟨f1,c1,n1,d1,rfl,G,hb2⟩
  have R1:=R0.below hb2
  have hw2:=bel_tr (bel_tr hb0 hx) hb2
  have hs1:=hx.size
  have GF:GI w2 W1.heap.size (.agg #[.bool f1,.slice c1 n1 d1]) v 1:=G.val (by simp [ws];try omega)
  obtain ⟨r0,r1,r2,r3⟩:=id R1
  obtain ⟨V,O⟩:=R1.set (.bool f1) (.slice c1 n1 d1)
  clear R0 hb0 hb2 hx K G
  go_wp2
  refine bodyPost_ret (v:=.agg #[.bool f1,.slice c1 n1 d1]) (by simp [results,Tryz.results26,go_sem,V.c0,V.c1]) rfl ⟨_,_,_,_,rfl,((GF.off O (by omega)).mono (by omega)),hw2.trans (O.below (by omega))⟩
 ·go_enter Tryz.func26,Tryz.ntmps26
  have K:Num _ _ _ _ _ _:=(reads_one (w:=w.alloc (.cells #[.bool false,.slice none 0 0] 25)) (z:=v)).2 ⟨by omega,by omega⟩
  have hx:Below (w.alloc (.cells #[.bool false,.slice none 0 0] 25)).heap.size (w.alloc (.cells #[.bool false,.slice none 0 0] 25)) ((w.alloc (.cells #[.bool false,.slice none 0 0] 25)).alloc (.cells #[.int .u64 (v)] 57)):=(Below.refl _ _).alloc (Nat.le_refl _) _
  rw [hsz] at K
  replace R0:=R0.below hx
  go_wp2_with fail
  generalize w.alloc (.cells #[.bool false,.slice none 0 0] 25)=W0 at *
  generalize W0.alloc (.cells #[.int .u64 (v)] 57)=W1 at *
  refine (rfromI false _ K (by omega)).mono ?_
  rintro e w2 ⟨f1,c1,n1,d1,rfl,G,hb2⟩
  have R1:=R0.below hb2
  have hw2:=bel_tr (bel_tr hb0 hx) hb2
  have hs1:=hx.size
  have GF:GI w2 W1.heap.size (.agg #[.bool f1,.slice c1 n1 d1]) v 1:=G.val (by simp [ws];try omega)
  obtain ⟨r0,r1,r2,r3⟩:=id R1
  obtain ⟨V,O⟩:=R1.set (.bool f1) (.slice c1 n1 d1)
  clear R0 hb0 hb2 hx K G
  go_wp2
  refine bodyPost_ret (v:=.agg #[.bool f1,.slice c1 n1 d1]) (by simp [results,Tryz.results26,go_sem,V.c0,V.c1]) rfl ⟨_,_,_,_,rfl,((GF.off O (by omega)).mono (by omega)),hw2.trans (O.below (by omega))⟩
end Go.Proofs.YtceigfafmalfgaaGreatDoor
