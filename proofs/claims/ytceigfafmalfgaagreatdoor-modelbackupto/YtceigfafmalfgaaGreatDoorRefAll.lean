import Derived.Test.YtceigfafmalfgaaGreatDoorLentAll
namespace Go.Proofs.YtceigfafmalfgaaGreatDoor
open Go.RowKit
theorem dig_sub {X Y F:Int} {x y bo P:Int} (h:F-bo*P=X-Y):F+(x-(y+bo))*P-0*(P*4294967296)=X+x*P-(Y+y*P):=by
 rw [Int.sub_mul,Int.add_mul];omega
theorem dig_sub1 {X Y F:Int} {x y bo P:Int} (h:F-bo*P=X-Y):F+(x+4294967296-(y+bo))*P-1*(P*4294967296)=X+x*P-(Y+y*P):=by
 rw [Int.sub_mul,Int.add_mul,Int.add_mul,Int.mul_comm P 4294967296];omega
set_option maxHeartbeats 1000000 in
theorem minus_any (a b:Option Addr) (na nb ca cb:Nat) (xs ys:List Int) (w:World) (hna:na=xs.length) (hnb:nb=ys.length) (hma:na≤1000000000000) (hmb:nb≤1000000000000) (hra:Reads w a xs) (hrb:Reads w b ys) (hx:AllH xs) (hy:AllH ys) :
  Calls Tryz.prog 128 #[.slice a na ca,.slice b nb cb] w fun e w'=>∃ c cc out bo,e = .returned (.slice c (tlen out) cc)∧out.length=na∧tlen out≤cc∧Reads w' c out∧AllH out∧0≤bo∧bo≤1∧valH out-bo*pwH na=valH xs-vH ys na∧Below w.heap.size w w':=by
 have Hna:Hid (na=xs.length):=hna
 have Hnb:Hid (nb=ys.length):=hnb
 clear hna hnb
 go_enter Tryz.func128,Tryz.ntmps128
 go_wp2
 go_loopw [5,6,7] (fun v c i wr=>∃ (k:Nat) (F:List Int) (bo:Int),k≤na∧i = .int .i64 k∧c = .int .u64 bo∧OwnV wr w.heap.size v F∧F.length=k∧AllH F∧0≤bo∧bo≤1∧vH F k-bo*pwH k=vH xs k-vH ys k∧Below w.heap.size w wr) (fun _ _ i _=>na-(intOf i).toNat)
 case atStart=>exact ⟨0,[],0,Nat.zero_le _,rfl,rfl,OwnV.nil _ _,rfl,AllH.nil,by omega,by omega,by simp [vH],Below.refl _ _⟩
 case round =>
  obtain ⟨k,F,bo,hk,rfl,rfl,hown,hF,hFh,hb0,hb1,hV,hbel⟩:=hrel
  have HF:Hid (F.length=k):=hF
  have HV:Hid (vH F k-bo*pwH k=vH xs k-vH ys k):=hV
  have HFh:Hid (AllH F):=hFh
  clear hF hV hFh
  by_cases hlt:k<na
  ·have hkl:(k:Int)<(na:Int):=by omega
   obtain ⟨b1,o1,rfl,hc1⟩:=hra.at (by have:=Hna.out;omega)
   have h1:=hc1 k (by have:=Hna.out;omega)
   have hb1':=World.block_lt_of_cell? _ _ h1
   have g1:wr.cell? ⟨b1,o1+k,none⟩=some (.int .u64 (lm xs k)):=by rw [hbel.cell (p:=⟨b1,o1+k,none⟩) (by simpa using hb1')];exact h1
   obtain ⟨x0,x1⟩:=hx.at k
   obtain ⟨y0,y1⟩:=hy.at k
   have hsz:=hbel.size
   have hrow:∀ q,u5.ownBlock=some q→w.heap.size≤q:=fun q hq=>(hown.lt q hq).1
   have D0:Hid (vH (F++[lm xs k-(lm ys k+bo)]) (k+1)-0*pwH (k+1)=vH xs (k+1)-vH ys (k+1)):=by
    show _=_
    rw [vH_app _ HF.out,pwH_succ];exact dig_sub HV.out
   have D1:Hid (vH (F++[lm xs k+4294967296-(lm ys k+bo)]) (k+1)-1*pwH (k+1)=vH xs (k+1)-vH ys (k+1)):=by
    show _=_
    rw [vH_app _ HF.out,pwH_succ];exact dig_sub1 HV.out
   clear hc1 h1 hx hy
   go_wp2_with fail
   refine (at_any b nb cb ys k wr Hnb.out (by omega) (hrb.below hbel)).mono ?_
   rintro e w1 ⟨rfl,rfl⟩
   clear hra hrb
   generalize lm xs k=X at *
   generalize lm ys k=Y at *
   by_cases hXY:X<Y+bo
   ·go_wp2_with (at_builtin;refine wpList_append1 22 Tryz.underlying22 _ rfl _ _ rfl w.heap.size u5 F k HF rfl (hown.alloc _) wr.heap.size _ (X+4294967296-(Y+bo)) rfl (cell_new1 rfl) (by omega) (by simp;omega) (wr.heap.size+1) (by simp) ?_)
    intro g cap1 w1 hown1 hgrow _ _
    have hbel1:Below w.heap.size w w1:=hbel.trans (((Below.refl _ _).alloc (by omega) _).trans (grown_below hgrow (by simp;omega) hrow))
    clear hgrow hown
    go_wp2
    go_roundw
    case rel=>exact ⟨k+1,_,1,by omega,by go_num,rfl,hown1,by simp [HF.out],allH_app HFh.out (by omega) (by omega),by omega,by omega,D1.out,hbel1⟩
    case measure=>simp [intOf];omega
   ·go_wp2_with (at_builtin;refine wpList_append1 22 Tryz.underlying22 _ rfl _ _ rfl w.heap.size u5 F k HF rfl (hown.alloc _) wr.heap.size _ (X-(Y+bo)) rfl (cell_new1 rfl) (by omega) (by simp;omega) (wr.heap.size+1) (by simp) ?_)
    intro g cap1 w1 hown1 hgrow _ _
    have hbel1:Below w.heap.size w w1:=hbel.trans (((Below.refl _ _).alloc (by omega) _).trans (grown_below hgrow (by simp;omega) hrow))
    clear hgrow hown
    go_wp2
    go_roundw
    case rel=>exact ⟨k+1,_,0,by omega,by go_num,rfl,hown1,by simp [HF.out],allH_app HFh.out (by omega) (by omega),by omega,by omega,D0.out,hbel1⟩
    case measure=>simp [intOf];omega
  ·obtain rfl:k=na:=by omega
   have hkl:¬ (k:Int)<(k:Int):=by omega
   obtain ⟨c,cc,rfl⟩:=own_form hown HF.out
   obtain ⟨h1,h2,h3⟩:=hown.reads
   have hle:tlen F≤F.length:=tl_le _ _
   have HE:Hid (valH F-bo*pwH k=valH xs-vH ys k):=by
    show _=_
    have e1:valH F=vH F k:=by unfold valH;rw [HF.out]
    have e2:valH xs=vH xs k:=by unfold valH;rw [← Hna.out]
    rw [e1,e2];exact HV.out
   have hle2:tlen F≤cc:=by omega
   have hm2:k≤1099511627776:=by omega
   clear hra hrb hx hy h1 hle
   go_wp2_with fail
   refine (rcut_any c k cc F wr HF.out.symm h2 hm2 h3).mono ?_
   rintro e w1 ⟨rfl,rfl⟩
   go_wp2
   go_ret
   exact ⟨c,cc,F,bo,rfl,HF.out,hle2,h3,HFh.out,hb0,hb1,HE.out,hbel⟩
theorem minusV {a b:Option Addr} {na nb ca cb:Nat} {x y:Int} {S R:Nat} (w:World) (ha:HNum w a na ca x S) (hb:HNum w b nb cb y R) (hS:S≤1000000000000) (hR:R≤1000000000000) (hxy:y≤x) :
  Calls Tryz.prog 128 #[.slice a na ca,.slice b nb cb] w fun e w'=>∃ c n cc,e = .returned (.slice c n cc)∧HNum w' c n cc (x-y) S∧Below w.heap.size w w':=by
 obtain ⟨xs,a1,a2,a3,a4,a5,a6,a7⟩:=ha
 obtain ⟨ys,b1,b2,b3,b4,b5,b6,b7⟩:=hb
 have hle:=tlenH_mono b4 a4 (by omega)
 refine (minus_any a b na nb ca cb xs ys w a1 b1 (by omega) (by omega) a3 b3 a4 b4).mono ?_
 rintro e w' ⟨c,cc,out,bo,rfl,h1,h2,h3,h4,h5,h6,h7,h8⟩
 have hv2:vH ys na=y:=by rw [vH_long (by omega),b5]
 have hlt:=valH_lt h4
 have hnn:=valH_nn h4
 rw [h1] at hlt
 have hp:=pwH_pos na
 have hto:tlen out≤out.length:=tl_le _ _
 have hv:valH out=x-y:=by
  rcases (by omega:bo=0∨bo=1) with rfl|rfl
  ·omega
  ·omega
 refine ⟨c,_,cc,rfl,?_,h8⟩
 rw [← hv]
 exact HNum.of_trim h3 h2 h4 (by omega)
set_option maxHeartbeats 400000 in
theorem rcmpV {a b:Option Addr} {na nb ca cb:Nat} {x y:Int} {S R:Nat} (w:World) (ha:HNum w a na ca x S) (hb:HNum w b nb cb y R) (hS:S≤1000000000000) (hR:R≤1000000000000) :
  Calls Tryz.prog 147 #[.slice a na ca,.slice b nb cb] w fun e w'=>∃ c:Int,e = .returned (.int .i64 c)∧((c=0∧x=y)∨(c = -1∧x<y)∨(c=1∧y<x))∧Below w.heap.size w w':=by
 obtain ⟨xs,a1,a2,a3,a4,a5,a6,a7⟩:=ha
 obtain ⟨ys,b1,b2,b3,b4,b5,b6,b7⟩:=hb
 refine (rcmp_any a b na nb ca cb xs ys w a1 b1 (by omega) (by omega) a3 b3).mono ?_
 rintro e w' ⟨rfl,m,rfl⟩
 refine ⟨_,rfl,?_,belN (Below.refl _ _) m⟩
 have e:rcmpL xs ys=cmpL xs ys:=by unfold rcmpL cmpL;rw [a7,b7]
 have:=cmpLH_val a4 b4
 rw [e,← a5,← b5]
 exact this
theorem mod_mulH (s T:Int):(s%4294967296)*T+s/4294967296*(T*4294967296)=s*T:=by
 have h:s=s%4294967296+s/4294967296*4294967296:=by omega
 have e:s/4294967296*(T*4294967296)=s/4294967296*4294967296*T:=by rw [Int.mul_comm T,Int.mul_assoc]
 rw [e,← Int.add_mul,← h]
theorem dig_add {A B F x y c P:Int} (h:F+c*P=A+B):F+(x+y+c)%4294967296*P+(x+y+c)/4294967296*(P*4294967296)=A+x*P+(B+y*P):=by
 rw [Int.add_assoc,mod_mulH,Int.add_mul,Int.add_mul];omega
set_option maxHeartbeats 4000000 in
theorem raddV {a0 b0:Option Addr} {na0 nb0 ca0 cb0:Nat} {x y:Int} {S:Nat} (w0:World) (ha:Num w0 a0 na0 ca0 x S) (hb:Num w0 b0 nb0 cb0 y S) (hS:S≤100000000) :
  Calls Tryz.prog 121 #[.slice a0 na0 ca0,.slice b0 nb0 cb0] w0 fun e w'=>∃ c n cc,e = .returned (.slice c n cc)∧Got w' w0.heap.size (.slice c n cc) (x+y) (2*S+1)∧Below w0.heap.size w0 w':=by
 go_enter Tryz.func121,Tryz.ntmps121
 go_wp2_with fail
 refine (halvesV _ ha (by omega)).mono ?_
 rintro e w1 ⟨a,na,ca,rfl,H1,hb1⟩
 replace hb:=hb.below hb1
 clear ha
 go_wp2_with fail
 refine (halvesV _ hb (by omega)).mono ?_
 rintro e w ⟨b,nb,cb,rfl,H2,hb2⟩
 replace H1:=H1.below hb2
 have HB:=bel_tr hb1 hb2
 clear hb hb1 hb2
 obtain ⟨xs,a1,a2,hra,hx,a5,a6,_⟩:=H1
 obtain ⟨ys,b1,b2,hrb,hy,b5,b6,_⟩:=H2
 have Hna:Hid (na=xs.length):=a1
 have Hnb:Hid (nb=ys.length):=b1
 have HX5:Hid (valH xs=x):=a5
 have HY5:Hid (valH ys=y):=b5
 clear a1 b1 a5 b5
 obtain ⟨M,hM1,hM2,hM3⟩:∃ M:Nat,na≤M∧nb≤M∧(M=na∨M=nb):=by
  rcases Nat.lt_or_ge na nb with h|h
  ·exact ⟨nb,by omega,by omega,.inr rfl⟩
  ·exact ⟨na,by omega,by omega,.inl rfl⟩
 have hMS:M≤2*S:=by omega
 clear hM3
 go_wp2
 go_loopw [7,8,9] (fun v s i wr=>∃ (k:Nat) (F:List Int) (c:Int),k≤M+1∧i = .int .i64 k∧s = .int .u64 c∧OwnV wr w.heap.size v F∧F.length=k∧AllH F∧0≤c∧c≤1∧(k=M+1→c=0)∧vH F k+c*pwH k=vH xs k+vH ys k∧Below w.heap.size w wr) (fun _ _ i _=>M+1-(intOf i).toNat)
 case atStart=>exact ⟨0,[],0,by omega,rfl,rfl,OwnV.nil _ _,rfl,AllH.nil,by omega,by omega,fun _=>rfl,by simp [vH],Below.refl _ _⟩
 case round =>
  obtain ⟨k,F,c,hk,rfl,rfl,hown,hF,hFh,hc0,hc1,hcM,hV,hbel⟩:=hrel
  have HF:Hid (F.length=k):=hF
  have HFh:Hid (AllH F):=hFh
  have HV:Hid (vH F k+c*pwH k=vH xs k+vH ys k):=hV
  clear hF hV hFh
  obtain ⟨x0,x1⟩:=hx.at k
  obtain ⟨y0,y1⟩:=hy.at k
  have hsz:=hbel.size
  have hrow:∀ q,u7.ownBlock=some q→w.heap.size≤q:=fun q hq=>(hown.lt q hq).1
  have hz:M≤k→lm xs k=0∧lm ys k=0:=fun h=>⟨lm_ge (by have:=Hna.out;omega),lm_ge (by have:=Hnb.out;omega)⟩
  have hdone:k<M∨lm xs k+lm ys k+c<4294967296:=by
   rcases Nat.lt_or_ge k M with h|h
   ·exact .inl h
   ·have:=hz h;right;omega
  have D0:Hid (vH (F++[(lm xs k+lm ys k+c)%4294967296]) (k+1)+(lm xs k+lm ys k+c)/4294967296*pwH (k+1)=vH xs (k+1)+vH ys (k+1)):=by
   show _=_
   rw [vH_app _ HF.out,pwH_succ];exact dig_add HV.out
  clear hz
  by_cases hlt:k<na
  ·have hkl:(k:Int)<(na:Int):=by omega
   go_wp2_with fail
   refine (at_any a na ca xs k wr Hna.out (by omega) (hra.below hbel)).mono ?_
   rintro e w1 ⟨rfl,rfl⟩
   go_wp2_with fail
   refine (at_any b nb cb ys k wr Hnb.out (by omega) (hrb.below hbel)).mono ?_
   rintro e w1 ⟨rfl,rfl⟩
   clear hra hrb
   generalize lm xs k=X at *
   generalize lm ys k=Y at *
   have T1:(X+Y+c).tmod 4294967296=(X+Y+c)%4294967296:=Int.tmod_eq_emod_of_nonneg (by omega)
   have T2:IntKind.u64.wrap ((X+Y+c).tdiv 4294967296)=(X+Y+c)/4294967296:=by rw [Int.tdiv_eq_ediv_of_nonneg (by omega),IntKind.wrap_u64];omega
   go_wp2_with (at_builtin;refine wpList_append1 22 Tryz.underlying22 _ rfl _ _ rfl w.heap.size u7 F k HF rfl (hown.alloc _) wr.heap.size _ ((X+Y+c)%4294967296) rfl (cell_new1 rfl) (by omega) (by simp;omega) (wr.heap.size+1) (by simp) ?_)
   intro g cap1 w1 hown1 hgrow _ _
   have hbel1:Below w.heap.size w w1:=hbel.trans (((Below.refl _ _).alloc (by omega) _).trans (grown_below hgrow (by simp;omega) hrow))
   clear hgrow hown
   go_wp2
   go_roundw
   case rel=>exact ⟨k+1,_,(X+Y+c)/4294967296,by omega,by go_num,rfl,hown1,by simp [HF.out],allH_app HFh.out (by omega) (by omega),by omega,by omega,by omega,D0.out,hbel1⟩
   case measure=>simp [intOf];omega
  ·have hkl:¬ (k:Int)<(na:Int):=by omega
   by_cases hlt2:k<nb
   ·have hkl2:(k:Int)<(nb:Int):=by omega
    go_wp2_with fail
    refine (at_any a na ca xs k wr Hna.out (by omega) (hra.below hbel)).mono ?_
    rintro e w1 ⟨rfl,rfl⟩
    go_wp2_with fail
    refine (at_any b nb cb ys k wr Hnb.out (by omega) (hrb.below hbel)).mono ?_
    rintro e w1 ⟨rfl,rfl⟩
    clear hra hrb
    generalize lm xs k=X at *
    generalize lm ys k=Y at *
    have T1:(X+Y+c).tmod 4294967296=(X+Y+c)%4294967296:=Int.tmod_eq_emod_of_nonneg (by omega)
    have T2:IntKind.u64.wrap ((X+Y+c).tdiv 4294967296)=(X+Y+c)/4294967296:=by rw [Int.tdiv_eq_ediv_of_nonneg (by omega),IntKind.wrap_u64];omega
    go_wp2_with (at_builtin;refine wpList_append1 22 Tryz.underlying22 _ rfl _ _ rfl w.heap.size u7 F k HF rfl (hown.alloc _) wr.heap.size _ ((X+Y+c)%4294967296) rfl (cell_new1 rfl) (by omega) (by simp;omega) (wr.heap.size+1) (by simp) ?_)
    intro g cap1 w1 hown1 hgrow _ _
    have hbel1:Below w.heap.size w w1:=hbel.trans (((Below.refl _ _).alloc (by omega) _).trans (grown_below hgrow (by simp;omega) hrow))
    clear hgrow hown
    go_wp2
    go_roundw
    case rel=>exact ⟨k+1,_,(X+Y+c)/4294967296,by omega,by go_num,rfl,hown1,by simp [HF.out],allH_app HFh.out (by omega) (by omega),by omega,by omega,by omega,D0.out,hbel1⟩
    case measure=>simp [intOf];omega
   ·have hkl2:¬ (k:Int)<(nb:Int):=by omega
    by_cases hcc:0<c
    ·have hkM:k≠M+1:=fun h=>by have:=hcM h;omega
     go_wp2_with fail
     refine (at_any a na ca xs k wr Hna.out (by omega) (hra.below hbel)).mono ?_
     rintro e w1 ⟨rfl,rfl⟩
     go_wp2_with fail
     refine (at_any b nb cb ys k wr Hnb.out (by omega) (hrb.below hbel)).mono ?_
     rintro e w1 ⟨rfl,rfl⟩
     clear hra hrb
     generalize lm xs k=X at *
     generalize lm ys k=Y at *
     have T1:(X+Y+c).tmod 4294967296=(X+Y+c)%4294967296:=Int.tmod_eq_emod_of_nonneg (by omega)
     have T2:IntKind.u64.wrap ((X+Y+c).tdiv 4294967296)=(X+Y+c)/4294967296:=by rw [Int.tdiv_eq_ediv_of_nonneg (by omega),IntKind.wrap_u64];omega
     go_wp2_with (at_builtin;refine wpList_append1 22 Tryz.underlying22 _ rfl _ _ rfl w.heap.size u7 F k HF rfl (hown.alloc _) wr.heap.size _ ((X+Y+c)%4294967296) rfl (cell_new1 rfl) (by omega) (by simp;omega) (wr.heap.size+1) (by simp) ?_)
     intro g cap1 w1 hown1 hgrow _ _
     have hbel1:Below w.heap.size w w1:=hbel.trans (((Below.refl _ _).alloc (by omega) _).trans (grown_below hgrow (by simp;omega) hrow))
     clear hgrow hown
     go_wp2
     go_roundw
     case rel=>exact ⟨k+1,_,(X+Y+c)/4294967296,by omega,by go_num,rfl,hown1,by simp [HF.out],allH_app HFh.out (by omega) (by omega),by omega,by omega,by omega,D0.out,hbel1⟩
     case measure=>simp [intOf];omega
    ·obtain rfl:c=0:=by omega
     have HE:Hid (valH F=x+y):=by
      show _=_
      have e:=HV.out
      rw [vH_long (us:=xs) (by have:=Hna.out;omega),vH_long (us:=ys) (by have:=Hnb.out;omega),HX5.out,HY5.out] at e
      unfold valH;rw [HF.out];omega
     obtain ⟨c',cc',rfl⟩:=own_form hown HF.out
     obtain ⟨h1,h2,h3⟩:=hown.reads
     clear hra hrb hx hy D0 HV h1
     go_wp2_with fail
     refine (numberL F wr HF.out.symm h2 (by omega) h3 HFh.out (2*S+1) (by omega)).mono ?_
     rintro e w2 ⟨c5,n5,k5,rfl,H5,hb2⟩
     have HB2:=bel_tr HB (bel_tr hbel hb2)
     replace H5:=H5.mono (B':=w0.heap.size) (by have:=HB.size;omega)
     rw [HE.out] at H5
     clear hb2 hbel HB hown
     go_wp2
     go_ret
     exact ⟨c5,n5,k5,rfl,H5,HB2⟩
theorem wpList_makeH (w:World) {ops:Array Oper} {rest:List Oper} {o:Oper} {a:Act} {Q:Exit→Act→World→Prop}
  (hg:o.guard=none) (l c:Operand) (hop:o.op=Op.makeSlice 22 l c)
  (L C:Int) (n:Nat) (hl:a.eval l = .int .i64 L) (hc:a.eval c = .int .i64 C) (hL:L=(n:Int)) (hC:C=(n:Int)) (b2:n≤1099511627776)
  (hK:∀ w',Blk w' w.heap.size (List.replicate n 0)→Below w.heap.size w w'→wpList Tryz.prog ops Q rest (a.put o.dst (.slice (some ⟨w.heap.size,0,none⟩) n n)) w') :
  wpList Tryz.prog ops Q (o::rest) a w:=by
 obtain ⟨i0,hi,hz0,hz1,hz2⟩:=info_parts Tryz.infoU64
 refine wpList_make_full w hg l c 22 hop w.heap.size 57 i0 (.int .u64 0) 1 Tryz.underlying22 hi hz0 hz1 .i64 .i64 L C n hl hc hL hC (by rw [hz2];omega) (by unfold maxLen;omega) (Nat.le_refl _) ?_
 intro w' hown hgrow
 refine hK w' ?_ ((Below.refl _ _).grown hgrow (Nat.le_refl _) (fun k h=>by cases h))
 obtain ⟨_,h2⟩:=hown
 rcases h2 with ⟨h2,_⟩|⟨g,cap,cur,hv,_,hh,_,_,hs,ht⟩
 ·cases h2
 ·simp only [Value.slice.injEq,Option.some.injEq,Addr.mk.injEq] at hv
  obtain ⟨⟨rfl,_,_⟩,_,rfl⟩:=hv
  unfold Blk
  rw [hh]
  have e:cur.toList=List.replicate n (Value.int .u64 0):=by
   have h3:cur.toList.take (n*1)=cur.toList:=List.take_of_length_le (by simp [hs])
   rw [← h3,ht]
   simp only [Nat.mul_one]
   apply List.ext_getElem
   ·simp [size_madeCells]
   ·intro i h1 h2;simp [madeCells,Value.cells,Nat.mod_one]
  have:cur=(List.map (Value.int .u64) (List.replicate n 0)).toArray:=by
   rw [List.map_replicate,← e]
  rw [this]
theorem dig_mul {VU V0 A O X Y p c P PI PK:Int} (h:VU+c*P=V0+PI*(A*X)) (hP:P=PI*PK) (hp:X*Y=p) :
  VU+((O+p+c)%4294967296-O)*P+(O+p+c)/4294967296*(P*4294967296)=V0+PI*((A+Y*PK)*X):=by
 have e1:=mod_mulH (O+p+c) P
 have e2:PI*((A+Y*PK)*X)=PI*(A*X)+p*P:=by
  rw [Int.add_mul,Int.mul_add,← hp,hP]
  congr 1
  ac_rfl
 rw [Int.sub_mul,e2]
 rw [Int.add_mul,Int.add_mul] at e1
 omega
theorem mul_bdH {x y:Int} (hx:0≤x) (hx':x<4294967296) (hy:0≤y) (hy':y<4294967296):0≤x*y∧x*y≤18446744065119617025:=by
 have h1:=Int.mul_nonneg hx hy
 have h2:=Int.mul_le_mul (a:=x) (b:=y) (c:=4294967295) (d:=4294967295) (by omega) (by omega) hy (by omega)
 omega
theorem mul_lt' {a b A B:Int} (ha:a<A) (hb0:0≤b) (hb:b<B) (hA:0<A):a*b<A*B:=by
 have h1:=Int.mul_le_mul_of_nonneg_right (a:=a) (b:=A) (c:=b) (by omega) hb0
 have h2:=Int.mul_lt_mul_of_pos_left hb hA
 omega
theorem carry0 {V c Q T:Int} (h:V+c*Q=T) (hV:0≤V) (hc:0≤c) (hT:T<Q) (hQ:0<Q):c=0:=by
 rcases (by omega:c=0∨1≤c) with h1|h1
 ·exact h1
 ·have:=Int.mul_le_mul_of_nonneg_right (a:=1) (b:=c) (c:=Q) h1 (by omega)
  omega
set_option maxHeartbeats 1000000 in
theorem rmulV {a0 b0:Option Addr} {na0 nb0 ca0 cb0:Nat} {x y:Int} {S:Nat} (w0:World) (ha:Num w0 a0 na0 ca0 x S) (hb:Num w0 b0 nb0 cb0 y S) (hS:S≤100000000) :
  Calls Tryz.prog 92 #[.slice a0 na0 ca0,.slice b0 nb0 cb0] w0 fun e w'=>∃ c n cc,e = .returned (.slice c n cc)∧Got w' w0.heap.size (.slice c n cc) (x*y) (4*S+1)∧Below w0.heap.size w0 w':=by
 go_enter Tryz.func92,Tryz.ntmps92
 go_wp2_with fail
 refine (halvesV _ ha (by omega)).mono ?_
 rintro e w1 ⟨a,na,ca,rfl,H1,hb1⟩
 replace hb:=hb.below hb1
 clear ha
 go_wp2_with fail
 refine (halvesV _ hb (by omega)).mono ?_
 rintro e w ⟨b,nb,cb,rfl,H2,hb2⟩
 replace H1:=H1.below hb2
 have HB:=bel_tr hb1 hb2
 clear hb hb1 hb2
 obtain ⟨xs,a1,a2,hra,hx,a5,a6,_⟩:=H1
 obtain ⟨ys,b1,b2,hrb,hy,b5,b6,_⟩:=H2
 have Hna:Hid (na=xs.length):=a1
 have Hnb:Hid (nb=ys.length):=b1
 have HX5:Hid (valH xs=x):=a5
 have HY5:Hid (valH ys=y):=b5
 clear a1 b1 a5 b5
 obtain ⟨N,hN1,hN2⟩:∃ N,N≤na+nb+1∧na+nb+1≤N:=⟨_,Nat.le_refl _,Nat.le_refl _⟩
 go_wp2_with (at_make;refine wpList_makeH _ rfl _ _ rfl _ _ N rfl rfl (by omega) (by omega) (by omega) ?_)
 intro wm hbm hbelm
 obtain ⟨G,hG⟩:∃ G,G=w.heap.size:=⟨_,rfl⟩
 have HG:Hid (G=w.heap.size):=hG
 rw [← hG] at hbm hbelm
 rw [← hG]
 clear hG
 go_wp2
 go_loopw [8] (fun s wr=>∃ (i:Nat) (U:List Int),i≤na∧s = .int .i64 i∧Blk wr G U∧U.length=N∧AllH U∧vH U N=vH xs i*valH ys∧Below G w wr) (fun s _=>na-(intOf s).toNat)
 case atStart=>exact ⟨0,_,Nat.zero_le _,rfl,hbm,by simp,AllH.replicate _,by rw [vH_congr (us:=List.replicate N 0) (vs:=[]) (fun j _=>by rw [lm_replicate,lm_ge (by simp)]),vH_long (us:=[]) (by simp)];simp [vH,valH],hbelm⟩
 case round =>
  obtain ⟨i,U0,hi,rfl,hbr0,hU0,hUh0,hV0,hbel0⟩:=hrel
  have HU0:Hid (U0.length=N):=hU0
  have HV0:Hid (vH U0 N=vH xs i*valH ys):=hV0
  have HUh0:Hid (AllH U0):=hUh0
  clear hU0 hV0 hUh0 hbm hbelm
  by_cases hlt:i<na
  ·have hil:(i:Int)<(na:Int):=by omega
   obtain ⟨b1,o1,rfl,hc1⟩:=hra.at (by have:=Hna.out;omega)
   have h1:=hc1 i (by have:=Hna.out;omega)
   have hb1':b1<G:=by rw [HG.out];simpa using World.block_lt_of_cell? _ _ h1
   obtain ⟨x0,x1⟩:=hx.at i
   have HTB:Hid (vH xs i*valH ys+pwH i*(valH ys*lm xs i)<pwH (i+(nb+1))):=by
    show _<_
    have e:vH xs i*valH ys+pwH i*(valH ys*lm xs i)=vH xs (i+1)*valH ys:=by
     show _=(vH xs i+lm xs i*pwH i)*valH ys
     rw [Int.add_mul]
     congr 1
     ac_rfl
    rw [e,show i+(nb+1)=(i+1)+nb by omega,pwH_add]
    have h3:=valH_lt hy
    rw [← Hnb.out] at h3
    exact mul_lt' (vH_nn hx (i+1)).2 (valH_nn hy) h3 (pwH_pos _)
   have HEND:Hid (vH xs i*valH ys+pwH i*(valH ys*lm xs i)=vH xs (i+1)*valH ys):=by
    show _=(vH xs i+lm xs i*pwH i)*valH ys
    rw [Int.add_mul]
    congr 1
    ac_rfl
   clear hc1
   have HX1:Hid (w.cell? ⟨b1,o1+i,none⟩=some (.int .u64 (lm xs i))):=h1
   clear h1
   generalize lm xs i=X at *
   go_wp2
   go_loopw [9,10] (fun s t wr=>∃ (k:Nat) (U:List Int) (c:Int),k≤nb+1∧t = .int .i64 k∧s = .int .u64 c∧Blk wr G U∧U.length=N∧AllH U∧0≤c∧c<4294967296∧(k=nb+1→c=0)∧vH U N+c*pwH (i+k)=vH xs i*valH ys+pwH i*(vH ys k*X)∧Below G w wr) (fun _ t _=>nb+1-(intOf t).toNat)
   case atStart=>exact ⟨0,U0,0,by omega,rfl,rfl,hbr0,HU0.out,HUh0.out,by omega,by omega,fun _=>rfl,by rw [HV0.out];simp [vH],hbel0⟩
   case round =>
    obtain ⟨k,U,c,hk,rfl,rfl,hbr,hU,hUh,hc0,hc1,hcM,hV,hbel⟩:=hrel
    have HU:Hid (U.length=N):=hU
    have HV:Hid (vH U N+c*pwH (i+k)=vH xs i*valH ys+pwH i*(vH ys k*X)):=hV
    have HUh:Hid (AllH U):=hUh
    obtain ⟨u0,u1⟩:=hUh.at (i+k)
    obtain ⟨y0,y1⟩:=hy.at k
    clear hU hV hUh hbr0 hbel0
    have main:k≠nb+1→i+k<N:=fun h=>by omega
    have D0:k≠nb+1→Hid (vH (U.set (i+k) ((lm U (i+k)+X*lm ys k+c)%4294967296)) N+(lm U (i+k)+X*lm ys k+c)/4294967296*pwH (i+(k+1))=vH xs i*valH ys+pwH i*(vH ys (k+1)*X)):=fun h=>by
     show _=_
     rw [vH_set _ (main h) (by rw [HU.out];exact main h),show i+(k+1)=i+k+1 by omega,pwH_succ]
     exact dig_mul HV.out (pwH_add i k) rfl
    have x2:=mul_bdH x0 x1 y0 y1
    by_cases hlt2:k<nb
    ·have hkl2:(k:Int)<(nb:Int):=by omega
     go_wp2_with fail
     refine (at_any b nb cb ys k wr Hnb.out (by omega) (hrb.below (by rw [← HG.out];exact hbel))).mono ?_
     rintro e w1 ⟨rfl,rfl⟩
     have hkn:k≠nb+1:=by omega
     have hcx:wr.cell? ⟨b1,o1+i,none⟩=some (.int .u64 X):=by rw [hbel.cell (p:=⟨b1,o1+i,none⟩) (by exact hb1')];exact HX1.out
     have hcu:=hbr.cell (i:=i+k) (by rw [HU.out];exact main hkn)
     have hfu:=hbr.frozen (i+k)
     have hik:(i:Int)+(k:Int)<(N:Int):=by have:=main hkn;omega
     have D1:=D0 hkn
     have DC:Hid (k+1=nb+1→(lm U (i+k)+X*lm ys k+c)/4294967296=0):=fun h=>by
      have hkb:k=nb:=by omega
      have e:=D1.out
      rw [vH_long (us:=ys) (by have:=Hnb.out;omega),show i+(k+1)=i+(nb+1) by omega] at e
      exact carry0 e (vH_nn (HUh.out.set _ _ (by omega)) N).1 (by omega) HTB.out (pwH_pos _)
     have HU2:Hid ((U.set (i+k) ((lm U (i+k)+X*lm ys k+c)%4294967296)).length=N):=by show _=_;simp [HU.out]
     have HUh2:Hid (AllH (U.set (i+k) ((lm U (i+k)+X*lm ys k+c)%4294967296))):=HUh.out.set _ _ (by omega)
     have HBr:Hid (Blk wr G U):=hbr
     have HBl:Hid (Below G w wr):=hbel
     clear D0 main hra hrb hbr hbel hy
     obtain ⟨p,hp⟩:∃ p,X*lm ys k=p:=⟨_,rfl⟩
     rw [hp] at x2 D1 DC HU2 HUh2
     generalize lm ys k=Y at *
     generalize lm U (i+k)=O at *
     have T1:(O+p+c).tmod 4294967296=(O+p+c)%4294967296:=Int.tmod_eq_emod_of_nonneg (by omega)
     have T2:IntKind.u64.wrap ((O+p+c).tdiv 4294967296)=(O+p+c)/4294967296:=by rw [Int.tdiv_eq_ediv_of_nonneg (by omega),IntKind.wrap_u64];omega
     go_wp2
     go_quiet (fail)
     have hbr2:Blk (wr.drewN nq) G U:=HBr.out.drewN nq
     have hbel2:Below G w (wr.drewN nq):=belN HBl.out nq
     have hcu2:(wr.drewN nq).cell? ⟨G,i+k,none⟩=some (.int .u64 O):=hcu
     have hfu2:(wr.drewN nq).frozen? ⟨G,i+k,none⟩=false:=hfu
     clear hcu hfu hcx HBr HBl
     generalize wr.drewN nq=W2 at *
     have HB4:=hbr2.set (i+k) ((O+p+c)%4294967296)
     have HO4:=hbel2.setCell (p:=⟨G,i+k,none⟩) (Nat.le_refl _) (.int .u64 ((O+p+c)%4294967296))
     clear hbr2 hbel2
     go_wp2
     go_roundw
     case rel=>exact ⟨k+1,_,(O+p+c)/4294967296,by omega,by go_num,rfl,HB4,HU2.out,HUh2.out,by omega,by omega,DC.out,D1.out,HO4⟩
     case measure=>simp [intOf];omega
    ·have hkl2:¬ (k:Int)<(nb:Int):=by omega
     by_cases hcc:0<c
     ·skip
      go_wp2_with fail
      refine (at_any b nb cb ys k wr Hnb.out (by omega) (hrb.below (by rw [← HG.out];exact hbel))).mono ?_
      rintro e w1 ⟨rfl,rfl⟩
      have hkn:k≠nb+1:=fun h=>by have:=hcM h;omega
      have hcx:wr.cell? ⟨b1,o1+i,none⟩=some (.int .u64 X):=by rw [hbel.cell (p:=⟨b1,o1+i,none⟩) (by exact hb1')];exact HX1.out
      have hcu:=hbr.cell (i:=i+k) (by rw [HU.out];exact main hkn)
      have hfu:=hbr.frozen (i+k)
      have hik:(i:Int)+(k:Int)<(N:Int):=by have:=main hkn;omega
      have D1:=D0 hkn
      have DC:Hid (k+1=nb+1→(lm U (i+k)+X*lm ys k+c)/4294967296=0):=fun h=>by
       have hkb:k=nb:=by omega
       have e:=D1.out
       rw [vH_long (us:=ys) (by have:=Hnb.out;omega),show i+(k+1)=i+(nb+1) by omega] at e
       exact carry0 e (vH_nn (HUh.out.set _ _ (by omega)) N).1 (by omega) HTB.out (pwH_pos _)
      have HU2:Hid ((U.set (i+k) ((lm U (i+k)+X*lm ys k+c)%4294967296)).length=N):=by show _=_;simp [HU.out]
      have HUh2:Hid (AllH (U.set (i+k) ((lm U (i+k)+X*lm ys k+c)%4294967296))):=HUh.out.set _ _ (by omega)
      have HBr:Hid (Blk wr G U):=hbr
      have HBl:Hid (Below G w wr):=hbel
      clear D0 main hra hrb hbr hbel hy
      obtain ⟨p,hp⟩:∃ p,X*lm ys k=p:=⟨_,rfl⟩
      rw [hp] at x2 D1 DC HU2 HUh2
      generalize lm ys k=Y at *
      generalize lm U (i+k)=O at *
      have T1:(O+p+c).tmod 4294967296=(O+p+c)%4294967296:=Int.tmod_eq_emod_of_nonneg (by omega)
      have T2:IntKind.u64.wrap ((O+p+c).tdiv 4294967296)=(O+p+c)/4294967296:=by rw [Int.tdiv_eq_ediv_of_nonneg (by omega),IntKind.wrap_u64];omega
      go_wp2
      go_quiet (fail)
      have hbr2:Blk (wr.drewN nq) G U:=HBr.out.drewN nq
      have hbel2:Below G w (wr.drewN nq):=belN HBl.out nq
      have hcu2:(wr.drewN nq).cell? ⟨G,i+k,none⟩=some (.int .u64 O):=hcu
      have hfu2:(wr.drewN nq).frozen? ⟨G,i+k,none⟩=false:=hfu
      clear hcu hfu hcx HBr HBl
      generalize wr.drewN nq=W2 at *
      have HB4:=hbr2.set (i+k) ((O+p+c)%4294967296)
      have HO4:=hbel2.setCell (p:=⟨G,i+k,none⟩) (Nat.le_refl _) (.int .u64 ((O+p+c)%4294967296))
      clear hbr2 hbel2
      go_wp2
      go_roundw
      case rel=>exact ⟨k+1,_,(O+p+c)/4294967296,by omega,by go_num,rfl,HB4,HU2.out,HUh2.out,by omega,by omega,DC.out,D1.out,HO4⟩
      case measure=>simp [intOf];omega
     ·obtain rfl:c=0:=by omega
      have HE:Hid (vH U N=vH xs (i+1)*valH ys):=by
       show _=_
       have e:=HV.out
       rw [vH_long (us:=ys) (by have:=Hnb.out;omega),HEND.out] at e
       omega
      clear D0 main HV hra hrb hx
      go_wp2
      go_roundw
      case rel=>exact ⟨i+1,U,by omega,by go_num,hbr,HU.out,HUh.out,HE.out,hbel⟩
      case measure=>simp [intOf];omega
  ·obtain rfl:i=na:=by omega
   have hil:¬ (i:Int)<(i:Int):=by omega
   have HE:Hid (valH U0=x*y):=by
    show _=_
    have e:=HV0.out
    rw [vH_long (us:=xs) (by have:=Hna.out;omega),HX5.out,HY5.out] at e
    unfold valH;rw [HU0.out];exact e
   have hrd:=hbr0.reads'
   clear hra hrb hx hy HV0
   go_wp2_with fail
   refine (numberL U0 wr HU0.out.symm (Nat.le_refl _) (by omega) hrd HUh0.out (4*S+1) (by omega)).mono ?_
   rintro e w2 ⟨c5,n5,k5,rfl,H5,hb2⟩
   have HB2:=bel_tr HB (bel_tr (by rw [← HG.out];exact hbel0) hb2)
   replace H5:=H5.mono (B':=w0.heap.size) (by have:=HB.size;have:=hbel0.size;have:=HG.out;omega)
   rw [HE.out] at H5
   clear hb2 hbel0 HB
   go_wp2
   go_ret
   exact ⟨c5,n5,k5,rfl,H5,HB2⟩
set_option maxHeartbeats 400000 in
theorem refcmp_any (a b:Option Addr) (na nb ca cb:Nat) (xs ys:List Int) (w:World) (hna:na=xs.length) (hnb:nb=ys.length) (hla:na≤ca) (hlb:nb≤cb)
  (hma:na≤400000000000) (hmb:nb≤400000000000) (hra:Reads w a xs) (hrb:Reads w b ys) (hx:AllW xs) (hy:AllW ys) :
  Calls Tryz.prog 122 #[.slice a na ca,.slice b nb cb] w fun e w'=>e = .returned (.int .i64 (cmpL (hv xs) (hv ys)))∧Below w.heap.size w w':=by
 have hl1:=length_hv xs
 have hl2:=length_hv ys
 have ht1:tlen (hv xs)≤(hv xs).length:=tl_le _ _
 have ht2:tlen (hv ys)≤(hv ys).length:=tl_le _ _
 have b1:tlen (hv xs)≤1099511627776:=by omega
 have b2:tlen (hv ys)≤1099511627776:=by omega
 clear hl1 hl2
 subst hna hnb
 go_enter Tryz.func122,Tryz.ntmps122
 go_wp2_with fail
 refine (halves_any a _ ca xs _ rfl hla hma hra hx).mono ?_
 rintro e w1 ⟨c,cc,rfl,hc,hrc,hbel1⟩
 go_wp2_with fail
 refine (halves_any b _ cb ys _ rfl hlb hmb (hrb.below hbel1) hy).mono ?_
 rintro e w2 ⟨d,cd,rfl,hd,hrd,hbel2⟩
 go_wp2_with fail
 refine (rcmp_any c d (tlen (hv xs)) (tlen (hv ys)) cc cd (trimL (hv xs)) (trimL (hv ys)) _ (length_trimL _).symm (length_trimL _).symm b1 b2 ((hrc.below hbel2).take _) (hrd.take _)).mono ?_
 rintro e w3 ⟨rfl,m,rfl⟩
 go_wp2
 go_ret
 refine ⟨ret_int ?_,belN (bel_tr hbel1 hbel2) m⟩
 unfold rcmpL cmpL
 rw [length_trimL,length_trimL]
 by_cases h:tlen (hv xs)=tlen (hv ys)
 ·rw [if_pos h,if_pos h]
  exact cmpTo_take _ (Nat.le_refl _) (by omega)
 ·rw [if_neg h,if_neg h]
theorem refcmpV {a b:Option Addr} {na nb ca cb:Nat} {x y:Int} {S R:Nat} (w:World) (ha:Num w a na ca x S) (hb:Num w b nb cb y R) (hS:S≤400000000000) (hR:R≤400000000000) :
  Calls Tryz.prog 122 #[.slice a na ca,.slice b nb cb] w fun e w'=>∃ c:Int,e = .returned (.int .i64 c)∧((c=0∧x=y)∨(c = -1∧x<y)∨(c=1∧y<x))∧Below w.heap.size w w':=by
 obtain ⟨xs,a1,a2,a3,a4,a5,a6⟩:=ha
 obtain ⟨ys,b1,b2,b3,b4,b5,b6⟩:=hb
 refine (refcmp_any a b na nb ca cb xs ys w a1 b1 a2 b2 (by omega) (by omega) a3 b3 a4 b4).mono ?_
 rintro e w' ⟨rfl,hbel⟩
 refine ⟨_,rfl,?_,hbel⟩
 have:=cmpLH_val (allH_hv a4) (allH_hv b4)
 rw [valH_hv,valH_hv,a5,b5] at this
 exact this
set_option maxHeartbeats 400000 in
theorem rsubV {a b:Option Addr} {na nb ca cb:Nat} {x y:Int} {S R:Nat} (w:World) (ha:Num w a na ca x S) (hb:Num w b nb cb y R) (hS:S≤100000000) (hR:R≤100000000) (hxy:y≤x) :
  Calls Tryz.prog 123 #[.slice a na ca,.slice b nb cb] w fun e w'=>∃ c n cc,e = .returned (.slice c n cc)∧Got w' w.heap.size (.slice c n cc) (x-y) (2*S)∧Below w.heap.size w w':=by
 have HXY:Hid (y≤x):=hxy
 clear hxy
 go_enter Tryz.func123,Tryz.ntmps123
 go_wp2_with fail
 refine (halvesV _ ha (by omega)).mono ?_
 rintro e w1 ⟨c1,n1,k1,rfl,H1,hb1⟩
 replace hb:=hb.below hb1
 clear ha
 go_wp2_with fail
 refine (halvesV _ hb (by omega)).mono ?_
 rintro e w2 ⟨c2,n2,k2,rfl,H2,hb2⟩
 replace H1:=H1.below hb2
 replace hb1:=bel_tr hb1 hb2
 clear hb hb2
 go_wp2_with fail
 refine (rcmpV _ H1 H2 (by omega) (by omega)).mono ?_
 rintro e w3 ⟨c,rfl,hc,hb2⟩
 replace H1:=H1.below hb2
 replace H2:=H2.below hb2
 replace hb1:=bel_tr hb1 hb2
 have hc0:¬ c<0:=by have:=HXY.out;omega
 clear hb2 hc
 go_wp2_with fail
 refine (minusV _ H1 H2 (by omega) (by omega) HXY.out).mono ?_
 rintro e w4 ⟨c4,n4,k4,rfl,H4,hb2⟩
 replace hb1:=bel_tr hb1 hb2
 clear hb2 H1 H2
 go_wp2_with fail
 refine (numberV _ H4 (by omega)).mono ?_
 rintro e w5 ⟨c5,n5,k5,rfl,H5,hb2⟩
 replace H5:=H5.mono (hb1.size)
 replace hb1:=bel_tr hb1 hb2
 clear hb2 H4
 go_wp2
 go_ret
 exact ⟨c5,n5,k5,rfl,H5,hb1⟩
end Go.Proofs.YtceigfafmalfgaaGreatDoor
