import Derived.Test.YtgdilnljjgdinaaGreatDoorLaHAll
namespace Go.Proofs.YtgdilnljjgdinaaGreatDoor
open Go.RowKit Go.Shelf
attribute [local go_sem] Oper.semAt_some
theorem fnil (p:Value) (w:World):(binOp .eql 28 (.func (.func 18) #[] #[p]) .nilFunc).run Tryz.prog w = .ok (.bool false) w:=by kernel_rfl
theorem sl_h (a:Option Addr) (n cap M:Nat) (h:M≤cap) (w:World):(Instr.sliceAt 24 (.slice a n cap) none (some (.int .i64 (M:Int))) none).run Tryz.prog w = .ok (.slice a M cap) w:=by
 obtain ⟨i0,z0,hi,hz0,hz1,hz2,hz3⟩:=infoTk8
 have e:∀ s,sliced a 0 M cap s = .slice a M cap:=fun s=>by
  unfold sliced
  cases a <;> simp [Addr.add] <;> split <;> rfl
 rw [run_sliceAt_slice (P:=Tryz.prog) (t:=24) (h:=by kernel_rfl),run_slice_h (ht:=by kernel_rfl) (h0:=by omega) (h2:=by omega)]
 rw [show Tryz.prog.elem 24=46 from by kernel_rfl]
 rw [run_sizeOf w hi]
 simp only [Result.andThen,Int.toNat_natCast,e]
def IoA (w6:World) (N:Nat) (st:List (Array Value) × Nat) (W:World):Prop:=Boxed W w6.heap.size 3 (.int .i64 (st.1.length:Nat))∧Boxed W (w6.heap.size+1) 3 (.int .i64 ((st.1.length*N:Nat):Int))∧st.1.length≤1∧Below w6.heap.size w6 W
def IxA (w6:World) (N:Nat) (c:Code) (xs:List (Array Value)) (W:World):Prop:=c=Code.exit 0∧xs.length=2∧2≤N∧Boxed W w6.heap.size 3 (.int .i64 ((2:Nat):Int))∧Boxed W (w6.heap.size+1) 3 (.int .i64 ((2*N:Nat):Int))∧Below w6.heap.size w6 W
theorem IoA.own {w6:World} {N D:Nat} (hD:w6.heap.size+1<D):OwnT D (IoA w6 N):=fun s X Y ⟨h1,h2,h3,h4⟩ ht=>⟨ht.block _ _ h1 (.inl (by omega)),ht.block _ _ h2 (.inl hD),h3,h4.trans (ht.below (by omega) h4.size)⟩
theorem IxA.own {w6:World} {N D:Nat} {c:Code} (hD:w6.heap.size+1<D):OwnT D (IxA w6 N c):=fun s X Y ⟨h0,h5,h6,h1,h2,h4⟩ ht=>⟨h0,h5,h6,ht.block _ _ h1 (.inl (by omega)),ht.block _ _ h2 (.inl hD),h4.trans (ht.below (by omega) h4.size)⟩
def JI (W1:World) (ic c0:Nat) (st:List (Array Value) × Nat) (W:World):Prop:=Boxed W ic 3 (.int .i64 ((c0+st.1.length:Nat):Int))∧W1.grownBy W (some ic)
theorem JI.own {W1:World} {ic c0 D:Nat} (hD:ic<D) (h1:W1.heap.size≤D):OwnT D (JI W1 ic c0):=fun s X Y ⟨h2,h3⟩ ht=>⟨ht.block _ _ h2 (.inl hD),⟨ht.os.trans h3.os,ht.tape.trans h3.tape,ht.output.trans h3.output,Nat.le_trans h3.size ht.size,fun k hk hne=>by
 have hb:=h3.block k hk hne
 have hk2:k<X.heap.size:=Nat.lt_of_lt_of_le hk h3.size
 rw [← hb]
 exact (ht.block k _ (Array.getElem?_eq_getElem hk2) (.inl (by omega))).trans (Array.getElem?_eq_getElem hk2).symm⟩⟩
theorem chain_ok {W Ws W1 W3 w:World} {oc ic D b:Nat} (O:Off oc W Ws) (hz:Below Ws.heap.size Ws W1) (hg:W1.grownBy W3 (some ic)) (hoD:oc<D) (hiD:ic<D) (hDb:D+2≤b) (hbel:Below w.heap.size w W) (hwo:w.heap.size≤oc) (hwi:w.heap.size≤ic):KeepsFrom D W W3∧KeptT (D+2) b W W3∧Below w.heap.size w W3:=by
 have hs1:=O.size
 have hs2:=hz.size
 have hs3:=hg.size
 have same:∀ k,k<W.heap.size→k≠oc→k≠ic→W3.heap[k]? = W.heap[k]?:=fun k hk h1 h2=>(hg.block k (by omega) (by simp;exact h2)).trans ((hz.block k (by omega)).trans (O.block k h1))
 have keep:∀ k (o:Obj),W.heap[k]? = some o→k≠oc→k≠ic→W3.heap[k]? = some o:=fun k o h h1 h2=>(same k (Array.getElem?_eq_some_iff.1 h).1 h1 h2).trans h
 refine ⟨⟨by omega,fun k o hk h _=>keep k o h (by omega) (by omega)⟩,⟨by omega,fun k o hk h=>keep k o h (by omega) (by omega)⟩,?_⟩
 exact ⟨hg.os.trans (hz.os.trans (O.os.trans hbel.os)),hg.tape.trans (hz.tape.trans (O.tape.trans hbel.tape)),hg.output.trans (hz.output.trans (O.output.trans hbel.output)),by have:=hbel.size;omega,fun k hk=>(same k (by have:=hbel.size;omega) (by omega) (by omega)).trans (hbel.block k hk)⟩
theorem toHid {p:Prop} (h:p):Hid p:=h
set_option maxRecDepth 100000 in
set_option maxHeartbeats 16000000 in
theorem all_core (s r0 R':ByteArray) (g0:Nat) (l0 c0 L' C':Int) (ts:List Tok) (p':Nat) (n:Int) (k0:-9223372036854775808≤n) (k1:n<9223372036854775808) (w:World) (hA:∀ w',Below w.heap.size w w'→Calls Tryz.prog 4 #[] w' fun e w''=>e = .returned (.bool true)∧Below w'.heap.size w' w'') (hs:s.size<262144)
  (b1:gpN s.data.toList=g0) (b2:s.extract g0 s.size=r0) (b3:ovL (s.extract 0 g0) 1=l0) (b4:ovC (s.extract 0 g0) 1=c0) (hC:Chn r0 l0 c0 ts R' L' C') (hlen:ts.length≤s.size) (hend:R'.size=0∨(0<R'.size∧∃ g ev,ReadNo R' g∧Errs w g ev))
  (hO:Ock DcD s ts (gpN s.data.toList) p') (hendD:p'=s.size∨(p'<s.size∧∃ (r:ByteArray) (g:Nat) (code:Int),r.data.toList=s.data.toList.drop p'∧Rn DocErr r g code)) (hT:Tabs w) :
  Calls Tryz.prog 3 #[.string s,.int .i64 n] w fun e w'=>e = .returned (.bool true)∧Below w.heap.size w w':=by
 have HSC:Hid (∀ u:World,Calls Tryz.prog 6 #[.string s] u fun e w'=>ScnD u ts e w'):=fun u=>scanD u (by omega) hlen hO hendD
 have HEN:∀ u,Below w.heap.size w u→R'.size=0∨(0<R'.size∧∃ g ev,ReadNo R' g∧Errs u g ev):=fun u hu=>hend.imp id fun h=>⟨h.1,by obtain ⟨g,ev,h1,h2⟩:=h.2;exact ⟨g,ev,h1,h2.below hu⟩⟩
 have HSM:Hid (∀ (u:World) (k:Int) (M:Nat),Below w.heap.size w u→((k=(M:Int)∧M≤ts.length)∨(k = -1∧M=ts.length))→Calls Tryz.prog 8 #[.string s,.int .i64 k] u fun e w'=>(∃ v,e = .returned v∧OutP w' u.heap.size v (ts.take M))∧Below u.heap.size u w'):=fun u k M hu hk=>someN s r0 R' g0 l0 c0 L' C' ts u hk (by omega) b1 b2 b3 b4 hC (by omega) (HEN u hu) (hT.below hu)
 have HSQ:Hid (∀ (u:World) (Bx:Nat),Below w.heap.size w u→SeqT Fence.wide Tryz.prog 18 #[.pointer (some ⟨Bx,0,none⟩)] (fun xs=>xs.length=ts.length) (fun _=>True) (fun pre b x W=>∃ t,ts[pre.length]? = some t∧TkM W b x t) (fun W=>W.cell? ⟨Bx,0,none⟩=some (.string s)) u):=fun u Bx hu=>all_seq s r0 R' g0 l0 c0 L' C' ts u Bx (by omega) b1 b2 b3 b4 hC (HEN u hu) (hT.below hu)
 have HLG:Hid (∀ u:World,Calls Tryz.prog 5 #[.string s,.string s] u fun e w'=>e = .returned (.bool false)∧w'=u):=fun u=>by
  have h:=longO s u
  rw [decide_eq_false (by omega)] at h
  exact h
 have HNs:ts.length<262144:=by omega
 obtain ⟨N,eN⟩:∃ N,N=ts.length:=⟨_,rfl⟩
 have HN:Hid (ts.length=N):=eN.symm
 have hN:N<262144:=by omega
 clear hO hendD hend HEN b1 b2 b3 b4 hC hT hlen HNs eN hs
 have RB:=Rw.new 9 w #[.string s]
 have hb0:=bel_d0 w (.cells #[.string s] 9)
 refine (callsIn_wide (n:=5)).1 ?_
 refine callsIn_of_wp_marks Tryz.func3 rfl trivial ?_ rfl
 simp only [Tryz.ntmps3,List.size_toArray,List.length_cons,List.length_nil,Nat.reduceAdd,Nat.reduceSub,Array.replicate_succ,Array.replicate_zero,List.push_toArray,List.append_toArray,List.nil_append,List.cons_append]
 gi_wp2
 generalize w.alloc (.cells #[.string s] 9)=W0 at *
 refine ⟨trivial,?_⟩
 refine (callsIn_wide.2 (hA W0 hb0)).mono ?_
 clear hA
 rintro e w1 ⟨rfl,h1⟩
 have RB1:=RB.below h1
 have hb1:=bel_tr hb0 h1
 have y1:w1.cell? ⟨w.heap.size,0,none⟩=some (.string s):=RB1.cell 0
 clear RB h1 hb0
 gi_wp2
 refine ⟨trivial,?_⟩
 refine (callsIn_wide.2 (HLG.out _)).mono ?_
 rintro e u ⟨rfl,ez⟩
 subst u
 clear HLG
 gi_wp2
 refine ⟨trivial,?_⟩
 refine (callsIn_wide.2 (HSC.out w1)).mono ?_
 clear HSC
 rintro e w2 ⟨vw,lw,cw,cd,rfl,hD,h2⟩
 obtain ⟨aw,kw,rfl,hkw⟩:∃ a cap,vw = .slice a N cap∧N≤cap:=by
  obtain ⟨E,hE,_⟩:=hD
  rw [HN.out] at hE
  exact hE.form
 have HD:Hid (OutD w2 w1.heap.size (.slice aw ts.length kw) ts):=by rw [HN.out];exact hD
 have RB2:=RB1.below h2
 have hb2:=bel_tr hb1 h2
 have y2:w2.cell? ⟨w.heap.size,0,none⟩=some (.string s):=RB2.cell 0
 clear RB1 hb1 y1 hD h2
 gi_wp2
 refine ⟨trivial,?_⟩
 refine (all_in s _ _).mono ?_
 rintro e u ⟨rfl,ez⟩
 have hz3:=bel_d0 w2 (.cells #[.string s] 9)
 have RB3:=RB2.below hz3
 have hb3:=bel_tr hb2 hz3
 have HD3:Hid (Below w2.heap.size w2 u):=by rw [ez];exact hz3
 rw [← ez] at RB3 hb3
 have y3:u.cell? ⟨w.heap.size,0,none⟩=some (.string s):=RB3.cell 0
 clear RB2 hb2 y2 hz3 ez
 have hNz:¬ ((N:Int)+1)=0:=by omega
 have hNb:(((N:Int)+1) == 0)=false:=by simpa using hNz
 have hNw:IntKind.i64.wrap ((N:Int)+1)=(N:Int)+1:=by rw [IntKind.wrap_i64];omega
 by_cases hk:n<0
 case' pos =>
  obtain ⟨M,hM⟩:∃ M:Nat,(-(n+1)).tmod ((N:Int)+1)=(M:Int):=⟨((-(n+1)).tmod ((N:Int)+1)).toNat,by rw [Int.toNat_of_nonneg (Int.tmod_nonneg _ (by omega))]⟩
  have hMN:M≤N:=by have:=Int.tmod_lt_of_pos (-(n+1)) (show (0:Int)<(N:Int)+1 by omega);omega
  have hk1:IntKind.i64.wrap (n+1)=n+1:=by rw [IntKind.wrap_i64];omega
  have hk2:IntKind.i64.wrap (-(n+1)) = -(n+1):=by rw [IntKind.wrap_i64];omega
  have hk3:IntKind.i64.wrap (M:Int)=(M:Int):=by rw [IntKind.wrap_i64];omega
  have hfn:=fun (p:Value) (u:World)=>fnil p u
  gi_wp2
  clear hfn
 case' neg =>
  obtain ⟨M,hM⟩:∃ M:Nat,n.tmod ((N:Int)+1)=(M:Int):=⟨(n.tmod ((N:Int)+1)).toNat,by rw [Int.toNat_of_nonneg (Int.tmod_nonneg _ (by omega))]⟩
  have hMN:M≤N:=by have:=Int.tmod_lt_of_pos n (show (0:Int)<(N:Int)+1 by omega);omega
  have hk3:IntKind.i64.wrap (M:Int)=(M:Int):=by rw [IntKind.wrap_i64];omega
  have hfn:=fun (p:Value) (u:World)=>fnil p u
  gi_wp2
  clear hfn
 all_goals
  have HU:Hid (w.heap.size≤u.heap.size):=hb3.size
  refine ⟨trivial,?_⟩
  refine (callsIn_wide.2 (HSM.out u (-1) ts.length hb3 (.inr ⟨rfl,rfl⟩))).mono ?_
  rintro e w4 ⟨⟨v,rfl,o4⟩,h4⟩
  rw [List.take_length] at o4
  obtain ⟨aa,ka,rfl,hka⟩:∃ a cap,v = .slice a N cap∧N≤cap:=by
   obtain ⟨E,hE,_⟩:=o4
   rw [HN.out] at hE
   exact hE.form
  have HA4:Hid (OutP w4 u.heap.size (.slice aa N ka) ts∧u.heap.size≤w4.heap.size):=⟨o4,h4.size⟩
  have RB4:=RB3.below h4
  have hb4:=bel_tr hb3 h4
  have HD4:Hid (Below w2.heap.size w2 w4):=HD3.out.trans (h4.mono HD3.out.size)
  have y4:w4.cell? ⟨w.heap.size,0,none⟩=some (.string s):=RB4.cell 0
  clear RB3 hb3 y3 o4 h4 HD3
  gi_wp2
  refine ⟨trivial,?_⟩
  refine (callsIn_wide.2 (HSM.out w4 (M:Int) M hb4 (.inl ⟨rfl,by rw [HN.out];exact hMN⟩))).mono ?_
  rintro e w5 ⟨⟨v,rfl,o5⟩,h5⟩
  obtain ⟨ab,kb,rfl,hkb⟩:∃ a cap,v = .slice a M cap∧M≤cap:=by
   obtain ⟨E,hE,_⟩:=o5
   rw [List.length_take,HN.out,Nat.min_eq_left hMN] at hE
   exact hE.form
  have HB5:Hid (OutP w5 w4.heap.size (.slice ab M kb) (ts.take M)):=o5
  have RB5:=RB4.below h5
  have hb5:=bel_tr hb4 h5
  have HD5:Hid (Below w2.heap.size w2 w5):=HD4.out.trans (h5.mono HD4.out.size)
  have HA5:Hid (Below w4.heap.size w4 w5):=h5
  have y5:w5.cell? ⟨w.heap.size,0,none⟩=some (.string s):=RB5.cell 0
  clear RB4 hb4 y4 o5 h5 HD4
  gi_wp2
  refine ⟨trivial,?_⟩
  refine (callsIn_wide.2 (HSM.out w5 (-1) ts.length hb5 (.inr ⟨rfl,rfl⟩))).mono ?_
  rintro e w6 ⟨⟨v,rfl,o6⟩,h6⟩
  rw [List.take_length] at o6
  obtain ⟨ac,kc,rfl,hkc⟩:∃ a cap,v = .slice a N cap∧N≤cap:=by
   obtain ⟨E,hE,_⟩:=o6
   rw [HN.out] at hE
   exact hE.form
  have HC6:Hid (OutP w6 w5.heap.size (.slice ac N kc) ts∧w5.heap.size≤w6.heap.size):=⟨o6,h6.size⟩
  have RB6:=RB5.below h6
  have hb6:=bel_tr hb5 h6
  have HD6:Hid (Below w2.heap.size w2 w6):=HD5.out.trans (h6.mono HD5.out.size)
  have HA6:Hid (Below w4.heap.size w4 w6):=HA5.out.trans (h6.mono HA5.out.size)
  have HB6:Hid (Below w5.heap.size w5 w6):=h6
  have y6:w6.cell? ⟨w.heap.size,0,none⟩=some (.string s):=RB6.cell 0
  have HAs:Hid (w4.heap.size≤w5.heap.size):=HA5.out.size
  clear RB5 hb5 y5 o6 h6 HD5 HA5 HSM
  have RI7:=Rw.new 3 w6 #[.int .i64 0]
  have hz7:=bel_d0 w6 (.cells #[.int .i64 0] 3)
  have RI8:=Rw.new 3 (w6.alloc (.cells #[.int .i64 0] 3)) #[.int .i64 0]
  have hz8:=bel_d0 (w6.alloc (.cells #[.int .i64 0] 3)) (.cells #[.int .i64 0] 3)
  have y8:((w6.alloc (.cells #[.int .i64 0] 3)).alloc (.cells #[.int .i64 0] 3)).cell? ⟨w.heap.size,0,none⟩=some (.string s):=((RB6.below hz7).below hz8).cell 0
  gi_wp2
  refine ⟨trivial,?_⟩
  refine (all_in s _ _).mono ?_
  rintro e v9 ⟨rfl,ez⟩
  have hv8:((w6.alloc (.cells #[.int .i64 0] 3)).alloc (.cells #[.int .i64 0] 3)).heap.size=w6.heap.size+2:=by simp
  have hz9:=bel_d0 ((w6.alloc (.cells #[.int .i64 0] 3)).alloc (.cells #[.int .i64 0] 3)) (.cells #[.string s] 9)
  have RS9:=Rw.new 9 ((w6.alloc (.cells #[.int .i64 0] 3)).alloc (.cells #[.int .i64 0] 3)) #[.string s]
  rw [World.size_alloc] at RI8
  have BO:Boxed v9 w6.heap.size 3 (.int .i64 0):=by rw [ez];exact (RI7.below hz8).below hz9
  have BI:Boxed v9 (w6.heap.size+1) 3 (.int .i64 0):=by rw [ez];exact RI8.below hz9
  have RS:Rw 9 v9 (w6.heap.size+2) #[.string s]:=by rw [ez];rw [hv8] at RS9;exact RS9
  have hz69:Below w6.heap.size w6 v9:=by rw [ez];exact bel_tr (bel_tr hz7 hz8) hz9
  have hs9:v9.heap.size=w6.heap.size+3:=by rw [ez];simp
  have hb9:=bel_tr hb6 hz69
  have hbox:∀ W,Below v9.heap.size v9 W→W.cell? ⟨w6.heap.size+2,0,none⟩=some (.string s):=fun W hW=>(RS.below hW).cell 0
  rw [hv8]
  clear RI7 RI8 RS9 hz7 hz8 hz9 ez RS y8 y6 hv8
  gi_wp2
  refine range_outZ (gf:=18) (lb:=#[.pointer (some ⟨w6.heap.size+2,0,none⟩)]) rfl rfl rfl trivial (enters_of Tryz.func18 (by kernel_rfl) rfl) (HSQ.out w (w6.heap.size+2) (Below.refl _ _)) (fun pre b x B W W' t ⟨tk,h1,h2⟩=>⟨tk,h1,h2.ku (Ku.of_turns t (fun c=>by simp [isMineT,isPl,Obj.isCells]))⟩) hb9 hbox rfl
   (IoA w6 N) (IxA w6 N) (IoA.own (by omega)) (fun c=>IxA.own (by omega)) ⟨BO,by simpa using BI,Nat.zero_le _,hz69⟩ hb9.size ?_ ?_ ?_
  ·clear BO BI hz69
   rintro l m pre b x W ⟨r,hr⟩ hlw ⟨hOc,hIc,hle,hbW6⟩ hb2' hbW hbel ⟨t,hat,-⟩
   simp only at hOc hIc hle
   have hpt:pre.length<N:=by have:=(List.getElem?_eq_some_iff.1 hat).1;rw [HN.out] at this;exact this
   have o0:=hOc.cell
   have f0:=hOc.frozen
   have yW:W.cell? ⟨w.heap.size,0,none⟩=some (.string s):=(RB6.below hbW6).cell 0
   have hw6l:w.heap.size<w6.heap.size:=RB6.lt
   have hpw:IntKind.i64.wrap ((pre.length:Int)+1)=(pre.length:Int)+1:=by rw [IntKind.wrap_i64];omega
   have O1:Off w6.heap.size W (W.setCell ⟨w6.heap.size,0,none⟩ (.int .i64 ((pre.length:Int)+1))):=(Off.refl _ _).set 0 _
   have hOc1:Boxed (W.setCell ⟨w6.heap.size,0,none⟩ (.int .i64 ((pre.length:Int)+1))) w6.heap.size 3 (.int .i64 ((pre.length:Int)+1)):=hOc.set _
   have hIc1:Boxed (W.setCell ⟨w6.heap.size,0,none⟩ (.int .i64 ((pre.length:Int)+1))) (w6.heap.size+1) 3 (.int .i64 ((pre.length*N:Nat):Int)):=(O1.block _ (by omega)).trans hIc
   have y1W:=(O1.cell (p:=⟨w.heap.size,0,none⟩) (by show w.heap.size≠_;omega)).trans yW
   clear hat
   have hws0:=hb6.size
   gi_wp2
   refine ⟨trivial,fun h=>(by cases h),?_⟩
   generalize W.setCell ⟨w6.heap.size,0,none⟩ (.int .i64 ((pre.length:Int)+1))=Ws at *
   refine (show CallsIn (Fence.wide.inRound l) _ _ _ _ _ _ from all_in s _ _).mono ?_
   rintro e W1 ⟨rfl,ez⟩
   have hzi:=bel_d0 Ws (.cells #[.string s] 9)
   have RSi:=Rw.new 9 Ws #[.string s]
   rw [← ez] at hzi RSi
   have hOc2:Boxed W1 w6.heap.size 3 (.int .i64 ((pre.length:Int)+1)):=Rw.below hOc1 hzi
   have hIc2:Boxed W1 (w6.heap.size+1) 3 (.int .i64 ((pre.length*N:Nat):Int)):=Rw.below hIc1 hzi
   have hs1:Hid (Ws.heap.size=W.heap.size):=O1.size
   have hl1:W1.heap[l]? = some (.loop r):=(hzi.block l (by have:=(Array.getElem?_eq_some_iff.1 hr).1;have:=hs1.out;omega)).trans ((O1.block l (by omega)).trans hr)
   have hbel1:Below w.heap.size w W1:=(hbel.trans (O1.below (B:=w.heap.size) (by omega))).trans (hzi.mono (by have:=hbel.size;have:=hs1.out;omega))
   have hboxi:∀ V,Below W1.heap.size W1 V→V.cell? ⟨Ws.heap.size,0,none⟩=some (.string s):=fun V hV=>(RSi.below hV).cell 0
   have hW1s:Hid (W1.heap.size=Ws.heap.size+1):=by show _=_;rw [ez];simp
   have hgr:W1.grownBy W1 (some (w6.heap.size+1)):=⟨rfl,rfl,rfl,Nat.le_refl _,fun _ _ _=>rfl⟩
   have HCH:=fun W3 hg=>chain_ok (W3:=W3) (D:=v9.heap.size) (b:=b) (ic:=w6.heap.size+1) O1 hzi hg (by omega) (by omega) (by omega) hbel (by omega) (by omega)
   have hbW6b:Below w6.heap.size w6 Ws:=hbW6.trans (O1.below (Nat.le_refl _))
   have HB6W:Hid (∀ W3,W1.grownBy W3 (some (w6.heap.size+1))→Below w6.heap.size w6 W3):=fun W3 hg=>(hbW6b.trans (hzi.mono hbW6b.size)).trans (grown_below hg (by have:=hbW6b.size;have:=hW1s.out;omega) (fun k e=>by cases e;omega))
   have hicW:w6.heap.size+1<W1.heap.size:=by have:=hbW6b.size;have:=hW1s.out;have:=hs1.out;omega
   have hMul:pre.length*N≤N:=by rcases (show pre.length=0∨pre.length=1 by omega) with e|e <;> rw [e] <;> omega
   clear ez hr hOc hIc hbW6 hbW6b hOc1 hIc1 RSi o0 f0 yW y1W hpw O1
   gi_wp2
   refine range_inZ (gf:=18) (lb:=#[.pointer (some ⟨Ws.heap.size,0,none⟩)]) rfl hl1 rfl rfl trivial (enters_of Tryz.func18 (by kernel_rfl) rfl) (show SeqT (Fence.wide.inRound l) _ _ _ _ _ _ _ _ from HSQ.out w Ws.heap.size (Below.refl _ _)) (fun pre b x B W W' t ⟨tk,h1,h2⟩=>⟨tk,h1,h2.ku (Ku.of_turns t (fun c=>by simp [isMineT,isPl,Obj.isCells]))⟩) hbel1 hboxi rfl
    (JI W1 (w6.heap.size+1) (pre.length*N)) (fun _ _ _=>False) (JI.own hicW (Nat.le_refl _)) (fun _ _ _ _ h _=>h) ⟨hIc2,hgr⟩ hbel1.size ?_ ?_ (fun _ _ _ _ h=>h.elim)
   ·rintro l2 m2 pre2 b2 x2 V _ hl2 ⟨hI2,hg2⟩ hb2b hb2V hbelV ⟨t2,hat2,-⟩
    simp only at hI2
    have hpt2:pre2.length<N:=by have:=(List.getElem?_eq_some_iff.1 hat2).1;rw [HN.out] at this;exact this
    have o2:=hI2.cell
    have f2:=hI2.frozen
    have hcw:IntKind.i64.wrap (((pre.length*N+pre2.length:Nat):Int)+1)=((pre.length*N+pre2.length:Nat):Int)+1:=by rw [IntKind.wrap_i64];omega
    have O2:Off (w6.heap.size+1) V (V.setCell ⟨w6.heap.size+1,0,none⟩ (.int .i64 (((pre.length*N+pre2.length:Nat):Int)+1))):=(Off.refl _ _).set 0 _
    have HI3:Hid (Boxed (V.setCell ⟨w6.heap.size+1,0,none⟩ (.int .i64 (((pre.length*N+pre2.length:Nat):Int)+1))) (w6.heap.size+1) 3 (.int .i64 (((pre.length*N+pre2.length:Nat):Int)+1))):=hI2.set _
    obtain ⟨cc,ecc⟩:∃ cc:Nat,cc=pre.length*N+pre2.length:=⟨_,rfl⟩
    have HCC:Hid (cc=pre.length*N+pre2.length):=ecc
    rw [← ecc] at o2 hcw O2 HI3
    have HS:Hid (∀ A,LeftT W1.heap.size (W1.heap.size+1) b2 w.heap.size w (JI W1 (w6.heap.size+1) (pre.length*N)) (fun _ _ _=>False) (pre2++[x2]) V .normal A (V.setCell ⟨w6.heap.size+1,0,none⟩ (.int .i64 ((cc:Int)+1)))):=fun A=>by
     refine ⟨⟨by rw [O2.size];exact Nat.le_refl _,fun k o hk h _=>(O2.block k (by omega)).trans h⟩,KeptT.of_off O2 (.inl (by omega)) (by omega),hbelV.trans (O2.below (B:=w.heap.size) (by omega)),?_,⟨O2.os.trans hg2.os,O2.tape.trans hg2.tape,O2.output.trans hg2.output,by rw [O2.size];exact hg2.size,fun k hk hne=>(O2.block k (fun h=>hne (by rw [h]))).trans (hg2.block k hk hne)⟩⟩
     have e2:(((pre.length*N+(pre2++[x2]).length:Nat):Int))=(cc:Int)+1:=by have:=HCC.out;rw [List.length_append,List.length_singleton];omega
     show Boxed _ _ _ (.int .i64 ((pre.length*N+(pre2++[x2]).length:Nat):Int))
     rw [e2]
     exact HI3.out
    clear hat2 ecc hI2 O2 hg2 hbelV
    gi_wp2
    exact HS.out _
   ·rintro xs W3 hxs ⟨b3,hI3,hg3⟩ hbel3
    obtain ⟨hK1,hK2,hK3⟩:=HCH W3 hg3
    have hB6:=HB6W.out W3 hg3
    have hOc3:Boxed W3 w6.heap.size 3 (.int .i64 ((pre.length:Int)+1)):=(hg3.block w6.heap.size (by omega) (by simp)).trans hOc2
    have hIc3:Boxed W3 (w6.heap.size+1) 3 (.int .i64 (((pre.length+1)*N:Nat):Int)):=by
     have e:xs.length=N:=hxs.trans HN.out
     have h:Boxed W3 (w6.heap.size+1) 3 (.int .i64 ((pre.length*N+xs.length:Nat):Int)):=hI3
     rw [e,← Nat.succ_mul] at h
     exact h
    have o3:=hOc3.cell
    have hlx:(pre++[x]).length=pre.length+1:=by rw [List.length_append,List.length_singleton]
    rcases (show pre.length=0∨pre.length=1 by omega) with e0|e0
    ·rw [e0] at o3 hOc3 hIc3 hlx
     have HS:Hid (IoA w6 N (pre++[x],W3.heap.size) W3):=⟨by show Boxed _ _ _ (.int .i64 (((pre++[x]).length:Nat):Int));rw [hlx];exact hOc3,by show Boxed _ _ _ (.int .i64 (((pre++[x]).length*N:Nat):Int));rw [hlx];exact hIc3,by show (pre++[x]).length≤1;omega,hB6⟩
     clear hOc3 hIc3 hI3 hxs HB6W HCH
     gi_wp2
     exact ⟨hK1,hK2,hK3,HS.out⟩
    ·rw [e0] at o3 hOc3 hIc3 hlx
     have HS:Hid (IxA w6 N (Code.exit 0) (pre++[x]) W3):=⟨rfl,hlx,by omega,hOc3,hIc3,hB6⟩
     clear hOc3 hIc3 hI3 hxs HB6W HCH
     gi_wp2
     exact ⟨hK1,HS.out⟩
  case' refine_2 =>
   clear BO BI hz69
   rintro D xs W hwD hxs ⟨b3,⟨hOc,hIc,hle,hB6⟩⟩ hbel hK
   simp only at hOc hIc hle
   have e:xs.length=N:=hxs.trans HN.out
   rw [e] at hOc hIc hle
   rw [Int.natCast_mul] at hIc
   have hc2:¬ 2<N:=by omega
   have hc2i:¬ (2:Int)<(N:Int):=by omega
   have hmw:IntKind.i64.wrap ((N:Int)*(N:Int))=(N:Int)*(N:Int):=by rcases (show N=0∨N=1 by omega) with e|e <;> rw [e] <;> rfl
   have HOc:=toHid hOc
   have HIc:=toHid hIc
   clear hOc hIc hxs e hle hc2 hbel b3 xs
  case' refine_3 =>
   clear BO BI hz69
   rintro D c xs W hwD - ⟨rfl,hlx,hle,hOc,hIc,hB6⟩ hK
   have hOc0:Boxed W w6.heap.size 3 (.int .i64 2):=hOc
   rw [Int.natCast_mul] at hIc
   have hIc0:Boxed W (w6.heap.size+1) 3 (.int .i64 (2*(N:Int))):=hIc
   clear hOc hIc
   clear hlx xs
   by_cases hc2:2<N
   case' pos =>
    have hc2i:(2:Int)<(N:Int):=by omega
    have hmw:IntKind.i64.wrap (2*(N:Int))=2*(N:Int):=by rw [IntKind.wrap_i64];omega
    have HOc:=toHid hOc0
    have HIc:=toHid hIc0
    clear hOc0 hIc0 hc2 hle
   case' neg =>
    have e2:N=2:=by omega
    have e3:(N:Int)=2:=by omega
    have hc2i:¬ (2:Int)<(N:Int):=by omega
    have hmw:IntKind.i64.wrap ((N:Int)*(N:Int))=(N:Int)*(N:Int):=by rw [e3];rfl
    have hOc:Boxed W w6.heap.size 3 (.int .i64 (N:Int)):=by rw [e3];exact hOc0
    have hIc:Boxed W (w6.heap.size+1) 3 (.int .i64 ((N:Int)*(N:Int))):=by have h:=hIc0;rw [e3] at h ⊢;exact h
    have HOc:=toHid hOc
    have HIc:=toHid hIc
    clear hOc hIc hOc0 hIc0 e2 e3 hc2 hle
  all_goals
   have hsl:∀ V,(Instr.sliceAt 24 (.slice aw N kw) none (some (.int .i64 (M:Int))) none).run Tryz.prog V = .ok (.slice aw M kw) V:=fun V=>sl_h aw N kw M (by omega) V
   have HSL:Hid (∀ V,(Instr.sliceAt 24 (.slice aw N kw) none (some (.int .i64 (M:Int))) none).run Tryz.prog V = .ok (.slice aw M kw) V):=hsl
   clear hsl
   have HK:Hid (W.heap[D]? = some (.deferred (some []))):=hK
   have hDl:D<W.heap.size:=(Array.getElem?_eq_some_iff.1 hK).1
   have HB6b:Hid (Below w6.heap.size w6 W):=hB6
   clear hK hB6
   gi_wp2
   refine ⟨trivial,?_⟩
   refine (callsIn_wide.2 (same_two (w:=W) HA4.out.1 HD.out (List.take_of_length_le (by rw [HN.out];exact Nat.le_refl _)).symm (by rw [HN.out];exact Nat.le_refl _) (by rw [HN.out];omega) (HA6.out.trans (HB6b.out.mono HA6.out.size)) (HD6.out.trans (HB6b.out.mono HD6.out.size)))).mono ?_
   rintro e w7 ⟨rfl,h7⟩
   have HB7:Hid (Below w6.heap.size w6 w7):=bel_tr HB6b.out h7
   have H7:Hid (Below W.heap.size W w7):=h7
   have hsl:=HSL.out
   clear h7
   gi_wp2
   clear hsl
   refine ⟨trivial,?_⟩
   refine (callsIn_wide.2 (same_two (w:=w7) HB5.out HD.out rfl (by rw [HN.out];exact hMN) (by rw [HN.out];omega) (HB6.out.trans (HB7.out.mono HB6.out.size)) (HD6.out.trans (HB7.out.mono HD6.out.size)))).mono ?_
   rintro e w8 ⟨rfl,h8⟩
   have HB8:Hid (Below w6.heap.size w6 w8):=bel_tr HB7.out h8
   have H8:Hid (Below W.heap.size W w8):=bel_tr H7.out h8
   clear h8
   gi_wp2
   refine ⟨trivial,?_⟩
   refine (callsIn_wide.2 (same_two (w:=w8) HC6.out.1 HD.out (List.take_of_length_le (by rw [HN.out];exact Nat.le_refl _)).symm (by rw [HN.out];exact Nat.le_refl _) (by rw [HN.out];omega) HB8.out (HD6.out.trans (HB8.out.mono HD6.out.size)))).mono ?_
   rintro e w9 ⟨rfl,h9⟩
   have HB9:Hid (Below w6.heap.size w6 w9):=bel_tr HB8.out h9
   have h9W:=bel_tr H8.out h9
   have hOc9:=Rw.below HOc.out h9W
   have hIc9:=Rw.below HIc.out h9W
   have HK9:Hid (w9.heap[D]? = some (.deferred (some []))):=(h9W.block D hDl).trans HK.out
   have o9:=hOc9.cell
   have p9:=hIc9.cell
   clear h9 h9W hOc9 hIc9
   gi_wp2
   refine ⟨trivial,?_⟩
   refine (callsIn_wide.2 (own_two (w:=w9) HA4.out.1 HC6.out.1 HN.out (by omega) HAs.out HA4.out.2 HC6.out.2 (HA6.out.trans (HB9.out.mono HA6.out.size)) HB9.out)).mono ?_
   rintro e x0 ⟨rfl,h10⟩
   have hKe:=h10.oth.same D _ HK9.out rfl
   have hbe:Below w.heap.size w (x0.putObj D (.deferred none)):=(hb6.trans (HB9.out.mono hb6.size)).trans ((h10.bel.mono HU.out).trans (belowK_b (w:=w) (Nat.le_refl _) x0 D _ _ (by have:=hb6.size;omega) hKe rfl rfl))
   clear h10 o9 p9
   gi_wp2
   refine ⟨by simp,.inl ⟨_,_,rfl,run_takeDeferred hKe,?_⟩⟩
   exact ⟨_,results_tmp rfl _ _ _,rfl,hbe⟩
end Go.Proofs.YtgdilnljjgdinaaGreatDoor
