import Derived.Test.YtgdilnljjgdinaaGreatDoorRatAll
import Derived.Test.YtgdilnljjgdinaaGreatDoorNumAll
import Derived.Test.YtgdilnljjgdinaaGreatDoorTxtAll
namespace Go.Proofs.YtgdilnljjgdinaaGreatDoor
open Go.RowKit
def Rw (t:TypeId) (w:World) (R:Nat) (cs:Array Value):Prop:=w.heap[R]? = some (.cells cs t (0,0))
theorem Rw.lt {t:TypeId} {w:World} {R:Nat} {cs:Array Value} (h:Rw t w R cs):R<w.heap.size:=(Array.getElem?_eq_some_iff.1 h).1
theorem Rw.new (t:TypeId) (w:World) (cs:Array Value):Rw t (w.alloc (.cells cs t)) w.heap.size cs:=heap_alloc_new _ _
theorem Rw.below {t:TypeId} {w w':World} {R:Nat} {cs:Array Value} (h:Rw t w R cs) (hb:Below w.heap.size w w'):Rw t w' R cs:=(hb.block R h.lt).trans h
theorem Rw.off {t:TypeId} {w w':World} {R g:Nat} {cs:Array Value} (h:Rw t w R cs) (o:Off g w w') (hg:R≠g):Rw t w' R cs:=(o.block R hg).trans h
theorem Rw.alloc {t:TypeId} {w:World} {R:Nat} {cs:Array Value} (h:Rw t w R cs) (o:Obj):Rw t (w.alloc o) R cs:=h.below ((Below.refl _ _).alloc (Nat.le_refl _) _)
theorem Rw.cell {t:TypeId} {w:World} {R:Nat} {cs:Array Value} (h:Rw t w R cs) (j:Nat):w.cell? ⟨R,j,none⟩=cs[j]?:=cell_of_row w R j cs t _ h
theorem Rw.frozen {t:TypeId} {w:World} {R:Nat} {cs:Array Value} (h:Rw t w R cs) (j:Nat):w.frozen? ⟨R,j,none⟩=false:=frozen_of_row w R j cs t h
theorem Rw.row {t:TypeId} {w:World} {R:Nat} {cs:Array Value} (h:Rw t w R cs) (cs':Array Value):Rw t (w.setRow R cs') R cs'∧Off R w (w.setRow R cs') :=
 ⟨setRow_heap w R cs cs' t _ h,⟨rfl,rfl,rfl,by simp,fun k hk=>setRow_other w R k cs' hk⟩⟩
theorem Rw.put {t:TypeId} {w:World} {R:Nat} {old:Array Value} (h:Rw t w R old) (cs:Array Value) {ops:Array Oper} {rest:List Oper} {o:Oper} {a:Act} {Q:Exit→Act→World→Prop} (hgd:o.guard=none) (x y:Operand) (ho:o.op = .store t x y)
  (hx:a.eval x = .pointer (some ⟨R,0,none⟩)) (hy:a.eval y = .agg cs) (hi:(Tryz.prog.info? t).map (·.size)=some cs.size) (hold:old.size=cs.size) (h1:cs.all (·.oneCell')=true)
  (hK:∀ w',Rw t w' R cs→Off R w w'→wpList Tryz.prog ops Q rest (a.put o.dst undef) w'):wpList Tryz.prog ops Q (o::rest) a w :=
 wpList_store_row hgd t x y ho R cs hx hy t old h hi hold h1 (hK _ (h.row cs).1 (h.row cs).2)
theorem Rw.get {t:TypeId} {w:World} {R:Nat} {cs:Array Value} (h:Rw t w R cs) {ops:Array Oper} {rest:List Oper} {o:Oper} {a:Act} {Q:Exit→Act→World→Prop} (hgd:o.guard=none) (x:Operand) (ho:o.op = .load t x)
  (hx:a.eval x = .pointer (some ⟨R,0,none⟩)) {fs} (hu:Tryz.prog.underlying t=some (.struct fs)) (hi:(Tryz.prog.info? t).map (·.size)=some cs.size)
  (hK:wpList Tryz.prog ops Q rest (a.put o.dst (.agg cs)) w):wpList Tryz.prog ops Q (o::rest) a w :=
 wpList_load_row hgd t x ho R hx t cs _ (.struct fs) h hu rfl hi hK
theorem Rw.ret2 {fn:Func} {p q:Tmp} {ty:TypeId} (h:fn.results = #[.cell p ty,.tmp q]) (tmps:Array Value) {w:World} {g:Nat} {cs:Array Value} (hr:Rw ty w g cs)
  (hp:tmps.getD p undef = .pointer (some ⟨g,0,none⟩)) {fs} (hu:Tryz.prog.underlying ty=some (.struct fs)) (hi:(Tryz.prog.info? ty).map (·.size)=some cs.size) :
  (results fn tmps).run Tryz.prog w = .ok (.tuple #[.agg cs,tmps.getD q undef]) w:=by
 have hp':tmps[p]?.getD undef = .pointer (some ⟨g,0,none⟩):=by simpa using hp
 simp [results,h,hp',asAddr,run_loadVar_row w g ty ty cs _ (.struct fs) hr hu rfl hi]
theorem Rw.ret1 {fn:Func} {p:Tmp} {ty:TypeId} (h:fn.results = #[.cell p ty]) (tmps:Array Value) {w:World} {g:Nat} {cs:Array Value} (hr:Rw ty w g cs)
  (hp:tmps.getD p undef = .pointer (some ⟨g,0,none⟩)) {fs} (hu:Tryz.prog.underlying ty=some (.struct fs)) (hi:(Tryz.prog.info? ty).map (·.size)=some cs.size) :
  (results fn tmps).run Tryz.prog w = .ok (.agg cs) w:=results_cell_row h tmps w g ty cs _ (.struct fs) hp hr hu rfl hi
end Go.Proofs.YtgdilnljjgdinaaGreatDoor
namespace Go.Proofs.YtgdilnljjgdinaaGreatDoor
open Go.RowKit Go.Shelf
def tenS (n:Nat):ByteArray:=⟨(49::List.replicate n (48:UInt8)).toArray⟩
theorem repeatL_one (n:Nat):Lib.repeatL [(48:UInt8)] n=List.replicate n 48:=by
 induction n with
 | zero=>rfl
 | succ n ih=>show [48]++Lib.repeatL [48] n=_;rw [ih];rfl
theorem tenS_eq (n:Nat):(⟨#[49]⟩:ByteArray)++⟨(Lib.repeatL (⟨#[48]⟩:ByteArray).data.toList n).toArray⟩=tenS n:=by
 apply ByteArray.ext
 rw [ByteArray.data_append]
 show #[49]++(Lib.repeatL [(48:UInt8)] n).toArray=_
 rw [repeatL_one]
 simp [tenS]
theorem size_tenS (n:Nat):(tenS n).size=n+1:=by show (49::List.replicate n (48:UInt8)).length=n+1;simp
theorem byt_tenS (n i:Nat) (hi:i<n):byt (tenS n) (i+1)=48:=by
 unfold byt
 show ((List.getD (49::List.replicate n (48:UInt8)) (i+1) 0).toNat:Int)=48
 simp [List.getD,hi]
theorem byt_tenS0 (n:Nat):byt (tenS n) 0=49:=rfl
theorem digs_tenS (n:Nat):Digs (tenS n) (tenS n).size:=by
 rw [size_tenS]
 intro i hi
 cases i with
 | zero=>rw [byt_tenS0];omega
 | succ i=>rw [byt_tenS n i (by omega)];omega
theorem rdF_tenS (n k:Nat) (hk:k≤n):rdF (tenS n) 0 (k+1)=p10 k:=by
 induction k with
 | zero=>show 0*10+(byt (tenS n) (0+0)-48)=1;rw [Nat.zero_add,byt_tenS0];rfl
 | succ k ih =>
  show rdF (tenS n) 0 (k+1)*10+(byt (tenS n) (0+(k+1))-48)=p10 k*10
  rw [ih (by omega),Nat.zero_add,byt_tenS n k (by omega)];omega
theorem tenS_rd (n:Nat):rdF (tenS n) 0 (tenS n).size=p10 n:=by rw [size_tenS];exact rdF_tenS n n (Nat.le_refl _)
set_option maxRecDepth 100000 in
set_option maxHeartbeats 4000000 in
theorem repeat1 (s:ByteArray) (w:World):Calls Tryz.prog 151 #[.string s,.int .i64 1] w fun e w'=>e = .returned (.string s)∧Below w.heap.size w w':=by
 go_enter Tryz.func151,Tryz.ntmps151
 go_wp2
 go_ret
 exact ⟨rfl,Below.refl _ _⟩
theorem repeatZ (n:Nat) (w:World) (hn:n≤100000000):Calls Tryz.prog 151 #[.string ⟨#[48]⟩,.int .i64 n] w fun e w'=>e = .returned (.string ⟨(Lib.repeatL (⟨#[48]⟩:ByteArray).data.toList n).toArray⟩)∧Below w.heap.size w w':=by
 rcases (by omega:n=0∨n=1∨2≤n) with rfl|rfl|h
 ·exact repeat0 _ w
 ·exact repeat1 _ w
 ·exact repeatS ⟨#[48]⟩ n w h (by omega) (by show 1*n≤_;omega) (by decide)
set_option maxHeartbeats 4000000 in
theorem powT (n:Nat) (w:World) (hn:n≤50000000):Calls Tryz.prog 135 #[.int .i64 n] w fun e w'=>∃ f c m d,e = .returned (.agg #[.bool f,.slice c m d])∧GI w' w.heap.size (.agg #[.bool f,.slice c m d]) (p10 n) (n+1)∧Below w.heap.size w w':=by
 obtain ⟨R0,hb0,hsz⟩:=box1 w (.bool false) (.slice none 0 0) 42
 go_enter Tryz.func135,Tryz.ntmps135
 go_wp2_with fail
 generalize w.alloc (.cells #[.bool false,.slice none 0 0] 42)=W0 at *
 replace hsz:=Nat.le_of_eq hsz.symm
 refine (repeatZ n _ (by omega)).mono ?_
 have hzs:(⟨(Lib.repeatL (⟨#[48]⟩:ByteArray).data.toList n).toArray⟩:ByteArray).size≤50000000:=by
  show (Lib.repeatL [(48:UInt8)] n).length≤_
  rw [repeatL_one,List.length_replicate];omega
 have hze:=tenS_eq n
 generalize (⟨(Lib.repeatL (⟨#[48]⟩:ByteArray).data.toList n).toArray⟩:ByteArray)=z at *
 have HZE:Hid (⟨#[49]⟩++z=tenS n):=hze
 clear hze
 rintro e w1 ⟨rfl,hx⟩
 replace R0:=R0.below hx
 replace hb0:=bel_tr hb0 hx
 replace hsz:=Nat.le_trans hsz (Below.size hx)
 clear hx
 go_wp2_with fail
 rw [HZE.out]
 refine (parse_yes (tenS n) _ (by rw [size_tenS];omega) (digs_tenS n) (by rw [size_tenS];omega)).mono ?_
 rintro e w2 ⟨c,m,k,rfl,G,hx⟩
 rw [tenS_rd,size_tenS] at G
 replace G:=G.mono (B':=w.heap.size+1) hsz
 replace R0:=R0.below hx
 replace hb0:=bel_tr hb0 hx
 replace hsz:=Nat.le_trans hsz (Below.size hx)
 clear hx
 obtain ⟨r0,r1,r2,r3⟩:=id R0
 obtain ⟨V,O⟩:=R0.set (.bool false) (.slice c m k)
 have GF:=(G.gi0).off O (by omega)
 have hw:=hb0.trans (O.below (Nat.le_refl _))
 clear R0 O hb0 G
 go_wp2
 refine bodyPost_ret (v:=.agg #[.bool false,.slice c m k]) (by simp [results,Tryz.results135,go_sem,V.c0,V.c1]) rfl ⟨_,_,_,_,rfl,GF.mono (by omega),hw⟩
theorem powZ {z:Int} (n:Nat) (hz:z=n) (w:World) (hn:n≤50000000):Calls Tryz.prog 135 #[.int .i64 z] w fun e w'=>∃ f c m d,e = .returned (.agg #[.bool f,.slice c m d])∧GI w' w.heap.size (.agg #[.bool f,.slice c m d]) (p10 n) (n+1)∧Below w.heap.size w w':=by
 subst hz;exact powT n w hn
theorem parseX (ex:ByteArray) (v:Int) (S:Nat) (w:World) (hP:∀ w,Calls Tryz.prog 128 #[.string ex] w fun e w'=>∃ v',e = .returned (.tuple #[v',.nilIface])∧GI w' w.heap.size v' v S∧Below w.heap.size w w') (hS:S≤100000000) (h0:-9999≤v) (h1:v≤9999) :
  Calls Tryz.prog 133 #[.string ex] w fun e w'=>e = .returned (.tuple #[.int .i64 v,.nilIface])∧Below w.heap.size w w':=by
 go_enter Tryz.func133,Tryz.ntmps133
 go_wp2_with fail
 refine (hP _).mono ?_
 rintro e w1 ⟨v',rfl,G,hx⟩
 obtain ⟨f,c,n,k,rfl⟩:=G.form
 obtain ⟨e1,K⟩:=G.parts
 have e2:ws f (v.natAbs:Int)=v:=by
  rw [e1];unfold ws;split <;> rename_i h <;> simp at h <;> omega
 clear e1 G
 obtain ⟨V,hv,hsv⟩:=box1 w1 (.bool f) (.slice c n k) 42
 replace K:=K.below hv
 replace hx:=bel_tr hx hv
 clear hv hsv hP
 obtain ⟨v0,v1,v2,v3⟩:=id V
 go_wp2_with fail
 generalize w1.alloc (.cells #[.bool f,.slice c n k] 42)=w2 at *
 refine (int64I f _ K.num (by omega)).mono ?_
 rw [e2,show wordI v=v from if_pos (by omega),show fitI v=true from decide_eq_true (by omega)]
 rintro e w3 ⟨rfl,h3⟩
 have hw:=bel_tr hx h3
 clear V v0 v1 v2 v3 K h3 hx e2
 go_wp2
 go_ret2
 exact ⟨rfl,hw⟩
theorem parseXE (ex:ByteArray) (v:Int) (S:Nat) (w:World) {ev:Value} (E:Errs w 12 ev) (hP:∀ w,Calls Tryz.prog 128 #[.string ex] w fun e w'=>∃ v',e = .returned (.tuple #[v',.nilIface])∧GI w' w.heap.size v' v S∧Below w.heap.size w w') (hS:S≤100000000) (h1:9999<v) :
  Calls Tryz.prog 133 #[.string ex] w fun e w'=>e = .returned (.tuple #[.int .i64 0,ev])∧Below w.heap.size w w':=by
 go_enter Tryz.func133,Tryz.ntmps133
 go_wp2_with fail
 refine (hP _).mono ?_
 rintro e w1 ⟨v',rfl,G,hx⟩
 obtain ⟨f,c,n,k,rfl⟩:=G.form
 obtain ⟨e1,K⟩:=G.parts
 have e2:ws f (v.natAbs:Int)=v:=by
  rw [e1];unfold ws;split <;> rename_i h <;> simp at h <;> omega
 clear e1 G
 obtain ⟨V,hv,hsv⟩:=box1 w1 (.bool f) (.slice c n k) 42
 replace K:=K.below hv
 replace hx:=bel_tr hx hv
 clear hv hsv hP
 obtain ⟨v0,v1,v2,v3⟩:=id V
 go_wp2_with fail
 generalize w1.alloc (.cells #[.bool f,.slice c n k] 42)=w2 at *
 refine (int64I f _ K.num (by omega)).mono ?_
 rw [e2]
 rintro e w3 ⟨rfl,h3⟩
 have hw:=bel_tr hx h3
 replace E:=E.below hw
 obtain ⟨E1,p,rfl⟩:=id E
 clear V v0 v1 v2 v3 K h3 hx e2
 by_cases hf:v<9223372036854775808
 ·rw [show wordI v=v from if_pos (by omega),show fitI v=true from decide_eq_true (by omega)]
  have hnf:¬ v≤9999:=by omega
  go_wp2
  go_quiet (fail)
  go_wp2
  go_ret2
  exact ⟨rfl,belN hw nq⟩
 ·rw [show wordI v=0 from if_neg (by omega),show fitI v=false from decide_eq_false (by omega)]
  go_wp2
  go_quiet (fail)
  go_wp2
  go_ret2
  exact ⟨rfl,belN hw nq⟩
end Go.Proofs.YtgdilnljjgdinaaGreatDoor
namespace Go.Proofs.YtgdilnljjgdinaaGreatDoor
open Go.RowKit Go.Shelf
theorem sizeL (a:ByteArray):a.data.toList.length=a.size:=by simp
def Asc (s:ByteArray):Prop:=∀ b ∈ s.data.toList,b.toNat<128
theorem Asc.at {s:ByteArray} (h:Asc s):∀ (j:Nat) (b:UInt8),s.data.toList[j]? = some b→b.toNat<128:=fun _ b hb=>h b (List.mem_of_getElem? hb)
theorem cutsP_none (s:ByteArray) (h:(46:UInt8) ∉ s.data.toList) (w:World) :
  Calls Tryz.prog 49 #[.string s,.string ⟨#[46]⟩] w fun e w'=>∃ t,e = .returned (.tuple #[.string s,.string ⟨#[]⟩,.bool t])∧Below w.heap.size w w' :=
 (cutN46 s w h).mono fun _ _ ⟨h1,h2⟩=>⟨false,h1,h2⟩
theorem noSign (be:ByteArray) (hs:be.size≤100000000) (ha:Asc be) (h:∀ b ∈ be.data.toList,b ∉ ([43,45]:List UInt8)) (w:World) :
  Calls Tryz.prog 132 #[.string be,.string ⟨#[43,45]⟩] w fun e w'=>e = .returned (.bool false)∧Below w.heap.size w w':=by
 have hn:Lib.containsAny be.data.toList (⟨#[43,45]⟩:ByteArray).data.toList=false:=by
  unfold Lib.containsAny;rw [ixa_none h];rfl
 have:=canyS be ⟨#[43,45]⟩ w (by omega) (by decide) ha.at (asc_of (by decide))
 rw [hn] at this
 exact this
end Go.Proofs.YtgdilnljjgdinaaGreatDoor
namespace Go.Proofs.YtgdilnljjgdinaaGreatDoor
open Go.RowKit Go.Shelf
def CutsE (s dg ex:ByteArray):Prop:=∀ w,Calls Tryz.prog 131 #[.string s] w fun e w'=>e = .returned (.tuple #[.string dg,.string ex])∧Below w.heap.size w w'
def CutsP (dg ah be:ByteArray):Prop:=∀ w,Calls Tryz.prog 49 #[.string dg,.string ⟨#[46]⟩] w fun e w'=>∃ b,e = .returned (.tuple #[.string ah,.string be,.bool b])∧Below w.heap.size w w'
def NoSign (be:ByteArray):Prop:=∀ w,Calls Tryz.prog 132 #[.string be,.string ⟨#[43,45]⟩] w fun e w'=>e = .returned (.bool false)∧Below w.heap.size w w'
def ParsesI (s:ByteArray) (x:Int) (S:Nat):Prop:=∀ w,Calls Tryz.prog 128 #[.string s] w fun e w'=>∃ v',e = .returned (.tuple #[v',.nilIface])∧GI w' w.heap.size v' x S∧Below w.heap.size w w'
def ParsesX (ex:ByteArray) (t:Int):Prop:=∀ w,Calls Tryz.prog 133 #[.string ex] w fun e w'=>e = .returned (.tuple #[.int .i64 t,.nilIface])∧Below w.heap.size w w'
set_option maxRecDepth 100000 in
set_option maxHeartbeats 4000000 in
theorem decUp {s dg ex ah be:ByteArray} {x t:Int} {S k:Nat} (w:World) (hE:CutsE s dg ex) (hC:CutsP dg ah be) (hN:NoSign be) (hP:ParsesI (ah++be) x S) (hX:ParsesX ex t) (hk:t-be.size=k) (hah:ah.size≤2000000) (hb9:be.size≤2000000) (h9:t≤9999) (hS:S≤2000000) (hT:TB w) :
  Calls Tryz.prog 121 #[.string s] w fun e w'=>∃ f c n k2 c' n' k',e = .returned (.tuple #[.agg #[.bool f,.slice c n k2,.slice c' n' k'],.nilIface])∧GR w' w.heap.size f c n k2 c' n' k' (Rat.divInt (x*p10 k) 1) (S+(k+1))∧Below w.heap.size w w':=by
 have R0:=var3_new w (.bool false) (.slice none 0 0) (.slice none 0 0) 44
 have hb0:=bel_d0 w (.cells #[.bool false,.slice none 0 0,.slice none 0 0] 44)
 have hsz:w.heap.size+1≤(w.alloc (.cells #[.bool false,.slice none 0 0,.slice none 0 0] 44)).heap.size:=by simp
 replace hT:=hT.below hb0
 go_enter Tryz.func121,Tryz.ntmps121
 go_wp2_with fail
 generalize w.alloc (.cells #[.bool false,.slice none 0 0,.slice none 0 0] 44)=W0 at *
 refine (hE _).mono ?_
 rintro e w1 ⟨rfl,hx⟩
 replace hT:=hT.below hx
 replace R0:=R0.below hx
 replace hb0:=bel_tr hb0 hx
 replace hsz:=Nat.le_trans hsz (Below.size hx)
 clear hx hE
 go_wp2_with fail
 refine (hC _).mono ?_
 rintro e w2 ⟨b,rfl,hx⟩
 replace hT:=hT.below hx
 replace R0:=R0.below hx
 replace hb0:=bel_tr hb0 hx
 replace hsz:=Nat.le_trans hsz (Below.size hx)
 clear hx hC
 go_wp2_with fail
 refine (hN _).mono ?_
 rintro e w3 ⟨rfl,hx⟩
 replace hT:=hT.below hx
 replace R0:=R0.below hx
 replace hb0:=bel_tr hb0 hx
 replace hsz:=Nat.le_trans hsz (Below.size hx)
 clear hx hN
 go_wp2_with fail
 refine (hP _).mono ?_
 rintro e w4 ⟨v4,rfl,K0,hx⟩
 obtain ⟨f1,c1,n1,k1,rfl⟩:=K0.form
 replace K0:=K0.mono (B':=w.heap.size+1) hsz
 replace hT:=hT.below hx
 replace R0:=R0.below hx
 replace hb0:=bel_tr hb0 hx
 replace hsz:=Nat.le_trans hsz (Below.size hx)
 clear hx hP
 have hszN:=hsz
 have hx:=bel_d0 w4 (.cells #[.bool f1,.slice c1 n1 k1] 42)
 replace hT:=hT.below hx
 replace K0:=K0.below hx
 replace R0:=R0.below hx
 replace hb0:=bel_tr hb0 hx
 replace hsz:=Nat.le_trans hsz (Below.size hx)
 have Vn:=var2_new w4 (.bool f1) (.slice c1 n1 k1) 42
 clear hx
 go_wp2_with fail
 generalize w4.alloc (.cells #[.bool f1,.slice c1 n1 k1] 42)=w5 at *
 refine (hX _).mono ?_
 rintro e w6 ⟨rfl,hx⟩
 replace hT:=hT.below hx
 replace K0:=K0.below hx
 replace R0:=R0.below hx
 replace Vn:=Vn.below hx
 replace hb0:=bel_tr hb0 hx
 replace hsz:=Nat.le_trans hsz (Below.size hx)
 clear hx hX
 obtain ⟨vnc0,vnc1,vnc2,vnc3⟩:=id Vn
 have ht0:(k:Int)=t-be.size:=hk.symm
 have ht1:¬ (k:Int)<0:=by omega
 have hkb:k≤9999:=by omega
 obtain rfl:t=k+be.size:=by omega
 have hww:IntKind.i64.wrap ((k:Int)+(be.size:Int)-(be.size:Int))=(k:Int):=by rw [IntKind.wrap_i64];omega
 have hsb:(k:Int)+(be.size:Int)-(be.size:Int)=(k:Int):=by omega
 clear ht0 hk h9
 go_wp2_with fail
 clear vnc0 vnc1 vnc2 vnc3
 obtain ⟨vnc0,vnc1,vnc2,vnc3⟩:=id Vn
 go_region_held3 (fun w'=>w'.cell? ⟨w4.heap.size,0,none⟩=some (.bool f1)∧w'.cell? ⟨w4.heap.size,1,none⟩=some (.slice c1 n1 k1))
   (refine ⟨?_,?_⟩ <;> first|with_reducible exact kept_c hc4 (by assumption)|with_reducible exact kept_c hc3 (by assumption)|with_reducible exact kept_c hc2 (by assumption)|with_reducible exact kept_c hc1 (by assumption)|with_reducible exact kept_c (bel_d1 _) (by assumption)|with_reducible exact set3_far (kept_c hc4 (by assumption)) (by simp <;> omega))
   ((first
    | (go_at_call 135;go_fit (powT k _ (by omega));rintro e v7_1 ⟨g1,u1,m1,l1,rfl,K1,hb1⟩;have hd1:Below w6.heap.size w6 v7_1:=(by first|exact hb1|exact bel_tr (bel_d1 w6) hb1);have hc1:=hd1)
    | (go_at_call 136;go_fit (mulT _ (K0.ti.below hc1) K1.ti (by omega) (by omega));rintro e v7_2 ⟨g2,u2,m2,l2,rfl,K2,hb2⟩;have hd2:Below v7_1.heap.size v7_1 v7_2:=(by first|exact hb2|exact bel_tr (bel_d1 v7_1) hb2);have hc2:=bel_tr hc1 hd2)
    | (go_at_call 137;go_fit (ofT 1 _ (by omega) (by omega));rintro e v7_3 ⟨g3,u3,m3,l3,rfl,K3,hb3⟩;have hd3:Below v7_2.heap.size v7_2 v7_3:=(by first|exact hb3|exact bel_tr (bel_d1 v7_2) hb3);have hc3:=bel_tr hc2 hd3)
    | (go_at_call 134;go_fit (lowestR _ (K2.below hd3).ti (K3.ti.le (by omega)) (by decide) (by omega) (hT.below hc3));rintro e v7_4 ⟨g5,u5,m5,l5,u6,m6,l6,rfl,GG,hb4⟩;have hd4:Below v7_3.heap.size v7_3 v7_4:=(by first|exact hb4|exact bel_tr (bel_d1 v7_3) hb4);have hc4:=bel_tr hc3 hd4;have RZ:=R0.below hc4;obtain ⟨z0,z1,z2,z3,z4,z5⟩:=id RZ)))
 replace hb0:=bel_tr hb0 hc4
 have hs4:=Below.size hc4
 have hs3v:=Below.size hc3
 clear hb1 hb2 hb3 hb4 hc1 hc2 hc3 hc4 hd1 hd2 hd3 hd4 K0 K1 K2 K3 R0 hT vnc0 vnc1 vnc2 vnc3 Vn z0 z1 z2 z3 z4 z5
 obtain ⟨V,O⟩:=RZ.set (.bool g5) (.slice u5 m5 l5) (.slice u6 m6 l6)
 have GF:=(GG.mono (B':=w.heap.size+1) (by omega)).off O (by omega)
 have hw:=hb0.trans (O.below (by omega))
 clear RZ O GG hb0
 go_wp2
 refine bodyPost_ret (v:=.tuple #[.agg #[.bool g5,.slice u5 m5 l5,.slice u6 m6 l6],.nilIface]) (by simp [results,Tryz.results121,go_sem,V.c0,V.c1,V.c2]) rfl ⟨_,_,_,_,_,_,_,rfl,GF.mono (by omega),hw⟩
set_option maxRecDepth 100000 in
set_option maxHeartbeats 4000000 in
theorem decDn {s dg ex ah be:ByteArray} {x t:Int} {S k:Nat} (w:World) (hE:CutsE s dg ex) (hC:CutsP dg ah be) (hN:NoSign be) (hP:ParsesI (ah++be) x S) (hX:ParsesX ex t) (hk:t-be.size = -(k:Int)) (hk1:1≤k) (hah:ah.size≤2000000) (hb9:be.size≤2000000) (h9:-9999≤t) (hS:S≤2000000) (hT:TB w) :
  Calls Tryz.prog 121 #[.string s] w fun e w'=>∃ f c n k2 c' n' k',e = .returned (.tuple #[.agg #[.bool f,.slice c n k2,.slice c' n' k'],.nilIface])∧GR w' w.heap.size f c n k2 c' n' k' (Rat.divInt x (p10 k)) (S+(k+1))∧Below w.heap.size w w':=by
 have R0:=var3_new w (.bool false) (.slice none 0 0) (.slice none 0 0) 44
 have hb0:=bel_d0 w (.cells #[.bool false,.slice none 0 0,.slice none 0 0] 44)
 have hsz:w.heap.size+1≤(w.alloc (.cells #[.bool false,.slice none 0 0,.slice none 0 0] 44)).heap.size:=by simp
 replace hT:=hT.below hb0
 go_enter Tryz.func121,Tryz.ntmps121
 go_wp2_with fail
 generalize w.alloc (.cells #[.bool false,.slice none 0 0,.slice none 0 0] 44)=W0 at *
 refine (hE _).mono ?_
 rintro e w1 ⟨rfl,hx⟩
 replace hT:=hT.below hx
 replace R0:=R0.below hx
 replace hb0:=bel_tr hb0 hx
 replace hsz:=Nat.le_trans hsz (Below.size hx)
 clear hx hE
 go_wp2_with fail
 refine (hC _).mono ?_
 rintro e w2 ⟨b,rfl,hx⟩
 replace hT:=hT.below hx
 replace R0:=R0.below hx
 replace hb0:=bel_tr hb0 hx
 replace hsz:=Nat.le_trans hsz (Below.size hx)
 clear hx hC
 go_wp2_with fail
 refine (hN _).mono ?_
 rintro e w3 ⟨rfl,hx⟩
 replace hT:=hT.below hx
 replace R0:=R0.below hx
 replace hb0:=bel_tr hb0 hx
 replace hsz:=Nat.le_trans hsz (Below.size hx)
 clear hx hN
 go_wp2_with fail
 refine (hP _).mono ?_
 rintro e w4 ⟨v4,rfl,K0,hx⟩
 obtain ⟨f1,c1,n1,k1,rfl⟩:=K0.form
 replace K0:=K0.mono (B':=w.heap.size+1) hsz
 replace hT:=hT.below hx
 replace R0:=R0.below hx
 replace hb0:=bel_tr hb0 hx
 replace hsz:=Nat.le_trans hsz (Below.size hx)
 clear hx hP
 have hszN:=hsz
 have hx:=bel_d0 w4 (.cells #[.bool f1,.slice c1 n1 k1] 42)
 replace hT:=hT.below hx
 replace K0:=K0.below hx
 replace R0:=R0.below hx
 replace hb0:=bel_tr hb0 hx
 replace hsz:=Nat.le_trans hsz (Below.size hx)
 have Vn:=var2_new w4 (.bool f1) (.slice c1 n1 k1) 42
 clear hx
 go_wp2_with fail
 generalize w4.alloc (.cells #[.bool f1,.slice c1 n1 k1] 42)=w5 at *
 refine (hX _).mono ?_
 rintro e w6 ⟨rfl,hx⟩
 replace hT:=hT.below hx
 replace K0:=K0.below hx
 replace R0:=R0.below hx
 replace Vn:=Vn.below hx
 replace hb0:=bel_tr hb0 hx
 replace hsz:=Nat.le_trans hsz (Below.size hx)
 clear hx hX
 obtain ⟨vnc0,vnc1,vnc2,vnc3⟩:=id Vn
 have ht1:-(k:Int)<0:=by omega
 have hkb:k≤3000000:=by omega
 obtain rfl:t=be.size-k:=by omega
 have hww:IntKind.i64.wrap ((be.size:Int)-(k:Int)-(be.size:Int)) = -(k:Int):=by rw [IntKind.wrap_i64];omega
 have hsb:(be.size:Int)-(k:Int)-(be.size:Int) = -(k:Int):=by omega
 have hwn:IntKind.i64.wrap (- -(k:Int))=(k:Int):=by rw [IntKind.wrap_i64];omega
 clear hk h9
 go_wp2_with fail
 clear vnc0 vnc1 vnc2 vnc3
 obtain ⟨vnc0,vnc1,vnc2,vnc3⟩:=id Vn
 go_region_held3 (fun w'=>w'.cell? ⟨w4.heap.size,0,none⟩=some (.bool f1)∧w'.cell? ⟨w4.heap.size,1,none⟩=some (.slice c1 n1 k1))
   (refine ⟨?_,?_⟩ <;> first|with_reducible exact kept_c hc2 (by assumption)|with_reducible exact kept_c hc1 (by assumption)|with_reducible exact kept_c (bel_d1 _) (by assumption)|with_reducible exact set3_far (kept_c hc2 (by assumption)) (by simp <;> omega))
   ((first
    | (go_at_call 135;go_fit (powZ k (by first|rfl|omega|(rw [IntKind.wrap_i64];omega)) _ (by omega));rintro e v7_1 ⟨g1,u1,m1,l1,rfl,K1,hb1⟩;have hd1:Below w6.heap.size w6 v7_1:=(by first|exact hb1|exact bel_tr (bel_d1 w6) hb1);have hc1:=hd1)
    | (go_at_call 134;go_fit (lowestR (S:=S+(k+1)) _ ((K0.below hc1).ti.le (by omega)) (K1.ti.le (by omega)) (Int.ne_of_gt (p10_pos k)) (by omega) (hT.below hc1));rintro e v7_2 ⟨g5,u5,m5,l5,u6,m6,l6,rfl,GG,hb2⟩;have hd2:Below v7_1.heap.size v7_1 v7_2:=(by first|exact hb2|exact bel_tr (bel_d1 v7_1) hb2);have hc2:=bel_tr hc1 hd2;have RZ:=R0.below hc2;obtain ⟨z0,z1,z2,z3,z4,z5⟩:=id RZ)))
 replace hb0:=bel_tr hb0 hc2
 have hs2:=Below.size hc2
 have hs1v:=Below.size hc1
 clear hb1 hb2 hc1 hc2 hd1 hd2 K1 K0 R0 hT
 clear vnc0 vnc1 vnc2 vnc3
 clear Vn z0 z1 z2 z3 z4 z5
 obtain ⟨V,O⟩:=RZ.set (.bool g5) (.slice u5 m5 l5) (.slice u6 m6 l6)
 have GF:=(GG.mono (B':=w.heap.size+1) (by omega)).off O (by omega)
 have hw:=hb0.trans (O.below (by omega))
 clear RZ O GG hb0
 go_wp2
 refine bodyPost_ret (v:=.tuple #[.agg #[.bool g5,.slice u5 m5 l5,.slice u6 m6 l6],.nilIface]) (by simp [results,Tryz.results121,go_sem,V.c0,V.c1,V.c2]) rfl ⟨_,_,_,_,_,_,_,rfl,GF.mono (by omega),hw⟩
def Parses (s:ByteArray) (r:Rat) (S:Nat) (w:World):Prop:=Calls Tryz.prog 101 #[.string s] w fun e w'=>∃ f c n k c' n' k',e = .returned (.tuple #[.agg #[.bool f,.slice c n k,.slice c' n' k'],.nilIface])∧GR w' w.heap.size f c n k c' n' k' r S∧Below w.heap.size w w'
set_option maxHeartbeats 4000000 in
theorem parseD {s:ByteArray} {r:Rat} {S:Nat} (w:World) (hno:(47:UInt8) ∉ s.data.toList) (hD:∀ w,TB w→Calls Tryz.prog 121 #[.string s] w fun e w'=>∃ f c n k2 c' n' k',e = .returned (.tuple #[.agg #[.bool f,.slice c n k2,.slice c' n' k'],.nilIface])∧GR w' w.heap.size f c n k2 c' n' k' r S∧Below w.heap.size w w') (hT:TB w):Parses s r S w:=by
 unfold Parses
 have R0:=var3_new w (.bool false) (.slice none 0 0) (.slice none 0 0) 44
 have hb0:=bel_d0 w (.cells #[.bool false,.slice none 0 0,.slice none 0 0] 44)
 have hsz:w.heap.size+1≤(w.alloc (.cells #[.bool false,.slice none 0 0,.slice none 0 0] 44)).heap.size:=by simp
 replace hT:=hT.below hb0
 go_enter Tryz.func101,Tryz.ntmps101
 go_wp2_with fail
 generalize w.alloc (.cells #[.bool false,.slice none 0 0,.slice none 0 0] 44)=W0 at *
 refine (cutN47 _ _ hno).mono ?_
 rintro e w1 ⟨rfl,hx⟩
 replace hT:=hT.below hx
 replace R0:=R0.below hx
 replace hb0:=bel_tr hb0 hx
 replace hsz:=Nat.le_trans hsz (Below.size hx)
 clear hx
 clear hno
 go_wp2_with fail
 refine (hD _ hT).mono ?_
 rintro e w2 ⟨f5,c5,n5,k5,d5,m5,l5,rfl,G5,hx⟩
 replace G5:=G5.mono (B':=w.heap.size+1) hsz
 replace hT:=hT.below hx
 replace R0:=R0.below hx
 replace hb0:=bel_tr hb0 hx
 replace hsz:=Nat.le_trans hsz (Below.size hx)
 clear hx hD
 clear hT
 obtain ⟨r0c0,r0c1,r0c2,r0c3,r0c4,r0c5⟩:=id R0
 obtain ⟨V,OO⟩:=R0.set (.bool f5) (.slice c5 n5 k5) (.slice d5 m5 l5)
 have hw:=hb0.trans (OO.below (B:=w.heap.size) (by omega))
 have GF:=G5.off OO (by omega)
 clear G5
 clear R0 OO hb0
 go_wp2
 refine bodyPost_ret (v:=.tuple #[.agg #[.bool f5,.slice c5 n5 k5,.slice d5 m5 l5],.nilIface]) (by simp [results,Tryz.results101,go_sem,V.c0,V.c1,V.c2]) rfl ⟨_,_,_,_,_,_,_,rfl,GF.mono (by omega),hw⟩
def litV (x t:Int) (n:Nat):Rat:=Rat.divInt (x*p10 (t-n).toNat) (p10 (n-t).toNat)
theorem litG {s dg ex ah be:ByteArray} {x t:Int} {S:Nat} (w:World) (hT:TB w) (hno:(47:UInt8) ∉ s.data.toList) (hE:CutsE s dg ex) (hC:CutsP dg ah be) (hN:NoSign be) (hP:ParsesI (ah++be) x S) (hX:ParsesX ex t) (h8:-9999≤t) (h9:t≤9999) (hah:ah.size≤1100000) (hb9:be.size≤1100000) (hS:S≤1100000) :
  Parses s (litV x t be.size) (S+be.size+10001) w:=by
 refine parseD w hno (fun w hT=>?_) hT
 by_cases h:0≤t-be.size
 ·obtain ⟨k,hk⟩:∃ k:Nat,t-be.size=k:=⟨(t-be.size).toNat,by omega⟩
  refine (decUp w hE hC hN hP hX hk (by omega) (by omega) h9 (by omega) hT).mono ?_
  rintro e w' ⟨f,c,n,k2,c',n',k',rfl,G,hb⟩
  refine ⟨f,c,n,k2,c',n',k',rfl,(G.val ?_).le (by omega),hb⟩
  unfold litV
  rw [show (t-be.size).toNat=k by omega,show ((be.size:Int)-t).toNat=0 by omega]
  rfl
 ·obtain ⟨k,hk⟩:∃ k:Nat,t-be.size = -(k:Int):=⟨(be.size-t).toNat,by omega⟩
  refine (decDn w hE hC hN hP hX hk (by omega) (by omega) (by omega) h8 (by omega) hT).mono ?_
  rintro e w' ⟨f,c,n,k2,c',n',k',rfl,G,hb⟩
  refine ⟨f,c,n,k2,c',n',k',rfl,(G.val ?_).le (by omega),hb⟩
  unfold litV
  rw [show (t-be.size).toNat=0 by omega,show ((be.size:Int)-t).toNat=k by omega,show p10 0=1 by rfl,Int.mul_one]
end Go.Proofs.YtgdilnljjgdinaaGreatDoor
namespace Go.Proofs.YtgdilnljjgdinaaGreatDoor
open Go.RowKit Go.Shelf
end Go.Proofs.YtgdilnljjgdinaaGreatDoor
namespace Go.Proofs.YtgdilnljjgdinaaGreatDoor
open Go.RowKit
end Go.Proofs.YtgdilnljjgdinaaGreatDoor
