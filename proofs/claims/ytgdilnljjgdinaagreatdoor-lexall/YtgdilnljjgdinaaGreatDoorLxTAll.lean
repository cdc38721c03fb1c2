import Derived.Shelf.Strconv.Clone
import Derived.Test.YtgdilnljjgdinaaGreatDoorRatAll
import Derived.Test.YtgdilnljjgdinaaGreatDoorLxNAll
import Derived.Test.YtgdilnljjgdinaaGreatDoorR3LiAll
import Derived.Test.YtgdilnljjgdinaaGreatDoorDigAll
namespace Go.Proofs.YtgdilnljjgdinaaGreatDoor
open Go.RowKit Go.Shelf
def cloneRen:Ren:=⟨fun|316=>72|n=>n,fun|5=>5|9=>9|3=>3|4=>4|37=>147|127=>153|n=>n,fun n=>n⟩
theorem lays316:LaysM.n316 Tryz.prog cloneRen:={
 mixed:=by kernel_rfl
 f316:=Tryz.func72.trans (congrArg some (by kernel_rfl))
 t0:=Tryz.underlying0
 a0:=Tryz.isAgg0
 z0:=Tryz.sizeOf0
 v0:=Tryz.zeroValue0
 t3:=Tryz.underlying3
 a3:=Tryz.isAgg3
 z3:=Tryz.sizeOf3
 v3:=Tryz.zeroValue3
 t4:=Tryz.underlying4
 a4:=Tryz.isAgg4
 z4:=Tryz.sizeOf4
 v4:=Tryz.zeroValue4
 t5:=Tryz.underlying5
 a5:=Tryz.isAgg5
 z5:=Tryz.sizeOf5
 v5:=Tryz.zeroValue5
 t9:=Tryz.underlying9
 a9:=Tryz.isAgg9
 z9:=Tryz.sizeOf9
 v9:=Tryz.zeroValue9
 t37:=Tryz.underlying147
 a37:=Tryz.isAgg147
 z37:=Tryz.sizeOf147
 v37:=Tryz.zeroValue147
 t127:=Tryz.underlying153
 a127:=Tryz.isAgg153
 z127:=Tryz.sizeOf153
 v127:=Tryz.zeroValue153
 i0:=by kernel_rfl
 i3:=by kernel_rfl
 i4:=by kernel_rfl
 i5:=by kernel_rfl
 i9:=by kernel_rfl
 i37:=by kernel_rfl
 i127:=by kernel_rfl }
theorem cloneQ (s:ByteArray) (w:World) (hs:s.size≤1000000000):Calls Tryz.prog 39 #[.string s] w fun e w'=>e = .returned (.string s)∧Below w.heap.size w w':=by
 have HC:=fun u=>Any.stringslite_Clone lays316 s u (by omega)
 change ∀ u,Calls Tryz.prog 72 _ u _ at HC
 go_enter Tryz.func39,Tryz.ntmps39
 go_wp2_with fail
 refine (HC _).mono ?_
 rintro e w1 ⟨rfl,hb⟩
 go_wp2
 go_ret
 exact ⟨rfl,hb⟩
end Go.Proofs.YtgdilnljjgdinaaGreatDoor
namespace Go.Proofs.YtgdilnljjgdinaaGreatDoor
open Go.RowKit Go.Shelf
theorem Rw.cellset {t:TypeId} {w:World} {R:Nat} {cs:Array Value} (h:Rw t w R cs) (i:Nat) (v:Value):Rw t (w.setCell ⟨R,i,none⟩ v) R (cs.setIfInBounds i v)∧Off R w (w.setCell ⟨R,i,none⟩ v) :=
 ⟨heap_setCell_same w R i cs t v h,(Off.refl _ _).set i v⟩
theorem plI:(Tryz.prog.info? 56).map (·.size)=some 3:=by kernel_rfl
def plC (r:ByteArray) (l c:Int):Array Value:=#[.string r,.int .i64 l,.int .i64 c]
theorem plC_one (r:ByteArray) (l c:Int):(plC r l c).all (·.oneCell')=true:=by
 rw [Array.all_eq_true_iff_forall_mem]
 intro v hv
 simp only [plC,List.mem_toArray,List.mem_cons,List.not_mem_nil,or_false] at hv
 rcases hv with rfl|rfl|rfl <;> rfl
def ovL (x:ByteArray) (l:Int):Int:=l+(x.data.toList.count 10:Nat)
def ovC (x:ByteArray) (c:Int):Int:=if x.data.toList.count 10=0 then c+x.size else x.size-Lib.lastIndexByte x 10
theorem last_bd (x:ByteArray):-1≤Lib.lastIndexByte x 10∧Lib.lastIndexByte x 10<x.size∨Lib.lastIndexByte x 10 = -1:=by
 rcases Lib.lastIndexByte_spec x 10 with ⟨h,_⟩|⟨i,h1,h2,_⟩
 ·exact .inr h
 ·exact .inl ⟨by omega,by omega⟩
set_option maxRecDepth 100000 in
set_option maxHeartbeats 4000000 in
theorem overQ (r:ByteArray) (l c:Int) (n:Nat) (w:World) (hr:r.size≤100000000) (hn:n≤r.size) (hl:0≤l∧l≤1000000000) (hc:0≤c∧c≤1000000000) :
  Calls Tryz.prog 37 #[.agg (plC r l c),.int .i64 n] w fun e w'=>e = .returned (.agg (plC (r.extract n r.size) (ovL (r.extract 0 n) l) (ovC (r.extract 0 n) c)))∧Below w.heap.size w w':=by
 obtain ⟨x,hx⟩:∃ x,r.extract 0 n=x:=⟨_,rfl⟩
 obtain ⟨y,hy⟩:∃ y,r.extract n r.size=y:=⟨_,rfl⟩
 have hxs:x.size=n:=by rw [← hx,size_extract _ _ _ (by omega)];omega
 have n0:(0:Int)≤(n:Int):=by omega
 have nI:(n:Int)≤(r.size:Int):=by omega
 have HC:=fun u=>cntQ x u
 have HA:=fun u=>lastQ x (by omega) u
 have hcl:x.data.toList.count 10≤x.size:=by rw [← len_list];exact List.count_le_length
 have hlb:=last_bd x
 rw [hx,hy]
 unfold ovL ovC
 generalize x.data.toList.count 10=k at *
 generalize Lib.lastIndexByte x 10=j at *
 have plR:∀ (W:World) (a b d a' b' d':Value),(loadVar 56 ⟨W.heap.size+1,0,none⟩).run Tryz.prog ((W.alloc (.cells #[a',b',d'] 56)).alloc (.cells #[a,b,d] 56)) = .ok (.agg #[a,b,d]) ((W.alloc (.cells #[a',b',d'] 56)).alloc (.cells #[a,b,d] 56)):=fun W a b d a' b' d'=>by
  have h:=Rw.new 56 (W.alloc (.cells #[a',b',d'] 56)) #[a,b,d]
  rw [World.size_alloc] at h
  exact run_loadVar_row _ _ 56 56 #[a,b,d] _ _ h Tryz.underlying56 rfl plI
 unfold plC
 by_cases hk:k=0
 ·subst hk
  rw [if_pos rfl]
  have hw1:IntKind.i64.wrap (c+(n:Int))=c+(n:Int):=by rw [IntKind.wrap_i64];omega
  go_enter Tryz.func37,Tryz.ntmps37
  go_wp2_with fail
  refine (HC _).mono ?_
  rintro e w1 ⟨rfl,rfl⟩
  go_wp2
  refine bodyPost_ret (v:=.agg #[.string y,.int .i64 l,.int .i64 (c+(n:Int))]) (by simp [results,Tryz.results37,asAddr,plR]) rfl ⟨by rw [hxs];simp,((Below.refl _ _).alloc (Nat.le_refl _) _).alloc (by simp) _⟩
 ·rw [if_neg hk]
  have hkB:((k:Int) == 0)=false:=beq_eq_false_iff_ne.2 (by omega)
  have hw1:IntKind.i64.wrap (l+(k:Int))=l+(k:Int):=by rw [IntKind.wrap_i64];omega
  have hw2:IntKind.i64.wrap ((n:Int)-j)=(n:Int)-j:=by rw [IntKind.wrap_i64];omega
  go_enter Tryz.func37,Tryz.ntmps37
  go_wp2_with fail
  refine (HC _).mono ?_
  rintro e w1 ⟨rfl,rfl⟩
  go_wp2_with fail
  refine (HA _).mono ?_
  rintro e w1 ⟨rfl,rfl⟩
  go_wp2
  refine bodyPost_ret (v:=.agg #[.string y,.int .i64 (l+(k:Int)),.int .i64 ((n:Int)-j)]) (by simp [results,Tryz.results37,asAddr,plR]) rfl ⟨by rw [hxs],((Below.refl _ _).alloc (Nat.le_refl _) _).alloc (by simp) _⟩
end Go.Proofs.YtgdilnljjgdinaaGreatDoor
namespace Go.Proofs.YtgdilnljjgdinaaGreatDoor
open Go.RowKit Go.Shelf
theorem Rw.var3 {t:TypeId} {w:World} {R:Nat} {a b c:Value} (h:Rw t w R #[a,b,c]):Var3 w R a b c:=⟨h.cell 0,h.cell 1,h.cell 2,h.frozen 0,h.frozen 1,h.frozen 2⟩
set_option maxRecDepth 100000 in
set_option maxHeartbeats 4000000 in
theorem beginQ (s r:ByteArray) (g:Nat) (l c:Int) (w:World) (hs:s.size≤100000000) (e1:gpN s.data.toList=g) (e2:s.extract g s.size=r) (e3:ovL (s.extract 0 g) 1=l) (e4:ovC (s.extract 0 g) 1=c) :
  Calls Tryz.prog 19 #[.string s] w fun e w'=>e = .returned (.agg (plC r l c))∧Below w.heap.size w w':=by
 have HG:=fun u=>gapQ s u (by omega)
 have hgl:=gpN_le s.data.toList
 rw [len_list] at hgl
 rw [e1] at HG hgl
 have HO:=fun u=>overQ s 1 1 g u hs hgl (by omega) (by omega)
 rw [e2,e3,e4] at HO
 have R0:=Rw.new 56 w #[.string ⟨#[]⟩,.int .i64 0,.int .i64 0]
 have hb:Below w.heap.size w (w.alloc (.cells #[.string ⟨#[]⟩,.int .i64 0,.int .i64 0] 56)):=(Below.refl _ _).alloc (Nat.le_refl _) _
 clear e1 e2 e3 e4 hgl
 have HO':∀ u,Calls Tryz.prog 37 #[.agg #[.string s,.int .i64 1,.int .i64 1],.int .i64 g] u fun e w'=>e = .returned (.agg (plC r l c))∧Below u.heap.size u w':=HO
 clear HO
 go_enter Tryz.func19,Tryz.ntmps19
 go_wp2_with fail
 generalize w.alloc (.cells #[.string ⟨#[]⟩,.int .i64 0,.int .i64 0] 56)=W0 at *
 refine (HG _).mono ?_
 rintro e w1 ⟨rfl,hb1⟩
 replace R0:=R0.below hb1
 replace hb:=bel_tr hb hb1
 clear HG hb1
 go_wp2_with fail
 refine (HO' _).mono ?_
 rintro e w2 ⟨rfl,hb1⟩
 replace R0:=R0.below hb1
 replace hb:=bel_tr hb hb1
 clear HO' hb1
 go_wp2_with (refine R0.put (plC r l c) rfl _ _ rfl rfl rfl plI rfl (plC_one _ _ _) ?_)
 intro w4 R2 O
 have hb3:=hb.trans (O.below (B:=w.heap.size) (Nat.le_refl _))
 go_wp2
 exact bodyPost_ret (R2.ret1 Tryz.results19 _ rfl Tryz.underlying56 plI) rfl ⟨rfl,hb3⟩
set_option maxRecDepth 100000 in
set_option maxHeartbeats 4000000 in
theorem behindQ (r x a r1 b r2:ByteArray) (l c l1 c1 l2 c2 k wd l' c':Int) (g:Nat) (u1 u2 u3:Value) (w:World) (hr:r.size≤100000000) (hx:x.size≤r.size) (hl:0≤l∧l≤1000000000) (hc:0≤c∧c≤1000000000) (hl1:0≤l1∧l1≤1000000000) (hc1:0≤c1∧c1≤1000000000)
  (e1:r.extract 0 x.size=a) (e2:r.extract x.size r.size=r1) (e3:ovL a l=l1) (e4:ovC a c=c1) (e5:gpN r1.data.toList=g) (e6:r1.extract 0 g=b) (e7:r1.extract g r1.size=r2) (e8:ovL b l1=l2) (e9:ovC b c1=c2) :
  Calls Tryz.prog 21 #[.agg (plC r l c),.agg (tkC k x u1 u2 u3 wd l' c')] w fun e w'=>e = .returned (.agg (plC r2 l2 c2))∧Below w.heap.size w w':=by
 have H1:=fun u=>overQ r l c x.size u hr hx hl hc
 rw [e2,e1,e3,e4] at H1
 have hr1:r1.size≤100000000:=by rw [← e2,size_extract _ _ _ (Nat.le_refl _)];omega
 have HG:=fun u=>gapQ r1 u (by omega)
 have hgl:=gpN_le r1.data.toList
 rw [len_list] at hgl
 rw [e5] at HG hgl
 have H2:=fun u=>overQ r1 l1 c1 g u hr1 hgl hl1 hc1
 rw [e6,e7,e8,e9] at H2
 clear e1 e2 e3 e4 e5 e6 e7 e8 e9 hgl hr1
 unfold plC at H1 H2
 unfold plC tkC
 obtain ⟨A0,hA0⟩:∃ A,A=w.alloc (.cells #[.string r,.int .i64 l,.int .i64 c] 56):=⟨_,rfl⟩
 obtain ⟨A1,hA1⟩:∃ A,A=A0.alloc (.cells #[.int .i64 k,.string x,u1,u2,u3,.int .i64 wd,.int .i64 l',.int .i64 c'] 46):=⟨_,rfl⟩
 obtain ⟨A2,hA2⟩:∃ A,A=A1.alloc (.cells #[.string ⟨#[]⟩,.int .i64 0,.int .i64 0] 56):=⟨_,rfl⟩
 have s0:A0.heap.size=w.heap.size+1:=by rw [hA0];simp
 have s1:A1.heap.size=w.heap.size+1+1:=by rw [hA1,World.size_alloc,s0]
 have s2:A2.heap.size=w.heap.size+1+1+1:=by rw [hA2,World.size_alloc,s1]
 have P0:Rw 56 A2 w.heap.size #[.string r,.int .i64 l,.int .i64 c]:=by
  rw [hA2,hA1,hA0];exact ((Rw.new _ w _).alloc _).alloc _
 have R0:Rw 56 A2 (w.heap.size+1+1) #[.string ⟨#[]⟩,.int .i64 0,.int .i64 0]:=by
  have h:=Rw.new 56 A1 #[.string ⟨#[]⟩,.int .i64 0,.int .i64 0]
  rw [s1,← hA2] at h;exact h
 have hb:Below w.heap.size w A2:=by
  rw [hA2,hA1,hA0]
  exact (((Below.refl _ _).alloc (Nat.le_refl _) _).alloc (by simp) _).alloc (by simp;omega) _
 have hT:A2.cell? ⟨w.heap.size+1,1,none⟩=some (.string x):=by
  have h:=Rw.new 46 A0 #[.int .i64 k,.string x,u1,u2,u3,.int .i64 wd,.int .i64 l',.int .i64 c']
  rw [s0,← hA1] at h
  have h2:=(h.alloc (.cells #[.string ⟨#[]⟩,.int .i64 0,.int .i64 0] 56)).cell 1
  rw [← hA2] at h2;exact h2
 rw [hA1,hA0] at hA2
 clear hA1 hA0 s0 s1
 go_enter Tryz.func21,Tryz.ntmps21
 go_wp2_with fail
 rw [← hA2]
 clear hA2 hT
 refine (H1 _).mono ?_
 rintro e w1 ⟨rfl,hb1⟩
 have hs1:=hb1.size
 replace P0:=P0.below hb1
 replace R0:=R0.below hb1
 replace hb:=bel_tr hb hb1
 rw [s2] at hs1
 clear H1 hb1 s2
 go_wp2_with (refine P0.put #[.string r1,.int .i64 l1,.int .i64 c1] rfl _ _ rfl rfl rfl plI rfl (plC_one _ _ _) ?_)
 intro w2 P2 O
 have R1:=R0.off O (by omega)
 replace hb:=hb.trans (O.below (B:=w.heap.size) (Nat.le_refl _))
 have hs2:=O.size
 have HB:∀ u:World,Below (w.heap.size+1) w2 u→u.cell? ⟨w.heap.size,0,none⟩=some (.string r1)∧u.cell? ⟨w.heap.size,1,none⟩=some (.int .i64 l1)∧u.cell? ⟨w.heap.size,2,none⟩=some (.int .i64 c1):=fun u hu=>by
  have h:Rw 56 u w.heap.size #[.string r1,.int .i64 l1,.int .i64 c1]:=(hu.block _ (Nat.lt_succ_self _)).trans P2
  exact ⟨h.cell 0,h.cell 1,h.cell 2⟩
 clear P0 R0 O P2
 obtain ⟨p0,p1,p2⟩:=HB w2 (Below.refl _ _)
 go_wp2_with fail
 go_region_held3 (fun w'=>w'.cell? ⟨w.heap.size,0,none⟩=some (.string r1)∧w'.cell? ⟨w.heap.size,1,none⟩=some (.int .i64 l1)∧w'.cell? ⟨w.heap.size,2,none⟩=some (.int .i64 c1))
  (with_reducible refine HB _ ?_;repeat' (first|with_reducible exact hn2|with_reducible exact hn1|with_reducible exact Below.refl _ _|with_reducible refine bel_dr ?_|with_reducible refine bel_s3 ?_ ?_|omega))
  ((first
   | (go_at_call 29;go_fit (HG _);rintro e v1 ⟨rfl,hb1⟩;have hm1:Below w2.heap.size w2 v1:=bel_tr (bel_d1 w2) hb1;have hn1:Below (w.heap.size+1) w2 v1:=hm1.mono (by omega))
   | (go_at_call 37;go_fit (H2 _);rintro e v2 ⟨rfl,hb2⟩;have hm2:Below w2.heap.size w2 v2:=bel_tr hm1 hb2;have hn2:Below (w.heap.size+1) w2 v2:=hm2.mono (by omega);have RZ:=(R1.below hm2).var3;obtain ⟨z0,z1,z2,z3,z4,z5⟩:=id RZ)))
 obtain ⟨V,O2⟩:=RZ.set (.string r2) (.int .i64 l2) (.int .i64 c2)
 have hw:=(hb.trans (hm2.mono (by omega))).trans (O2.below (B:=w.heap.size) (by omega))
 go_wp2
 exact bodyPost_ret (v:=.agg #[.string r2,.int .i64 l2,.int .i64 c2]) (by simp [results,Tryz.results21,go_sem,V.c0,V.c1,V.c2]) rfl ⟨rfl,hw⟩
end Go.Proofs.YtgdilnljjgdinaaGreatDoor
namespace Go.Proofs.YtgdilnljjgdinaaGreatDoor
open Go.RowKit Go.Shelf
theorem Rw.not64 {t:TypeId} {w:World} {R:Nat} {cs c:Array Value} (h:Rw t w R cs) (ht:t≠113) (k:w.heap[R]? = some (.cells c 113 (0,0))):False:=by
 have:=(show w.heap[R]? = _ from h).symm.trans k
 simp at this
 exact ht this.2
theorem bel_c {w w1:World} {B R i:Nat} {v:Value} (h:Below B w w1) (hR:B≤R):Below B w (w1.setCell ⟨R,i,none⟩ v):=h.trans (((Off.refl _ _).set i v).below hR)
set_option maxRecDepth 100000 in
set_option maxHeartbeats 8000000 in
theorem tokenQ (r:ByteArray) (l c:Int) (k n wd:Nat) (w:World) (hr:r.size≤100000000) (hn:n≤r.size) {q:Rat} (HR:ReadOk r k n wd q) (hT:Tabs w) :
  Calls Tryz.prog 20 #[.agg (plC r l c)] w fun e w'=>∃ (f:Bool) (a1:Option Addr) (n1 k1:Nat) (a2:Option Addr) (n2 k2:Nat),e = .returned (.tuple #[.agg (tkC (k:Nat) (r.extract 0 n) (.bool f) (.slice a1 n1 k1) (.slice a2 n2 k2) (wd:Nat) l c),.nilIface])∧NumM w' w.heap.size k f a1 n1 k1 a2 n2 k2 q∧Below w.heap.size w w':=by
 have hxs:(r.extract 0 n).size≤100000000:=by rw [size_extract _ _ _ (by omega)];omega
 unfold ReadOk at HR
 generalize r.extract 0 n=x at *
 have HC:=fun u=>cloneQ x u (by omega)
 unfold tkC at HR
 unfold plC
 have P0:=(Rw.new 56 w #[.string r,.int .i64 l,.int .i64 c]).alloc (.cells #[.int .i64 0,.string ⟨#[]⟩,.bool false,.slice none 0 0,.slice none 0 0,.int .i64 0,.int .i64 0,.int .i64 0] 46)
 have R0:=Rw.new 46 (w.alloc (.cells #[.string r,.int .i64 l,.int .i64 c] 56)) #[.int .i64 0,.string ⟨#[]⟩,.bool false,.slice none 0 0,.slice none 0 0,.int .i64 0,.int .i64 0,.int .i64 0]
 rw [World.size_alloc] at R0
 have hb:Below w.heap.size w ((w.alloc (.cells #[.string r,.int .i64 l,.int .i64 c] 56)).alloc (.cells #[.int .i64 0,.string ⟨#[]⟩,.bool false,.slice none 0 0,.slice none 0 0,.int .i64 0,.int .i64 0,.int .i64 0] 46)):=((Below.refl _ _).alloc (Nat.le_refl _) _).alloc (by simp) _
 have hsz:w.heap.size+1+1≤((w.alloc (.cells #[.string r,.int .i64 l,.int .i64 c] 56)).alloc (.cells #[.int .i64 0,.string ⟨#[]⟩,.bool false,.slice none 0 0,.slice none 0 0,.int .i64 0,.int .i64 0,.int .i64 0] 46)).heap.size:=by simp
 replace hT:=hT.below hb
 go_enter Tryz.func20,Tryz.ntmps20
 go_wp2_with fail
 generalize (w.alloc (.cells #[.string r,.int .i64 l,.int .i64 c] 56)).alloc (.cells #[.int .i64 0,.string ⟨#[]⟩,.bool false,.slice none 0 0,.slice none 0 0,.int .i64 0,.int .i64 0,.int .i64 0] 46)=W0 at *
 refine (HR _ hT).mono ?_
 rintro e w1 ⟨f,a1,n1,k1,a2,n2,k2,rfl,G,hb1⟩
 have hB0:w.heap.size+2≤W0.heap.size:=hsz
 replace G:=(G.mono hB0).ku (Ku.of_below (bel_d0 _ (.cells #[.int .i64 (k:Nat),.string x,.bool f,.slice a1 n1 k1,.slice a2 n2 k2,.int .i64 (wd:Nat),.int .i64 0,.int .i64 0] 46)))
 replace P0:=P0.below hb1
 replace R0:=R0.below hb1
 replace hb:=bel_tr hb hb1
 replace hsz:=Nat.le_trans hsz hb1.size
 clear HR hb1 hT
 have T0:=Rw.new 46 w1 #[.int .i64 (k:Nat),.string x,.bool f,.slice a1 n1 k1,.slice a2 n2 k2,.int .i64 (wd:Nat),.int .i64 0,.int .i64 0]
 replace P0:=P0.alloc (.cells #[.int .i64 (k:Nat),.string x,.bool f,.slice a1 n1 k1,.slice a2 n2 k2,.int .i64 (wd:Nat),.int .i64 0,.int .i64 0] 46)
 replace R0:=R0.alloc (.cells #[.int .i64 (k:Nat),.string x,.bool f,.slice a1 n1 k1,.slice a2 n2 k2,.int .i64 (wd:Nat),.int .i64 0,.int .i64 0] 46)
 have hb2:=hb.alloc (by omega) (.cells #[.int .i64 (k:Nat),.string x,.bool f,.slice a1 n1 k1,.slice a2 n2 k2,.int .i64 (wd:Nat),.int .i64 0,.int .i64 0] 46)
 go_wp2_with fail
 generalize w1.alloc (.cells #[.int .i64 (k:Nat),.string x,.bool f,.slice a1 n1 k1,.slice a2 n2 k2,.int .i64 (wd:Nat),.int .i64 0,.int .i64 0] 46)=W1 at *
 obtain ⟨T,hTe⟩:∃ T,w1.heap.size=T:=⟨_,rfl⟩
 rw [hTe] at T0 hsz ⊢
 refine (HC _).mono ?_
 rintro e w2 ⟨rfl,hb1⟩
 replace P0:=P0.below hb1
 replace R0:=R0.below hb1
 replace T0:=T0.below hb1
 replace G:=G.ku (Ku.of_below hb1)
 replace hb2:=bel_tr hb2 hb1
 clear HC hb1 hTe hb
 have t1:=T0.cell 1
 have f1:=T0.frozen 1
 obtain ⟨T1,O1⟩:=T0.cellset 1 (.string x)
 replace G:=G.ku (Ku.of_off O1 (fun _ h=>T0.not64 (by decide) h))
 replace P0:=P0.off O1 (by omega)
 replace R0:=R0.off O1 (by omega)
 replace hb2:=hb2.trans (O1.below (B:=w.heap.size) (by omega))
 go_wp2_with fail
 have T2:Rw 46 (w2.setCell ⟨T,1,none⟩ (.string x)) T #[.int .i64 (k:Nat),.string x,.bool f,.slice a1 n1 k1,.slice a2 n2 k2,.int .i64 (wd:Nat),.int .i64 0,.int .i64 0]:=T1
 clear T0 T1 O1 t1 f1
 generalize w2.setCell ⟨T,1,none⟩ (.string x)=W3 at *
 have HB:∀ u:World,Below (w.heap.size+1) W3 u→u.cell? ⟨w.heap.size,1,none⟩=some (.int .i64 l)∧u.cell? ⟨w.heap.size,2,none⟩=some (.int .i64 c):=fun u hu=>by
  have h:Rw 56 u w.heap.size #[.string r,.int .i64 l,.int .i64 c]:=(hu.block _ (Nat.lt_succ_self _)).trans P0
  exact ⟨h.cell 1,h.cell 2⟩
 obtain ⟨p1,p2⟩:=HB W3 (Below.refl _ _)
 have t8:W3.cell? ⟨T,6,none⟩=some (.int .i64 0):=T2.cell 6
 have f8:W3.frozen? ⟨T,6,none⟩=false:=T2.frozen 6
 have t9:W3.cell? ⟨T,7,none⟩=some (.int .i64 0):=T2.cell 7
 have f9:W3.frozen? ⟨T,7,none⟩=false:=T2.frozen 7
 obtain ⟨T4,O4⟩:=T2.cellset 6 (.int .i64 l)
 obtain ⟨T5,O5⟩:=T4.cellset 7 (.int .i64 c)
 replace G:=((G.ku (Ku.of_off O4 (fun _ h=>T2.not64 (by decide) h))).ku (Ku.of_off O5 (fun _ h=>T4.not64 (by decide) h))).ku (Ku.of_below (bel_d1 _))
 have R5:=((R0.off O4 (by omega)).off O5 (by omega)).below (bel_d1 _)
 have hb4:=(hb2.trans (O4.below (B:=w.heap.size) (by omega))).trans (O5.below (B:=w.heap.size) (by omega))
 have hb5:=bel_dr hb4
 have T6:Rw 46 ((W3.setCell ⟨T,6,none⟩ (.int .i64 l)).setCell ⟨T,7,none⟩ (.int .i64 c)).drew T (tkC (k:Nat) x (.bool f) (.slice a1 n1 k1) (.slice a2 n2 k2) (wd:Nat) l c):=T5.below (bel_d1 _)
 clear T4 T5 O4 O5 T2 R0 P0 hb2 hb4
 go_region_held3 (fun w'=>w'.cell? ⟨w.heap.size,1,none⟩=some (.int .i64 l)∧w'.cell? ⟨w.heap.size,2,none⟩=some (.int .i64 c))
  (with_reducible refine HB _ ?_;repeat' (first|with_reducible exact Below.refl _ _|with_reducible refine bel_dr ?_|with_reducible refine bel_c ?_ ?_|omega))
  (fail)
 clear HB p1 p2 t8 t9 f8 f9
 generalize ((W3.setCell ⟨T,6,none⟩ (.int .i64 l)).setCell ⟨T,7,none⟩ (.int .i64 c)).drew=W6 at *
 go_wp2_with (first|(refine T6.get rfl _ rfl rfl Tryz.underlying46 tkI ?_)|(refine R5.put (tkC (k:Nat) x (.bool f) (.slice a1 n1 k1) (.slice a2 n2 k2) (wd:Nat) l c) rfl _ _ rfl rfl rfl tkI rfl (tkC_one _ _ _ _ _ rfl rfl rfl) ?_))
 intro w7 R7 O7
 replace G:=(G.ku (Ku.of_off O7 (fun _ h=>R5.not64 (by decide) h))).mono (B':=w.heap.size) (by omega)
 have hb7:=hb5.trans (O7.below (B:=w.heap.size) (by omega))
 go_wp2
 exact bodyPost_ret (R7.ret2 Tryz.results20 _ rfl Tryz.underlying46 tkI) rfl ⟨f,a1,n1,k1,a2,n2,k2,rfl,G,hb7⟩
end Go.Proofs.YtgdilnljjgdinaaGreatDoor
namespace Go.Proofs.YtgdilnljjgdinaaGreatDoor
open Go.RowKit Go.Shelf
theorem Rw.set8 {t:TypeId} {w:World} {R:Nat} {a0 a1 a2 a3 a4 a5 a6 a7:Value} (h:Rw t w R #[a0,a1,a2,a3,a4,a5,a6,a7]) (b0 b1 b2 b3 b4 b5 b6 b7:Value) :
  Rw t ((((((((w.setCell ⟨R,0,none⟩ b0).setCell ⟨R,1,none⟩ b1).setCell ⟨R,2,none⟩ b2).setCell ⟨R,3,none⟩ b3).setCell ⟨R,4,none⟩ b4).setCell ⟨R,5,none⟩ b5).setCell ⟨R,6,none⟩ b6).setCell ⟨R,7,none⟩ b7) R #[b0,b1,b2,b3,b4,b5,b6,b7] ∧
  Off R w ((((((((w.setCell ⟨R,0,none⟩ b0).setCell ⟨R,1,none⟩ b1).setCell ⟨R,2,none⟩ b2).setCell ⟨R,3,none⟩ b3).setCell ⟨R,4,none⟩ b4).setCell ⟨R,5,none⟩ b5).setCell ⟨R,6,none⟩ b6).setCell ⟨R,7,none⟩ b7):=by
 have h0:Rw t (w.setCell ⟨R,0,none⟩ b0) R #[b0,a1,a2,a3,a4,a5,a6,a7]:=(h.cellset 0 b0).1
 have h1:Rw t ((w.setCell ⟨R,0,none⟩ b0).setCell ⟨R,1,none⟩ b1) R #[b0,b1,a2,a3,a4,a5,a6,a7]:=(h0.cellset 1 b1).1
 have h2:Rw t (((w.setCell ⟨R,0,none⟩ b0).setCell ⟨R,1,none⟩ b1).setCell ⟨R,2,none⟩ b2) R #[b0,b1,b2,a3,a4,a5,a6,a7]:=(h1.cellset 2 b2).1
 have h3:Rw t ((((w.setCell ⟨R,0,none⟩ b0).setCell ⟨R,1,none⟩ b1).setCell ⟨R,2,none⟩ b2).setCell ⟨R,3,none⟩ b3) R #[b0,b1,b2,b3,a4,a5,a6,a7]:=(h2.cellset 3 b3).1
 have h4:Rw t (((((w.setCell ⟨R,0,none⟩ b0).setCell ⟨R,1,none⟩ b1).setCell ⟨R,2,none⟩ b2).setCell ⟨R,3,none⟩ b3).setCell ⟨R,4,none⟩ b4) R #[b0,b1,b2,b3,b4,a5,a6,a7]:=(h3.cellset 4 b4).1
 have h5:Rw t ((((((w.setCell ⟨R,0,none⟩ b0).setCell ⟨R,1,none⟩ b1).setCell ⟨R,2,none⟩ b2).setCell ⟨R,3,none⟩ b3).setCell ⟨R,4,none⟩ b4).setCell ⟨R,5,none⟩ b5) R #[b0,b1,b2,b3,b4,b5,a6,a7]:=(h4.cellset 5 b5).1
 have h6:Rw t (((((((w.setCell ⟨R,0,none⟩ b0).setCell ⟨R,1,none⟩ b1).setCell ⟨R,2,none⟩ b2).setCell ⟨R,3,none⟩ b3).setCell ⟨R,4,none⟩ b4).setCell ⟨R,5,none⟩ b5).setCell ⟨R,6,none⟩ b6) R #[b0,b1,b2,b3,b4,b5,b6,a7]:=(h5.cellset 6 b6).1
 have h7:Rw t ((((((((w.setCell ⟨R,0,none⟩ b0).setCell ⟨R,1,none⟩ b1).setCell ⟨R,2,none⟩ b2).setCell ⟨R,3,none⟩ b3).setCell ⟨R,4,none⟩ b4).setCell ⟨R,5,none⟩ b5).setCell ⟨R,6,none⟩ b6).setCell ⟨R,7,none⟩ b7) R #[b0,b1,b2,b3,b4,b5,b6,b7]:=(h6.cellset 7 b7).1
 exact ⟨h7,((((((((Off.refl _ _).set 0 b0).set 1 b1).set 2 b2).set 3 b3).set 4 b4).set 5 b5).set 6 b6).set 7 b7⟩
set_option maxRecDepth 100000 in
set_option maxHeartbeats 8000000 in
theorem tokenE (r:ByteArray) (l c:Int) (g:Nat) (w:World) (HR:ReadNo r g) (hT:Tabs w) {ev:Value} (E:Errs w g ev) :
  Calls Tryz.prog 20 #[.agg (plC r l c)] w fun e w'=>∃ F,e = .returned (.tuple #[.agg #[.int .i64 0,.string ⟨#[]⟩,.bool false,.slice none 0 0,.slice none 0 0,.int .i64 0,.int .i64 0,.int .i64 0],.iface 64 (.pointer (some ⟨F,0,none⟩))])∧Rw 68 w' F #[.int .i64 l,.int .i64 c,ev]∧w.heap.size≤F∧Below w.heap.size w w':=by
 unfold ReadNo at HR
 unfold plC
 have P0:=(Rw.new 56 w #[.string r,.int .i64 l,.int .i64 c]).alloc (.cells #[.int .i64 0,.string ⟨#[]⟩,.bool false,.slice none 0 0,.slice none 0 0,.int .i64 0,.int .i64 0,.int .i64 0] 46)
 have R0:=Rw.new 46 (w.alloc (.cells #[.string r,.int .i64 l,.int .i64 c] 56)) #[.int .i64 0,.string ⟨#[]⟩,.bool false,.slice none 0 0,.slice none 0 0,.int .i64 0,.int .i64 0,.int .i64 0]
 rw [World.size_alloc] at R0
 have hb:Below w.heap.size w ((w.alloc (.cells #[.string r,.int .i64 l,.int .i64 c] 56)).alloc (.cells #[.int .i64 0,.string ⟨#[]⟩,.bool false,.slice none 0 0,.slice none 0 0,.int .i64 0,.int .i64 0,.int .i64 0] 46)):=((Below.refl _ _).alloc (Nat.le_refl _) _).alloc (by simp) _
 have hsz:w.heap.size+1+1≤((w.alloc (.cells #[.string r,.int .i64 l,.int .i64 c] 56)).alloc (.cells #[.int .i64 0,.string ⟨#[]⟩,.bool false,.slice none 0 0,.slice none 0 0,.int .i64 0,.int .i64 0,.int .i64 0] 46)).heap.size:=by simp
 replace hT:=hT.below hb
 replace E:=E.below hb
 go_enter Tryz.func20,Tryz.ntmps20
 go_wp2_with fail
 generalize (w.alloc (.cells #[.string r,.int .i64 l,.int .i64 c] 56)).alloc (.cells #[.int .i64 0,.string ⟨#[]⟩,.bool false,.slice none 0 0,.slice none 0 0,.int .i64 0,.int .i64 0,.int .i64 0] 46)=W0 at *
 refine (HR _ _ E hT).mono ?_
 rintro e w0 ⟨rfl,hb1⟩
 replace P0:=P0.below hb1
 replace R0:=R0.below hb1
 replace hb:=bel_tr hb hb1
 replace hsz:=Nat.le_trans hsz hb1.size
 obtain ⟨p,rfl⟩:=E.2
 clear HR hb1 hT E
 replace P0:=P0.alloc (.cells #[.int .i64 0,.string ⟨#[]⟩,.bool false,.slice none 0 0,.slice none 0 0,.int .i64 0,.int .i64 0,.int .i64 0] 46)
 replace R0:=R0.alloc (.cells #[.int .i64 0,.string ⟨#[]⟩,.bool false,.slice none 0 0,.slice none 0 0,.int .i64 0,.int .i64 0,.int .i64 0] 46)
 have hb2:=hb.alloc (by omega) (.cells #[.int .i64 0,.string ⟨#[]⟩,.bool false,.slice none 0 0,.slice none 0 0,.int .i64 0,.int .i64 0,.int .i64 0] 46)
 have hsz2:w.heap.size+1+1≤(w0.alloc (.cells #[.int .i64 0,.string ⟨#[]⟩,.bool false,.slice none 0 0,.slice none 0 0,.int .i64 0,.int .i64 0,.int .i64 0] 46)).heap.size:=by rw [World.size_alloc];omega
 go_wp2_with fail
 generalize w0.alloc (.cells #[.int .i64 0,.string ⟨#[]⟩,.bool false,.slice none 0 0,.slice none 0 0,.int .i64 0,.int .i64 0,.int .i64 0] 46)=w1 at *
 have HB:∀ u:World,Below (w.heap.size+1) w1 u→u.cell? ⟨w.heap.size,1,none⟩=some (.int .i64 l)∧u.cell? ⟨w.heap.size,2,none⟩=some (.int .i64 c):=fun u hu=>by
  have h:Rw 56 u w.heap.size #[.string r,.int .i64 l,.int .i64 c]:=(hu.block _ (Nat.lt_succ_self _)).trans P0
  exact ⟨h.cell 1,h.cell 2⟩
 obtain ⟨p1,p2⟩:=HB w1 (Below.refl _ _)
 have r0:w1.cell? ⟨w.heap.size+1,0,none⟩=some (.int .i64 0):=R0.cell 0
 have q0:w1.frozen? ⟨w.heap.size+1,0,none⟩=false:=R0.frozen 0
 have r1:w1.cell? ⟨w.heap.size+1,1,none⟩=some (.string ⟨#[]⟩):=R0.cell 1
 have q1:w1.frozen? ⟨w.heap.size+1,1,none⟩=false:=R0.frozen 1
 have r2:w1.cell? ⟨w.heap.size+1,2,none⟩=some (.bool false):=R0.cell 2
 have q2:w1.frozen? ⟨w.heap.size+1,2,none⟩=false:=R0.frozen 2
 have r3:w1.cell? ⟨w.heap.size+1,3,none⟩=some (.slice none 0 0):=R0.cell 3
 have q3:w1.frozen? ⟨w.heap.size+1,3,none⟩=false:=R0.frozen 3
 have r4:w1.cell? ⟨w.heap.size+1,4,none⟩=some (.slice none 0 0):=R0.cell 4
 have q4:w1.frozen? ⟨w.heap.size+1,4,none⟩=false:=R0.frozen 4
 have r5:w1.cell? ⟨w.heap.size+1,5,none⟩=some (.int .i64 0):=R0.cell 5
 have q5:w1.frozen? ⟨w.heap.size+1,5,none⟩=false:=R0.frozen 5
 have r6:w1.cell? ⟨w.heap.size+1,6,none⟩=some (.int .i64 0):=R0.cell 6
 have q6:w1.frozen? ⟨w.heap.size+1,6,none⟩=false:=R0.frozen 6
 have r7:w1.cell? ⟨w.heap.size+1,7,none⟩=some (.int .i64 0):=R0.cell 7
 have q7:w1.frozen? ⟨w.heap.size+1,7,none⟩=false:=R0.frozen 7
 have R1:=R0.alloc (.cells #[.int .i64 l,.int .i64 c,.iface 249 (.pointer (some p))] 68)
 have s0:(w1.alloc (.cells #[.int .i64 l,.int .i64 c,.iface 249 (.pointer (some p))] 68)).cell? ⟨w.heap.size+1,0,none⟩=some (.int .i64 0):=R1.cell 0
 have v0:(w1.alloc (.cells #[.int .i64 l,.int .i64 c,.iface 249 (.pointer (some p))] 68)).frozen? ⟨w.heap.size+1,0,none⟩=false:=R1.frozen 0
 have s1:(w1.alloc (.cells #[.int .i64 l,.int .i64 c,.iface 249 (.pointer (some p))] 68)).cell? ⟨w.heap.size+1,1,none⟩=some (.string ⟨#[]⟩):=R1.cell 1
 have v1:(w1.alloc (.cells #[.int .i64 l,.int .i64 c,.iface 249 (.pointer (some p))] 68)).frozen? ⟨w.heap.size+1,1,none⟩=false:=R1.frozen 1
 have s2:(w1.alloc (.cells #[.int .i64 l,.int .i64 c,.iface 249 (.pointer (some p))] 68)).cell? ⟨w.heap.size+1,2,none⟩=some (.bool false):=R1.cell 2
 have v2:(w1.alloc (.cells #[.int .i64 l,.int .i64 c,.iface 249 (.pointer (some p))] 68)).frozen? ⟨w.heap.size+1,2,none⟩=false:=R1.frozen 2
 have s3:(w1.alloc (.cells #[.int .i64 l,.int .i64 c,.iface 249 (.pointer (some p))] 68)).cell? ⟨w.heap.size+1,3,none⟩=some (.slice none 0 0):=R1.cell 3
 have v3:(w1.alloc (.cells #[.int .i64 l,.int .i64 c,.iface 249 (.pointer (some p))] 68)).frozen? ⟨w.heap.size+1,3,none⟩=false:=R1.frozen 3
 have s4:(w1.alloc (.cells #[.int .i64 l,.int .i64 c,.iface 249 (.pointer (some p))] 68)).cell? ⟨w.heap.size+1,4,none⟩=some (.slice none 0 0):=R1.cell 4
 have v4:(w1.alloc (.cells #[.int .i64 l,.int .i64 c,.iface 249 (.pointer (some p))] 68)).frozen? ⟨w.heap.size+1,4,none⟩=false:=R1.frozen 4
 have s5:(w1.alloc (.cells #[.int .i64 l,.int .i64 c,.iface 249 (.pointer (some p))] 68)).cell? ⟨w.heap.size+1,5,none⟩=some (.int .i64 0):=R1.cell 5
 have v5:(w1.alloc (.cells #[.int .i64 l,.int .i64 c,.iface 249 (.pointer (some p))] 68)).frozen? ⟨w.heap.size+1,5,none⟩=false:=R1.frozen 5
 have s6:(w1.alloc (.cells #[.int .i64 l,.int .i64 c,.iface 249 (.pointer (some p))] 68)).cell? ⟨w.heap.size+1,6,none⟩=some (.int .i64 0):=R1.cell 6
 have v6:(w1.alloc (.cells #[.int .i64 l,.int .i64 c,.iface 249 (.pointer (some p))] 68)).frozen? ⟨w.heap.size+1,6,none⟩=false:=R1.frozen 6
 have s7:(w1.alloc (.cells #[.int .i64 l,.int .i64 c,.iface 249 (.pointer (some p))] 68)).cell? ⟨w.heap.size+1,7,none⟩=some (.int .i64 0):=R1.cell 7
 have v7:(w1.alloc (.cells #[.int .i64 l,.int .i64 c,.iface 249 (.pointer (some p))] 68)).frozen? ⟨w.heap.size+1,7,none⟩=false:=R1.frozen 7
 have HR0:Hid (Rw 46 w1 (w.heap.size+1) #[.int .i64 0,.string ⟨#[]⟩,.bool false,.slice none 0 0,.slice none 0 0,.int .i64 0,.int .i64 0,.int .i64 0]):=R0
 clear R0 R1 P0
 have hlt:¬ w.heap.size+1=w1.heap.size:=by omega
 have hlt2:¬ w1.heap.size=w.heap.size+1:=by omega
 go_region_held3 (fun w'=>w'.cell? ⟨w.heap.size,1,none⟩=some (.int .i64 l)∧w'.cell? ⟨w.heap.size,2,none⟩=some (.int .i64 c))
  (with_reducible refine HB _ ?_;repeat' (first|with_reducible exact Below.refl _ _|with_reducible refine bel_dr ?_|with_reducible refine bel_c ?_ ?_|with_reducible refine Below.alloc ?_ ?_ _|(simp;omega)|omega))
  (fail)
 ·clear r0 q0 s0 v0 r1 q1 s1 v1 r2 q2 s2 v2 r3 q3 s3 v3 r4 q4 s4 v4 r5 q5 s5 v5 r6 q6 s6 v6 r7 q7 s7 v7 HB p1 p2
  have R1:=HR0.out.alloc (.cells #[.int .i64 l,.int .i64 c,.iface 249 (.pointer (some p))] 68)
  obtain ⟨RA0,OA⟩:=R1.set8 (.int .i64 0) (.string ⟨#[]⟩) (.bool false) (.slice none 0 0) (.slice none 0 0) (.int .i64 0) (.int .i64 0) (.int .i64 0)
  have RA:=RA0.below (bel_d1 _)
  have FA:=((Rw.new 68 w1 #[.int .i64 l,.int .i64 c,.iface 249 (.pointer (some p))]).off OA (by omega)).below (bel_d1 _)
  have bA:=bel_dr ((hb2.alloc (by omega) (.cells #[.int .i64 l,.int .i64 c,.iface 249 (.pointer (some p))] 68)).trans (OA.below (B:=w.heap.size) (by omega)))
  clear RA0 OA R1 HR0
  generalize (((((((((w1.alloc (.cells #[.int .i64 l,.int .i64 c,.iface 249 (.pointer (some p))] 68)).setCell ⟨w.heap.size+1,0,none⟩ (.int .i64 0)).setCell ⟨w.heap.size+1,1,none⟩ (.string ⟨#[]⟩)).setCell ⟨w.heap.size+1,2,none⟩ (.bool false)).setCell ⟨w.heap.size+1,3,none⟩ (.slice none 0 0)).setCell ⟨w.heap.size+1,4,none⟩ (.slice none 0 0)).setCell ⟨w.heap.size+1,5,none⟩ (.int .i64 0)).setCell ⟨w.heap.size+1,6,none⟩ (.int .i64 0)).setCell ⟨w.heap.size+1,7,none⟩ (.int .i64 0)).drew=WA at *
  go_wp2
  exact bodyPost_ret (RA.ret2 Tryz.results20 _ rfl Tryz.underlying46 tkI) rfl ⟨_,rfl,FA,by omega,bA⟩
 ·clear r0 q0 s0 v0 r1 q1 s1 v1 r2 q2 s2 v2 r3 q3 s3 v3 r4 q4 s4 v4 r5 q5 s5 v5 r6 q6 s6 v6 r7 q7 s7 v7 HB p1 p2
  obtain ⟨RB0,OB⟩:=HR0.out.set8 (.int .i64 0) (.string ⟨#[]⟩) (.bool false) (.slice none 0 0) (.slice none 0 0) (.int .i64 0) (.int .i64 0) (.int .i64 0)
  have RB:=(RB0.alloc (.cells #[.int .i64 l,.int .i64 c,.iface 249 (.pointer (some p))] 68)).below (bel_d1 _)
  have FB0:=Rw.new 68 ((((((((w1.setCell ⟨w.heap.size+1,0,none⟩ (.int .i64 0)).setCell ⟨w.heap.size+1,1,none⟩ (.string ⟨#[]⟩)).setCell ⟨w.heap.size+1,2,none⟩ (.bool false)).setCell ⟨w.heap.size+1,3,none⟩ (.slice none 0 0)).setCell ⟨w.heap.size+1,4,none⟩ (.slice none 0 0)).setCell ⟨w.heap.size+1,5,none⟩ (.int .i64 0)).setCell ⟨w.heap.size+1,6,none⟩ (.int .i64 0)).setCell ⟨w.heap.size+1,7,none⟩ (.int .i64 0)) #[.int .i64 l,.int .i64 c,.iface 249 (.pointer (some p))]
  rw [OB.size] at FB0
  have FB:=FB0.below (bel_d1 _)
  have hB1:=hb2.trans (OB.below (B:=w.heap.size) (by omega))
  have bB:=bel_dr (hB1.alloc (by rw [OB.size];omega) (.cells #[.int .i64 l,.int .i64 c,.iface 249 (.pointer (some p))] 68))
  clear RB0 OB FB0 hB1 HR0
  generalize (((((((((w1.setCell ⟨w.heap.size+1,0,none⟩ (.int .i64 0)).setCell ⟨w.heap.size+1,1,none⟩ (.string ⟨#[]⟩)).setCell ⟨w.heap.size+1,2,none⟩ (.bool false)).setCell ⟨w.heap.size+1,3,none⟩ (.slice none 0 0)).setCell ⟨w.heap.size+1,4,none⟩ (.slice none 0 0)).setCell ⟨w.heap.size+1,5,none⟩ (.int .i64 0)).setCell ⟨w.heap.size+1,6,none⟩ (.int .i64 0)).setCell ⟨w.heap.size+1,7,none⟩ (.int .i64 0)).alloc (.cells #[.int .i64 l,.int .i64 c,.iface 249 (.pointer (some p))] 68)).drew=WB at *
  go_wp2
  exact bodyPost_ret (RB.ret2 Tryz.results20 _ rfl Tryz.underlying46 tkI) rfl ⟨_,rfl,FB,by omega,bB⟩
end Go.Proofs.YtgdilnljjgdinaaGreatDoor
namespace Go.Proofs.YtgdilnljjgdinaaGreatDoor
open Go.RowKit Go.Shelf
def isPl:Obj→Bool
 | .cells _ t _=>t == 56
 | _=>false
def AbT {β:Type} (B:Nat) (J:β→World→Prop):Prop:=∀ s W W',J s W→Turns isPl B W W'→J s W'
def isMineT (o:Obj):Bool:=isPl o || !o.isCells
def OwnT {β:Type} (B:Nat) (I:β→World→Prop):Prop:=∀ s W W',I s W→Turns isMineT B W W'→I s W'
structure KeptT (B b:Nat) (W W':World):Prop where
 size:W.heap.size≤W'.heap.size
 same:∀ (k:Nat) (o:Obj),(b≤k∨(B≤k∧isPl o=true))→W.heap[k]? = some o→W'.heap[k]? = some o
theorem KeptT.trans {D d:Nat} {A B C:World} (h:KeptT D d A B) (k:KeptT D d B C):KeptT D d A C:=⟨Nat.le_trans h.size k.size,fun i o hD hi=>k.same i o hD (h.same i o hD hi)⟩
theorem KeptT.of_below {B b:Nat} {W W':World} (h:Below W.heap.size W W'):KeptT B b W W':=⟨h.size,fun k _ _ hk=>(h.block k (Array.getElem?_eq_some_iff.1 hk).1).trans hk⟩
theorem KeptT.up {B B' b:Nat} {W W':World} (h:KeptT B b W W') (hB:B≤B'):KeptT B' b W W':=⟨h.size,fun k o hk h1=>h.same k o (hk.imp id fun h=>⟨Nat.le_trans hB h.1,h.2⟩) h1⟩
theorem KeptT.putObj {B b:Nat} {W:World} {l:Nat} {o:Obj} (o':Obj) (h:W.heap[l]? = some o) (hc:isPl o=false) (hl:l<b):KeptT B b W (W.putObj l o'):=by
 refine ⟨by simp,fun k o2 hk h2=>?_⟩
 have e:k≠l:=by
  rintro rfl
  rcases hk with hk|hk
  ·omega
  ·rw [h] at h2;cases h2;rw [hk.2] at hc;cases hc
 rw [World.putObj_heap_other e];exact h2
theorem KeptT.of_off {B b g:Nat} {W W':World} (h:Off g W W') (hg:g<B∨∀ o,W.heap[g]? = some o→isPl o=false) (hb:g<b):KeptT B b W W':=by
 refine ⟨by have:=h.size;omega,fun k o hk h2=>?_⟩
 have e:k≠g:=by
  rintro rfl
  rcases hk with hk|hk
  ·omega
  ·rcases hg with hg|hg
   ·omega
   ·rw [hg o h2] at hk;cases hk.2
 exact (h.block k e).trans h2
theorem OwnT.alloc {β:Type} {B:Nat} {I:β→World→Prop} (h:OwnT B I) {s:β} {W:World} (o:Obj) (hs:I s W):I s (W.alloc o):=h s W _ hs (Turns.alloc _ _ _ _)
theorem OwnT.putObj {β:Type} {B:Nat} {I:β→World→Prop} (h:OwnT B I) {s:β} {W:World} {l:Nat} {o:Obj} (o':Obj) (hs:I s W) (hB:B≤l) (hl:W.heap[l]? = some o) (ho:o.isCells=false):I s (W.putObj l o') :=
 h s W _ hs (Turns.putObj o' hl (by simp [isMineT,ho]) hB)
def SeqT (F:Fence) (P:Program) (g:Nat) (lb:Array Value) (S Sp:List (Array Value)→Prop) (Ok:List (Array Value)→Nat→Array Value→World→Prop) (Pre:World→Prop) (w:World):Prop :=
 ∀ (n l:Nat) (J:List (Array Value) × Nat→World→Prop) (Jx:List (Array Value)→World→Prop) (W:World),Below w.heap.size w W→Pre W→AbT W.heap.size J→AbT W.heap.size Jx →
  (∀ (m:Nat) pre b x W1,J (pre,b) W1→W.heap.size≤b→b≤W1.heap.size→Below w.heap.size w W1→Ok pre b x W1→YieldAt F m P l #[.agg x] W1 fun e W' =>
   (e = .returned (.bool true)∧J (pre++[x],W'.heap.size) W'∧KeptT W.heap.size b W1 W'∧Below w.heap.size w W')∨(e = .returned (.bool false)∧Jx (pre++[x]) W')) →
  J ([],W.heap.size) W →
  CallsIn F n P g (#[.func (.yield l) #[] #[]]++lb) W fun e W'=>(∃ v,e = .returned v)∧((∃ xs b,S xs∧J (xs,b) W'∧Below w.heap.size w W')∨(∃ pre,Sp pre∧Jx pre W'))
variable {F:Fence} {n:Nat} {P:Program}
def LeftT (B C b N0:Nat) (w0:World) (I:List (Array Value) × Nat→World→Prop) (Ix:Code→List (Array Value)→World→Prop) (xs:List (Array Value)) (W:World):Exit→Act→World→Prop
 | .normal,_,W'=>KeepsFrom B W W'∧KeptT C b W W'∧Below N0 w0 W'∧I (xs,W'.heap.size) W'
 | .ret,_,W'=>KeepsFrom B W W'∧Ix .ret xs W'
 | .exit id,_,W'=>KeepsFrom B W W'∧Ix (.exit id) xs W'
 | .goto t,_,W'=>KeepsFrom B W W'∧Ix (.goto t) xs W'
 | _,_,_=>False
section loop
variable {g:Operand} {ps:Array Tmp} {assign body:Code} {a:Act} {gf:Nat} {lb:Array Value} {S Sp:List (Array Value)→Prop} {Ok:List (Array Value)→Nat→Array Value→World→Prop} {Pre:World→Prop} {B l dl:Nat} {w0 W1:World} {fn:FuncId}
 {I:List (Array Value) × Nat→World→Prop} {Ix:Code→List (Array Value)→World→Prop} {a₁:Array Value→Nat→Act}
def recT (fn:FuncId) (tmps:Array Value) (ps:Array Tmp) (assign body:Code) (dl:Nat) (st:LoopState) (pe:Option Code):Obj :=
 .loop { state:=st,pending:=pe,fn,tmps,params:=ps,assign,body,defers:=dl }
theorem roundsT (hseq:SeqT F P gf lb S Sp Ok Pre w0) (hOk:∀ pre b x (B:Nat) W W',Turns isMineT B W W'→Ok pre b x W→Ok pre b x W') (hfn:F.fn fn) (hps:ps.size=1) (hw:Below w0.heap.size w0 W1) (hpre:Pre W1) (hB:B≤l) (hlw:w0.heap.size≤l)
  (hl:W1.heap[l]? = some (recT fn a.tmps ps assign body dl .ready none)) (hI:OwnT l I) (hIx:∀ c,OwnT l (Ix c)) (h0:I ([],W1.heap.size) W1)
  (hassign:∀ (m:Nat) (x:Array Value) (W:World) (K:Act→World→Prop),(∃ pre b W,Ok pre b x W)→K (a₁ x W.heap.size) (W.alloc (.cells x 46)) →
   assign.wpIn (F.inRound l) m P (Exit.then K (fun _ _ _=>False)) { tmps:=(ps.zip #[Value.agg x]).foldl (fun t (p,v)=>t.setIfInBounds p v) a.tmps,defers:=[] } W)
  (hbody:∀ (m:Nat) (pre:List (Array Value)) (b:Nat) (x:Array Value) (t6:Nat) (W:World),(∃ r,W.heap[l]? = some (.loop r))→Rw 46 W t6 x→b≤t6→I (pre,b) W→W1.heap.size≤b→b≤W.heap.size→Below w0.heap.size w0 W→Ok pre b x W→body.wpIn (F.inRound l) m P (LeftT B W1.heap.size b w0.heap.size w0 I Ix (pre++[x]) W) (a₁ x t6) W) :
  CallsIn F n P gf (#[.func (.yield l) #[] #[]]++lb) W1 fun e W2=>(∃ v,e = .returned v) ∧
   ((∃ xs b,S xs∧I (xs,b) W2∧Below w0.heap.size w0 W2∧W2.heap[l]? = some (recT fn a.tmps ps assign body dl .ready none)) ∨
    (∃ c pre,Sp pre∧Ix c pre W2∧W2.heap[l]? = some (recT fn a.tmps ps assign body dl .done (some c)))):=by
 have hlt1:l<W1.heap.size:=(Array.getElem?_eq_some_iff.1 hl).1
 have mine:∀ {A C:World},Turns isPl W1.heap.size A C→Turns isMineT l A C:=fun t=>t.imp (fun o ho=>by simp [isMineT,ho]) (by omega)
 have still:∀ {A C:World} {st pe},Turns isPl W1.heap.size A C→A.heap[l]? = some (recT fn a.tmps ps assign body dl st pe)→C.heap[l]? = some (recT fn a.tmps ps assign body dl st pe) :=
  fun t h=>t.block l _ h (.inr rfl)
 refine (hseq n l (fun s W=>I s W∧W.heap[l]? = some (recT fn a.tmps ps assign body dl .ready none))
  (fun pre W=>∃ c,Ix c pre W∧W.heap[l]? = some (recT fn a.tmps ps assign body dl .done (some c))) W1 hw hpre
  (fun s A C h t=>⟨hI s A C h.1 (mine t),still t h.2⟩) (fun s A C ⟨c,h1,h2⟩ t=>⟨c,hIx c s A C h1 (mine t),still t h2⟩) ?_ ⟨h0,hl⟩).mono ?_
 ·rintro m pre b x W ⟨hi,hr⟩ hWb hbW hbel hok
  have hlb:l<b:=by omega
  have belP:∀ {V:World} (o o':Obj),V.heap[l]? = some o→Below w0.heap.size w0 V→Below w0.heap.size w0 (V.putObj l o'):=fun o o' h hb=>⟨hb.os,hb.tape,hb.output,by simpa using hb.size,fun k hk=>(World.putObj_heap_other (by omega)).trans (hb.block k hk)⟩
  obtain ⟨Y,hYW⟩:∃ Y:World,Y=W:=⟨_,rfl⟩
  obtain ⟨X,hX⟩:∃ X,W.alloc (.cells x 46)=X:=⟨_,rfl⟩
  have hy:=run_yield (P:=P) (args:=#[Value.agg x]) hr (by simp [hps])
  have hT6:Rw 46 X W.heap.size x:=by rw [← hX];exact Rw.new _ _ _
  have hkX:KeptT W1.heap.size b W X:=by rw [← hX];exact KeptT.of_below ((Below.refl _ _).alloc (Nat.le_refl _) _)
  have hrX:X.heap[l]? = some (recT fn a.tmps ps assign body dl .ready none):=by rw [← hX];exact (Below.heap_alloc _ _ _ (Array.getElem?_eq_some_iff.1 hr).1).trans hr
  have hiX:I (pre,b) X:=by rw [← hX];exact hI.alloc _ hi
  have hbX:Below w0.heap.size w0 X:=by rw [← hX];exact hbel.alloc hbel.size _
  have hsX:b≤X.heap.size:=by rw [← hX,World.size_alloc];omega
  have hlX:W.heap.size≠l:=by have:=(Array.getElem?_eq_some_iff.1 hr).1;omega
  have hOw:OwnT l (fun (_:Unit) V=>Ok pre b x V):=fun _ A C h q=>hOk pre b x l A C q h
  have hokX:Ok pre b x X:=by rw [← hX];exact hOw.alloc (s:=()) _ hok
  refine ⟨fn,_,assign,body,hy,roundIn_of_wpIn hfn (hassign m x W _ ⟨pre,b,W,hok⟩ ?_)⟩
  rw [hX]
  refine ⟨_,run_beginRound hrX rfl,?_⟩
  obtain ⟨t6,ht6⟩:∃ t6,W.heap.size=t6:=⟨_,rfl⟩
  rw [ht6] at hT6 hlX hbW ⊢
  clear hX hr hi hbel hy ht6 hYW
  have busy:(X.putObj l (recT fn a.tmps ps assign body dl .busy none)).heap[l]? = some (recT fn a.tmps ps assign body dl .busy none):=World.putObj_heap_same (Array.getElem?_eq_some_iff.1 hrX).1
  have hk0:KeptT W1.heap.size b W (X.putObj l (recT fn a.tmps ps assign body dl .busy none)):=hkX.trans (KeptT.putObj _ hrX rfl hlb)
  refine wpIn_mono (hbody m pre b x t6 (X.putObj l (recT fn a.tmps ps assign body dl .busy none)) ⟨_,busy⟩ ((World.putObj_heap_other hlX).trans hT6) hbW (hI.putObj _ hiX (Nat.le_refl _) hrX rfl) hWb (by simpa using hsX) (belP _ _ hrX hbX) (hOw.putObj (s:=()) _ hokX (Nat.le_refl _) hrX rfl)) ?_
  -- how the record lies behind the body,and behind the round
  have after:∀ {W3:World} (j:Option Code),KeepsFrom B (X.putObj l (recT fn a.tmps ps assign body dl .busy none)) W3 →
    W3.heap[l]? = some (recT fn a.tmps ps assign body dl .busy none) ∧
    (Instr.endRound l j).run P W3 = .ok (.bool j.isNone) (W3.putObj l (recT fn a.tmps ps assign body dl (if j.isNone then .ready else .done) j)) ∧
    (W3.putObj l (recT fn a.tmps ps assign body dl (if j.isNone then .ready else .done) j)).heap[l]? = some (recT fn a.tmps ps assign body dl (if j.isNone then .ready else .done) j):=by
   intro W3 j hk
   have h3:=hk.same l _ hB busy rfl
   exact ⟨h3,run_endRound j h3,World.putObj_heap_same (Array.getElem?_eq_some_iff.1 h3).1⟩
  intro e a3 W3 hp
  have away:∀ c,KeepsFrom B (X.putObj l (recT fn a.tmps ps assign body dl .busy none)) W3∧Ix c (pre++[x]) W3 →
    ∃ v w',(Instr.endRound l (some c)).run P W3 = .ok v w'∧((Ending.returned v = .returned (.bool true)∧(I (pre++[x],w'.heap.size) w'∧w'.heap[l]? = some (recT fn a.tmps ps assign body dl .ready none))∧KeptT W1.heap.size b W w'∧Below w0.heap.size w0 w') ∨
     (Ending.returned v = .returned (.bool false)∧∃ c,Ix c (pre++[x]) w'∧w'.heap[l]? = some (recT fn a.tmps ps assign body dl .done (some c)))):=by
   rintro c ⟨h1,h2⟩
   obtain ⟨p1,p2,p3⟩:=after (some c) h1
   exact ⟨_,_,p2,.inr ⟨rfl,c,(hIx c).putObj _ h2 (Nat.le_refl _) p1 rfl,p3⟩⟩
  cases e with
  | normal =>
   obtain ⟨h1,h2,h4,h3⟩:=hp
   obtain ⟨p1,p2,p3⟩:=after none h1
   have hq:∀ o,(W3.putObj l o).heap.size=W3.heap.size:=fun o=>by simp
   exact ⟨_,_,p2,.inl ⟨rfl,⟨by rw [hq];exact hI.putObj _ h3 (Nat.le_refl _) p1 rfl,p3⟩,(hk0.trans h2).trans (KeptT.putObj _ p1 rfl hlb),belP _ _ p1 h4⟩⟩
  | ret=>exact away _ hp
  | exit id=>exact away _ hp
  | goto t=>exact away _ hp
  | panic ch=>exact hp.elim
  | outgrown=>exact hp.elim
 ·rintro e W2 ⟨hv,⟨xs,b,h1,⟨h2,h3⟩,h4⟩|⟨pre,h1,c,h2,h3⟩⟩
  ·exact ⟨hv,.inl ⟨xs,b,h1,h2,h4,h3⟩⟩
  ·exact ⟨hv,.inr ⟨c,pre,h1,h2,h3⟩⟩
set_option maxHeartbeats 100000 in
theorem range_outT {Q:Exit→Act→World→Prop} {w:World} (hro:F.round=none) (hd:F.depth=none) (hg:a.eval g = .func (.func gf) #[] lb) (hFg:F.fn gf) (eg:∀ args w,(callFunc gf args).run P w = .ok (.enter gf args) w)
  (hseq:SeqT F P gf lb S Sp Ok Pre w0) (hOk:∀ pre b x (B:Nat) W W',Turns isMineT B W W'→Ok pre b x W→Ok pre b x W') (hw:Below w0.heap.size w0 w) (hpre:∀ W,Below w.heap.size w W→Pre W) (hps:ps.size=1)
  (I:List (Array Value) × Nat→World→Prop) (Ix:Code→List (Array Value)→World→Prop) (hI:OwnT w.heap.size I) (hIx:∀ c,OwnT w.heap.size (Ix c)) (h0:I ([],w.heap.size+2) w) (hww:w0.heap.size≤w.heap.size) (a₁:Array Value→Nat→Act)
  (hassign:∀ (l m:Nat) (x:Array Value) (W:World) (K:Act→World→Prop),(∃ pre b W,Ok pre b x W)→K (a₁ x W.heap.size) (W.alloc (.cells x 46)) →
   assign.wpIn (F.inRound l) m P (Exit.then K (fun _ _ _=>False)) { tmps:=(ps.zip #[Value.agg x]).foldl (fun t (p,v)=>t.setIfInBounds p v) a.tmps,defers:=[] } W)
  (hbody:∀ (l m:Nat) (pre:List (Array Value)) (b:Nat) (x:Array Value) (t6:Nat) (W:World),(∃ r,W.heap[l]? = some (.loop r))→w.heap.size≤l→Rw 46 W t6 x→b≤t6→I (pre,b) W→w.heap.size+2≤b→b≤W.heap.size→Below w0.heap.size w0 W→Ok pre b x W→body.wpIn (F.inRound l) m P (LeftT w.heap.size (w.heap.size+2) b w0.heap.size w0 I Ix (pre++[x]) W) (a₁ x t6) W)
  (hdone:∀ (D:Nat) (xs:List (Array Value)) (W:World),w.heap.size≤D→S xs→(∃ b,I (xs,b) W)→Below w0.heap.size w0 W→W.heap[D]? = some (.deferred (some []))→Q .normal { a with defers:={ target:=.collected D,args:=#[] } :: a.defers } W)
  (hstop:∀ (D:Nat) (c:Code) (pre:List (Array Value)) (W:World),w.heap.size≤D→Sp pre→Ix c pre W→W.heap[D]? = some (.deferred (some []))→c.wpIn F n P Q { a with defers:={ target:=.collected D,args:=#[] } :: a.defers } W) :
  (Code.rangeFunc g ps assign body).wpIn F n P Q a w:=by
 refine wpIn_rangeFunc fun fn hfn=>?_
 obtain ⟨W1,hW1⟩:∃ W1,(w.alloc (.deferred (some []))).alloc (recT fn a.tmps ps assign body w.heap.size .ready none)=W1:=⟨_,rfl⟩
 have hWd:W1.heap[w.heap.size]? = some (.deferred (some [])):=by
  rw [← hW1];exact (Below.heap_alloc _ _ _ (by simp)).trans (World.alloc_heap_new w _)
 have hWl:W1.heap[w.heap.size+1]? = some (recT fn a.tmps ps assign body w.heap.size .ready none):=by
  rw [← hW1]
  have:=World.alloc_heap_new (w.alloc (.deferred (some []))) (recT fn a.tmps ps assign body w.heap.size .ready none)
  rwa [World.size_alloc] at this
 have hsz1:W1.heap.size=w.heap.size+2:=by rw [← hW1];simp
 have up:∀ {β:Type} {J:β→World→Prop},OwnT w.heap.size J→OwnT (w.heap.size+1) (fun pre W=>J pre W∧W.heap[w.heap.size]? = some (.deferred (some []))) :=
  fun h s A C k t=>⟨h s A C k.1 (t.imp (fun _ ho=>ho) (by omega)),t.block _ _ k.2 (.inl (by omega))⟩
 have hdef:∀ {A C:World},KeepsFrom w.heap.size A C→A.heap[w.heap.size]? = some (.deferred (some []))→C.heap[w.heap.size]? = some (.deferred (some [])):=fun k h=>k.same _ _ (Nat.le_refl _) h rfl
 have hWI:I ([],W1.heap.size) W1:=by rw [hsz1,← hW1];exact hI.alloc _ (hI.alloc _ h0)
 have hWb:Below w0.heap.size w0 W1:=by
  rw [← hW1];exact hw.trans ((((Below.refl _ w).alloc (Nat.le_refl _) _).alloc (by simp) _).mono hw.size)
 have hcall:=roundsT (a:=a) (n:=n-1) (B:=w.heap.size) (I:=fun s W=>I s W∧W.heap[w.heap.size]? = some (.deferred (some []))) (Ix:=fun c pre W=>Ix c pre W∧W.heap[w.heap.size]? = some (.deferred (some []))) (a₁:=a₁) hseq hOk hfn hps
  hWb (hpre _ (by rw [← hW1];exact ((Below.refl _ w).alloc (Nat.le_refl _) _).alloc (by simp) _)) (by omega) (by omega) hWl (up hI) (fun c=>up (hIx c)) ⟨hWI,hWd⟩ (hassign _)
  (fun m pre b x t6 W hr q1 q2 hi x0 x1 x9 hlen=>wpIn_mono (hbody _ m pre b x t6 W hr (by omega) q1 q2 hi.1 (by omega) x1 x9 hlen) (fun e a3 W3 hp=>by
   cases e with
   | normal=>exact ⟨hp.1,hp.2.1.up (by omega),hp.2.2.1,hp.2.2.2,hdef hp.1 hi.2⟩
   | ret=>exact ⟨hp.1,hp.2,hdef hp.1 hi.2⟩
   | exit id=>exact ⟨hp.1,hp.2,hdef hp.1 hi.2⟩
   | goto t=>exact ⟨hp.1,hp.2,hdef hp.1 hi.2⟩
   | panic ch=>exact hp.elim
   | outgrown=>exact hp.elim))
 refine ⟨w.heap.size+1,[{ target:=.collected w.heap.size,args:=#[] }],W1,{ target:=.fn (.func gf) lb,args:=#[.func (.yield (w.heap.size+1)) #[] #[]] },W1,gf,#[.func (.yield (w.heap.size+1)) #[] #[]]++lb,W1,?_,?_,?_,?_,?_,?_⟩
 ·rw [hro,← hW1];exact run_enterLoop_outer _ _ _ _ _
 ·simp only [resolve,hg]
  simp [go_sem]
 ·intro f' hf'
  simp [Target.leads] at hf';subst hf';exact hFg
 ·simp [invoke,go_sem,eg]
 ·intro h
  rw [hd] at h;cases h
 refine hcall.mono ?_
 rintro e W2 ⟨⟨v,rfl⟩,⟨xs,b,hS,hi,hbe,hl⟩|⟨c,pre,hS,hi,hl⟩⟩
 ·have h1:=run_endLoop (P:=P) hl (by simp)
  exact ⟨none,_,h1,hdone _ xs _ (Nat.le_refl _) hS ⟨b,hI.putObj _ hi.1 (by omega) hl rfl⟩ ⟨hbe.os,hbe.tape,hbe.output,by simpa using hbe.size,fun k hk=>(World.putObj_heap_other (by omega)).trans (hbe.block k hk)⟩ ((World.putObj_heap_other (by omega)).trans hi.2)⟩
 ·have h1:=run_endLoop (P:=P) hl (by simp)
  exact ⟨some c,_,h1,hstop _ c pre _ (Nat.le_refl _) hS ((hIx c).putObj _ hi.1 (by omega) hl rfl) ((World.putObj_heap_other (by omega)).trans hi.2)⟩
end loop
end Go.Proofs.YtgdilnljjgdinaaGreatDoor
