import Derived.Shelf.SlIterI.Nil
import Derived.Shelf.SortM.Plain
import Derived.Shelf.SortM.SortNone
import Derived.Test.YtdcocflnafcikaaGreatDoorProg
import Derived.Test.YtdcocflnafcikaaGreatDoorPqGAll
import Derived.Test.YtdcocflnafcikaaGreatDoorPqCAll
import Derived.Maps.OwnSet
namespace Go.Proofs
open Go.Shelf
def Tryz.keysA_ren:Go.Shelf.Ren:=⟨fun|7=>66|10=>97|n=>n,fun|23=>122|26=>3|3=>43|28=>126|0=>0|27=>125|33=>165|4=>4|n=>n,fun|n=>n⟩
theorem Tryz.keysA:Go.Proofs.SlLaysZI.n7 Tryz.prog Tryz.keysA_ren:={
 mixed:=by kernel_rfl
 f7:=⟨Tryz.f66.name,by decide,Tryz.func66.trans (congrArg some (by kernel_rfl))⟩
 f10:=⟨Tryz.f97.name,by decide,Tryz.func97.trans (congrArg some (by kernel_rfl))⟩
 t0:=Tryz.underlying0
 a0:=Tryz.isAgg0
 z0:=Tryz.sizeOf0
 v0:=Tryz.zeroValue0
 t4:=Tryz.underlying4
 a4:=Tryz.isAgg4
 z4:=Tryz.sizeOf4
 v4:=Tryz.zeroValue4
 t23:=Tryz.underlying122
 a23:=Tryz.isAgg122
 z23:=Tryz.sizeOf122
 v23:=Tryz.zeroValue122
 t26:=Tryz.underlying3
 a26:=Tryz.isAgg3
 z26:=Tryz.sizeOf3
 v26:=Tryz.zeroValue3
 t27:=Tryz.underlying125
 a27:=Tryz.isAgg125
 z27:=Tryz.sizeOf125
 v27:=Tryz.zeroValue125
 t28:=Tryz.underlying126
 a28:=Tryz.isAgg126
 z28:=Tryz.sizeOf126
 v28:=Tryz.zeroValue126
 t33:=Tryz.underlying165
 a33:=Tryz.isAgg165
 z33:=Tryz.sizeOf165
 v33:=Tryz.zeroValue165 }
def Tryz.sortedA_ren:Go.Shelf.Ren:=⟨fun|6=>65|8=>95|9=>96|11=>122|13=>124|12=>123|23=>148|24=>121|14=>139|15=>140|16=>141|17=>142|18=>143|19=>144|20=>145|21=>146|22=>147|25=>164|26=>165|27=>166|28=>167|29=>168|30=>169|31=>179|n=>n,fun|26=>3|28=>126|24=>123|0=>0|3=>3|37=>185|48=>201|50=>63|4=>4|40=>194|39=>193|45=>144|5=>5|9=>9|51=>214|55=>218|57=>228|58=>229|33=>165|n=>n,fun|n=>n⟩
theorem Tryz.sortedA:Go.Proofs.SlLaysZI.n6 Tryz.prog Tryz.sortedA_ren:={
 mixed:=by kernel_rfl
 f6:=⟨Tryz.f65.name,by decide,Tryz.func65.trans (congrArg some (by kernel_rfl))⟩
 f8:=⟨Tryz.f95.name,by decide,Tryz.func95.trans (congrArg some (by kernel_rfl))⟩
 f11:=⟨Tryz.f122.name,by decide,Tryz.func122.trans (congrArg some (by kernel_rfl))⟩
 t0:=Tryz.underlying0
 a0:=Tryz.isAgg0
 z0:=Tryz.sizeOf0
 v0:=Tryz.zeroValue0
 t24:=Tryz.underlying123
 a24:=Tryz.isAgg123
 z24:=Tryz.sizeOf123
 v24:=Tryz.zeroValue123
 t26:=Tryz.underlying3
 a26:=Tryz.isAgg3
 z26:=Tryz.sizeOf3
 v26:=Tryz.zeroValue3
 t28:=Tryz.underlying126
 a28:=Tryz.isAgg126
 z28:=Tryz.sizeOf126
 v28:=Tryz.zeroValue126
 i26:=by kernel_rfl }
def Tryz.sortA_ren:Go.Shelf.Ren:=⟨fun|5=>96|8=>124|7=>123|19=>148|20=>121|10=>139|11=>140|12=>141|13=>142|14=>143|15=>144|16=>145|17=>146|18=>147|30=>164|31=>165|32=>166|33=>167|34=>168|35=>169|40=>179|n=>n,fun|23=>123|25=>3|3=>3|32=>185|22=>123|0=>0|44=>201|46=>63|4=>4|36=>194|35=>193|41=>144|5=>5|9=>9|53=>214|57=>218|63=>228|64=>229|n=>n,fun|n=>n⟩
theorem Tryz.sortA:Go.Proofs.SlLaysM.n5 Tryz.prog Tryz.sortA_ren:={
 mixed:=by kernel_rfl
 f5:=⟨Tryz.f96.name,by decide,Tryz.func96.trans (congrArg some (by kernel_rfl))⟩
 f7:=⟨Tryz.f123.name,by decide,Tryz.func123.trans (congrArg some (by kernel_rfl))⟩
 f8:=Tryz.func124.trans (congrArg some (by kernel_rfl))
 f10:=⟨Tryz.f139.name,by decide,Tryz.func139.trans (congrArg some (by kernel_rfl))⟩
 f11:=⟨Tryz.f140.name,by decide,Tryz.func140.trans (congrArg some (by kernel_rfl))⟩
 f12:=⟨Tryz.f141.name,by decide,Tryz.func141.trans (congrArg some (by kernel_rfl))⟩
 f13:=⟨Tryz.f142.name,by decide,Tryz.func142.trans (congrArg some (by kernel_rfl))⟩
 f14:=⟨Tryz.f143.name,by decide,Tryz.func143.trans (congrArg some (by kernel_rfl))⟩
 f15:=⟨Tryz.f144.name,by decide,Tryz.func144.trans (congrArg some (by kernel_rfl))⟩
 f16:=⟨Tryz.f145.name,by decide,Tryz.func145.trans (congrArg some (by kernel_rfl))⟩
 f17:=⟨Tryz.f146.name,by decide,Tryz.func146.trans (congrArg some (by kernel_rfl))⟩
 f18:=⟨Tryz.f147.name,by decide,Tryz.func147.trans (congrArg some (by kernel_rfl))⟩
 f19:=Tryz.func148.trans (congrArg some (by kernel_rfl))
 f20:=Tryz.func121.trans (congrArg some (by kernel_rfl))
 f30:=⟨Tryz.f164.name,by decide,Tryz.func164.trans (congrArg some (by kernel_rfl))⟩
 f31:=Tryz.func165.trans (congrArg some (by kernel_rfl))
 f32:=Tryz.func166.trans (congrArg some (by kernel_rfl))
 f33:=⟨Tryz.f167.name,by decide,Tryz.func167.trans (congrArg some (by kernel_rfl))⟩
 f34:=⟨Tryz.f168.name,by decide,Tryz.func168.trans (congrArg some (by kernel_rfl))⟩
 f35:=⟨Tryz.f169.name,by decide,Tryz.func169.trans (congrArg some (by kernel_rfl))⟩
 f40:=⟨Tryz.f179.name,by decide,Tryz.func179.trans (congrArg some (by kernel_rfl))⟩
 t0:=Tryz.underlying0
 a0:=Tryz.isAgg0
 z0:=Tryz.sizeOf0
 v0:=Tryz.zeroValue0
 t3:=Tryz.underlying3
 a3:=Tryz.isAgg3
 z3:=Tryz.sizeOf3
 v3:=Tryz.zeroValue3
 t4:=Tryz.underlying4
 a4:=Tryz.isAgg4
 z4:=Tryz.sizeOf4
 v4:=Tryz.zeroValue4
 t5:=Tryz.underlying5
 a5:=Tryz.isAgg5
 z5:=Tryz.sizeOf5
 v5:=Tryz.zeroValue5
 t9:=Tryz.underlying9
 a9:=Tryz.isAgg9
 z9:=Tryz.sizeOf9
 v9:=Tryz.zeroValue9
 t22:=Tryz.underlying123
 a22:=Tryz.isAgg123
 z22:=Tryz.sizeOf123
 v22:=Tryz.zeroValue123
 t23:=Tryz.underlying123
 a23:=Tryz.isAgg123
 z23:=Tryz.sizeOf123
 v23:=Tryz.zeroValue123
 t25:=Tryz.underlying3
 a25:=Tryz.isAgg3
 z25:=Tryz.sizeOf3
 v25:=Tryz.zeroValue3
 t32:=Tryz.underlying185
 a32:=Tryz.isAgg185
 z32:=Tryz.sizeOf185
 v32:=Tryz.zeroValue185
 t35:=Tryz.underlying193
 a35:=Tryz.isAgg193
 z35:=Tryz.sizeOf193
 v35:=Tryz.zeroValue193
 t36:=Tryz.underlying194
 a36:=Tryz.isAgg194
 z36:=Tryz.sizeOf194
 v36:=Tryz.zeroValue194
 t41:=Tryz.underlying144
 a41:=Tryz.isAgg144
 z41:=Tryz.sizeOf144
 v41:=Tryz.zeroValue144
 t44:=Tryz.underlying201
 a44:=Tryz.isAgg201
 z44:=Tryz.sizeOf201
 v44:=Tryz.zeroValue201
 t46:=Tryz.underlying63
 a46:=Tryz.isAgg63
 z46:=Tryz.sizeOf63
 v46:=Tryz.zeroValue63
 t53:=Tryz.underlying214
 a53:=Tryz.isAgg214
 z53:=Tryz.sizeOf214
 v53:=Tryz.zeroValue214
 t57:=Tryz.underlying218
 a57:=Tryz.isAgg218
 z57:=Tryz.sizeOf218
 v57:=Tryz.zeroValue218
 t63:=Tryz.underlying228
 a63:=Tryz.isAgg228
 z63:=Tryz.sizeOf228
 v63:=Tryz.zeroValue228
 t64:=Tryz.underlying229
 a64:=Tryz.isAgg229
 z64:=Tryz.sizeOf229
 v64:=Tryz.zeroValue229 }
end Go.Proofs
namespace Go.Proofs.YtdcocflnafcikaaGreatDoor
def ps (t:Nat→PT) (Z:Nat→Nat) (x:Int):Nat→List (Rat × Nat)
 | 0=>[]
 | k+1=>if (t k).var=x then ps t Z x k++[((t k).coef,Z k)] else ps t Z x k
def lX (l:List (Rat × Nat)) (i:Nat):Rat:=(l.getD i (0,1)).1
def lZ (l:List (Rat × Nat)) (i:Nat):Nat:=(l.getD i (0,1)).2
theorem getD_lt {l:List (Rat × Nat)} {a:Rat × Nat} {i:Nat} (h:i<l.length):(l++[a]).getD i (0,1)=l.getD i (0,1):=by
 rw [List.getD_eq_getElem?_getD,List.getD_eq_getElem?_getD,List.getElem?_append_left h]
theorem getD_eq (l:List (Rat × Nat)) (a:Rat × Nat):(l++[a]).getD l.length (0,1)=a:=by
 rw [List.getD_eq_getElem?_getD,List.getElem?_append_right (Nat.le_refl _),Nat.sub_self];rfl
theorem lX_lt {l:List (Rat × Nat)} {a:Rat × Nat} {i:Nat} (h:i<l.length):lX (l++[a]) i=lX l i:=by unfold lX;rw [getD_lt h]
theorem lX_eq (l:List (Rat × Nat)) (a:Rat × Nat):lX (l++[a]) l.length=a.1:=by unfold lX;rw [getD_eq]
theorem lZ_lt {l:List (Rat × Nat)} {a:Rat × Nat} {i:Nat} (h:i<l.length):lZ (l++[a]) i=lZ l i:=by unfold lZ;rw [getD_lt h]
theorem lZ_eq (l:List (Rat × Nat)) (a:Rat × Nat):lZ (l++[a]) l.length=a.2:=by unfold lZ;rw [getD_eq]
theorem tot_congr {Z Y:Nat→Nat} {n:Nat} (h:∀ i,i<n→Z i=Y i):tot Z n=tot Y n:=by
 induction n with
 | zero=>rfl
 | succ n ih=>show tot Z n+Z n+1=tot Y n+Y n+1;rw [ih (fun i hi=>h i (by omega)),h n (by omega)]
theorem rsum_snoc (l:List (Rat × Nat)) (a:Rat × Nat):rsum (lX (l++[a])) (l.length+1)=rsum (lX l) l.length+a.1:=by
 rw [rsum_succ,lX_eq,rsum_congr (Y:=lX l) fun i hi=>lX_lt hi]
theorem tot_snoc (l:List (Rat × Nat)) (a:Rat × Nat):tot (lZ (l++[a])) (l.length+1)=tot (lZ l) l.length+a.2+1:=by
 show tot (lZ (l++[a])) l.length+lZ (l++[a]) l.length+1=_
 rw [lZ_eq,tot_congr (Y:=lZ l) fun i hi=>lZ_lt hi]
theorem gsum_ps (t:Nat→PT) (Z:Nat→Nat) (x:Int):∀ k,rsum (lX (ps t Z x k)) (ps t Z x k).length=gsum t k x
 | 0=>rfl
 | k+1=>by
  have ih:=gsum_ps t Z x k
  unfold gsum at ih ⊢
  rw [rsum_succ,← ih]
  show rsum (lX (if (t k).var=x then ps t Z x k++[((t k).coef,Z k)] else ps t Z x k)) (if (t k).var=x then ps t Z x k++[((t k).coef,Z k)] else ps t Z x k).length=_
  split
  ·rw [List.length_append];exact rsum_snoc _ _
  ·rw [Rat.add_zero]
theorem ps_sz {t:Nat→PT} {Z:Nat→Nat} (x:Int):∀ k,(∀ q,q<k→SzR (t q).coef (Z q)∧1≤Z q)→∀ i,i<(ps t Z x k).length→SzR (lX (ps t Z x k) i) (lZ (ps t Z x k) i)∧1≤lZ (ps t Z x k) i
 | 0,_,i,hi=>by simp [ps] at hi
 | k+1,h,i,hi=>by
  have ih:=ps_sz (t:=t) (Z:=Z) x k (fun q hq=>h q (by omega))
  revert hi
  show i<(if (t k).var=x then ps t Z x k++[((t k).coef,Z k)] else ps t Z x k).length→SzR (lX (if (t k).var=x then ps t Z x k++[((t k).coef,Z k)] else ps t Z x k) i) (lZ (if (t k).var=x then ps t Z x k++[((t k).coef,Z k)] else ps t Z x k) i)∧1≤lZ (if (t k).var=x then ps t Z x k++[((t k).coef,Z k)] else ps t Z x k) i
  split
  ·intro hi
   rw [List.length_append,List.length_cons,List.length_nil] at hi
   rcases (by omega:i<(ps t Z x k).length∨i=(ps t Z x k).length) with h2|rfl
   ·rw [lX_lt h2,lZ_lt h2];exact ih i h2
   ·rw [lX_eq,lZ_eq];exact h k (by omega)
  ·exact ih i
theorem ps_len (t:Nat→PT) (Z:Nat→Nat) (x:Int):∀ k,(ps t Z x k).length≤k
 | 0=>Nat.le_refl _
 | k+1=>by
  have ih:=ps_len t Z x k
  show (if (t k).var=x then ps t Z x k++[((t k).coef,Z k)] else ps t Z x k).length≤k+1
  split
  ·rw [List.length_append,List.length_cons,List.length_nil];omega
  ·omega
def zs (t:Nat→PT) (Z:Nat→Nat) (x:Int):Nat→Nat
 | 0=>0
 | k+1=>zs t Z x k+if (t k).var=x then Z k+1 else 0
theorem zs_tot (t:Nat→PT) (Z:Nat→Nat) (x:Int):∀ k,tot (lZ (ps t Z x k)) (ps t Z x k).length=zs t Z x k+1
 | 0=>rfl
 | k+1=>by
  have ih:=zs_tot t Z x k
  show tot (lZ (if (t k).var=x then ps t Z x k++[((t k).coef,Z k)] else ps t Z x k)) (if (t k).var=x then ps t Z x k++[((t k).coef,Z k)] else ps t Z x k).length=zs t Z x k+(if (t k).var=x then Z k+1 else 0)+1
  split
  ·rw [List.length_append]
   have:=tot_snoc (ps t Z x k) ((t k).coef,Z k)
   show tot _ ((ps t Z x k).length+1)=_
   omega
  ·omega
theorem zs_le (t:Nat→PT) (Z:Nat→Nat) (x:Int):∀ k,zs t Z x k+1≤tot Z k
 | 0=>Nat.le_refl _
 | k+1=>by
  have ih:=zs_le t Z x k
  show zs t Z x k+(if (t k).var=x then Z k+1 else 0)+1≤tot Z k+Z k+1
  split <;> omega
theorem rsum_tight {X:Nat→Rat} {Z:Nat→Nat} {n:Nat} (h:∀ i,i<n→SzR (X i) (Z i)):∀ k,k+1≤n→SzR (rsum X (k+1)) (tot Z (k+1)-2)
 | 0,hk=>by
  have e:rsum X 1=X 0:=by show 0+X 0=X 0;rw [Rat.zero_add]
  rw [e]
  exact (h 0 (by omega)).le (by show Z 0≤1+Z 0+1-2;omega)
 | k+1,hk=>by
  have ih:=rsum_tight h k (by omega)
  have h2:=ih.add (h (k+1) (by omega))
  have e:rsum X (k+1+1)=rsum X (k+1)+X (k+1):=rfl
  rw [e]
  refine h2.le ?_
  show tot Z (k+1)-2+Z (k+1)+1≤tot Z (k+1)+Z (k+1)+1-2
  have:2≤tot Z (k+1):=by have:=tot_pos Z k;show 2≤tot Z k+Z k+1;omega
  omega
theorem gsum_sz {t:Nat→PT} {Z:Nat→Nat} {k:Nat} (x:Int) (h:∀ q,q<k→SzR (t q).coef (Z q)∧1≤Z q) (hne:ps t Z x k≠[]):SzR (gsum t k x) (zs t Z x k-1)∧2≤zs t Z x k:=by
 obtain ⟨l,hl⟩:∃ l,(ps t Z x k).length=l+1:=⟨(ps t Z x k).length-1,by have:=List.length_pos_iff.2 hne;omega⟩
 have h1:=ps_sz x k h
 have h2:=rsum_tight (X:=lX (ps t Z x k)) (Z:=lZ (ps t Z x k)) (n:=l+1) (fun i hi=>(h1 i (by omega)).1) l (Nat.le_refl _)
 rw [← hl,gsum_ps,zs_tot] at h2
 refine ⟨h2.le (by omega),?_⟩
 have h3:=zs_tot t Z x k
 rw [hl] at h3
 have h4:=tot_mono (lZ (ps t Z x k)) (show 1≤l+1 by omega)
 have h5:=(h1 0 (by omega)).2
 have e:tot (lZ (ps t Z x k)) 1=1+lZ (ps t Z x k) 0+1:=rfl
 omega
structure Gath (t:Nat→PT) (nt n:Nat) (u:Nat→PT) (m:Nat):Prop where
 lt:∀ i,i<m→0≤(u i).var∧(u i).var<(n:Int)
 up:∀ i j,i<j→j<m→(u i).var<(u j).var
 co:∀ i,i<m→(u i).coef=gsum t nt (u i).var∧gsum t nt (u i).var≠0
 all:∀ x:Int,0≤x→x<(n:Int)→gsum t nt x≠0→∃ i,i<m∧(u i).var=x
theorem gsum_ne {t:Nat→PT} {Z:Nat→Nat} {k:Nat} {x:Int} (h:gsum t k x≠0):ps t Z x k≠[]:=by
 intro e
 apply h
 rw [← gsum_ps t Z x k,e]
 rfl
structure Gi (t:Nat→PT) (nt:Nat) (ks:List Int) (i:Nat) (u:Nat→PT) (m:Nat):Prop where
 mem:∀ q,q<m→(u q).var ∈ ks.take i
 up:∀ p q,p<q→q<m→(u p).var<(u q).var
 co:∀ q,q<m→(u q).coef=gsum t nt (u q).var∧gsum t nt (u q).var≠0
 all:∀ x,x ∈ ks.take i→gsum t nt x≠0→∃ q,q<m∧(u q).var=x
theorem Gi.start (t:Nat→PT) (nt:Nat) (ks:List Int) (u:Nat→PT):Gi t nt ks 0 u 0:=⟨fun q h=>by omega,fun p q _ h=>by omega,fun q h=>by omega,fun x h=>by simp at h⟩
theorem take_snoc {ks:List Int} {i:Nat} {x:Int} (h:ks[i]? = some x):ks.take (i+1)=ks.take i++[x]:=by rw [List.take_add_one,h];rfl
theorem Gi.skip {t:Nat→PT} {nt:Nat} {ks:List Int} {i:Nat} {u:Nat→PT} {m:Nat} (h:Gi t nt ks i u m) {x:Int} (hx:ks[i]? = some x) (h0:gsum t nt x=0):Gi t nt ks (i+1) u m:=by
 refine ⟨fun q hq=>?_,h.up,h.co,fun y hy hy0=>?_⟩
 ·rw [take_snoc hx];exact List.mem_append_left _ (h.mem q hq)
 ·rw [take_snoc hx,List.mem_append,List.mem_singleton] at hy
  rcases hy with hy|rfl
  ·exact h.all y hy hy0
  ·exact absurd h0 hy0
theorem Gi.step {t:Nat→PT} {nt:Nat} {ks:List Int} {i:Nat} {u:Nat→PT} {m:Nat} (h:Gi t nt ks i u m) (hp:ks.Pairwise (· < ·)) {x:Int} (hx:ks[i]? = some x) (h0:gsum t nt x≠0):Gi t nt ks (i+1) (fun q=>if q<m then u q else ⟨x,gsum t nt x⟩) (m+1):=by
 have hlt:∀ y,y ∈ ks.take i→y<x:=fun y hy=>by
  obtain ⟨hi,hi2⟩:=List.getElem?_eq_some_iff.1 hx
  obtain ⟨q,hq,e⟩:=List.mem_iff_getElem.1 hy
  rw [List.length_take] at hq
  rw [List.getElem_take] at e
  rw [← e,← hi2]
  exact List.pairwise_iff_getElem.1 hp q i (by omega) hi (by omega)
 refine ⟨fun q hq=>?_,fun p q hpq hq=>?_,fun q hq=>?_,fun y hy hy0=>?_⟩
 ·show (if q<m then u q else ⟨x,gsum t nt x⟩:PT).var ∈ _
  rw [take_snoc hx,List.mem_append,List.mem_singleton]
  split
  ·exact .inl (h.mem q (by omega))
  ·exact .inr rfl
 ·show (if p<m then u p else ⟨x,gsum t nt x⟩:PT).var<(if q<m then u q else ⟨x,gsum t nt x⟩:PT).var
  rw [if_pos (show p<m by omega)]
  split
  ·exact h.up p q hpq (by omega)
  ·exact hlt _ (h.mem p (by omega))
 ·show (if q<m then u q else ⟨x,gsum t nt x⟩:PT).coef=gsum t nt (if q<m then u q else ⟨x,gsum t nt x⟩:PT).var∧gsum t nt (if q<m then u q else ⟨x,gsum t nt x⟩:PT).var≠0
  split
  ·exact h.co q (by omega)
  ·exact ⟨rfl,h0⟩
 ·rw [take_snoc hx,List.mem_append,List.mem_singleton] at hy
  rcases hy with hy|rfl
  ·obtain ⟨q,hq,e⟩:=h.all y hy hy0
   exact ⟨q,by omega,by show (if q<m then u q else _:PT).var=_;rw [if_pos hq];exact e⟩
  ·exact ⟨m,by omega,by show (if m<m then u m else _:PT).var=_;rw [if_neg (Nat.lt_irrefl m)]⟩
theorem Gi.gath {t:Nat→PT} {nt n:Nat} {ks:List Int} {u:Nat→PT} {m:Nat} (h:Gi t nt ks ks.length u m) (h1:∀ x,x ∈ ks→0≤x∧x<(n:Int)) (h2:∀ x:Int,0≤x→x<(n:Int)→gsum t nt x≠0→x ∈ ks):Gath t nt n u m :=
 ⟨fun i hi=>h1 _ (by have:=h.mem i hi;rwa [List.take_length] at this),h.up,h.co,fun x h3 h4 h5=>h.all x (by rw [List.take_length];exact h2 x h3 h4 h5) h5⟩
end Go.Proofs.YtdcocflnafcikaaGreatDoor
namespace Go.Proofs.YtdcocflnafcikaaGreatDoor
open Go.RowKit Go.Maps
def rawR (v:Value):Option (DataW Value × List MemPlace):=some (.held v,[])
def pn (t:Nat→PT) (Z:Nat→Nat) (n:Nat) (x:Int) (k:Nat):List (Rat × Nat):=if 0≤x∧x<(n:Int) then ps t Z x k else []
theorem pn_in {t:Nat→PT} {Z:Nat→Nat} {n:Nat} {x:Int} {k:Nat} (h:0≤x∧x<(n:Int)):pn t Z n x k=ps t Z x k:=if_pos h
theorem pn_same {t:Nat→PT} {Z:Nat→Nat} {n:Nat} {k:Nat} (h:0≤(t k).var∧(t k).var<(n:Int)):pn t Z n (t k).var (k+1)=pn t Z n (t k).var k++[((t k).coef,Z k)]:=by
 rw [pn_in h,pn_in h]
 show (if (t k).var=(t k).var then _ else _)=_
 rw [if_pos rfl]
theorem pn_other {t:Nat→PT} {Z:Nat→Nat} {n:Nat} {x:Int} {k:Nat} (h:(t k).var≠x):pn t Z n x (k+1)=pn t Z n x k:=by
 unfold pn
 split
 ·show (if (t k).var=x then _ else _)=_
  rw [if_neg h]
 ·rfl
theorem pn_out {t:Nat→PT} {Z:Nat→Nat} {n:Nat} {k:Nat} (h:¬ (0≤(t k).var∧(t k).var<(n:Int))) (x:Int):pn t Z n x (k+1)=pn t Z n x k:=by
 by_cases e:(t k).var=x
 ·subst e
  unfold pn
  rw [if_neg h,if_neg h]
 ·exact pn_other e
theorem pn_len (t:Nat→PT) (Z:Nat→Nat) (n:Nat) (x:Int) (k:Nat):(pn t Z n x k).length≤k:=by
 unfold pn
 split
 ·exact ps_len t Z x k
 ·exact Nat.zero_le _
theorem ML.grow {w w':World} {B:Nat} {v:Value} {n:Nat} {X:Nat→Rat} {S:Nat} (h:ML w B v n X S) (hB:B≤w.heap.size) {lv:Value} {m:Nat} {Y:Nat→Rat} {R:Nat} (k:ML w B lv m Y R) (hne:∀ g,v.ownBlock=some g→lv.ownBlock≠some g) (hg:w.grownBy w' lv.ownBlock):ML w' B v n X S:=by
 obtain ⟨vs,h1,h2⟩:=h
 obtain ⟨us,k1,k2⟩:=k
 refine ⟨vs,World.ownsRow.kept h1 hg (row_or hne),fun i hi=>?_⟩
 obtain ⟨p,a,na,ca,d,nd,cd,g1,g2,g3,g4⟩:=h2 i hi
 exact ⟨p,a,na,ca,d,nd,cd,g1,g2,g3,g4.grow hB k1 hg⟩
theorem row_map {w:World} {B:Nat} {T:TypeId} {c:Nat} {v:Value} {n:Nat} {xs:List Value} (h:w.ownsRow B T c v n xs) {b:Nat} (hm:∃ es k,w.heap[b]? = some (.map es k)):v.ownBlock=none∨v.ownBlock≠some b:=by
 rcases h.2 with ⟨e1,_⟩|⟨g1,c1,cur1,e1,_,f1,_⟩
 ·subst e1;exact .inl rfl
 ·refine .inr fun e=>?_
  subst e1
  simp [Value.ownBlock] at e
  subst e
  obtain ⟨es,k,hm⟩:=hm
  rw [f1] at hm
  cases hm
theorem Got.mapped {w w':World} {B:Nat} {v:Value} {x:Int} {S:Nat} (h:Got w B v x S) {b:Nat} (hm:∃ es k,w.heap[b]? = some (.map es k)) (hg:w.grownBy w' (some b)):Got w' B v x S:=by
 obtain ⟨xs,h1,h2⟩:=h
 exact ⟨xs,World.ownsRow.kept h1 hg (row_map h1 hm),h2⟩
theorem GR.mapped {w w':World} {B:Nat} {f:Bool} {c:Option Addr} {n k:Nat} {c':Option Addr} {n' k':Nat} {r:Rat} {S:Nat} (h:GR w B f c n k c' n' k' r S) {b:Nat} (hm:∃ es k,w.heap[b]? = some (.map es k)) (hg:w.grownBy w' (some b)):GR w' B f c n k c' n' k' r S:=by
 refine ⟨?_,h.2.mapped hm hg,h.3⟩
 obtain ⟨a,n2,c2,h1,h2⟩:=h.1
 exact ⟨a,n2,c2,h1,h2.mapped hm hg⟩
theorem ML.mapped {w w':World} {B:Nat} {v:Value} {n:Nat} {X:Nat→Rat} {S:Nat} (h:ML w B v n X S) (hB:B≤w.heap.size) {b:Nat} (hm:∃ es k,w.heap[b]? = some (.map es k)) (hb:B≤b) (hg:w.grownBy w' (some b)):ML w' B v n X S:=by
 obtain ⟨vs,h1,h2⟩:=h
 refine ⟨vs,World.ownsRow.kept h1 hg (row_map h1 hm),fun i hi=>?_⟩
 obtain ⟨p,a,na,ca,d,nd,cd,g1,g2,g3,g4⟩:=h2 i hi
 refine ⟨p,a,na,ca,d,nd,cd,g1,g2,g3,?_⟩
 rcases g4 with g4|g4
 ·exact .inl (g4.mapped hm hg)
 ·exact .inr fun w2 h2=>g4 w2 ((grown_below hg hB (fun g e=>by cases e;exact hb)).trans h2)
structure GMap (w:World) (B b:Nat) (t:Nat→PT) (Z:Nat→Nat) (n k S:Nat) (D:DataW Value) (V:Int→Value):Prop where
 own:w.ownsMap Tryz.prog 3 rawR b k D
 val:∀ x,D.atKey (.int .i64 x) (.held (.slice none 0 0)) = .held (V x)
 has:∀ x,Maps.has D (.int .i64 x)=true↔pn t Z n x k≠[]
 ml:∀ x,ML w B (V x) (pn t Z n x k).length (lX (pn t Z n x k)) S
 ne:∀ x y g,x≠y→(V x).ownBlock=some g→(V y).ownBlock≠some g
 bb:B≤b
 bs:B≤w.heap.size
theorem GMap.start (w:World) (t:Nat→PT) (Z:Nat→Nat) (n S:Nat):GMap (w.alloc (.map #[] 0)) w.heap.size w.heap.size t Z n 0 S (.map []) (fun _=>.slice none 0 0):=by
 have e:∀ x,pn t Z n x 0=[]:=fun x=>by unfold pn;split <;> rfl
 refine ⟨World.ownsMap_made _ _ _ _,fun x=>rfl,fun x=>?_,fun x=>?_,fun x y g _ h=>(by cases h),Nat.le_refl _,(by simp)⟩
 ·rw [e]
  constructor
  ·intro h;cases h
  ·intro h;exact absurd rfl h
 ·rw [e]
  exact (RL.nil _ _ _ _).ml
theorem GMap.isMap {w:World} {B b:Nat} {t:Nat→PT} {Z:Nat→Nat} {n k S:Nat} {D:DataW Value} {V:Int→Value} (h:GMap w B b t Z n k S D V):∃ es k,w.heap[b]? = some (.map es k):=by
 obtain ⟨es,c,h,_⟩:=h.own
 exact ⟨es,c,h⟩
theorem GMap.below {w w':World} {B b:Nat} {t:Nat→PT} {Z:Nat→Nat} {n k S:Nat} {D:DataW Value} {V:Int→Value} (h:GMap w B b t Z n k S D V) (hb:Below w.heap.size w w'):GMap w' B b t Z n k S D V:=by
 refine ⟨?_,h.val,h.has,fun x=>(h.ml x).below h.bs hb,h.ne,h.bb,Nat.le_trans h.bs hb.size⟩
 have hl:=h.own.lt
 obtain ⟨es,c,h1,h2⟩:=h.own
 exact ⟨es,c,(hb.block b hl).trans h1,h2⟩
theorem GMap.skip {w:World} {B b:Nat} {t:Nat→PT} {Z:Nat→Nat} {n k S:Nat} {D:DataW Value} {V:Int→Value} (h:GMap w B b t Z n k S D V) (ho:¬ (0≤(t k).var∧(t k).var<(n:Int))):GMap w B b t Z n (k+1) S D V :=
 ⟨h.own.mono (Nat.le_succ _),h.val,fun x=>by rw [pn_out ho];exact h.has x,fun x=>by rw [pn_out ho];exact h.ml x,h.ne,h.bb,h.bs⟩
theorem key_int (x:Int):WideAt.IsKeyLit (.int .i64 x):=trivial
theorem wf_i64 {x:Int} (h1:-9223372036854775808≤x) (h2:x≤9223372036854775807):(Lit.int .i64 x).wf=true:=by
 have e1:IntKind.i64.min = -9223372036854775808:=by decide
 have e2:IntKind.i64.max=9223372036854775807:=by decide
 simp only [Lit.wf,e1,e2,Bool.and_eq_true,decide_eq_true_eq]
 exact ⟨h1,h2⟩
theorem GMap.look {w:World} {B b:Nat} {t:Nat→PT} {Z:Nat→Nat} {n k S:Nat} {D:DataW Value} {V:Int→Value} (h:GMap w B b t Z n k S D V) {x:Int} (h1:-9223372036854775808≤x) (h2:x≤9223372036854775807) :
  (Instr.lookup 122 (.map (some b)) (.int .i64 x) false).run Tryz.prog w = .ok (V x) w:=by
 obtain ⟨v,p,e1,e2⟩:=h.own.lookup (int_keyed Tryz.underlying3) (t:=122) (e:=43) Tryz.underlying122 (z:=.slice none 0 0) (Tryz.zeroValue43 w) (zd:=.held (.slice none 0 0)) (zp:=[]) rfl (keyOf_int_mk Tryz.underlying3 (wf_i64 h1 h2))
 rw [h.val x] at e2
 simp only [rawR,Option.some.injEq,Prod.mk.injEq,DataW.held.injEq] at e2
 rw [e1,e2.1]
theorem GMap.step {w w1 w2:World} {B b:Nat} {t:Nat→PT} {Z:Nat→Nat} {n k S:Nat} {D:DataW Value} {V:Int→Value} (h:GMap w B b t Z n k S D V) (hi:0≤(t k).var∧(t k).var<(n:Int))
  {v:Value} (hv:ML w1 B v ((pn t Z n (t k).var k).length+1) (fun i=>if i<(pn t Z n (t k).var k).length then lX (pn t Z n (t k).var k) i else (t k).coef) S) (hg:w.grownBy w1 (V (t k).var).ownBlock)
  (hat:v.ownBlock=(V (t k).var).ownBlock∨v.ownBlock=some w.heap.size) (ho:w2.ownsMap Tryz.prog 3 rawR b (k+1) (D.put (.int .i64 (t k).var) (.held v))) (hg2:w1.grownBy w2 (some b)) :
  GMap w2 B b t Z n (k+1) S (D.put (.int .i64 (t k).var) (.held v)) (fun y=>if y=(t k).var then v else V y):=by
 have hM:=h.own.isMap
 have hm:=h.isMap
 have hs1:w.heap.size≤w1.heap.size:=hg.size
 have hs2:w1.heap.size≤w2.heap.size:=hg2.size
 have hbs:=h.bs
 have hB1:B≤w1.heap.size:=by omega
 have hm1:∃ es c,w1.heap[b]? = some (.map es c):=by
  obtain ⟨es,c,e⟩:=hm
  refine ⟨es,c,(hg.block b (Array.getElem?_eq_some_iff.1 e).1 fun e2=>?_).trans e⟩
  obtain ⟨vs,r,_⟩:=h.ml (t k).var
  rcases row_map r ⟨es,c,e⟩ with e3|e3
  ·rw [e3] at e2;cases e2
  ·exact e3 e2.symm
 have hlt:∀ y g,(V y).ownBlock=some g→g<w.heap.size:=fun y g e=>((h.ml y).lt g e).2
 refine ⟨ho,fun x=>?_,fun x=>?_,fun x=>?_,?_,h.bb,by omega⟩
 ·by_cases e:x=(t k).var
  ·subst e
   rw [atKey_put_same hM (key_int _),if_pos rfl]
  ·rw [atKey_put_other (by simpa using e),if_neg e]
   exact h.val x
 ·by_cases e:x=(t k).var
  ·subst e
   rw [has_put_same hM (key_int _),pn_same hi]
   simp
  ·rw [has_put_other (by simpa using e),pn_other (fun e2=>e e2.symm)]
   exact h.has x
 ·by_cases e:x=(t k).var
  ·subst e
   rw [if_pos rfl,pn_same hi,List.length_append]
   refine (hv.mapped hB1 hm1 h.bb hg2).congr fun i hi=>?_
   show (if i<_ then _ else _)=_
   split
   ·rename_i h2;rw [lX_lt h2]
   ·rename_i h2
    obtain rfl:i=(pn t Z n (t k).var k).length:=by
     have:i<(pn t Z n (t k).var k).length+1:=hi
     omega
    rw [lX_eq]
  ·rw [if_neg e,pn_other (fun e2=>e e2.symm)]
   exact ((h.ml x).grow h.bs (h.ml (t k).var) (fun g e2=>h.ne x (t k).var g e e2) hg).mapped hB1 hm1 h.bb hg2
 ·intro x y g hxy e1 e2
  by_cases ex:x=(t k).var
  ·have ey:¬ y=(t k).var:=fun e=>hxy (ex.trans e.symm)
   rw [if_pos ex] at e1
   rw [if_neg ey] at e2
   rcases hat with hat|hat
   ·rw [hat] at e1
    exact h.ne _ _ g (fun e=>ey e.symm) e1 e2
   ·rw [hat] at e1
    cases e1
    have:=hlt y _ e2
    omega
  ·rw [if_neg ex] at e1
   by_cases ey:y=(t k).var
   ·rw [if_pos ey] at e2
    rcases hat with hat|hat
    ·rw [hat] at e2
     exact h.ne _ _ g ex e1 e2
    ·rw [hat] at e2
     cases e2
     have:=hlt x _ e1
     omega
   ·rw [if_neg ey] at e2
    exact h.ne x y g hxy e1 e2
theorem GMap.step' {w w1 w2:World} {B b:Nat} {t:Nat→PT} {Z:Nat→Nat} {n k S:Nat} {D:DataW Value} {V:Int→Value} {x:Int} (hx:x=(t k).var) (h:GMap w B b t Z n k S D V) (hi:0≤x∧x<(n:Int)) {c:Nat} (hc:c=(pn t Z n x k).length) {v0:Value} (hv0:V x=v0)
  {g cap H:Nat} (hv:ML w1 B (.slice (some ⟨g,0,none⟩) (c+1) cap) (c+1) (fun i=>if i<c then lX (pn t Z n x k) i else (t k).coef) S) (hg:w.grownBy w1 v0.ownBlock)
  (hat:v0.ownBlock=some g∨g=H) (hH:w.heap.size=H) (ho:w2.ownsMap Tryz.prog 3 rawR b (k+1) (D.put (.int .i64 x) (.held (.slice (some ⟨g,0,none⟩) (c+1) cap)))) (hg2:w1.grownBy w2 (some b)) :
  GMap w2 B b t Z n (k+1) S (D.put (.int .i64 x) (.held (.slice (some ⟨g,0,none⟩) (c+1) cap))) (fun y=>if y=x then .slice (some ⟨g,0,none⟩) (c+1) cap else V y):=by
 subst hx hc hv0 hH
 refine h.step hi hv hg ?_ ho hg2
 rcases hat with e|e
 ·exact .inl e.symm
 ·exact .inr (by rw [← e];rfl)
end Go.Proofs.YtdcocflnafcikaaGreatDoor
namespace Go.Proofs.YtdcocflnafcikaaGreatDoor
open Go.RowKit Go.Maps Go.Sort Go.Shelf
theorem sortsK (m:Nat):AnyZI.SortsIn Tryz.prog Tryz.sortedA_ren Fence.wide m :=
 ⟨fun blk off cap ss W hH hblk hsz=>callsIn_wide.2 (AnyM.slices_Sort_int Tryz.sortA blk off cap ss W hH hblk hsz),
  fun p cap W=>callsIn_wide.2 (AnyM.slices_Sort_int_none Tryz.sortA p cap W)⟩
theorem keysK (mb:Option Nat) (W:World):Calls Tryz.prog 66 #[.map mb] W fun e w'=>e = .returned (.func (.func 97) #[] #[.pointer (some ⟨W.heap.size,0,none⟩)])∧w'=W.alloc (.cells #[.map mb] 122) :=
 (callsIn_wide (n:=5)).1 (AnyZI.keys_in Tryz.keysA Fence.wide 5 trivial rfl mb W)
set_option maxHeartbeats 1000000 in
theorem sortedK {H:Type} (b nn:Nat) (D0:DataW H) (R:Value→Option (DataW H × List MemPlace)) (w:World) (hown:w.ownsMap Tryz.prog 3 R b nn D0) (hmax:Maps.size D0≤maxLen) (hbytes:Maps.size D0*8≤140737488355328) :
  Calls Tryz.prog 65 #[.func (.func 97) #[] #[.pointer (some ⟨w.heap.size,0,none⟩)]] (w.alloc (.cells #[.map (some b)] 122)) fun e w'=>∃ (v:Value) (ss:List Int),e = .returned v∧ss.Perm (intKeys D0) ∧
   w'.ownsRow (w.alloc (.cells #[.map (some b)] 122)).heap.size 3 1 v ss.length ((ss.mergeSort (fun x y=>decide (x≤y))).map encZ)∧(v = .slice none 0 0↔ss=[])∧Below (w.alloc (.cells #[.map (some b)] 122)).heap.size (w.alloc (.cells #[.map (some b)] 122)) w':=by
 have hbl:=hown.lt
 have hseq:SeqGives Fence.wide 2 Tryz.prog 97 #[.pointer (some ⟨w.heap.size,0,none⟩)] encZ (fun ss=>ss.Perm (intKeys D0)) (Maps.size D0) (w.alloc (.cells #[.map (some b)] 122)) :=
  AnyZI.keys_gives (ρ:=Tryz.keysA_ren) { Tryz.keysA with } Fence.wide _ trivial rfl (by omega) w.heap.size b nn D0 _ (by simp) (by simp) (by
   obtain ⟨es,clock,hb,Ft,hs,hD⟩:=hown
   exact ⟨es,clock,(Below.heap_alloc _ _ b hbl).trans hb,Ft,hs,hD⟩)
 exact (callsIn_wide (n:=5)).1 (AnyZI.sorted_in Tryz.sortedA Fence.wide 5 trivial trivial trivial trivial rfl (by omega) (sortsK _) (enters_of Tryz.func96 (by kernel_rfl) rfl) 97 #[.pointer (some ⟨w.heap.size,0,none⟩)] trivial (enters_of Tryz.func97 (by kernel_rfl) rfl) _ _ hmax hbytes _ hseq)
def Kys (D:DataW Value) (ks:List Int):Prop:=(∀ x,x ∈ ks↔has D (.int .i64 x)=true)∧ks.Pairwise (· < ·)
theorem kys_of {w:World} {b n:Nat} {D:DataW Value} (hown:w.ownsMap Tryz.prog 3 rawR b n D) {ss:List Int} (hp:ss.Perm (intKeys D)):Kys D (ss.mergeSort (fun x y=>decide (x≤y))):=by
 have hK:=int_keyed Tryz.underlying3
 obtain ⟨es,hD,hpw,_⟩:=hown.entries hK
 obtain ⟨es',hD',hko⟩:=hown.keysOf
 obtain rfl:es=es':=by rw [hD] at hD';simpa using hD'
 subst hD
 have hki:∀ p ∈ es,∃ x,p.1 = .int .i64 x:=fun p hp=>by obtain ⟨v,hv⟩:=hko p hp;obtain ⟨x,_,hx,_⟩:=Maps.keyOf_i64 Tryz.underlying3 hv;exact ⟨x,hx⟩
 have hnd:(intKeys (.map es)).Nodup:=by
  show (es.map fun p=>Go.intOf p.1).Nodup
  refine List.pairwise_map.2 (hpw.imp_of_mem fun {p q} hp' hq' hne e=>hne ?_)
  obtain ⟨a,ha⟩:=hki p hp'
  obtain ⟨b,hb⟩:=hki q hq'
  rw [ha,hb] at e ⊢
  exact congrArg _ e
 have hmem:∀ x,x ∈ intKeys (.map es)↔has (.map es) (.int .i64 x)=true:=fun x=>by
  rw [has_eq,List.any_eq_true]
  show x ∈ es.map (fun p=>Go.intOf p.1)↔_
  rw [List.mem_map]
  constructor
  ·rintro ⟨p,hp',rfl⟩
   obtain ⟨a,ha⟩:=hki p hp'
   exact ⟨p,hp',by rw [ha];simp [Lit.sameKey,Go.intOf]⟩
  ·rintro ⟨p,hp',hs⟩
   obtain ⟨a,ha⟩:=hki p hp'
   rw [ha] at hs
   exact ⟨p,hp',by rw [ha];simpa [Lit.sameKey,Go.intOf] using hs⟩
 have hq:=(List.mergeSort_perm ss (fun x y=>decide (x≤y))).trans hp
 refine ⟨fun x=>by rw [hq.mem_iff];exact hmem x,?_⟩
 have hnd2:(ss.mergeSort (fun x y=>decide (x≤y))).Nodup:=hq.nodup_iff.2 hnd
 have hs:=List.pairwise_mergeSort (le:=fun x y:Int=>decide (x≤y)) (fun a b c h1 h2=>by simp only [decide_eq_true_eq] at *;exact Int.le_trans h1 h2) (fun a b=>by simp only [Bool.or_eq_true,decide_eq_true_eq];exact Int.le_total a b) ss
 refine (hs.and hnd2).imp fun {a b} h=>?_
 have h1:a≤b:=by simpa using h.1
 have h2:a≠b:=h.2
 omega
theorem int_row {w:World} {B:Nat} {v:Value} {n:Nat} {ks:List Int} (h:w.ownsRow B 3 1 v n (ks.map encZ)) (hl:ks.length=n):∃ a cap,v = .slice a ks.length cap∧(ks.length=0∨∃ g,a=some ⟨g,0,none⟩∧∀ (i:Nat) x,ks[i]? = some x→w.cell? ⟨g,i,none⟩=some (.int .i64 x)):=by
 subst hl
 rcases h.2 with ⟨rfl,h0⟩|⟨g,cap,cur,e1,_,hg,_,_,_,ht⟩
 ·exact ⟨none,0,by rw [h0],.inl h0⟩
 ·refine ⟨_,cap,e1,.inr ⟨g,rfl,fun i x hx=>row_cell hg ht ?_⟩⟩
  rw [List.getElem?_map,hx]
  rfl
theorem sortedQ (b nn:Nat) (D:DataW Value) (w:World) (hown:w.ownsMap Tryz.prog 3 rawR b nn D) (hn:nn≤1000000000) :
  Calls Tryz.prog 65 #[.func (.func 97) #[] #[.pointer (some ⟨w.heap.size,0,none⟩)]] (w.alloc (.cells #[.map (some b)] 122)) fun e w'=>∃ a cap ks,e = .returned (.slice a ks.length cap)∧Kys D ks∧(ks.length=0∨∃ g,a=some ⟨g,0,none⟩∧∀ (i:Nat) x,ks[i]? = some x→w'.cell? ⟨g,i,none⟩=some (.int .i64 x))∧ks.length≤nn∧Below w.heap.size w w':=by
 have hs:Maps.size D≤nn:=hown.size_le
 refine (sortedK b nn D rawR w hown (by unfold maxLen;omega) (by omega)).mono ?_
 rintro e w' ⟨v,ss,rfl,hp,hr,_,hb⟩
 obtain ⟨a,cap,rfl,hc⟩:=int_row hr (List.length_mergeSort _)
 refine ⟨a,cap,_,rfl,kys_of hown hp,hc,?_,bel_tr (bel_d0 _ _) hb⟩
 rw [List.length_mergeSort,hp.length_eq]
 obtain ⟨es,rfl⟩:=hown.isMap
 have e:(intKeys (H:=Value) (.map es)).length=Maps.size (.map es):=by
  show (es.map _).length=es.length
  rw [List.length_map]
 omega
end Go.Proofs.YtdcocflnafcikaaGreatDoor
