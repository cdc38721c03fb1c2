import Derived.Test.YtjiodidemimgmaaGreatDoorQ3OAll
import Derived.Test.YtjiodidemimgmaaGreatDoorBpE
import Derived.Test.YtjiodidemimgmaaGreatDoorR3LiAll
namespace Go.Proofs.YtjiodidemimgmaaGreatDoor
open Go.RowKit
theorem totB_mono {f g:Nat→Nat}:∀ n,(∀ i,i < n→f i≤g i)→totB f n≤totB g n
 | 0,_=>Nat.le_refl _
 | n + 1,h=>by
  have h1:=totB_mono n fun i hi=>h i (by omega)
  have h2:=h n (by omega)
  show totB f n + f n≤totB g n + g n
  omega
theorem totB_add (f g:Nat→Nat):∀ n,totB (fun i=>f i + g i) n = totB f n + totB g n
 | 0=>rfl
 | n + 1=>by
  have h1:=totB_add f g n
  show totB (fun i=>f i + g i) n + (f n + g n) = totB f n + f n + (totB g n + g n)
  omega
theorem totB_cut (f:Nat→Nat) (k:Nat):∀ n,totB (fun i=>if i < k then f i else 0) n≤totB f k
 | 0=>Nat.zero_le _
 | n + 1=>by
  have h1:=totB_cut f k n
  show totB (fun i=>if i < k then f i else 0) n + (if n < k then f n else 0)≤totB f k
  by_cases h:n < k
  ·rw [if_pos h]
   have e:totB (fun i=>if i < k then f i else 0) n = totB f n:=totB_ext n fun i hi=>if_pos (by omega)
   rw [e]
   exact totB_up (f:=f) (show n + 1≤k by omega)
  ·rw [if_neg h]
   exact h1
theorem totB_pt (v x:Nat):∀ n,totB (fun i=>if i = x then v else 0) n≤v
 | 0=>Nat.zero_le _
 | n + 1=>by
  show totB (fun i=>if i = x then v else 0) n + (if n = x then v else 0)≤v
  by_cases h:n = x
  ·rw [if_pos h]
   have e:totB (fun i=>if i = x then v else 0) n = totB (fun _=>0) n:=totB_ext n fun i hi=>if_neg (by omega)
   have z:∀ k,totB (fun _=>0) k = 0:=fun k=>by
    induction k with
    | zero=>rfl
    | succ k ih=>show totB (fun _=>0) k + 0 = 0;omega
   rw [e,z]
   omega
  ·rw [if_neg h]
   exact totB_pt v x n
theorem szr_dsg {s:Bool} {r:Rat} {K:Nat} (h:SzR r K):SzR (dsg s r) K:=by
 unfold dsg
 split
 ·exact ⟨by rw [Rat.neg_num,Int.natAbs_neg];exact h.1,by rw [Rat.neg_den];exact h.2⟩
 ·exact h
def stz (s:StD) (ZE:Nat→Nat→Nat) (ZB:Nat→Nat) (c r:Nat):Nat:=if TX s.row (s.cn + s.bn) c r = 0 then 0 else if c = s.cn + s.bn then ZB r + 1 else if c = s.cn + r then 2 else ZE r c + 1
theorem stz_ok {s:StD} {ZE:Nat→Nat→Nat} {ZB:Nat→Nat} (hE:∀ r,r < s.bn→∀ c,c < s.k r→SzR (s.E r c) (ZE r c)) (hB:∀ r,r < s.bn→SzR (s.B r) (ZB r)):StZ s (stz s ZE ZB):=by
 intro r hr c hc
 unfold stz
 by_cases h0:TX s.row (s.cn + s.bn) c r = 0
 ·exact .inl ⟨h0,if_pos h0⟩
 ·refine .inr ?_
  rw [if_neg h0]
  have hk:=s.k_le r
  by_cases hN:c = s.cn + s.bn
  ·rw [if_pos hN]
   refine ⟨by omega,?_⟩
   rw [Nat.add_sub_cancel]
   unfold TX
   rw [if_neg (by omega)]
   exact szr_dsg (hB r hr)
  ·rw [if_neg hN]
   have e:TX s.row (s.cn + s.bn) c r = lat (fln (s.t r) (s.E r) (s.k r) (s.cn + r)) c:=if_pos (by omega)
   rw [e,fln_lat _ _ (by omega)] at h0 ⊢
   by_cases hA:c = s.cn + r
   ·rw [if_pos hA,if_pos hA.symm]
    exact ⟨by omega,⟨by decide,by decide⟩⟩
   ·rw [if_neg hA,if_neg (Ne.symm hA)]
    rw [if_neg (Ne.symm hA)] at h0
    by_cases hck:c < s.k r
    ·rw [if_pos hck,Nat.add_sub_cancel]
     exact ⟨by omega,szr_dsg (hE r hr c hck)⟩
    ·rw [if_neg hck] at h0
     exact absurd rfl h0
theorem rws_mono {f g:Nat→Nat}:∀ n k,(∀ r,k≤r→r < k + n→f r≤g r)→rws f n k≤rws g n k
 | 0,_,_=>Nat.le_refl _
 | n + 1,k,h=>by
  have h1:=rws_mono n (k + 1) fun r h1 h2=>h r (by omega) (by omega)
  have h2:=h k (by omega) (by omega)
  show f k + rws f n (k + 1)≤g k + rws g n (k + 1)
  omega
theorem stz_le (s:StD) (ZE:Nat→Nat→Nat) (ZB:Nat→Nat):stK s (stz s ZE ZB)≤rws (fun r=>totB (fun c=>ZE r c + 1) (s.k r) + 2 + (ZB r + 1)) s.bn 0 + 1:=by
 unfold stK
 refine Nat.add_le_add_right (rws_mono _ _ fun r _ hr=>?_) 1
 have hk:=s.k_le r
 have h1:totB (fun c=>stz s ZE ZB c r) (s.cn + s.bn + 1)≤totB (fun c=>(if c < s.k r then ZE r c + 1 else 0) + ((if c = s.cn + r then 2 else 0) + (if c = s.cn + s.bn then ZB r + 1 else 0))) (s.cn + s.bn + 1):=totB_mono _ fun c hc=>by
  unfold stz
  by_cases h0:TX s.row (s.cn + s.bn) c r = 0
  ·rw [if_pos h0];exact Nat.zero_le _
  ·rw [if_neg h0]
   by_cases hN:c = s.cn + s.bn
   ·rw [if_pos hN,if_pos hN];omega
   ·rw [if_neg hN,if_neg hN]
    by_cases hA:c = s.cn + r
    ·rw [if_pos hA,if_pos hA];omega
    ·rw [if_neg hA,if_neg hA]
     have e:TX s.row (s.cn + s.bn) c r = lat (fln (s.t r) (s.E r) (s.k r) (s.cn + r)) c:=if_pos (by omega)
     rw [e,fln_lat _ _ (by omega),if_neg (Ne.symm hA)] at h0
     by_cases hck:c < s.k r
     ·rw [if_pos hck];omega
     ·rw [if_neg hck] at h0
      exact absurd rfl h0
 rw [totB_add,totB_add] at h1
 have h2:=totB_cut (fun c=>ZE r c + 1) (s.k r) (s.cn + s.bn + 1)
 have h3:=totB_pt 2 (s.cn + r) (s.cn + s.bn + 1)
 have h4:=totB_pt (ZB r + 1) (s.cn + s.bn) (s.cn + s.bn + 1)
 omega
theorem csz_lco {Y:Nat→Rat} {ZY:Nat→Nat} {cn KC:Nat} (hY:∀ c,c < cn→SzR (Y c) (ZY c)) (hK:totB (fun c=>ZY c + 1) cn≤KC) (N:Nat):∀ k,k≤cn→CsZ (lco Y k) N KC:=fun k hk=>by
 refine ⟨fun c=>if c < k then ZY c + 1 else 0,fun c _=>?_,?_⟩
 ·rw [lco_lat]
  show (if c < k then Y c else 0) = 0∧(if c < k then ZY c + 1 else 0) = 0∨1≤(if c < k then ZY c + 1 else 0)∧SzR (if c < k then Y c else 0) ((if c < k then ZY c + 1 else 0) - 1)
  by_cases h:c < k
  ·rw [if_pos h,if_pos h,Nat.add_sub_cancel]
   exact .inr ⟨by omega,hY c (by omega)⟩
  ·rw [if_neg h,if_neg h]
   exact .inl ⟨rfl,rfl⟩
 ·exact Nat.le_trans (totB_cut (fun c=>ZY c + 1) k N) (Nat.le_trans (totB_up hk) hK)
theorem exm_std {w w':World} {e:Ending} (h:ExmP w e w'):∃ s:StD,e = .returned (.agg #[.slice s.aa s.an s.ac,.slice s.ba s.bn s.bc,.slice s.ca s.cn s.cc,.bool s.zp,.slice s.za s.zn s.zc,.slice s.zd s.zm s.ze])∧StQ w' s 1∧s.an = 2∧s.bn = 2∧s.cn = 3∧s.rn 0 = 3∧s.rn 1 = 2∧s.E 0 = yA0∧s.E 1 = yA1∧s.B = yB∧Below w.heap.size w w':=by
 obtain ⟨va,vb,vc,rfl,⟨g,s0,s1,rfl,R,h0,h1⟩,hB,hC,hb⟩:=h
 obtain ⟨a0,rfl,l0⟩:=h0.lq
 obtain ⟨a1,rfl,l1⟩:=h1.lq
 obtain ⟨ab,rfl,lb⟩:=hB.lq
 obtain ⟨ac,rfl,_⟩:=hC.lq
 refine ⟨{ aa:=some ⟨g,0,none⟩,an:=2,ac:=2,ba:=ab,bn:=2,bc:=2,ca:=ac,cn:=3,cc:=3,zp:=false,za:=none,zn:=0,zc:=0,zd:=none,zm:=0,ze:=0,ra:=fun i=>if i = 0 then a0 else a1,rn:=fun i=>if i = 0 then 3 else 2,rc:=fun i=>if i = 0 then 3 else 2,E:=fun i=>if i = 0 then yA0 else yA1,B:=yB },rfl,⟨.inr ⟨g,0,rfl,fun i hi=>?_⟩,lb⟩,rfl,rfl,rfl,rfl,rfl,rfl,rfl,rfl,hb⟩
 have hi':i < 2:=hi
 rcases (by omega:i = 0∨i = 1) with rfl | rfl
 ·exact ⟨(R.cell 0).trans rfl,Nat.le_refl _,l0⟩
 ·exact ⟨(R.cell 1).trans rfl,Nat.le_refl _,l1⟩
theorem LQ.uni {w:World} {a:Option Addr} {n:Nat} {X:Nat→Rat} {Z:Nat→Nat} {T:Nat} (h:LQ w a n X Z) (hz:∀ i,i < n→Z i≤T):LQ w a n X (fun _=>T):=by
 rcases h with h0 | ⟨b,o,e,h⟩
 ·exact .inl h0
 ·refine .inr ⟨b,o,e,fun i hi=>?_⟩
  obtain ⟨p,a,na,ca,d,nd,cd,h1,h2,h3,h4⟩:=h i hi
  exact ⟨p,a,na,ca,d,nd,cd,h1,h2,h3,h4.up (hz i hi)⟩
end Go.Proofs.YtjiodidemimgmaaGreatDoor
namespace Go.Proofs.YtjiodidemimgmaaGreatDoor
open Go.ChangeShapes Go.WideShapes Go.ChangeAt Go.RowKit
theorem totB_shift (f:Nat→Nat):∀ n,totB f (n + 1) = f 0 + totB (fun i=>f (i + 1)) n
 | 0=>by show totB f 0 + f 0 = f 0 + 0;rw [show totB f 0 = 0 from rfl];omega
 | n + 1=>by
  have h:=totB_shift f n
  show totB f (n + 1) + f (n + 1) = f 0 + (totB (fun i=>f (i + 1)) n + f (n + 1))
  omega
theorem rws_tot (f:Nat→Nat):∀ n k,rws f n k = totB (fun i=>f (k + i)) n
 | 0,_=>rfl
 | n + 1,k=>by
  show f k + rws f n (k + 1) = _
  rw [rws_tot f n (k + 1),totB_shift]
  have e:totB (fun i=>f (k + 1 + i)) n = totB (fun i=>f (k + (i + 1))) n:=totB_ext n fun i _=>congrArg f (by omega)
  rw [e]
  rfl
section
variable {H:Type} {enc:TypeId × Value→H} {W:World}
def bulkOf (l:List (DataW H)) (i:Nat):Nat:=match l[i]? with
 | some d=>Rows.uptoBulk d
 | none=>0
theorem bulkOf_eq {ys:List (DataW H)} {j:Nat} {y:DataW H} (h:ys[j]? = some y):bulkOf ys j = Rows.uptoBulk y:=by unfold bulkOf;rw [h]
theorem bulkOf_tot (l:List (DataW H)):totB (bulkOf l) l.length = Rows.uptoBulkAll l:=by
 induction l with
 | nil=>rfl
 | cons x r ih =>
  rw [List.length_cons,totB_shift]
  show bulkOf (x :: r) 0 + totB (fun i=>bulkOf (x :: r) (i + 1)) r.length = _
  have e:totB (fun i=>bulkOf (x :: r) (i + 1)) r.length = totB (bulkOf r) r.length:=totB_ext _ fun i _=>by unfold bulkOf;rw [List.getElem?_cons_succ]
  rw [e,ih]
  rfl
set_option maxRecDepth 100000 in
theorem open_ratc4 {fuel:Nat} {cs:List Value} {x:DataW H × List MemPlace} (hsz:cs.length = 3)
  (hf:DataW.trod enc Tryz.prog W 0 (fun _=>true) true fuel 29 cs = some x) :
  ∃ b a n cap a' n' cap' r,cs = [.bool b,.slice a n cap,.slice a' n' cap']∧TR W b a n cap a' n' cap' r (Rows.uptoBulk x.1 - 4)∧5≤Rows.uptoBulk x.1:=by
 obtain ⟨y0,y1,m,hx,_,hy0,hy1⟩:=trod_struct2 Tryz.underlying29 hf
 match cs,hsz with
 | [u0,u1,u2],_ =>
  simp only [cellsInt,cellsNatI,List.drop_zero,List.drop_succ_cons,List.take_succ_cons,List.take_zero] at hy0 hy1
  have hd:x.1 = .agg [y0.1,y1.1]:=by rw [hx]
  obtain ⟨z0,z1,m',hx',_,hz0,hz1⟩:=trod_struct2 Tryz.underlying27 hy0
  simp only [cellsBool,cellsNatI,List.drop_zero,List.drop_succ_cons,List.take_succ_cons,List.take_zero] at hz0 hz1
  have hd':y0.1 = .agg [z0.1,z1.1]:=by rw [hx']
  have hB:Rows.uptoBulk x.1 = Rows.uptoBulk y0.1 + (Rows.uptoBulk y1.1 + 0) + 1:=by rw [hd];simp only [Rows.uptoBulk,Rows.uptoBulkAll]
  have hB':Rows.uptoBulk y0.1 = Rows.uptoBulk z0.1 + (Rows.uptoBulk z1.1 + 0) + 1:=by rw [hd'];simp only [Rows.uptoBulk,Rows.uptoBulkAll]
  obtain ⟨a,n,cap,xs,rfl,h1,h2,h3,h4,h5⟩:=open_natK hz1 (Nat.le_refl _)
  obtain ⟨a',n',cap',ys,rfl,k1,k2,k3,k4,k5⟩:=open_natK hy1 (Nat.le_refl _)
  have l0:=bulk_one z0.1
  have l1:=bulk_one z1.1
  have l2:=bulk_one y1.1
  obtain ⟨b,hc,_⟩:=DataW.trod_bool Tryz.underlying4 hz0
  simp only [List.cons.injEq,and_true] at hc
  subst hc
  exact ⟨b,a,n,cap,a',n',cap',_,rfl,⟨_,_,⟨_,⟨xs,h1,h2,h3,h4,rfl,by omega⟩,rfl⟩,⟨ys,k1,k2,k3,k4,rfl,by omega⟩,rfl⟩,by omega⟩
theorem open_rats4 {fuel:Nat} {u:Value} {x:DataW H × List MemPlace} (hf:DataW.trod enc Tryz.prog W 0 (fun _=>true) true fuel 23 [u] = some x) :
  ∃ a m cap X Z,u = .slice a m cap∧m≤cap∧LQ W a m X Z∧(∀ i,i < m→SzR (X i) (Z i)∧Z i≤Rows.uptoBulk x.1)∧totB (fun i=>Z i + 4) m + 1≤Rows.uptoBulk x.1∧m + 1≤Rows.uptoBulk x.1:=by
 obtain ⟨a,m,cap,ys,rfl,hm,hl,hb,h⟩:=open_slicec Tryz.underlying23 cellsRat (by decide) hf
 have ht:=bulkOf_tot ys
 have hlen:=bulk_length ys
 rw [hl] at ht hlen
 rcases h with h0 | ⟨b,o,rfl,h⟩
 ·subst h0
  exact ⟨a,0,cap,fun _=>0,fun _=>0,rfl,hm,.inl rfl,fun i hi=>by omega,by show 0 + 1≤_;omega,by omega⟩
 ·obtain ⟨X,hX⟩:=pick (0:Rat) (P:=fun j r=>(∃ p a na ca d nd cd,W.cell? ⟨b,o + j * 3,none⟩ = some (.bool p)∧W.cell? ⟨b,o + j * 3 + 1,none⟩ = some (.slice a na ca)∧W.cell? ⟨b,o + j * 3 + 2,none⟩ = some (.slice d nd cd)∧TR W p a na ca d nd cd r (bulkOf ys j - 4))∧SzR r (bulkOf ys j - 4)∧5≤bulkOf ys j) (fun j hj=>by
   obtain ⟨cs,n,y,e1,e2,e3,e4⟩:=h j hj
   obtain ⟨p,a,na,ca,d,nd,cd,r,rfl,c1,g1⟩:=open_ratc4 e2 e4
   rw [bulkOf_eq e1]
   exact ⟨r,⟨p,a,na,ca,d,nd,cd,e3 0 _ rfl,e3 1 _ rfl,e3 2 _ rfl,c1⟩,c1.sz (by omega),g1⟩)
  have e:totB (fun i=>bulkOf ys i - 4 + 4) m = totB (bulkOf ys) m:=totB_ext m fun i hi=>by have:=(hX i hi).2.2;omega
  refine ⟨_,m,cap,X,fun i=>bulkOf ys i - 4,rfl,hm,.inr ⟨b,o,rfl,fun j hj=>(hX j hj).1⟩,fun i hi=>⟨(hX i hi).2.1,?_⟩,?_,by omega⟩
  ·have:=totB_one (f:=bulkOf ys) hi
   show bulkOf ys i - 4≤_
   omega
  ·show totB (fun i=>bulkOf ys i - 4 + 4) m + 1≤_
   rw [e];omega
theorem cellsMat:Tryz.prog.cellsOf 22 = 1:=by kernel_rfl
theorem cellsStd:Tryz.prog.cellsOf 31 = 6:=by kernel_rfl
theorem open_mat {fuel:Nat} {u:Value} {x:DataW H × List MemPlace} (hf:DataW.trod enc Tryz.prog W 0 (fun _=>true) true fuel 22 [u] = some x) :
  ∃ a m cap,∃ ra:Nat→Option Addr,∃ rn rc:Nat→Nat,∃ E:Nat→Nat→Rat,∃ ZE:Nat→Nat→Nat,∃ ZR:Nat→Nat,u = .slice a m cap∧m≤cap∧totB ZR m + 1≤Rows.uptoBulk x.1 ∧
   (m = 0∨∃ b o,a = some ⟨b,o,none⟩∧∀ i,i < m→W.cell? ⟨b,o + i,none⟩ = some (.slice (ra i) (rn i) (rc i))∧rn i≤rc i∧LQ W (ra i) (rn i) (E i) (fun _=>Rows.uptoBulk x.1)) ∧
   ∀ i,i < m→(∀ c,c < rn i→SzR (E i c) (ZE i c))∧totB (fun c=>ZE i c + 4) (rn i)≤ZR i:=by
 obtain ⟨a,m,cap,ys,rfl,hm,hl,hb,h⟩:=open_slicec Tryz.underlying22 cellsRatL (by decide) hf
 have ht:=bulkOf_tot ys
 rw [hl] at ht
 rcases h with h0 | ⟨b,o,rfl,h⟩
 ·subst h0
  exact ⟨a,0,cap,fun _=>none,fun _=>0,fun _=>0,fun _ _=>0,fun _ _=>0,fun _=>0,rfl,hm,by show 0 + 1≤_;omega,.inl rfl,fun i hi=>by omega⟩
 ·obtain ⟨f,hf2⟩:=pick ((none,0,0,(fun _=>0),(fun _=>0)):Option Addr × Nat × Nat × (Nat→Rat) × (Nat→Nat)) (P:=fun j t=>W.cell? ⟨b,o + j,none⟩ = some (.slice t.1 t.2.1 t.2.2.1)∧t.2.1≤t.2.2.1∧LQ W t.1 t.2.1 t.2.2.2.1 (fun _=>bulkOf ys j)∧(∀ c,c < t.2.1→SzR (t.2.2.2.1 c) (t.2.2.2.2 c))∧totB (fun c=>t.2.2.2.2 c + 4) t.2.1≤bulkOf ys j) (fun j hj=>by
   obtain ⟨cs,n,y,e1,e2,e3,e4⟩:=h j hj
   match cs,e2 with
   | [u],_ =>
    obtain ⟨a',m',cap',X,Z,rfl,k1,k2,k3,k4,_⟩:=open_rats4 e4
    have hc:=e3 0 _ rfl
    rw [Nat.mul_one,Nat.add_zero] at hc
    rw [bulkOf_eq e1]
    exact ⟨(a',m',cap',X,Z),hc,k1,k2.uni fun i hi=>(k3 i hi).2,fun c hc=>(k3 c hc).1,by show totB (fun i=>Z i + 4) m'≤_;omega⟩)
  refine ⟨_,m,cap,fun i=>(f i).1,fun i=>(f i).2.1,fun i=>(f i).2.2.1,fun i=>(f i).2.2.2.1,fun i=>(f i).2.2.2.2,bulkOf ys,rfl,hm,by omega,.inr ⟨b,o,rfl,fun i hi=>⟨(hf2 i hi).1,(hf2 i hi).2.1,(hf2 i hi).2.2.1.uni fun _ _=>?_⟩⟩,fun i hi=>⟨(hf2 i hi).2.2.2.1,(hf2 i hi).2.2.2.2⟩⟩
  have:=totB_one (f:=bulkOf ys) hi
  omega
set_option maxRecDepth 100000 in
theorem open_std {base:Nat} {v:Value} {dd:DataW H} {pl:List MemPlace} (hv:Value.okWide Tryz.prog W .any base 31 v) (h:DataW.Trod enc Tryz.prog W 0 (fun _=>true) true 31 v dd pl) :
  ∃ s:StD,v = .agg #[.slice s.aa s.an s.ac,.slice s.ba s.bn s.bc,.slice s.ca s.cn s.cc,.bool s.zp,.slice s.za s.zn s.zc,.slice s.zd s.zm s.ze]∧StQ W s (Rows.uptoBulk dd)∧(∃ z,StZ s z∧stK s z≤Rows.uptoBulk dd)∧s.cn + s.bn≤Rows.uptoBulk dd:=by
 obtain ⟨cs,rfl,hsz⟩:=okWide_struct Tryz.underlying31 hv
 obtain ⟨fuel,hf⟩:=h
 rw [cellsStd] at hsz
 obtain ⟨l⟩:=cs
 obtain ⟨y0,y1,y2,y3,m,hx,hy0,hy1,hy2,hy3⟩:=trod_struct4' (cs:=l) (x:=(dd,pl)) Tryz.underlying31 (by simpa [Value.cells] using hf)
 have hB:Rows.uptoBulk dd = Rows.uptoBulk y0.1 + (Rows.uptoBulk y1.1 + (Rows.uptoBulk y2.1 + (Rows.uptoBulk y3.1 + 0))) + 1:=by
  have hx':dd = .agg [y0.1,y1.1,y2.1,y3.1]:=hx
  rw [hx'];simp only [Rows.uptoBulk,Rows.uptoBulkAll]
 match l,hsz with
 | [u0,u1,u2,u3,u4,u5],_ =>
  simp only [cellsMat,cellsRat,cellsRatL,List.drop_zero,List.drop_succ_cons,List.take_succ_cons,List.take_zero] at hy0 hy1 hy2 hy3
  obtain ⟨aa,an,ac,ra,rn,rc,E,ZE,ZR,rfl,ha1,ha2,ha3,ha4⟩:=open_mat hy0
  obtain ⟨ba,bn,bc,B,ZB,rfl,hb1,hb2,hb3,hb4,hb5⟩:=open_rats4 hy1
  obtain ⟨ca,cn,cc,C,ZC,rfl,hc1,_,_,_,hc5⟩:=open_rats4 hy2
  obtain ⟨p,a,na,ca',d,nd,cd,r,e2,hT,h2⟩:=open_ratc rfl hy3
  simp only [List.cons.injEq,and_true] at e2
  obtain ⟨rfl,rfl,rfl⟩:=e2
  refine ⟨{ aa:=aa,an:=an,ac:=ac,ba:=ba,bn:=bn,bc:=bc,ca:=ca,cn:=cn,cc:=cc,zp:=p,za:=a,zn:=na,zc:=ca',zd:=d,zm:=nd,ze:=cd,ra:=ra,rn:=rn,rc:=rc,E:=E,B:=B },rfl,⟨?_,hb2.uni fun i hi=>by have:=(hb3 i hi).2;omega⟩,⟨_,stz_ok (ZE:=ZE) (ZB:=ZB) ?_ (fun r hr=>(hb3 r hr).1),Nat.le_trans (stz_le _ _ _) ?_⟩,by show cn + bn≤_;omega⟩
  ·exact ha3.imp id fun ⟨b,o,e,h⟩=>⟨b,o,e,fun i hi=>⟨(h i hi).1,(h i hi).2.1,(h i hi).2.2.uni fun _ _=>by omega⟩⟩
  ·intro r hr c hc
   unfold StD.k at hc
   split at hc
   ·next hlt=>exact (ha4 r hlt).1 c (Nat.lt_of_lt_of_le hc (Nat.min_le_left _ _))
   ·exact absurd hc (Nat.not_lt_zero _)
  ·rw [rws_tot]
   have h1:totB (fun i=>(fun r=>totB (fun c=>ZE r c + 1) (StD.k { aa:=aa,an:=an,ac:=ac,ba:=ba,bn:=bn,bc:=bc,ca:=ca,cn:=cn,cc:=cc,zp:=p,za:=a,zn:=na,zc:=ca',zd:=d,zm:=nd,ze:=cd,ra:=ra,rn:=rn,rc:=rc,E:=E,B:=B } r) + 2 + (ZB r + 1)) (0 + i)) bn≤totB (fun i=>(if i < an then ZR i else 0) + (ZB i + 4)) bn:=totB_mono _ fun i hi=>by
    show totB (fun c=>ZE (0 + i) c + 1) (StD.k _ (0 + i)) + 2 + (ZB (0 + i) + 1)≤(if i < an then ZR i else 0) + (ZB i + 4)
    rw [Nat.zero_add]
    have h2:totB (fun c=>ZE i c + 1) (StD.k { aa:=aa,an:=an,ac:=ac,ba:=ba,bn:=bn,bc:=bc,ca:=ca,cn:=cn,cc:=cc,zp:=p,za:=a,zn:=na,zc:=ca',zd:=d,zm:=nd,ze:=cd,ra:=ra,rn:=rn,rc:=rc,E:=E,B:=B } i)≤(if i < an then ZR i else 0):=by
     unfold StD.k
     show totB (fun c=>ZE i c + 1) (if i < an then min (rn i) cn else 0)≤_
     by_cases hlt:i < an
     ·rw [if_pos hlt,if_pos hlt]
      exact Nat.le_trans (totB_up (Nat.min_le_left _ _)) (Nat.le_trans (totB_mono _ fun c _=>by omega) (ha4 i hlt).2)
     ·rw [if_neg hlt]
      exact Nat.zero_le _
    omega
   have h3:=totB_cut ZR an bn
   refine Nat.le_trans (Nat.add_le_add_right h1 1) ?_
   rw [totB_add]
   omega
theorem trod_std {W':World} {v:Value} {d:DataW H} {p:List MemPlace} (h:DataW.Trod enc Tryz.prog W 0 (fun _=>true) true 31 v d p) (bel:Below W.heap.size W W') :
  DataW.Trod enc Tryz.prog W' 0 (fun b=>decide (b < W.heap.size)) true 31 v d p :=
 Below.trod laidOut (by kernel_rfl) (of_decide_eq_true (by kernel_rfl)) h bel (trod_blocks h)
theorem cellsOp:Tryz.prog.cellsOf 59 = 5:=by kernel_rfl
set_option maxRecDepth 100000 in
theorem open_ops {base:Nat} {v:Value} {dd:DataW H} {pl:List MemPlace} (hv:Value.okWide Tryz.prog W .any base 32 v) (h:DataW.Trod enc Tryz.prog W 0 (fun _=>true) true 32 v dd pl) :
  ∃ sa sn sc,∃ O:Nat→OpD,v = .slice sa sn sc∧sn≤Rows.uptoBulk dd∧OpL W sa sn O (Rows.uptoBulk dd)∧∀ i,i < sn→(O i).cn≤(O i).cc∧(O i).cn≤Rows.uptoBulk dd∧∀ N k,k≤(O i).cn→CsZ (lco (O i).Y k) N (Rows.uptoBulk dd):=by
 obtain ⟨a,m,cap,rfl⟩:=okWide_slice Tryz.underlying32 hv
 obtain ⟨fuel,hf⟩:=h
 obtain ⟨a',m',cap',ys,e,hm,hl,hb,h⟩:=open_slicec (x:=(dd,pl)) Tryz.underlying32 cellsOp (by decide) (by simpa [Value.cells] using hf)
 injection e with e1 e2 e3
 subst e1 e2 e3
 have hlen:=bulk_length ys
 have ht:=bulkOf_tot ys
 rw [hl] at hlen ht
 replace hb:Rows.uptoBulkAll ys + 1≤Rows.uptoBulk dd:=hb
 rcases h with h0 | ⟨b,o,rfl,h⟩
 ·subst h0
  exact ⟨_,0,_,fun _=>⟨0,0,0,false,none,0,0,fun _=>0⟩,rfl,Nat.zero_le _,.inl rfl,fun i hi=>by omega⟩
 ·obtain ⟨O,hO⟩:=pick (⟨0,0,0,false,none,0,0,fun _=>0⟩:OpD) (P:=fun i q=>(W.cell? ⟨b,o + i * 5,none⟩ = some (.int .i64 q.kd)∧W.cell? ⟨b,o + i * 5 + 1,none⟩ = some (.int .i64 q.oi)∧W.cell? ⟨b,o + i * 5 + 2,none⟩ = some (.int .i64 q.oj)∧W.cell? ⟨b,o + i * 5 + 3,none⟩ = some (.bool q.rw)∧W.cell? ⟨b,o + i * 5 + 4,none⟩ = some (.slice q.ca q.cn q.cc)∧LQ W q.ca q.cn q.Y (fun _=>Rows.uptoBulk dd))∧q.cn≤q.cc∧q.cn≤Rows.uptoBulk dd∧∀ N k,k≤q.cn→CsZ (lco q.Y k) N (Rows.uptoBulk dd)) (fun j hj=>by
   obtain ⟨cs,n,y,e1,e2,e3,e4⟩:=h j hj
   have hy:Rows.uptoBulk y.1≤Rows.uptoBulkAll ys:=by
    have:=totB_one (f:=bulkOf ys) hj
    rw [bulkOf_eq e1] at this
    omega
   obtain ⟨y0,y1,y2,y3,y4,k,hx,hy0,hy1,hy2,hy3,hy4⟩:=trod_struct5 Tryz.underlying59 e4
   have hB:Rows.uptoBulk y.1 = Rows.uptoBulk y0.1 + (Rows.uptoBulk y1.1 + (Rows.uptoBulk y2.1 + (Rows.uptoBulk y3.1 + (Rows.uptoBulk y4.1 + 0)))) + 1:=by
    rw [hx];simp only [Rows.uptoBulk,Rows.uptoBulkAll]
   match cs,e2 with
   | [u0,u1,u2,u3,u4],_ =>
    simp only [cellsIntg,cellsBool,cellsRatL,List.drop_zero,List.drop_succ_cons,List.take_succ_cons,List.take_zero] at hy0 hy1 hy2 hy3 hy4
    obtain ⟨k0,rfl,_⟩:=open_intw hy0
    obtain ⟨k1,rfl,_⟩:=open_intw hy1
    obtain ⟨k2,rfl,_⟩:=open_intw hy2
    obtain ⟨k3,hc,_⟩:=DataW.trod_bool Tryz.underlying4 hy3
    simp only [List.cons.injEq,and_true] at hc
    subst hc
    obtain ⟨ca,cn,cc,Y,ZY,rfl,q1,q2,q3,q4,q5⟩:=open_rats4 hy4
    refine ⟨⟨k0,k1,k2,k3,ca,cn,cc,Y⟩,⟨e3 0 _ rfl,e3 1 _ rfl,e3 2 _ rfl,e3 3 _ rfl,e3 4 _ rfl,q2.uni fun i hi=>by have:=(q3 i hi).2;omega⟩,q1,by show cn≤_;omega,fun N k hk=>csz_lco (ZY:=ZY) (fun c hc=>(q3 c hc).1) ?_ N k hk⟩
    refine Nat.le_trans (totB_mono (g:=fun i=>ZY i + 4) _ fun c _=>by omega) ?_
    omega)
  exact ⟨_,_,_,O,rfl,by omega,.inr ⟨b,o,rfl,fun i hi=>(hO i hi).1⟩,fun i hi=>(hO i hi).2⟩
theorem trod_ops {W':World} {v:Value} {d:DataW H} {p:List MemPlace} (h:DataW.Trod enc Tryz.prog W 0 (fun _=>true) true 32 v d p) (bel:Below W.heap.size W W') :
  DataW.Trod enc Tryz.prog W' 0 (fun b=>decide (b < W.heap.size)) true 32 v d p :=
 Below.trod laidOut (by kernel_rfl) (of_decide_eq_true (by kernel_rfl)) h bel (trod_blocks h)
end
end Go.Proofs.YtjiodidemimgmaaGreatDoor
