import Derived.Test.YtdcocflnafcikaaGreatDoorApL0All
namespace Go.Proofs.YtdcocflnafcikaaGreatDoor
open Go.RowKit
theorem infVarL:Inf 28 1 24:=iG (by kernel_rfl)
theorem infRowL:Inf 29 1 24:=iG (by kernel_rfl)
def mkS (i:Nat):Value:=.string ((ByteArray.mk #[97,98,99,100,101,102,103,104]).extract i (i+1))
def prG (x:Nat→Nat→Value) (i k0 j k:Nat):Value:=if j<i∨(j=i∧k<k0) then mkS j else x j k
theorem xA (x:Nat→Nat→Value) (i k:Nat):(fun j q=>if j=i∧q=k then mkS i else prG x i k j q)=prG x i (k+1):=by
 funext j q
 unfold prG
 by_cases h1:j=i
 ·subst h1
  by_cases h2:q=k
  ·subst h2;simp
  ·have h3:q<k+1↔q<k:=by omega
   simp [h2,h3]
 ·simp [h1]
theorem xB (x:Nat→Nat→Value) (i n j k:Nat) (h:j=i→k<n):prG x i n j k=prG x (i+1) 0 j k:=by
 unfold prG
 by_cases h1:j=i
 ·subst h1
  have:=h rfl
  simp [this]
 ·have h2:j<i+1↔j<i:=by omega
  simp [h1,h2]
theorem SL.pd {w:World} {C:Nat} {va:Option Addr} {m vc:Nat} {E:Nat→List Value} {pv pr:Nat→Value} (h:SL w C 31 7 (.slice va m vc) m E) (hE:∀ i,i<m→(E i)[5]? = some (pv i)∧(E i)[6]? = some (pr i)) {i:Nat} (hi:i<m):∃ gl,va=some ⟨gl,0,none⟩∧w.cell? ⟨gl,i*7+5,none⟩=some (pv i)∧w.cell? ⟨gl,i*7+6,none⟩=some (pr i):=by
 rcases h.cell with h0|⟨gl,e,hc⟩
 ·omega
 ·exact ⟨gl,e,hc i hi 5 _ (hE i hi).1,hc i hi 6 _ (hE i hi).2⟩
theorem SL.setT {w:World} {B C:Nat} {T U:TypeId} {c d:Nat} {v u:Value} {n k:Nat} {E F:Nat→List Value} (h:SL w C U d u k F) (hS:SL w B T c v n E) (hT:U≠T) {g:Nat} (hg:v.ownBlock=some g) (o:Nat) (x:Value):SL (w.setCell ⟨g,o,none⟩ x) C U d u k F:=by
 refine h.kept ((Off.refl g w).set o x).grown (fun g' e1 e2=>?_)
 cases e2
 obtain ⟨c1,h1⟩:=h.heap e1
 obtain ⟨c2,h2⟩:=hS.heap hg
 rw [h2] at h1
 simp only [Option.some.injEq,Obj.cells.injEq] at h1
 exact hT h1.2.1.symm
set_option maxRecDepth 100000 in
set_option maxHeartbeats 16000000 in
theorem uX {va:Option Addr} {m vc B C:Nat} {E:Nat→List Value} {pv pr:Nat→Value} {nv nr:Nat→Nat} {EV ER:Nat→Nat→List Value} {xv xr:Nat→Nat→Value} (w:World) (hB:B≤C) (hC:C≤w.heap.size) (hT:SL w C 31 7 (.slice va m vc) m E) (hE:∀ i,i<m→(E i)[5]? = some (pv i)∧(E i)[6]? = some (pr i))
 (hov:∀ j,j<m→SL w B 57 13 (pv j) (nv j) (EV j)) (hxv:∀ j,j<m→∀ k,k<nv j→∃ r,EV j k=xv j k::r) (hor:∀ j,j<m→SL w B 60 10 (pr j) (nr j) (ER j)) (hxr:∀ j,j<m→∀ k,k<nr j→∃ r,ER j k=xr j k::r)
 (dv:∀ i j,i<m→j<m→i≠j→∀ g,(pv i).ownBlock=some g→(pv j).ownBlock≠some g) (dr:∀ i j,i<m→j<m→i≠j→∀ g,(pr i).ownBlock=some g→(pr j).ownBlock≠some g) (hm:m≤8) (hnv:∀ j,j<m→nv j≤100000000) (hnr:∀ j,j<m→nr j≤100000000) :
 Calls Tryz.prog 39 #[.slice va m vc] w fun e w'=>e = .returned (.bool true)∧Below B w w':=by
 have hO:∀ j,j<m→SL w B 57 13 (pv j) (nv j) (fun k=>[prG xv 0 0 j k]):=fun j hj=>((hov j hj).fst (hxv j hj)).congr fun k hk=>by unfold prG;simp
 have hP:∀ j,j<m→SL w B 60 10 (pr j) (nr j) (fun k=>[prG xr 0 0 j k]):=fun j hj=>((hor j hj).fst (hxr j hj)).congr fun k hk=>by unfold prG;simp
 clear hov hxv hor hxr
 have hTlt:∀ g,(Value.slice va m vc).ownBlock=some g→g<w.heap.size:=fun g hg=>(hT.lt g hg).2
 go_enter Tryz.func39,Tryz.ntmps39
 go_wp2
 go_loopw [6] (fun s wr=>∃ i:Nat,i≤m∧s = .int .i64 i∧SL wr C 31 7 (.slice va m vc) m E∧(∀ j,j<m→SL wr B 57 13 (pv j) (nv j) (fun k=>[prG xv i 0 j k]))∧(∀ j,j<m→SL wr B 60 10 (pr j) (nr j) (fun k=>[prG xr i 0 j k]))∧Below B w wr) (fun s _=>m-(intOf s).toNat)
 case atStart=>exact ⟨0,Nat.zero_le _,rfl,hT,hO,hP,Below.refl _ _⟩
 case round =>
  obtain ⟨i,hi,rfl,hTr,hv,hr,hbel⟩:=hrel
  clear hT hO hP
  have hi8:(i:Int)≤8:=by omega
  by_cases hlt:i<m
  ·have hil:(i:Int)<(m:Int):=by omega
   have hi8:(i:Int)<8:=by omega
   have hkI7:(i:Int)*7=((i*7:Nat):Int):=by omega
   obtain ⟨gl,rfl,c5,c6⟩:=hTr.pd hE hlt
   obtain ⟨av,capv,hvi,_⟩:=(hv i hlt).form
   obtain ⟨ar,capr,hri,_⟩:=(hr i hlt).form
   obtain ⟨qv,hqv⟩:∃ q,nv i=q:=⟨_,rfl⟩
   obtain ⟨qr,hqr⟩:∃ q,nr i=q:=⟨_,rfl⟩
   have hnvi:=hnv i hlt
   have hnri:=hnr i hlt
   rw [hqv] at hvi hnvi
   rw [hqr] at hri hnri
   have HVI:Hid (pv i = .slice av qv capv):=hvi
   have HRI:Hid (pr i = .slice ar qr capr):=hri
   have HNV:Hid (nv i=qv):=hqv
   have HNR:Hid (nr i=qr):=hqr
   rw [hvi] at c5
   rw [hri] at c6
   clear hvi hri hqv hqr
   go_wp2
   obtain ⟨sm,hsm⟩:∃ sm,sm=((ByteArray.mk #[97,98,99,100,101,102,103,104]).extract i (i+1)):=⟨_,rfl⟩
   have HSM:Hid (mkS i = .string sm):=by show mkS i = .string sm;unfold mkS;rw [hsm]
   rw [← hsm]
   clear hsm c5 c6
   go_loopw [8] (fun s wr=>∃ k:Nat,k≤qv∧s = .int .i64 k∧SL wr C 31 7 (.slice (some ⟨gl,0,none⟩) m vc) m E∧(∀ j,j<m→SL wr B 57 13 (pv j) (nv j) (fun p=>[prG xv i k j p]))∧(∀ j,j<m→SL wr B 60 10 (pr j) (nr j) (fun p=>[prG xr i 0 j p]))∧Below B w wr) (fun s _=>qv-(intOf s).toNat)
   case atStart=>exact ⟨0,Nat.zero_le _,rfl,hTr,hv,hr,hbel⟩
   case round =>
    clear hTr hv hr hbel
    obtain ⟨k,hk,rfl,hTr,hv,hr,hbel⟩:=hrel
    obtain ⟨gl2,e2,c5,c6⟩:=hTr.pd hE hlt
    obtain rfl:gl=gl2:=by simpa using e2
    rw [HVI.out] at c5
    rw [HRI.out] at c6
    clear e2
    by_cases hkn:k<qv
    ·have hoi:=hv i hlt
     rw [HVI.out,HNV.out] at hoi
     obtain ⟨g,rfl,hgB,hgl,hfz⟩:=hoi.blk (by omega)
     have hkl:(k:Int)<(qv:Int):=by omega
     have hkI4:(k:Int)*13=((k*13:Nat):Int):=by omega
     rcases hoi.cell with h0|⟨g2,e2,hcell⟩
     ·omega
     obtain rfl:g=g2:=by simpa using e2
     have s1:=hcell k hkn 0 _ rfl
     rw [Nat.add_zero] at s1
     have s2:=hfz (k*13)
     obtain ⟨M1,M2,M3⟩:=uV (k:=k) dv hv (by decide) hlt (by rw [HNV.out];exact hkn) (by rw [HVI.out,HNV.out]) (mkS i)
     have hTr2:=hTr.setT hoi (by decide) (g:=g) rfl (k*13) (mkS i)
     have hr2:∀ j,j<m→SL (wr.setCell ⟨g,k*13,none⟩ (mkS i)) B 60 10 (pr j) (nr j) (fun p=>[prG xr i 0 j p]):=fun j hj=>(hr j hj).setT hoi (by decide) (g:=g) rfl (k*13) (mkS i)
     have hv2:∀ j,j<m→SL (wr.setCell ⟨g,k*13,none⟩ (mkS i)) B 57 13 (pv j) (nv j) (fun p=>[prG xv i (k+1) j p]):=fun j hj=>by rw [← xA];exact M1 j hj
     have hb2:=hbel.trans M2
     rw [HSM.out] at hTr2 hr2 hv2 hb2
     clear hTr hv hr hbel hoi M1 M2 M3 hcell hfz e2
     go_wp2
     go_roundw
     case rel=>exact ⟨k+1,by omega,by go_num,hTr2,hv2,hr2,hb2⟩
     case measure=>simp [intOf];omega
    ·obtain rfl:k=qv:=by omega
     have hv2:∀ j,j<m→SL wr B 57 13 (pv j) (nv j) (fun p=>[prG xv (i+1) 0 j p]):=fun j hj=>(hv j hj).congr fun p hp=>by rw [xB xv i k j p (fun e=>by subst e;rw [← HNV.out];exact hp)]
     clear hv
     go_wp2
     clear c5 c6
     generalize wr=wA at *
     go_loopw [9] (fun s wr=>∃ k:Nat,k≤qr∧s = .int .i64 k∧SL wr C 31 7 (.slice (some ⟨gl,0,none⟩) m vc) m E∧(∀ j,j<m→SL wr B 57 13 (pv j) (nv j) (fun p=>[prG xv (i+1) 0 j p]))∧(∀ j,j<m→SL wr B 60 10 (pr j) (nr j) (fun p=>[prG xr i k j p]))∧Below B w wr) (fun s _=>qr-(intOf s).toNat)
     case atStart=>exact ⟨0,Nat.zero_le _,rfl,hTr,hv2,hr,hbel⟩
     case round =>
      clear hTr hv2 hr hbel
      obtain ⟨k,hk,rfl,hTr,hv,hr,hbel⟩:=hrel
      obtain ⟨gl2,e2,c5,c6⟩:=hTr.pd hE hlt
      obtain rfl:gl=gl2:=by simpa using e2
      rw [HVI.out] at c5
      rw [HRI.out] at c6
      clear e2
      by_cases hkn:k<qr
      ·have hoi:=hr i hlt
       rw [HRI.out,HNR.out] at hoi
       obtain ⟨g,rfl,hgB,hgl,hfz⟩:=hoi.blk (by omega)
       have hkl:(k:Int)<(qr:Int):=by omega
       have hkI4:(k:Int)*10=((k*10:Nat):Int):=by omega
       rcases hoi.cell with h0|⟨g2,e2,hcell⟩
       ·omega
       obtain rfl:g=g2:=by simpa using e2
       have s1:=hcell k hkn 0 _ rfl
       rw [Nat.add_zero] at s1
       have s2:=hfz (k*10)
       obtain ⟨M1,M2,M3⟩:=uV (k:=k) dr hr (by decide) hlt (by rw [HNR.out];exact hkn) (by rw [HRI.out,HNR.out]) (mkS i)
       have hTr2:=hTr.setT hoi (by decide) (g:=g) rfl (k*10) (mkS i)
       have hv2:∀ j,j<m→SL (wr.setCell ⟨g,k*10,none⟩ (mkS i)) B 57 13 (pv j) (nv j) (fun p=>[prG xv (i+1) 0 j p]):=fun j hj=>(hv j hj).setT hoi (by decide) (g:=g) rfl (k*10) (mkS i)
       have hr2:∀ j,j<m→SL (wr.setCell ⟨g,k*10,none⟩ (mkS i)) B 60 10 (pr j) (nr j) (fun p=>[prG xr i (k+1) j p]):=fun j hj=>by rw [← xA];exact M1 j hj
       have hb2:=hbel.trans M2
       rw [HSM.out] at hTr2 hr2 hv2 hb2
       clear hTr hv hr hbel hoi M1 M2 M3 hcell hfz e2
       go_wp2
       go_roundw
       case rel=>exact ⟨k+1,by omega,by go_num,hTr2,hv2,hr2,hb2⟩
       case measure=>simp [intOf];omega
      ·obtain rfl:k=qr:=by omega
       have hr2:∀ j,j<m→SL wr B 60 10 (pr j) (nr j) (fun p=>[prG xr (i+1) 0 j p]):=fun j hj=>(hr j hj).congr fun p hp=>by rw [xB xr i k j p (fun e=>by subst e;rw [← HNR.out];exact hp)]
       clear hr
       go_wp2
       go_roundw
       case rel=>exact ⟨i+1,by omega,by go_num,hTr,hv,hr2,hbel⟩
       case measure=>simp [intOf];omega
  ·obtain rfl:i=m:=by omega
   have hv2:∀ j,j<i→SL wr B 57 13 (pv j) (nv j) (fun k=>[mkS j]):=fun j hj=>(hv j hj).congr fun k hk=>by unfold prG;rw [if_pos (.inl hj)]
   have hr2:∀ j,j<i→SL wr B 60 10 (pr j) (nr j) (fun k=>[mkS j]):=fun j hj=>(hr j hj).congr fun k hk=>by unfold prG;rw [if_pos (.inl hj)]
   have hwr:=hbel.size
   have hPv:LsA wr B wr.heap.size wr.heap.size 57 13 i 0 pv (fun _=>.slice none 0 0) nv (fun j _=>mkS j) mkS 12 :=
    ⟨hv2,fun j hj=>by omega,fun j hj=>by omega,fun j hj g hg=>((hv2 j hj).lt g hg).2,by omega⟩
   have hPr:LsA wr B wr.heap.size wr.heap.size 60 10 i 0 pr (fun _=>.slice none 0 0) nr (fun j _=>mkS j) mkS 12 :=
    ⟨hr2,fun j hj=>by omega,fun j hj=>by omega,fun j hj g hg=>((hr2 j hj).lt g hg).2,by omega⟩
   obtain ⟨H0,eH0⟩:∃ H0,H0=wr.heap.size:=⟨_,rfl⟩
   have hH1:H0≤wr.heap.size:=by omega
   rw [← eH0] at hPv hPr
   have hH0:w.heap.size≤H0:=by omega
   clear hv hr hv2 hr2 hlt hi eH0
   generalize hmi:i=m at *
   clear hmi
   go_wp2
   go_loopw [4,5,10] (fun lv lr s wr=>∃ (i:Nat) (Yv Yr:Nat→Value),i≤m∧s = .int .i64 i∧LsA wr B H0 wr.heap.size 57 13 m i pv Yv nv (fun j _=>mkS j) mkS 12∧LsA wr B H0 wr.heap.size 60 10 m i pr Yr nr (fun j _=>mkS j) mkS 12∧SL wr H0 28 1 lv i (fun j=>[Yv j])∧SL wr H0 29 1 lr i (fun j=>[Yr j])∧SL wr C 31 7 (.slice va m vc) m E∧Below B w wr) (fun _ _ s _=>m-(intOf s).toNat)
   case atStart=>exact ⟨0,_,_,Nat.zero_le _,rfl,⟨hPv.ov,hPv.oY,fun j hj=>by omega,hPv.hv,⟨hPv.hH.1,hH1,Nat.le_refl _⟩⟩,⟨hPr.ov,hPr.oY,fun j hj=>by omega,hPr.hv,⟨hPr.hH.1,hH1,Nat.le_refl _⟩⟩,SL.nil _ _ _ _ _,SL.nil _ _ _ _ _,hTr,hbel⟩
   case round =>
    clear hPv hPr hbel hTr hwr hH1
    obtain ⟨i,Yv,Yr,hi,rfl,hPv,hPr,hLv,hLr,hTr,hbel⟩:=hrel
    obtain ⟨la,lc,rfl,hlc⟩:=hLv.form
    obtain ⟨ra,rc,rfl,hrc⟩:=hLr.form
    have hi8:(i:Int)≤8:=by omega
    by_cases hlt:i<m
    ·have hil:(i:Int)<(m:Int):=by omega
     have hi8:(i:Int)<8:=by omega
     have hkI7:(i:Int)*7=((i*7:Nat):Int):=by omega
     obtain ⟨gl,rfl,c5,c6⟩:=hTr.pd hE hlt
     obtain ⟨av,capv,hvi,_⟩:=(hPv.ov i hlt).form
     obtain ⟨ar,capr,hri,_⟩:=(hPr.ov i hlt).form
     obtain ⟨qv,hqv⟩:∃ q,nv i=q:=⟨_,rfl⟩
     obtain ⟨qr,hqr⟩:∃ q,nr i=q:=⟨_,rfl⟩
     have hnvi:=hnv i hlt
     have hnri:=hnr i hlt
     have hYv:GrY wr B wr.heap.size 57 13 (pv i) (pv i) (nv i) 0 (fun _=>mkS i) (mkS i):=GrY.start (hPv.ov i hlt)
     have hYr:GrY wr B wr.heap.size 60 10 (pr i) (pr i) (nr i) 0 (fun _=>mkS i) (mkS i):=GrY.start (hPr.ov i hlt)
     rw [hqv] at hvi hnvi hYv
     rw [hqr] at hri hnri hYr
     have HVI:Hid (pv i = .slice av qv capv):=hvi
     have HRI:Hid (pr i = .slice ar qr capr):=hri
     have HNV:Hid (nv i=qv):=hqv
     have HNR:Hid (nr i=qr):=hqr
     rw [hvi] at c5 hYv
     rw [hri] at c6 hYr
     obtain ⟨H,hH⟩:∃ H,wr.heap.size=H:=⟨_,rfl⟩
     rw [hH] at hPv hPr hYv hYr
     clear hvi hri hqv hqr hH
     go_wp2
     obtain ⟨sm,hsm⟩:∃ sm,sm=((ByteArray.mk #[97,98,99,100,101,102,103,104]).extract i (i+1)):=⟨_,rfl⟩
     have HSM:Hid (mkS i = .string sm):=by show mkS i = .string sm;unfold mkS;rw [hsm]
     rw [← hsm]
     clear hsm c5 c6
     go_loopw [12,13,14] (fun y z s wr=>∃ k:Nat,k≤12∧s = .int .i64 k∧LsA wr B H0 H 57 13 m i pv Yv nv (fun j _=>mkS j) mkS 12∧LsA wr B H0 H 60 10 m i pr Yr nr (fun j _=>mkS j) mkS 12∧GrY wr B H 57 13 (.slice av qv capv) y qv k (fun _=>mkS i) (mkS i)∧GrY wr B H 60 10 (.slice ar qr capr) z qr k (fun _=>mkS i) (mkS i)∧SL wr H0 28 1 (.slice la i lc) i (fun j=>[Yv j])∧SL wr H0 29 1 (.slice ra i rc) i (fun j=>[Yr j])∧SL wr C 31 7 (.slice (some ⟨gl,0,none⟩) m vc) m E∧Below B w wr) (fun _ _ s _=>12-(intOf s).toNat)
     case atStart=>exact ⟨0,Nat.zero_le _,rfl,hPv,hPr,hYv,hYr,hLv,hLr,hTr,hbel⟩
     case round =>
      clear hPv hPr hYv hYr hLv hLr hTr hbel
      obtain ⟨k,hk,rfl,hPv,hPr,hYv,hYr,hLv,hLr,hTr,hbel⟩:=hrel
      obtain ⟨ya,yc,rfl,_⟩:=hYv.1.form
      obtain ⟨za,zc,rfl,_⟩:=hYr.1.form
      by_cases hk20:k<12
      ·have hkI:(k:Int)<12:=by omega
       have hHH:=hPv.hH
       have hxa:=aG wr (.cells #[.string sm,.bool false,.slice none 0 0,.slice none 0 0,.bool false,.bool false,.slice none 0 0,.slice none 0 0,.bool false,.bool false,.slice none 0 0,.slice none 0 0,.bool false] 57)
       have hYa:=hYv.below hxa
       go_wp2_with (at_builtin;refine gZ _ rfl _ _ 28 57 13 208 rfl Tryz.underlying28 qM (by decide) (by decide) B (.slice ya (qv+k) yc) (qv+k) _ rfl hYa.1 wr.heap.size _ rfl [.string sm,.bool false,.slice none 0 0,.slice none 0 0,.bool false,.bool false,.slice none 0 0,.slice none 0 0,.bool false,.bool false,.slice none 0 0,.slice none 0 0,.bool false] rfl (fun u hu=>by simp at hu;rcases hu with rfl|rfl|rfl|rfl|rfl|rfl|rfl|rfl|rfl|rfl|rfl|rfl|rfl <;> rfl) (aN wr #[.string sm,.bool false,.slice none 0 0,.slice none 0 0,.bool false,.bool false,.slice none 0 0,.slice none 0 0,.bool false,.bool false,.slice none 0 0,.slice none 0 0,.bool false] 57) (by omega) (by simp;omega) ?_)
       intro g cap1 w1 hown hl
       have hown':SL w1 B 57 13 (.slice (some ⟨g,0,none⟩) (nv i+k+1) cap1) (nv i+k+1) (fun p=>[if p<nv i then mkS i else mkS i]):=by
        rw [HNV.out]
        refine hown.fst fun p hp=>?_
        by_cases h1:p<qv+k
        ·exact ⟨[],by simp [h1]⟩
        ·exact ⟨[.string sm,.bool false,.slice none 0 0,.slice none 0 0,.bool false,.bool false,.slice none 0 0,.slice none 0 0,.bool false,.bool false,.slice none 0 0,.slice none 0 0,.bool false].tail,by simp [h1,HSM.out]⟩
       obtain ⟨q1,q2,q3,q4⟩:=LsA.step dv (hPv.below hxa) hlt (by rw [HVI.out,HNV.out];exact hYa) hown' hl
       rw [HVI.out,HNV.out] at q2
       have kx:=KX.lies (Ts:=fun T=>T=57) hYa.1 rfl hl
       have hPr1:=(hPr.below hxa).kx kx (by decide) q3
       have hYr1:=(hYr.below hxa).kx kx (by decide)
       have hLv1:=(hLv.below hxa).kx kx (by decide)
       have hLr1:=(hLr.below hxa).kx kx (by decide)
       have hTr1:=(hTr.below hxa).kx kx (by decide)
       have hbel1:=(hbel.trans (hxa.mono (by omega))).trans q4
       clear hown hown' hl hPv hYv q3 q4 hbel hLv hLr hTr kx hYa hxa hPr hYr
       have hHH1:=q1.hH
       have hxb:=aG w1 (.cells #[.string sm,.slice none 0 0,.bool false,.bool false,.slice none 0 0,.slice none 0 0,.bool false,.bool false,.slice none 0 0,.slice none 0 0] 60)
       have hYb:=hYr1.below hxb
       go_wp2_with (at_builtin;refine gZ _ rfl _ _ 29 60 10 168 rfl Tryz.underlying29 kW (by decide) (by decide) B (.slice za (qr+k) zc) (qr+k) _ rfl hYb.1 w1.heap.size _ rfl [.string sm,.slice none 0 0,.bool false,.bool false,.slice none 0 0,.slice none 0 0,.bool false,.bool false,.slice none 0 0,.slice none 0 0] rfl (fun u hu=>by simp at hu;rcases hu with rfl|rfl|rfl|rfl|rfl|rfl|rfl|rfl|rfl|rfl <;> rfl) (aN w1 #[.string sm,.slice none 0 0,.bool false,.bool false,.slice none 0 0,.slice none 0 0,.bool false,.bool false,.slice none 0 0,.slice none 0 0] 60) (by omega) (by simp;omega) ?_)
       intro g2 cap2 w2 hown hl
       have hown':SL w2 B 60 10 (.slice (some ⟨g2,0,none⟩) (nr i+k+1) cap2) (nr i+k+1) (fun p=>[if p<nr i then mkS i else mkS i]):=by
        rw [HNR.out]
        refine hown.fst fun p hp=>?_
        by_cases h1:p<qr+k
        ·exact ⟨[],by simp [h1]⟩
        ·exact ⟨[.string sm,.slice none 0 0,.bool false,.bool false,.slice none 0 0,.slice none 0 0,.bool false,.bool false,.slice none 0 0,.slice none 0 0].tail,by simp [h1,HSM.out]⟩
       obtain ⟨r1,r2,r3,r4⟩:=LsA.step dr (hPr1.below hxb) hlt (by rw [HRI.out,HNR.out];exact hYb) hown' hl
       rw [HRI.out,HNR.out] at r2
       have kx:=KX.lies (Ts:=fun T=>T=60) hYb.1 rfl hl
       have hPv2:=(q1.below hxb).kx kx (by decide) r3
       have hYv2:=(q2.below hxb).kx kx (by decide)
       have hLv2:=(hLv1.below hxb).kx kx (by decide)
       have hLr2:=(hLr1.below hxb).kx kx (by decide)
       have hTr2:=(hTr1.below hxb).kx kx (by decide)
       have hbel2:=(hbel1.trans (hxb.mono (by omega))).trans r4
       clear hown hown' hl q1 q2 r3 r4 hbel1 hLv1 hLr1 hTr1 kx hYb hxb hPr1 hYr1
       go_wp2
       go_roundw
       case rel=>exact ⟨k+1,by omega,by go_num,hPv2,r1,hYv2,r2,hLv2,hLr2,hTr2,hbel2⟩
       case measure=>simp [intOf];omega
      ·have hkI:¬ (k:Int)<12:=by omega
       obtain rfl:k=12:=by omega
       have hHH:=hPv.hH
       have hxa:=aG wr (.cells #[.slice ya (qv+12) yc] 28)
       have hLa:=hLv.below hxa
       go_wp2_with (at_builtin;refine aV _ rfl _ _ 133 28 1 24 rfl Tryz.underlying133 infVarL (by decide) (by decide) H0 (.slice la i lc) i _ rfl hLa wr.heap.size _ rfl [.slice ya (qv+12) yc] rfl (fun u hu=>by simp at hu;subst hu;rfl) (aN wr #[.slice ya (qv+12) yc] 28) (by omega) (by simp;omega) (wr.heap.size+1) (by simp) ?_)
       intro g cap1 w1 hown hg hat _
       have kx0:=KX.old (Ts:=fun T=>T=28) hLa rfl hg
       have hs1:=hg.size
       have hsA:=hxa.size
       have hPv1:=(hPv.below hxa).kx kx0 (by decide) hs1
       have hPr1:=(hPr.below hxa).kx kx0 (by decide) hs1
       have hYv1:=(hYv.below hxa).kx kx0 (by decide)
       have hYr1:=(hYr.below hxa).kx kx0 (by decide)
       have hLr1:=(hLr.below hxa).kx kx0 (by decide)
       have hTr1:=(hTr.below hxa).kx kx0 (by decide)
       have hLv1:SL w1 H0 28 1 (.slice (some ⟨g,0,none⟩) (i+1) cap1) (i+1) (fun j=>[if j=i then .slice ya (qv+12) yc else Yv j]):=hown.congr fun j hj=>by
        by_cases e:j<i
        ·have e2:¬ j=i:=by omega
         simp [e,e2]
        ·have e2:j=i:=by omega
         simp [e2]
       have hbel1:Below B w w1:=(hbel.trans (hxa.mono (by omega))).trans (grown_below hg (by omega) (fun g' e=>by have:=hLa.lt g' e;omega))
       clear hown hg hat hPv hPr hYv hYr hbel hLv hLr hTr kx0 hLa hxa
       have hHH1:=hPv1.hH
       have hxb:=aG w1 (.cells #[.slice za (qr+12) zc] 29)
       have hLb:=hLr1.below hxb
       go_wp2_with (at_builtin;refine aV _ rfl _ _ 134 29 1 24 rfl Tryz.underlying134 infRowL (by decide) (by decide) H0 (.slice ra i rc) i _ rfl hLb w1.heap.size _ rfl [.slice za (qr+12) zc] rfl (fun u hu=>by simp at hu;subst hu;rfl) (aN w1 #[.slice za (qr+12) zc] 29) (by omega) (by simp;omega) (w1.heap.size+1) (by simp) ?_)
       intro g2 cap2 w2 hown hg hat _
       have kx0:=KX.old (Ts:=fun T=>T=29) hLb rfl hg
       have hs2:=hg.size
       have hsB:=hxb.size
       have hPv2:=(hPv1.below hxb).kx kx0 (by decide) hs2
       have hPr2:=(hPr1.below hxb).kx kx0 (by decide) hs2
       have hYv2:=(hYv1.below hxb).kx kx0 (by decide)
       have hYr2:=(hYr1.below hxb).kx kx0 (by decide)
       have hLv2:=(hLv1.below hxb).kx kx0 (by decide)
       have hTr2:=(hTr1.below hxb).kx kx0 (by decide)
       have hPv3:=LsA.more (y:=.slice ya (qv+12) yc) hPv2 (by decide) (by rw [HVI.out,HNV.out];exact hYv2)
       have hPr3:=LsA.more (y:=.slice za (qr+12) zc) hPr2 (by decide) (by rw [HRI.out,HNR.out];exact hYr2)
       have hLr2:SL w2 H0 29 1 (.slice (some ⟨g2,0,none⟩) (i+1) cap2) (i+1) (fun j=>[if j=i then .slice za (qr+12) zc else Yr j]):=hown.congr fun j hj=>by
        by_cases e:j<i
        ·have e2:¬ j=i:=by omega
         simp [e,e2]
        ·have e2:j=i:=by omega
         simp [e2]
       have hbel2:Below B w w2:=(hbel1.trans (hxb.mono (by omega))).trans (grown_below hg (by omega) (fun g' e=>by have:=hLb.lt g' e;omega))
       clear hown hg hat hPv1 hPr1 hPv2 hPr2 hYv1 hYr1 hYv2 hYr2 hbel1 hLv1 hLr1 hLb hTr1 kx0 hxb
       go_wp2
       go_roundw
       case rel=>exact ⟨i+1,_,_,by omega,by go_num,hPv3,hPr3,hLv2,hLr2,hTr2,hbel2⟩
       case measure=>simp [intOf];omega
    ·have hil:¬ (i:Int)<(m:Int):=by omega
     obtain rfl:i=m:=by omega
     clear hlt hi
     generalize hmi:i=m at *
     clear hmi
     go_wp2
     generalize wr=wL at *
     go_loopw [15] (fun s wq=>∃ i:Nat,i≤m∧s = .int .i64 i∧Below wL.heap.size wL wq) (fun s _=>m-(intOf s).toNat)
     case atStart=>exact ⟨0,Nat.zero_le _,rfl,Below.refl _ _⟩
     case round =>
      obtain ⟨i,hi,rfl,hb3⟩:=hrel
      have hi8:(i:Int)≤8:=by omega
      by_cases hlt:i<m
      ·have hil:(i:Int)<(m:Int):=by omega
       have hi8:(i:Int)<8:=by omega
       have hkI7:(i:Int)*7=((i*7:Nat):Int):=by omega
       obtain ⟨gl,rfl,c5,c6⟩:=hTr.pd hE hlt
       obtain ⟨gy,rfl,D0⟩:=hLv.hd hlt
       obtain ⟨gz,rfl,D1⟩:=hLr.hd hlt
       have hnvi:=hnv i hlt
       have hnri:=hnr i hlt
       have HV:=hPv.ov i hlt
       have HY:=hPv.oY i hlt
       have HR:=hPr.ov i hlt
       have HZ:=hPr.oY i hlt
       obtain ⟨qv,hqv⟩:∃ q,nv i=q:=⟨_,rfl⟩
       obtain ⟨qr,hqr⟩:∃ q,nr i=q:=⟨_,rfl⟩
       rw [hqv] at HV HY hnvi
       rw [hqr] at HR HZ hnri
       obtain ⟨sm,hsm⟩:∃ sm,sm=((ByteArray.mk #[97,98,99,100,101,102,103,104]).extract i (i+1)):=⟨_,rfl⟩
       have HSM:mkS i = .string sm:=by show mkS i = .string sm;unfold mkS;rw [hsm]
       replace HV:SL wL B 57 13 (pv i) qv (fun _=>[.string sm]):=HV.congr fun k _=>by show [mkS i]=_;rw [HSM]
       replace HR:SL wL B 60 10 (pr i) qr (fun _=>[.string sm]):=HR.congr fun k _=>by show [mkS i]=_;rw [HSM]
       replace HY:SL wL B 57 13 (Yv i) (qv+12) (fun _=>[.string sm]):=HY.congr fun k _=>by simp only [ite_self];rw [HSM]
       replace HZ:SL wL B 60 10 (Yr i) (qr+12) (fun _=>[.string sm]):=HZ.congr fun k _=>by simp only [ite_self];rw [HSM]
       obtain ⟨av,capv,hvi,_⟩:=HV.form
       obtain ⟨ar,capr,hri,_⟩:=HR.form
       obtain ⟨ya,yc,hyi,_⟩:=HY.form
       obtain ⟨za,zc,hzi,_⟩:=HZ.form
       rw [hvi] at c5 HV
       rw [hri] at c6 HR
       rw [hyi] at D0 HY
       rw [hzi] at D1 HZ
       have D2:=c5
       have D3:=c6
       have d0:=aB hb3 D0
       clear hvi hyi hri hzi hqv hqr HSM c5 c6
       go_wp2
       rw [← hsm]
       clear d0 hsm
       go_loopw [17] (fun s wq=>∃ k:Nat,k≤(qv+12)∧s = .int .i64 k∧Below wL.heap.size wL wq) (fun s _=>(qv+12)-(intOf s).toNat)
       case atStart=>exact ⟨0,Nat.zero_le _,rfl,hb3⟩
       case round =>
        clear hb3
        obtain ⟨k,hk,rfl,hb3⟩:=hrel
        have d0:=aB hb3 D0
        by_cases hk2:k<(qv+12)
        ·have hkl:(k:Int)<((qv+12:Nat):Int):=by omega
         have hkI4:(k:Int)*13=((k*13:Nat):Int):=by omega
         rcases HY.cell with h0|⟨g1,e1,hcy⟩
         ·omega
         subst e1
         have y0:=hcy k hk2 0 _ rfl
         rw [Nat.add_zero] at y0
         replace y0:=aB hb3 y0
         go_wp2
         go_roundw
         case rel=>exact ⟨k+1,by omega,by go_num,hb3⟩
         case measure=>simp [intOf];omega
        ·have hkl:¬ (k:Int)<((qv+12:Nat):Int):=by omega
         clear hk hk2
         go_wp2
         clear d0
         go_loopw [18] (fun s wq=>∃ k:Nat,k≤(qr+12)∧s = .int .i64 k∧Below wL.heap.size wL wq) (fun s _=>(qr+12)-(intOf s).toNat)
         case atStart=>exact ⟨0,Nat.zero_le _,rfl,hb3⟩
         case round =>
          clear hb3
          obtain ⟨k,hk,rfl,hb3⟩:=hrel
          have d0:=aB hb3 D1
          by_cases hk2:k<(qr+12)
          ·have hkl:(k:Int)<((qr+12:Nat):Int):=by omega
           have hkI4:(k:Int)*10=((k*10:Nat):Int):=by omega
           rcases HZ.cell with h0|⟨g1,e1,hcy⟩
           ·omega
           subst e1
           have y0:=hcy k hk2 0 _ rfl
           rw [Nat.add_zero] at y0
           replace y0:=aB hb3 y0
           go_wp2
           go_roundw
           case rel=>exact ⟨k+1,by omega,by go_num,hb3⟩
           case measure=>simp [intOf];omega
          ·have hkl:¬ (k:Int)<((qr+12:Nat):Int):=by omega
           clear hk hk2
           go_wp2
           clear d0
           go_loopw [19] (fun s wq=>∃ k:Nat,k≤qv∧s = .int .i64 k∧Below wL.heap.size wL wq) (fun s _=>qv-(intOf s).toNat)
           case atStart=>exact ⟨0,Nat.zero_le _,rfl,hb3⟩
           case round =>
            clear hb3
            obtain ⟨k,hk,rfl,hb3⟩:=hrel
            have d0:=aB hb3 D2
            by_cases hk2:k<qv
            ·have hkl:(k:Int)<(qv:Int):=by omega
             have hkI4:(k:Int)*13=((k*13:Nat):Int):=by omega
             rcases HV.cell with h0|⟨g1,e1,hcy⟩
             ·omega
             subst e1
             have y0:=hcy k hk2 0 _ rfl
             rw [Nat.add_zero] at y0
             replace y0:=aB hb3 y0
             go_wp2
             go_roundw
             case rel=>exact ⟨k+1,by omega,by go_num,hb3⟩
             case measure=>simp [intOf];omega
            ·have hkl:¬ (k:Int)<(qv:Int):=by omega
             clear hk hk2
             go_wp2
             clear d0
             go_loopw [20] (fun s wq=>∃ k:Nat,k≤qr∧s = .int .i64 k∧Below wL.heap.size wL wq) (fun s _=>qr-(intOf s).toNat)
             case atStart=>exact ⟨0,Nat.zero_le _,rfl,hb3⟩
             case round =>
              clear hb3
              obtain ⟨k,hk,rfl,hb3⟩:=hrel
              have d0:=aB hb3 D3
              by_cases hk2:k<qr
              ·have hkl:(k:Int)<(qr:Int):=by omega
               have hkI4:(k:Int)*10=((k*10:Nat):Int):=by omega
               rcases HR.cell with h0|⟨g1,e1,hcy⟩
               ·omega
               subst e1
               have y0:=hcy k hk2 0 _ rfl
               rw [Nat.add_zero] at y0
               replace y0:=aB hb3 y0
               go_wp2
               go_roundw
               case rel=>exact ⟨k+1,by omega,by go_num,hb3⟩
               case measure=>simp [intOf];omega
              ·have hkl:¬ (k:Int)<(qr:Int):=by omega
               clear hk hk2
               go_wp2
               clear d0
               go_roundw
               case rel=>exact ⟨i+1,by omega,by go_num,hb3⟩
               case measure=>simp [intOf];omega
      ·have hil:¬ (i:Int)<(m:Int):=by omega
       have hfin:Below B w wr:=hbel.trans (hb3.mono (by have:=hPv.hH;omega))
       go_wp2
       go_ret
       exact ⟨rfl,hfin⟩
end Go.Proofs.YtdcocflnafcikaaGreatDoor
