import Derived.Test.YtgdilnljjgdinaaGreatDoorLaIAll
namespace Go.Proofs.YtgdilnljjgdinaaGreatDoor
open Go.RowKit
set_option maxRecDepth 100000 in
set_option maxHeartbeats 16000000 in
theorem ownedD {va vb:Option Addr} {n vc m vd B H:Nat} {E E':Nat→List Value} {lo hi:Nat→Nat} (w:World) (hA:SL w B 46 8 (.slice va n vc) n E) (hB:SL w H 46 8 (.slice vb m vd) m E') (hAl:∀ i,i<n→(E i).length=8) (hBl:∀ i,i<m→(E' i).length=8)
  (hN:∀ i,i<n+m→B≤lo i∧NmX w (lo i) (hi i) (if i<n then nmE (E i) else nmE (E' (i-n)))) (ho:∀ i j,i<j→j<n+m→hi i≤lo j) (hd:Dfs va vb) (hBH:B≤H) (hHH:H≤w.heap.size) (hn:n≤400000) (hm:m≤400000) :
  Calls Tryz.prog 10 #[.slice va n vc,.slice vb m vd] w fun e w'=>e = .returned (.bool true)∧BelO B w w':=by
 have hBw:B≤w.heap.size:=Nat.le_trans hBH hHH
 have HVA:Hid (∀ p,va=some p→p.block<w.heap.size):=fun p e=>(hA.ad p e).2
 have HVB:Hid (∀ p,vb=some p→p.block<w.heap.size):=fun p e=>(hB.ad p e).2
 obtain ⟨EN,eEN⟩:∃ EN:Nat→List Value,EN=fun i=>if i<n then nmE (E i) else nmE (E' (i-n)):=⟨_,rfl⟩
 have HEA:Hid (∀ i,i<n→EN i=nmE (E i)):=fun i h=>by rw [eEN];exact if_pos h
 have HEB:Hid (∀ i,i<m→EN (n+i)=nmE (E' i)):=fun i h=>by rw [eEN];show (if n+i<n then _ else _)=_;rw [if_neg (by omega),Nat.add_sub_cancel_left]
 have HN:Hid (∀ i,i<n+m→B≤lo i∧NmX w (lo i) (hi i) (EN i)):=by rw [eEN];exact hN
 have HO:Hid (∀ i j,i<j→j<n+m→hi i≤lo j):=ho
 clear hN ho eEN
 go_enter Tryz.func10,Tryz.ntmps10
 go_wp2
 go_loopw [5,6] (fun sn si wr=>∃ (i:Nat) (na:Option Addr) (nc:Nat),i≤n∧si = .int .i64 i∧sn = .slice na i nc∧SL wr w.heap.size 44 3 (.slice na i nc) i EN∧Below w.heap.size w wr) (fun _ x _=>n-(intOf x).toNat)
 case atStart=>exact ⟨0,none,0,Nat.zero_le _,rfl,rfl,SL.nil _ _ _ _ _,Below.refl _ _⟩
 case round =>
  obtain ⟨i,na,nc,hi',rfl,rfl,hSL,hbel⟩:=hrel
  by_cases hlt:i<n
  ·have hiI:(i:Int)<(n:Int):=by omega
   have hi0:¬ (i:Int)<0:=by omega
   have hi8:(i:Int)*8=((i*8:Nat):Int):=by omega
   obtain ⟨hlo,f,u,v,xs,ys,eE,o1,o2,-⟩:=HN.out i (by omega)
   obtain ⟨a1,k1,rfl⟩:=o1.slice
   obtain ⟨a2,k2,rfl⟩:=o2.slice
   have HEN:Hid (EN i=[.bool f,.slice a1 xs.length k1,.slice a2 ys.length k2]):=eE
   have eN:=eE
   rw [HEA.out i hlt] at eN
   obtain ⟨c2,c3,c4⟩:=nm_cells eN
   rcases hA.cell with h0|⟨g,rfl,hc⟩
   ·omega
   have x2:=kept_c hbel (hc i hlt 2 _ c2)
   have x3:=kept_c hbel (hc i hlt 3 _ c3)
   have x4:=kept_c hbel (hc i hlt 4 _ c4)
   have hz4:=bel_d0 wr (.cells #[.bool f,.slice a1 xs.length k1,.slice a2 ys.length k2] 44)
   have hbs:=hbel.size
   clear eE eN o1 o2 c2 c3 c4 hc hlo
   go_wp2_with (first
    | (at_builtin;refine wpList_appendS _ rfl _ _ 62 44 3 56 rfl Tryz.underlying62 infRatT (by decide) (by decide) w.heap.size (.slice na i nc) i EN rfl (hSL.below hz4) wr.heap.size _ rfl [.bool f,.slice a1 xs.length k1,.slice a2 ys.length k2] rfl (fun u hu=>by simp only [List.mem_cons,List.not_mem_nil,or_false] at hu;rcases hu with rfl|rfl|rfl <;> rfl) (box_new wr #[.bool f,.slice a1 xs.length k1,.slice a2 ys.length k2] 44) (by omega) (by simp;omega) (wr.heap.size+1) (by simp) ?_;intro g1 cap1 w6 SN hgrow hat hgl)
    | fail)
   have hbf:=hbel.trans ((hz4.mono hbs).trans (grown_below hgrow (by simp;omega) (fun k hk=>((hSL.below hz4).lt k hk).1)))
   have SN2:=SN.congr (F:=EN) (fun k hk=>by
    by_cases h:k<i
    ·rw [if_pos h]
    ·rw [if_neg h]
     obtain rfl:k=i:=by omega
     exact HEN.out.symm)
   clear SN hgrow hat hgl hz4 x2 x3 x4 hSL hbel
   go_wp2
   go_roundw
   case rel=>first|exact ⟨i+1,some ⟨g1,0,none⟩,cap1,by omega,by first|rfl|go_num,rfl,SN2,hbf⟩|((repeat apply Exists.intro);refine ⟨?_,rfl⟩;exact ⟨i+1,some ⟨g1,0,none⟩,cap1,by omega,by first|rfl|go_num,rfl,SN2,hbf⟩)
   case measure=>simp [intOf];omega
  ·have hiI:¬ (i:Int)<(n:Int):=by omega
   obtain rfl:i=n:=by omega
   have HS0:Hid (SL wr w.heap.size 44 3 (.slice na i nc) (i+0) EN):=hSL
   have HB0:Hid (Below w.heap.size w wr):=hbel
   clear hSL hbel
   obtain ⟨v0,ev0⟩:∃ v0,v0=wr:=⟨_,rfl⟩
   subst ev0
   go_wp2
   go_loopw [5,7] (fun sn si wr=>∃ (j:Nat) (na:Option Addr) (nc:Nat),j≤m∧si = .int .i64 j∧sn = .slice na (i+j) nc∧SL wr w.heap.size 44 3 (.slice na (i+j) nc) (i+j) EN∧Below w.heap.size w wr) (fun _ x _=>m-(intOf x).toNat)
   case atStart=>exact ⟨0,na,nc,Nat.zero_le _,rfl,rfl,HS0.out,HB0.out⟩
   case round =>
    clear HS0 HB0
    obtain ⟨j,na,nc,hj',rfl,rfl,hSL,hbel⟩:=hrel
    by_cases hlt:j<m
    ·have hiI:(j:Int)<(m:Int):=by omega
     have hi0:¬ (j:Int)<0:=by omega
     have hi8:(j:Int)*8=((j*8:Nat):Int):=by omega
     obtain ⟨hlo,f,u,v,xs,ys,eE,o1,o2,-⟩:=HN.out (i+j) (by omega)
     obtain ⟨a1,k1,rfl⟩:=o1.slice
     obtain ⟨a2,k2,rfl⟩:=o2.slice
     have HEN:Hid (EN (i+j)=[.bool f,.slice a1 xs.length k1,.slice a2 ys.length k2]):=eE
     have eN:=eE
     rw [HEB.out j hlt] at eN
     obtain ⟨c2,c3,c4⟩:=nm_cells eN
     rcases hB.cell with h0|⟨g,rfl,hc⟩
     ·omega
     have x2:=kept_c hbel (hc j hlt 2 _ c2)
     have x3:=kept_c hbel (hc j hlt 3 _ c3)
     have x4:=kept_c hbel (hc j hlt 4 _ c4)
     have hz4:=bel_d0 wr (.cells #[.bool f,.slice a1 xs.length k1,.slice a2 ys.length k2] 44)
     have hbs:=hbel.size
     clear eE eN o1 o2 c2 c3 c4 hc hlo
     go_wp2_with (first
      | (at_builtin;refine wpList_appendS _ rfl _ _ 62 44 3 56 rfl Tryz.underlying62 infRatT (by decide) (by decide) w.heap.size (.slice na (i+j) nc) (i+j) EN rfl (hSL.below hz4) wr.heap.size _ rfl [.bool f,.slice a1 xs.length k1,.slice a2 ys.length k2] rfl (fun u hu=>by simp only [List.mem_cons,List.not_mem_nil,or_false] at hu;rcases hu with rfl|rfl|rfl <;> rfl) (box_new wr #[.bool f,.slice a1 xs.length k1,.slice a2 ys.length k2] 44) (by omega) (by simp;omega) (wr.heap.size+1) (by simp) ?_;intro g1 cap1 w6 SN hgrow hat hgl)
      | fail)
     have hbf:=hbel.trans ((hz4.mono hbs).trans (grown_below hgrow (by simp;omega) (fun k hk=>((hSL.below hz4).lt k hk).1)))
     have SN2:=SN.congr (F:=EN) (fun k hk=>by
      by_cases h:k<(i+j)
      ·rw [if_pos h]
      ·rw [if_neg h]
       obtain rfl:k=(i+j):=by omega
       exact HEN.out.symm)
     clear SN hgrow hat hgl hz4 x2 x3 x4 hSL hbel
     go_wp2
     go_roundw
     case rel=>first|exact ⟨j+1,some ⟨g1,0,none⟩,cap1,by omega,by first|rfl|go_num,rfl,SN2,hbf⟩|((repeat apply Exists.intro);refine ⟨?_,rfl⟩;exact ⟨j+1,some ⟨g1,0,none⟩,cap1,by omega,by first|rfl|go_num,rfl,SN2,hbf⟩)
     case measure=>simp [intOf];omega
    ·have hjI:¬ (j:Int)<(m:Int):=by omega
     obtain rfl:j=m:=by omega
     have hbs:=hbel.size
     have hAP:=apartE (E:=EN) (lo:=lo) (hi:=hi) wr hBw hbs hSL (fun k hk=>⟨(HN.out k hk).1,(HN.out k hk).2.below hbel⟩) HO.out (by omega)
     have hA1:=hA.below hbel
     have hB1:=hB.below hbel
     clear hA hB hSL HN HO HEA HEB
     go_wp2_with fail
     refine hAP.mono ?_
     clear hAP
     rintro e w3 ⟨rfl,h3,h3k⟩
     have hA3:=hA1.kn h3k (by decide) (by decide)
     have hB3:=hB1.kn h3k (by decide) (by decide)
     have hb3:=(BelO.of_below hbel hBw).chain h3 h3k.2
     clear hA1 hB1 h3 h3k hbel hbs
     go_wp2
     go_loopw [9] (fun sk wr=>∃ (k:Nat) (E1:Nat→List Value),k≤i∧sk = .int .i64 k∧SL wr B 46 8 (.slice va i vc) i E1∧(∀ q,q<i→(E1 q).length=8)∧(∀ q,q<k→(E1 q)[0]? = some (.int .i64 71))∧SL wr H 46 8 (.slice vb j vd) j E'∧BelO B w wr) (fun x _=>i-(intOf x).toNat)
     case atStart=>exact ⟨0,E,Nat.zero_le _,rfl,hA3,hAl,fun q hq=>by omega,hB3,hb3⟩
     case round =>
      clear hA3 hB3 hb3
      obtain ⟨k,E1,hk',rfl,hP,hPl,hPz,hQ,hbz⟩:=hrel
      by_cases hlt:k<i
      ·have hkI:(k:Int)<(i:Int):=by omega
       have hk0:¬ (k:Int)<0:=by omega
       have hk8:(k:Int)*8=((k*8:Nat):Int):=by omega
       obtain ⟨g,eg,hgB,hgw,hfz⟩:=hP.blk (by omega)
       obtain ⟨e0,e1,e2,e3,e4,e5,e6,e7,eL⟩:=len8 (hPl k hlt)
       have hgB2:B≤g:=by omega
       have hdr:=hd.symm.row (n:=j) (m:=i) (c:=vd) (d:=vc) g (by rw [eg];rfl)
       have HD:Hid (∀ g',Value.ownBlock (.slice vb j vd)=some g'→some g≠some g'):=fun g' q1 q2=>by cases q2;exact hdr q1
       clear hdr
       subst eg
       rcases hP.cell with h0|⟨g2,eg2,hc⟩
       ·omega
       simp only [Option.some.injEq,Addr.mk.injEq] at eg2
       obtain ⟨rfl,_,_⟩:=eg2
       have y0:wr.cell? ⟨g,k*8,none⟩=some e0:=hc k hlt 0 _ (by rw [eL];rfl)
       have f0:=hfz (k*8)
       have y1:wr.cell? ⟨g,k*8+1,none⟩=some e1:=hc k hlt 1 _ (by rw [eL];rfl)
       have f1:=hfz (k*8+1)
       have y2:wr.cell? ⟨g,k*8+2,none⟩=some e2:=hc k hlt 2 _ (by rw [eL];rfl)
       have f2:=hfz (k*8+2)
       have y3:wr.cell? ⟨g,k*8+3,none⟩=some e3:=hc k hlt 3 _ (by rw [eL];rfl)
       have f3:=hfz (k*8+3)
       have y4:wr.cell? ⟨g,k*8+4,none⟩=some e4:=hc k hlt 4 _ (by rw [eL];rfl)
       have f4:=hfz (k*8+4)
       have y5:wr.cell? ⟨g,k*8+5,none⟩=some e5:=hc k hlt 5 _ (by rw [eL];rfl)
       have f5:=hfz (k*8+5)
       have y6:wr.cell? ⟨g,k*8+6,none⟩=some e6:=hc k hlt 6 _ (by rw [eL];rfl)
       have f6:=hfz (k*8+6)
       have y7:wr.cell? ⟨g,k*8+7,none⟩=some e7:=hc k hlt 7 _ (by rw [eL];rfl)
       have f7:=hfz (k*8+7)
       have S:=hP.tok rfl hlt (hPl k hlt) 71
       have O:=((((((((Off.refl g wr).set (k*8) (.int .i64 71)).set (k*8+1) (.string ⟨#[]⟩)).set (k*8+2) (.bool false)).set (k*8+3) (.slice none 0 0)).set (k*8+4) (.slice none 0 0)).set (k*8+5) (.int .i64 0)).set (k*8+6) (.int .i64 0)).set (k*8+7) (.int .i64 0)
       have hQ2:=hQ.kept (off_grw O) HD.out
       have hbz2:=hbz.chain (O.below (B:=B) hgB2) ((((((((KeepsOthers.setCell _ _ _).trans (KeepsOthers.setCell _ _ _)).trans (KeepsOthers.setCell _ _ _)).trans (KeepsOthers.setCell _ _ _)).trans (KeepsOthers.setCell _ _ _)).trans (KeepsOthers.setCell _ _ _)).trans (KeepsOthers.setCell _ _ _)).trans (KeepsOthers.setCell _ _ _))
       have hPl2:∀ q,q<i→(if q=k then tkK 71 else E1 q).length=8:=fun q hq=>by
        by_cases e:q=k
        ·rw [if_pos e];rfl
        ·rw [if_neg e];exact hPl q hq
       have hPz2:∀ q,q<k+1→(if q=k then tkK 71 else E1 q)[0]? = some (.int .i64 71):=fun q hq=>by
        by_cases e:q=k
        ·rw [if_pos e];rfl
        ·rw [if_neg e];exact hPz q (by omega)
       clear hP hQ hbz O hPl hPz hc eL HD
       go_wp2
       go_roundw
       case rel=>first|exact ⟨k+1,_,by omega,by first|rfl|go_num,S,hPl2,hPz2,hQ2,hbz2⟩|((repeat apply Exists.intro);refine ⟨?_,rfl⟩;exact ⟨k+1,_,by omega,by first|rfl|go_num,S,hPl2,hPz2,hQ2,hbz2⟩)
       case measure=>simp [intOf];omega
      ·have hkI:¬ (k:Int)<(i:Int):=by omega
       have hPz3:∀ q,q<i→(E1 q)[0]? = some (.int .i64 71):=fun q hq=>hPz q (by omega)
       clear hPz
       obtain ⟨v4,ev4⟩:∃ v4,v4=wr:=⟨_,rfl⟩
       subst ev4
       obtain ⟨EA,eEA⟩:∃ EA,EA=E1:=⟨_,rfl⟩
       subst eEA
       have h71:=hPz3
       clear hPz3
       go_wp2
       go_loopw [10] (fun sk wr=>∃ (k:Nat) (E1:Nat→List Value),k≤j∧sk = .int .i64 k∧SL wr H 46 8 (.slice vb j vd) j E1∧(∀ q,q<j→(E1 q).length=8)∧(∀ q,q<k→(E1 q)[0]? = some (.int .i64 72))∧SL wr B 46 8 (.slice va i vc) i EA∧BelO B w wr) (fun x _=>j-(intOf x).toNat)
       case atStart=>exact ⟨0,E',Nat.zero_le _,rfl,hQ,hBl,fun q hq=>by omega,hP,hbz⟩
       case round =>
        clear hP hQ hbz hPl
        obtain ⟨k,E1,hk',rfl,hP,hPl,hPz,hQ,hbz⟩:=hrel
        by_cases hlt:k<j
        ·have hkI:(k:Int)<(j:Int):=by omega
         have hk0:¬ (k:Int)<0:=by omega
         have hk8:(k:Int)*8=((k*8:Nat):Int):=by omega
         obtain ⟨g,eg,hgB,hgw,hfz⟩:=hP.blk (by omega)
         obtain ⟨e0,e1,e2,e3,e4,e5,e6,e7,eL⟩:=len8 (hPl k hlt)
         have hgB2:B≤g:=by omega
         have hdr:=hd.row (n:=i) (m:=j) (c:=vc) (d:=vd) g (by rw [eg];rfl)
         have HD:Hid (∀ g',Value.ownBlock (.slice va i vc)=some g'→some g≠some g'):=fun g' q1 q2=>by cases q2;exact hdr q1
         clear hdr
         subst eg
         rcases hP.cell with h0|⟨g2,eg2,hc⟩
         ·omega
         simp only [Option.some.injEq,Addr.mk.injEq] at eg2
         obtain ⟨rfl,_,_⟩:=eg2
         have y0:wr.cell? ⟨g,k*8,none⟩=some e0:=hc k hlt 0 _ (by rw [eL];rfl)
         have f0:=hfz (k*8)
         have y1:wr.cell? ⟨g,k*8+1,none⟩=some e1:=hc k hlt 1 _ (by rw [eL];rfl)
         have f1:=hfz (k*8+1)
         have y2:wr.cell? ⟨g,k*8+2,none⟩=some e2:=hc k hlt 2 _ (by rw [eL];rfl)
         have f2:=hfz (k*8+2)
         have y3:wr.cell? ⟨g,k*8+3,none⟩=some e3:=hc k hlt 3 _ (by rw [eL];rfl)
         have f3:=hfz (k*8+3)
         have y4:wr.cell? ⟨g,k*8+4,none⟩=some e4:=hc k hlt 4 _ (by rw [eL];rfl)
         have f4:=hfz (k*8+4)
         have y5:wr.cell? ⟨g,k*8+5,none⟩=some e5:=hc k hlt 5 _ (by rw [eL];rfl)
         have f5:=hfz (k*8+5)
         have y6:wr.cell? ⟨g,k*8+6,none⟩=some e6:=hc k hlt 6 _ (by rw [eL];rfl)
         have f6:=hfz (k*8+6)
         have y7:wr.cell? ⟨g,k*8+7,none⟩=some e7:=hc k hlt 7 _ (by rw [eL];rfl)
         have f7:=hfz (k*8+7)
         have S:=hP.tok rfl hlt (hPl k hlt) 72
         have O:=((((((((Off.refl g wr).set (k*8) (.int .i64 72)).set (k*8+1) (.string ⟨#[]⟩)).set (k*8+2) (.bool false)).set (k*8+3) (.slice none 0 0)).set (k*8+4) (.slice none 0 0)).set (k*8+5) (.int .i64 0)).set (k*8+6) (.int .i64 0)).set (k*8+7) (.int .i64 0)
         have hQ2:=hQ.kept (off_grw O) HD.out
         have hbz2:=hbz.chain (O.below (B:=B) hgB2) ((((((((KeepsOthers.setCell _ _ _).trans (KeepsOthers.setCell _ _ _)).trans (KeepsOthers.setCell _ _ _)).trans (KeepsOthers.setCell _ _ _)).trans (KeepsOthers.setCell _ _ _)).trans (KeepsOthers.setCell _ _ _)).trans (KeepsOthers.setCell _ _ _)).trans (KeepsOthers.setCell _ _ _))
         have hPl2:∀ q,q<j→(if q=k then tkK 72 else E1 q).length=8:=fun q hq=>by
          by_cases e:q=k
          ·rw [if_pos e];rfl
          ·rw [if_neg e];exact hPl q hq
         have hPz2:∀ q,q<k+1→(if q=k then tkK 72 else E1 q)[0]? = some (.int .i64 72):=fun q hq=>by
          by_cases e:q=k
          ·rw [if_pos e];rfl
          ·rw [if_neg e];exact hPz q (by omega)
         clear hP hQ hbz O hPl hPz hc eL HD
         go_wp2
         go_roundw
         case rel=>first|exact ⟨k+1,_,by omega,by first|rfl|go_num,S,hPl2,hPz2,hQ2,hbz2⟩|((repeat apply Exists.intro);refine ⟨?_,rfl⟩;exact ⟨k+1,_,by omega,by first|rfl|go_num,S,hPl2,hPz2,hQ2,hbz2⟩)
         case measure=>simp [intOf];omega
        ·have hkI:¬ (k:Int)<(j:Int):=by omega
         have hPz3:∀ q,q<j→(E1 q)[0]? = some (.int .i64 72):=fun q hq=>hPz q (by omega)
         clear hPz
         have hKa:=KdA.of_sl hQ h71
         have hHw:H≤wr.heap.size∨H > wr.heap.size:=by omega
         go_wp2
         go_loopw [11,12] (fun sx sk wr=>∃ (k:Nat) (xa:Option Addr) (xc:Nat) (EX:Nat→List Value),k≤8∧sk = .int .i64 k∧sx = .slice xa (i+k) xc∧SL wr B 46 8 (.slice xa (i+k) xc) (i+k) EX∧(∀ q,q<i→(EX q)[0]? = some (.int .i64 71))∧(∀ q,i≤q→q<i+k→(EX q)[0]? = some (.int .i64 73))∧KdA wr va i 71∧SL wr H 46 8 (.slice vb j vd) j E1∧Dfs vb xa∧BelO B w wr) (fun _ x _=>8-(intOf x).toNat)
         case atStart=>exact ⟨0,va,vc,EA,by omega,rfl,rfl,hQ,h71,fun q _ _=>by omega,hKa,hP,hd.symm,hbz⟩
         case round =>
          clear hQ hKa hP hbz h71 hPl
          obtain ⟨k,xa,xc,EX,hk',rfl,rfl,hX,h1z,h2z,hKa,hP,hdx,hbz⟩:=hrel
          by_cases hlt:k<8
          ·have hkI:(k:Int)<8:=by omega
           have hz4:=bel_d0 wr (.cells #[.int .i64 73,.string ⟨#[]⟩,.bool false,.slice none 0 0,.slice none 0 0,.int .i64 0,.int .i64 0,.int .i64 0] 46)
           have hbs:=Nat.le_trans hBw hbz.size
           have hws:=hbz.size
           go_wp2_with (first
            | (at_builtin;refine wpList_appendTk _ rfl _ _ rfl B (.slice xa (i+k) xc) (i+k) EX rfl (hX.below hz4) wr.heap.size _ rfl [.int .i64 73,.string ⟨#[]⟩,.bool false,.slice none 0 0,.slice none 0 0,.int .i64 0,.int .i64 0,.int .i64 0] rfl (fun u hu=>by simp only [List.mem_cons,List.not_mem_nil,or_false] at hu;rcases hu with rfl|rfl|rfl|rfl|rfl|rfl|rfl|rfl <;> rfl) (box_new wr #[.int .i64 73,.string ⟨#[]⟩,.bool false,.slice none 0 0,.slice none 0 0,.int .i64 0,.int .i64 0,.int .i64 0] 46) (by omega) (by simp;omega) ?_;intro g6 cap6 w6 SN hL)
            | fail)
           have hA6:=(hKa.below hz4).lies SN (fun q hq=>by rw [if_pos (by omega)];exact h1z q hq) (by omega) hL
           have hB6:=(hP.below hz4).lies hL hdx
           have hd6:=hdx.lies hL (fun p e=>by have:=HVB.out p e;simp;omega)
           have hb6:=(hbz.chain (hz4.mono hbs) (KN.of_below hz4).2).chain (bel_lies hL (by simp;omega) (fun p e=>((hX.below hz4).ad p e).1)) (others_lies (hX.below hz4) hL)
           have hx2:∀ q,q<i→(if q<i+k then EX q else [.int .i64 73,.string ⟨#[]⟩,.bool false,.slice none 0 0,.slice none 0 0,.int .i64 0,.int .i64 0,.int .i64 0])[0]? = some (.int .i64 71):=fun q hq=>by
            rw [if_pos (by omega)];exact h1z q hq
           have hx3:∀ q,i≤q→q<i+(k+1)→(if q<i+k then EX q else [.int .i64 73,.string ⟨#[]⟩,.bool false,.slice none 0 0,.slice none 0 0,.int .i64 0,.int .i64 0,.int .i64 0])[0]? = some (.int .i64 73):=fun q h1 h2=>by
            by_cases h:q<i+k
            ·rw [if_pos h];exact h2z q h1 h
            ·rw [if_neg h];rfl
           clear hKa hP hdx hbz hX h1z h2z hz4 hL
           go_wp2
           go_roundw
           case rel=>first|exact ⟨k+1,some ⟨g6,0,none⟩,cap6,_,by omega,by first|rfl|go_num,rfl,SN,hx2,hx3,hA6,hB6,hd6,hb6⟩|((repeat apply Exists.intro);refine ⟨?_,rfl⟩;exact ⟨k+1,some ⟨g6,0,none⟩,cap6,_,by omega,by first|rfl|go_num,rfl,SN,hx2,hx3,hA6,hB6,hd6,hb6⟩)
           case measure=>simp [intOf];omega
          ·have hkI:¬ (k:Int)<8:=by omega
           obtain rfl:k=8:=by omega
           have HX2:Hid (∀ q,i≤q→q<i+8→(EX q)[0]? = some (.int .i64 73)):=h2z
           have HX1:Hid (∀ q,q<i→(EX q)[0]? = some (.int .i64 71)):=h1z
           clear h1z h2z
           obtain ⟨v5,ev5⟩:∃ v5,v5=wr:=⟨_,rfl⟩
           subst ev5
           go_wp2
           go_loopw [13,14] (fun sx sk wr=>∃ (k:Nat) (ya:Option Addr) (yc:Nat) (EY:Nat→List Value),k≤8∧sk = .int .i64 k∧sx = .slice ya (j+k) yc∧SL wr H 46 8 (.slice ya (j+k) yc) (j+k) EY∧(∀ q,q<j→(EY q)[0]? = some (.int .i64 72))∧(∀ q,j≤q→q<j+k→(EY q)[0]? = some (.int .i64 74))∧KdA wr vb j 72∧KdA wr va i 71∧SL wr B 46 8 (.slice xa (i+8) xc) (i+8) EX∧Dfs xa ya∧Dfs va ya∧BelO B w wr∧H≤wr.heap.size) (fun _ x _=>8-(intOf x).toNat)
           case atStart=>exact ⟨0,vb,vd,E1,by omega,rfl,rfl,hP,hPz3,fun q _ _=>by omega,KdA.of_sl hP hPz3,hKa,hX,hdx.symm,hd,hbz,Nat.le_trans hHH hbz.size⟩
           case round =>
            clear hKa hP hbz hX hdx hPz3
            obtain ⟨k,ya,yc,EY,hk',rfl,rfl,hY,h1z,h2z,hKb,hKa,hX,hdx,hdv,hbz,hHs⟩:=hrel
            by_cases hlt:k<8
            ·have hkI:(k:Int)<8:=by omega
             have hz4:=bel_d0 wr (.cells #[.int .i64 74,.string ⟨#[]⟩,.bool false,.slice none 0 0,.slice none 0 0,.int .i64 0,.int .i64 0,.int .i64 0] 46)
             have hbs:=Nat.le_trans hBw hbz.size
             have hws:=hbz.size
             go_wp2_with (first
              | (at_builtin;refine wpList_appendTk _ rfl _ _ rfl H (.slice ya (j+k) yc) (j+k) EY rfl (hY.below hz4) wr.heap.size _ rfl [.int .i64 74,.string ⟨#[]⟩,.bool false,.slice none 0 0,.slice none 0 0,.int .i64 0,.int .i64 0,.int .i64 0] rfl (fun u hu=>by simp only [List.mem_cons,List.not_mem_nil,or_false] at hu;rcases hu with rfl|rfl|rfl|rfl|rfl|rfl|rfl|rfl <;> rfl) (box_new wr #[.int .i64 74,.string ⟨#[]⟩,.bool false,.slice none 0 0,.slice none 0 0,.int .i64 0,.int .i64 0,.int .i64 0] 46) (by omega) (by simp;omega) ?_;intro g6 cap6 w6 SN hL)
              | fail)
             have hB6:=(hKb.below hz4).lies SN (fun q hq=>by rw [if_pos (by omega)];exact h1z q hq) (by omega) hL
             have hA6:=(hKa.below hz4).other hL hdv
             have hX6:=(hX.below hz4).lies hL hdx
             have hd6:=hdx.lies hL (fun p e=>((hX.below hz4).ad p e).2)
             have hd7:=hdv.lies hL (fun p e=>by have:=HVA.out p e;simp;omega)
             have hb6:=(hbz.chain (hz4.mono hbs) (KN.of_below hz4).2).chain (bel_lies hL (by simp;omega) (fun p e=>Nat.le_trans hBH ((hY.below hz4).ad p e).1)) (others_lies (hY.below hz4) hL)
             have hH6:=Nat.le_trans hHH hb6.size
             have hx2:∀ q,q<j→(if q<j+k then EY q else [.int .i64 74,.string ⟨#[]⟩,.bool false,.slice none 0 0,.slice none 0 0,.int .i64 0,.int .i64 0,.int .i64 0])[0]? = some (.int .i64 72):=fun q hq=>by
              rw [if_pos (by omega)];exact h1z q hq
             have hx3:∀ q,j≤q→q<j+(k+1)→(if q<j+k then EY q else [.int .i64 74,.string ⟨#[]⟩,.bool false,.slice none 0 0,.slice none 0 0,.int .i64 0,.int .i64 0,.int .i64 0])[0]? = some (.int .i64 74):=fun q h1 h2=>by
              by_cases h:q<j+k
              ·rw [if_pos h];exact h2z q h1 h
              ·rw [if_neg h];rfl
             clear hKa hKb hdx hdv hbz hX hY h1z h2z hz4 hL hHs
             go_wp2
             go_roundw
             case rel=>first|exact ⟨k+1,some ⟨g6,0,none⟩,cap6,_,by omega,by first|rfl|go_num,rfl,SN,hx2,hx3,hB6,hA6,hX6,hd6,hd7,hb6,hH6⟩|((repeat apply Exists.intro);refine ⟨?_,rfl⟩;exact ⟨k+1,some ⟨g6,0,none⟩,cap6,_,by omega,by first|rfl|go_num,rfl,SN,hx2,hx3,hB6,hA6,hX6,hd6,hd7,hb6,hH6⟩)
             case measure=>simp [intOf];omega
            ·have hkI:¬ (k:Int)<8:=by omega
             obtain rfl:k=8:=by omega
             have HY2:Hid (∀ q,j≤q→q<j+8→(EY q)[0]? = some (.int .i64 74)):=h2z
             have HY1:Hid (∀ q,q<j→(EY q)[0]? = some (.int .i64 72)):=h1z
             clear h1z h2z hdx hdv hHs
             obtain ⟨v6,ev6⟩:∃ v6,v6=wr:=⟨_,rfl⟩
             subst ev6
             go_wp2
             go_loopw [15] (fun sk wr=>∃ k:Nat,k≤i+8∧sk = .int .i64 k∧wr=v6) (fun x _=>i+8-(intOf x).toNat)
             case atStart=>exact ⟨0,Nat.zero_le _,rfl,rfl⟩
             case round =>
              obtain ⟨k,hk',rfl,ez⟩:=hrel
              subst wr
              by_cases hlt:k<i+8
              ·have hkI2:(k:Int)<(i:Int)+8:=by omega
               have hk0:¬ (k:Int)<0:=by omega
               have hk8:(k:Int)*8=((k*8:Nat):Int):=by omega
               rcases hX.cell with h0|⟨gx,rfl,hcx⟩
               ·omega
               by_cases hkn:k<i
               ·have hkn2:(k:Int)<(i:Int):=by omega
                have hkn3:¬ (i:Int)≤(k:Int):=by omega
                rcases hKa with h0|⟨ga,rfl,-,hca⟩
                ·omega
                have y1:v6.cell? ⟨gx,k*8,none⟩=some (.int .i64 71):=hcx k hlt 0 _ (HX1.out k hkn)
                have y2:=hca k hkn
                clear hcx hca
                go_wp2
                go_roundw
                case rel=>exact ⟨k+1,by omega,by first|rfl|go_num,by first|rfl|trivial⟩
                case measure=>simp [intOf];omega
               ·have hkn2:¬ (k:Int)<(i:Int):=by omega
                have hkn3:(i:Int)≤(k:Int):=by omega
                have y1:v6.cell? ⟨gx,k*8,none⟩=some (.int .i64 73):=hcx k hlt 0 _ (HX2.out k (by omega) hlt)
                clear hcx
                go_wp2
                go_roundw
                case rel=>exact ⟨k+1,by omega,by first|rfl|go_num,by first|rfl|trivial⟩
                case measure=>simp [intOf];omega
              ·have hkI2:¬ (k:Int)<(i:Int)+8:=by omega
               go_wp2
               go_loopw [16] (fun sk wr=>∃ k:Nat,k≤j+8∧sk = .int .i64 k∧wr=v6) (fun x _=>j+8-(intOf x).toNat)
               case atStart=>exact ⟨0,Nat.zero_le _,rfl,rfl⟩
               case round =>
                obtain ⟨k,hk',rfl,ez⟩:=hrel
                subst wr
                by_cases hlt:k<j+8
                ·have hkI2:(k:Int)<(j:Int)+8:=by omega
                 have hk0:¬ (k:Int)<0:=by omega
                 have hk8:(k:Int)*8=((k*8:Nat):Int):=by omega
                 rcases hY.cell with h0|⟨gx,rfl,hcx⟩
                 ·omega
                 by_cases hkn:k<j
                 ·have hkn2:(k:Int)<(j:Int):=by omega
                  have hkn3:¬ (j:Int)≤(k:Int):=by omega
                  rcases hKb with h0|⟨ga,rfl,-,hca⟩
                  ·omega
                  have y1:v6.cell? ⟨gx,k*8,none⟩=some (.int .i64 72):=hcx k hlt 0 _ (HY1.out k hkn)
                  have y2:=hca k hkn
                  clear hcx hca
                  go_wp2
                  go_roundw
                  case rel=>exact ⟨k+1,by omega,by first|rfl|go_num,by first|rfl|trivial⟩
                  case measure=>simp [intOf];omega
                 ·have hkn2:¬ (k:Int)<(j:Int):=by omega
                  have hkn3:(j:Int)≤(k:Int):=by omega
                  have y1:v6.cell? ⟨gx,k*8,none⟩=some (.int .i64 74):=hcx k hlt 0 _ (HY2.out k (by omega) hlt)
                  clear hcx
                  go_wp2
                  go_roundw
                  case rel=>exact ⟨k+1,by omega,by first|rfl|go_num,by first|rfl|trivial⟩
                  case measure=>simp [intOf];omega
                ·have hkI2:¬ (k:Int)<(j:Int)+8:=by omega
                 go_wp2
                 go_ret
                 exact ⟨rfl,hbz⟩
end Go.Proofs.YtgdilnljjgdinaaGreatDoor
