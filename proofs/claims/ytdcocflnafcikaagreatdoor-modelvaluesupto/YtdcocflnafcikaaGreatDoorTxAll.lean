import Derived.Test.YtdcocflnafcikaaGreatDoorRatAll
import Derived.Test.YtdcocflnafcikaaGreatDoorLentAll
import Derived.Test.YtdcocflnafcikaaGreatDoorPqEAll
namespace Go.Proofs.YtdcocflnafcikaaGreatDoor
open Go.RowKit
set_option maxHeartbeats 1000000 in
theorem lend_any (a:Option Addr) (n cap:Nat) (xs:List Int) (w:World) (hn:n=xs.length) (hl:n≤cap) (hm:n≤2000000) (hr:Reads w a xs) :
  Calls Tryz.prog 40 #[.slice a n cap] w fun e w'=>∃ gf cf gw cw,e = .returned (.pointer (some ⟨w.heap.size,0,none⟩))∧Lnt w' w.heap.size gf cf gw cw n (lendL xs) (lendL xs)∧Below w.heap.size w w':=by
 subst hn
 have HL:Hid ((lendL xs).length=xs.length+24):=length_lendL xs
 go_enter Tryz.func40,Tryz.ntmps40
 go_wp2
 go_loopw [4] (fun i wr=>∃ k:Nat,k≤xs.length+24∧i = .int .i64 k∧LendAt w wr xs.length k (lendL xs)) (fun i _=>xs.length+24-(intOf i).toNat)
 case atStart=>exact ⟨0,Nat.zero_le _,rfl,.slice none 0 0,.slice none 0 0,by simp,by simp,by simp,by simp,by simp,OwnV.nil _ _,OwnV.nil _ _,fun g hg=>by simp [Value.ownBlock] at hg,(Below.refl _ _).alloc (Nat.le_refl _) _,by simp⟩
 case round =>
  obtain ⟨k,hk,rfl,vf,vw,c0,c1,c2,z0,z1,of,ow,dis,bel,lt⟩:=hrel
  by_cases hlt:k<xs.length+24
  ·by_cases hkx:k<xs.length
   ·skip
    obtain ⟨b1,o1,rfl,hc1⟩:=hr.at (by omega)
    have h1:=hc1 k hkx
    have h2:wr.cell? ⟨b1,o1+k,none⟩=some (.int .u64 (lm xs k)):=by
     have:=World.block_lt_of_cell? _ _ h1
     rw [bel.cell (p:=⟨b1,o1+k,none⟩) (by simpa using this)];exact h1
    have hli:lm (lendL xs) k=lm xs k:=lm_lend_lt hkx
    clear hc1 h1
    have HT:Hid ((lendL xs).take (k+1)=(lendL xs).take k++[lm xs k]):=by show _=_;rw [← hli];exact (take_snoc_lm _ _ (by rw [HL.out];exact hlt)).symm
    have HK:Hid (((lendL xs).take k).length=k):=by show _=_;rw [List.length_take,HL.out];omega
    clear hli
    generalize (lendL xs).take k=F at *
    go_wp2_with (at_builtin;refine wpList_append1 22 Tryz.underlying22 _ rfl _ _ rfl (w.heap.size+1) vf F k HK rfl (of.alloc _) wr.heap.size _ (lm xs k) rfl (by simp) (by omega) (by simp;omega) (wr.heap.size+1) (by simp) ?_)
    intro g cap1 w1 hown hgrow hat _
    have d0:=step_same of lt _ hgrow 0
    have d1:=step_same of lt _ hgrow 1
    rw [c0,z0] at d0
    rw [c1,z1] at d1
    obtain ⟨d0,y0⟩:=d0
    obtain ⟨d1,y1⟩:=d1
    have S:=step_field (f:=0) (f':=1) (by omega) c1 c2 z1 z0 (by omega) of ow dis lt bel _ hown hgrow hat _ rfl
    obtain ⟨e1,e2,e3,e4,e5,e6,e7,e8,e9⟩:=S
    have e0:(w1.setCell ⟨w.heap.size,0,none⟩ (.slice (some ⟨g,0,none⟩) (k+1) cap1)).cell? ⟨w.heap.size,0,none⟩=some (.slice (some ⟨g,0,none⟩) (k+1) cap1):=World.cell?_setCell_same _ _ _ d0
    have hz1:w.heap.size<w1.heap.size:=by simpa using e9
    clear hown hgrow hat of ow dis bel c0 c1 c2 z0 z1
    go_wp2_with (at_builtin;refine wpList_append1 22 Tryz.underlying22 _ rfl _ _ rfl (w.heap.size+1) vw F k HK rfl (e6.alloc _) w1.heap.size _ (lm xs k) rfl (cell_new1 (by simp)) (by omega) (by simp;omega) (w1.heap.size+1) (by simp) ?_)
    intro g2 cap2 w2 hown hgrow hat _
    have e7':∀ q,vw.ownBlock=some q→(Value.slice (some ⟨g,0,none⟩) (k+1) cap1).ownBlock≠some q:=fun q h1 h2=>e7 q h2 h1
    have hat':vw.ownBlock=some g2∨g2=(w1.setCell ⟨w.heap.size,0,none⟩ (.slice (some ⟨g,0,none⟩) (k+1) cap1)).heap.size+1:=by simpa using hat
    have f0:=step_same e6 e9 _ hgrow 0
    have f1:=step_same e6 e9 _ hgrow 1
    rw [e0,e4] at f0
    rw [e1,e3] at f1
    obtain ⟨f0,x0⟩:=f0
    obtain ⟨f1,x1⟩:=f1
    have S:=step_field (f:=1) (f':=0) (by omega) e0 e2 e4 e3 (by omega) e6 e5 e7' e9 e8 _ hown hgrow hat' _ rfl
    obtain ⟨s1,s2,s3,s4,s5,s6,s7,s8,s9⟩:=S
    have s0:(w2.setCell ⟨w.heap.size,1,none⟩ (.slice (some ⟨g2,0,none⟩) (k+1) cap2)).cell? ⟨w.heap.size,1,none⟩=some (.slice (some ⟨g2,0,none⟩) (k+1) cap2):=World.cell?_setCell_same _ _ _ f1
    have s7':∀ q,(Value.slice (some ⟨g,0,none⟩) (k+1) cap1).ownBlock=some q→(Value.slice (some ⟨g2,0,none⟩) (k+1) cap2).ownBlock≠some q:=fun q h1 h2=>s7 q h2 h1
    clear hown hgrow hat hat' e0 e1 e2 e3 e4 e5 e6 e7 e7' e8 e9 d0 d1 y0 y1
    go_wp2
    go_roundw
    case rel=>exact ⟨k+1,by omega,by go_num,_,_,s1,s0,s2,s3,s4,by rw [HT.out];exact s6,by rw [HT.out];exact s5,s7',s8,s9⟩
    case measure=>simp [intOf];omega
   ·skip
    have hli:lm (lendL xs) k=3789677025:=lm_lend_ge (by omega) hlt
    have HT:Hid ((lendL xs).take (k+1)=(lendL xs).take k++[3789677025]):=by show _=_;rw [← hli];exact (take_snoc_lm _ _ (by rw [HL.out];exact hlt)).symm
    have HK:Hid (((lendL xs).take k).length=k):=by show _=_;rw [List.length_take,HL.out];omega
    clear hli
    generalize (lendL xs).take k=F at *
    go_wp2_with (at_builtin;refine wpList_append1 22 Tryz.underlying22 _ rfl _ _ rfl (w.heap.size+1) vf F k HK rfl (of.alloc _) wr.heap.size _ (3789677025) rfl (by simp) (by omega) (by simp;omega) (wr.heap.size+1) (by simp) ?_)
    intro g cap1 w1 hown hgrow hat _
    have d0:=step_same of lt _ hgrow 0
    have d1:=step_same of lt _ hgrow 1
    rw [c0,z0] at d0
    rw [c1,z1] at d1
    obtain ⟨d0,y0⟩:=d0
    obtain ⟨d1,y1⟩:=d1
    have S:=step_field (f:=0) (f':=1) (by omega) c1 c2 z1 z0 (by omega) of ow dis lt bel _ hown hgrow hat _ rfl
    obtain ⟨e1,e2,e3,e4,e5,e6,e7,e8,e9⟩:=S
    have e0:(w1.setCell ⟨w.heap.size,0,none⟩ (.slice (some ⟨g,0,none⟩) (k+1) cap1)).cell? ⟨w.heap.size,0,none⟩=some (.slice (some ⟨g,0,none⟩) (k+1) cap1):=World.cell?_setCell_same _ _ _ d0
    have hz1:w.heap.size<w1.heap.size:=by simpa using e9
    clear hown hgrow hat of ow dis bel c0 c1 c2 z0 z1
    go_wp2_with (at_builtin;refine wpList_append1 22 Tryz.underlying22 _ rfl _ _ rfl (w.heap.size+1) vw F k HK rfl (e6.alloc _) w1.heap.size _ (3789677025) rfl (cell_new1 (by simp)) (by omega) (by simp;omega) (w1.heap.size+1) (by simp) ?_)
    intro g2 cap2 w2 hown hgrow hat _
    have e7':∀ q,vw.ownBlock=some q→(Value.slice (some ⟨g,0,none⟩) (k+1) cap1).ownBlock≠some q:=fun q h1 h2=>e7 q h2 h1
    have hat':vw.ownBlock=some g2∨g2=(w1.setCell ⟨w.heap.size,0,none⟩ (.slice (some ⟨g,0,none⟩) (k+1) cap1)).heap.size+1:=by simpa using hat
    have f0:=step_same e6 e9 _ hgrow 0
    have f1:=step_same e6 e9 _ hgrow 1
    rw [e0,e4] at f0
    rw [e1,e3] at f1
    obtain ⟨f0,x0⟩:=f0
    obtain ⟨f1,x1⟩:=f1
    have S:=step_field (f:=1) (f':=0) (by omega) e0 e2 e4 e3 (by omega) e6 e5 e7' e9 e8 _ hown hgrow hat' _ rfl
    obtain ⟨s1,s2,s3,s4,s5,s6,s7,s8,s9⟩:=S
    have s0:(w2.setCell ⟨w.heap.size,1,none⟩ (.slice (some ⟨g2,0,none⟩) (k+1) cap2)).cell? ⟨w.heap.size,1,none⟩=some (.slice (some ⟨g2,0,none⟩) (k+1) cap2):=World.cell?_setCell_same _ _ _ f1
    have s7':∀ q,(Value.slice (some ⟨g,0,none⟩) (k+1) cap1).ownBlock=some q→(Value.slice (some ⟨g2,0,none⟩) (k+1) cap2).ownBlock≠some q:=fun q h1 h2=>s7 q h2 h1
    clear hown hgrow hat hat' e0 e1 e2 e3 e4 e5 e6 e7 e7' e8 e9 d0 d1 y0 y1
    go_wp2
    go_roundw
    case rel=>exact ⟨k+1,by omega,by go_num,_,_,s1,s0,s2,s3,s4,by rw [HT.out];exact s6,by rw [HT.out];exact s5,s7',s8,s9⟩
    case measure=>simp [intOf];omega
  ·obtain rfl:k=xs.length+24:=by omega
   have HTK:Hid ((lendL xs).take (xs.length+24)=lendL xs):=by show _=_;rw [← HL.out];exact List.take_length
   rw [HTK.out] at of ow
   go_wp2
   go_ret
   rcases of.row with ⟨_,e⟩|⟨gf,cf,rfl,bf,rf⟩
   ·have:=HL.out;rw [e] at this;simp at this
   rcases ow.row with ⟨_,e⟩|⟨gw,cw,rfl,bw,rw'⟩
   ·have:=HL.out;rw [e] at this;simp at this
   exact ⟨gf,cf,gw,cw,rfl,⟨c0,c1,c2,rf,rw',fun e=>dis gf rfl (by rw [e];rfl),by omega,by omega,by rw [HL.out];omega,lt,rfl⟩,bel⟩
end Go.Proofs.YtdcocflnafcikaaGreatDoor
