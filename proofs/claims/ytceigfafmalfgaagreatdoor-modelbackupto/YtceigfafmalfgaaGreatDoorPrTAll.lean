import Derived.Test.YtceigfafmalfgaaGreatDoorPrR
import Derived.Test.YtceigfafmalfgaaGreatDoorQ3OAll
import Derived.Test.YtceigfafmalfgaaGreatDoorMbI
import Derived.Test.YtceigfafmalfgaaGreatDoorOpenP
namespace Go.Proofs.YtceigfafmalfgaaGreatDoor
open Go.RowKit Go.Maps
theorem awk_start (w W:World) (hW:W=(((((((((w.alloc (.cells #[.int .u64 1] 57)).alloc (.cells #[.int .u64 1] 57)).alloc (.cells #[.bool false,.slice (some ⟨w.heap.size,0,none⟩) 1 1,.slice (some ⟨w.heap.size+1,0,none⟩) 1 1] 27)).alloc (.cells #[.bool false,.slice (some ⟨w.heap.size,0,none⟩) 1 1,.slice (some ⟨w.heap.size+1,0,none⟩) 1 1,.string ⟨#[120]⟩,.int .i64 0,.int .i64 0] 59)).alloc (.cells #[.bool true,.bool false,.slice (some ⟨w.heap.size,0,none⟩) 1 1,.slice (some ⟨w.heap.size+1,0,none⟩) 1 1] 49)).alloc (.cells #[.bool false,.slice (some ⟨w.heap.size,0,none⟩) 1 1,.slice (some ⟨w.heap.size+1,0,none⟩) 1 1,.string ⟨#[120]⟩,.int .i64 0,.int .i64 0] 59)).alloc (.cells #[.bool false,.slice (some ⟨w.heap.size,0,none⟩) 1 1,.slice (some ⟨w.heap.size+1,0,none⟩) 1 1,.string ⟨#[120]⟩,.int .i64 0,.int .i64 0] 59)).alloc (.cells #[.bool false,.slice (some ⟨w.heap.size,0,none⟩) 1 1,.slice (some ⟨w.heap.size+1,0,none⟩) 1 1,.string ⟨#[120]⟩,.int .i64 0,.int .i64 0,.bool false,.slice (some ⟨w.heap.size,0,none⟩) 1 1,.slice (some ⟨w.heap.size+1,0,none⟩) 1 1,.string ⟨#[120]⟩,.int .i64 0,.int .i64 0] 59)).alloc (.cells #[.string ⟨#[82,50]⟩,.int .i64 0,.int .i64 0,.slice (some ⟨w.heap.size+1+1+1+1+1+1,0,none⟩) 1 1,.bool true,.bool false,.slice (some ⟨w.heap.size,0,none⟩) 1 1,.slice (some ⟨w.heap.size+1,0,none⟩) 1 1,.bool false,.bool false,.slice none 0 0,.slice none 0 0,.string ⟨#[]⟩,.int .i64 0,.int .i64 0,.slice (some ⟨w.heap.size+1+1+1+1+1+1+1,0,none⟩) 2 2,.bool true,.bool false,.slice (some ⟨w.heap.size,0,none⟩) 1 1,.slice (some ⟨w.heap.size+1,0,none⟩) 1 1,.bool false,.bool false,.slice none 0 0,.slice none 0 0] 61)).alloc (.cells #[.bool false,.string ⟨#[]⟩,.slice (some ⟨w.heap.size+1+1+1+1+1,0,none⟩) 1 1,.slice (some ⟨w.heap.size+1+1+1+1+1+1+1+1,0,none⟩) 2 2,.slice none 0 0,.slice none 0 0,.slice none 0 0] 43)):BoxC W (w.heap.size) [.int .u64 1]∧BoxC W (w.heap.size+1) [.int .u64 1]∧BoxC W (w.heap.size+1+1+1+1+1) [.bool false,.slice (some ⟨w.heap.size,0,none⟩) 1 1,.slice (some ⟨w.heap.size+1,0,none⟩) 1 1,.string ⟨#[120]⟩,.int .i64 0,.int .i64 0]∧BoxC W (w.heap.size+1+1+1+1+1+1) [.bool false,.slice (some ⟨w.heap.size,0,none⟩) 1 1,.slice (some ⟨w.heap.size+1,0,none⟩) 1 1,.string ⟨#[120]⟩,.int .i64 0,.int .i64 0]∧BoxC W (w.heap.size+1+1+1+1+1+1+1) [.bool false,.slice (some ⟨w.heap.size,0,none⟩) 1 1,.slice (some ⟨w.heap.size+1,0,none⟩) 1 1,.string ⟨#[120]⟩,.int .i64 0,.int .i64 0,.bool false,.slice (some ⟨w.heap.size,0,none⟩) 1 1,.slice (some ⟨w.heap.size+1,0,none⟩) 1 1,.string ⟨#[120]⟩,.int .i64 0,.int .i64 0]∧BoxC W (w.heap.size+1+1+1+1+1+1+1+1) [.string ⟨#[82,50]⟩,.int .i64 0,.int .i64 0,.slice (some ⟨w.heap.size+1+1+1+1+1+1,0,none⟩) 1 1,.bool true,.bool false,.slice (some ⟨w.heap.size,0,none⟩) 1 1,.slice (some ⟨w.heap.size+1,0,none⟩) 1 1,.bool false,.bool false,.slice none 0 0,.slice none 0 0,.string ⟨#[]⟩,.int .i64 0,.int .i64 0,.slice (some ⟨w.heap.size+1+1+1+1+1+1+1,0,none⟩) 2 2,.bool true,.bool false,.slice (some ⟨w.heap.size,0,none⟩) 1 1,.slice (some ⟨w.heap.size+1,0,none⟩) 1 1,.bool false,.bool false,.slice none 0 0,.slice none 0 0]∧Below w.heap.size w W:=by
 obtain ⟨w1,h0⟩:∃ x,x=w.alloc (.cells #[.int .u64 1] 57):=⟨_,rfl⟩
 have N0:=box_new w #[.int .u64 1] 57
 rw [← h0] at N0
 have b0:Below w.heap.size w w1:=by rw [h0];exact bel_d0 _ _
 have e0:w1.heap.size=w.heap.size+1:=by rw [h0];simp
 obtain ⟨w2,h1⟩:∃ x,x=w1.alloc (.cells #[.int .u64 1] 57):=⟨_,rfl⟩
 have N1:=box_new w1 #[.int .u64 1] 57
 rw [← h1] at N1
 have b1:Below w1.heap.size w1 w2:=by rw [h1];exact bel_d0 _ _
 have e1:w2.heap.size=w.heap.size+1+1:=by rw [h1];simp [e0]
 rw [e0] at N1
 obtain ⟨w3,h2⟩:∃ x,x=w2.alloc (.cells #[.bool false,.slice (some ⟨w.heap.size,0,none⟩) 1 1,.slice (some ⟨w.heap.size+1,0,none⟩) 1 1] 27):=⟨_,rfl⟩
 have N2:=box_new w2 #[.bool false,.slice (some ⟨w.heap.size,0,none⟩) 1 1,.slice (some ⟨w.heap.size+1,0,none⟩) 1 1] 27
 rw [← h2] at N2
 have b2:Below w2.heap.size w2 w3:=by rw [h2];exact bel_d0 _ _
 have e2:w3.heap.size=w.heap.size+1+1+1:=by rw [h2];simp [e1]
 rw [e1] at N2
 obtain ⟨w4,h3⟩:∃ x,x=w3.alloc (.cells #[.bool false,.slice (some ⟨w.heap.size,0,none⟩) 1 1,.slice (some ⟨w.heap.size+1,0,none⟩) 1 1,.string ⟨#[120]⟩,.int .i64 0,.int .i64 0] 59):=⟨_,rfl⟩
 have N3:=box_new w3 #[.bool false,.slice (some ⟨w.heap.size,0,none⟩) 1 1,.slice (some ⟨w.heap.size+1,0,none⟩) 1 1,.string ⟨#[120]⟩,.int .i64 0,.int .i64 0] 59
 rw [← h3] at N3
 have b3:Below w3.heap.size w3 w4:=by rw [h3];exact bel_d0 _ _
 have e3:w4.heap.size=w.heap.size+1+1+1+1:=by rw [h3];simp [e2]
 rw [e2] at N3
 obtain ⟨w5,h4⟩:∃ x,x=w4.alloc (.cells #[.bool true,.bool false,.slice (some ⟨w.heap.size,0,none⟩) 1 1,.slice (some ⟨w.heap.size+1,0,none⟩) 1 1] 49):=⟨_,rfl⟩
 have N4:=box_new w4 #[.bool true,.bool false,.slice (some ⟨w.heap.size,0,none⟩) 1 1,.slice (some ⟨w.heap.size+1,0,none⟩) 1 1] 49
 rw [← h4] at N4
 have b4:Below w4.heap.size w4 w5:=by rw [h4];exact bel_d0 _ _
 have e4:w5.heap.size=w.heap.size+1+1+1+1+1:=by rw [h4];simp [e3]
 rw [e3] at N4
 obtain ⟨w6,h5⟩:∃ x,x=w5.alloc (.cells #[.bool false,.slice (some ⟨w.heap.size,0,none⟩) 1 1,.slice (some ⟨w.heap.size+1,0,none⟩) 1 1,.string ⟨#[120]⟩,.int .i64 0,.int .i64 0] 59):=⟨_,rfl⟩
 have N5:=box_new w5 #[.bool false,.slice (some ⟨w.heap.size,0,none⟩) 1 1,.slice (some ⟨w.heap.size+1,0,none⟩) 1 1,.string ⟨#[120]⟩,.int .i64 0,.int .i64 0] 59
 rw [← h5] at N5
 have b5:Below w5.heap.size w5 w6:=by rw [h5];exact bel_d0 _ _
 have e5:w6.heap.size=w.heap.size+1+1+1+1+1+1:=by rw [h5];simp [e4]
 rw [e4] at N5
 obtain ⟨w7,h6⟩:∃ x,x=w6.alloc (.cells #[.bool false,.slice (some ⟨w.heap.size,0,none⟩) 1 1,.slice (some ⟨w.heap.size+1,0,none⟩) 1 1,.string ⟨#[120]⟩,.int .i64 0,.int .i64 0] 59):=⟨_,rfl⟩
 have N6:=box_new w6 #[.bool false,.slice (some ⟨w.heap.size,0,none⟩) 1 1,.slice (some ⟨w.heap.size+1,0,none⟩) 1 1,.string ⟨#[120]⟩,.int .i64 0,.int .i64 0] 59
 rw [← h6] at N6
 have b6:Below w6.heap.size w6 w7:=by rw [h6];exact bel_d0 _ _
 have e6:w7.heap.size=w.heap.size+1+1+1+1+1+1+1:=by rw [h6];simp [e5]
 rw [e5] at N6
 obtain ⟨w8,h7⟩:∃ x,x=w7.alloc (.cells #[.bool false,.slice (some ⟨w.heap.size,0,none⟩) 1 1,.slice (some ⟨w.heap.size+1,0,none⟩) 1 1,.string ⟨#[120]⟩,.int .i64 0,.int .i64 0,.bool false,.slice (some ⟨w.heap.size,0,none⟩) 1 1,.slice (some ⟨w.heap.size+1,0,none⟩) 1 1,.string ⟨#[120]⟩,.int .i64 0,.int .i64 0] 59):=⟨_,rfl⟩
 have N7:=box_new w7 #[.bool false,.slice (some ⟨w.heap.size,0,none⟩) 1 1,.slice (some ⟨w.heap.size+1,0,none⟩) 1 1,.string ⟨#[120]⟩,.int .i64 0,.int .i64 0,.bool false,.slice (some ⟨w.heap.size,0,none⟩) 1 1,.slice (some ⟨w.heap.size+1,0,none⟩) 1 1,.string ⟨#[120]⟩,.int .i64 0,.int .i64 0] 59
 rw [← h7] at N7
 have b7:Below w7.heap.size w7 w8:=by rw [h7];exact bel_d0 _ _
 have e7:w8.heap.size=w.heap.size+1+1+1+1+1+1+1+1:=by rw [h7];simp [e6]
 rw [e6] at N7
 obtain ⟨w9,h8⟩:∃ x,x=w8.alloc (.cells #[.string ⟨#[82,50]⟩,.int .i64 0,.int .i64 0,.slice (some ⟨w.heap.size+1+1+1+1+1+1,0,none⟩) 1 1,.bool true,.bool false,.slice (some ⟨w.heap.size,0,none⟩) 1 1,.slice (some ⟨w.heap.size+1,0,none⟩) 1 1,.bool false,.bool false,.slice none 0 0,.slice none 0 0,.string ⟨#[]⟩,.int .i64 0,.int .i64 0,.slice (some ⟨w.heap.size+1+1+1+1+1+1+1,0,none⟩) 2 2,.bool true,.bool false,.slice (some ⟨w.heap.size,0,none⟩) 1 1,.slice (some ⟨w.heap.size+1,0,none⟩) 1 1,.bool false,.bool false,.slice none 0 0,.slice none 0 0] 61):=⟨_,rfl⟩
 have N8:=box_new w8 #[.string ⟨#[82,50]⟩,.int .i64 0,.int .i64 0,.slice (some ⟨w.heap.size+1+1+1+1+1+1,0,none⟩) 1 1,.bool true,.bool false,.slice (some ⟨w.heap.size,0,none⟩) 1 1,.slice (some ⟨w.heap.size+1,0,none⟩) 1 1,.bool false,.bool false,.slice none 0 0,.slice none 0 0,.string ⟨#[]⟩,.int .i64 0,.int .i64 0,.slice (some ⟨w.heap.size+1+1+1+1+1+1+1,0,none⟩) 2 2,.bool true,.bool false,.slice (some ⟨w.heap.size,0,none⟩) 1 1,.slice (some ⟨w.heap.size+1,0,none⟩) 1 1,.bool false,.bool false,.slice none 0 0,.slice none 0 0] 61
 rw [← h8] at N8
 have b8:Below w8.heap.size w8 w9:=by rw [h8];exact bel_d0 _ _
 have e8:w9.heap.size=w.heap.size+1+1+1+1+1+1+1+1+1:=by rw [h8];simp [e7]
 rw [e7] at N8
 obtain ⟨w10,h9⟩:∃ x,x=w9.alloc (.cells #[.bool false,.string ⟨#[]⟩,.slice (some ⟨w.heap.size+1+1+1+1+1,0,none⟩) 1 1,.slice (some ⟨w.heap.size+1+1+1+1+1+1+1+1,0,none⟩) 2 2,.slice none 0 0,.slice none 0 0,.slice none 0 0] 43):=⟨_,rfl⟩
 have N9:=box_new w9 #[.bool false,.string ⟨#[]⟩,.slice (some ⟨w.heap.size+1+1+1+1+1,0,none⟩) 1 1,.slice (some ⟨w.heap.size+1+1+1+1+1+1+1+1,0,none⟩) 2 2,.slice none 0 0,.slice none 0 0,.slice none 0 0] 43
 rw [← h9] at N9
 have b9:Below w9.heap.size w9 w10:=by rw [h9];exact bel_d0 _ _
 have e9:w10.heap.size=w.heap.size+1+1+1+1+1+1+1+1+1+1:=by rw [h9];simp [e8]
 rw [e8] at N9
 have eW:W=w10:=by rw [hW,h9,h8,h7,h6,h5,h4,h3,h2,h1,h0]
 rw [eW]
 exact ⟨(((((((((N0.below b1).below b2).below b3).below b4).below b5).below b6).below b7).below b8).below b9),((((((((N1.below b2).below b3).below b4).below b5).below b6).below b7).below b8).below b9),((((N5.below b6).below b7).below b8).below b9),(((N6.below b7).below b8).below b9),((N7.below b8).below b9),(N8.below b9),(bel_tr (bel_tr (bel_tr (bel_tr (bel_tr (bel_tr (bel_tr (bel_tr (bel_tr b0 b1) b2) b3) b4) b5) b6) b7) b8) b9)⟩
def itA:PI:=⟨1,⟨#[120]⟩,0,0⟩
def txA (w:World):Txt:={ mx:=false,nm:=⟨#[]⟩,ia:=some ⟨w.heap.size+1+1+1+1+1,0,none⟩,n:=1,ic:=1,ca:=some ⟨w.heap.size+1+1+1+1+1+1+1+1,0,none⟩,cn:=2,cc:=2,I:=fun _=>itA,ZI:=fun _=>1,C:=fun j=>if j=0 then ⟨⟨#[82,50]⟩,0,0,1,fun _=>itA,true,1,false,0⟩ else ⟨⟨#[]⟩,0,0,2,fun _=>itA,true,1,false,0⟩,ZC:=fun _=>10,K:=100,la:=none,ln:=0,lc:=0,L:=fun _=>⟨⟨#[]⟩,0,0,false,false,false,0,false,0⟩,ZL:=fun _=>1,wa:=none,wn:=0,wc:=0,M:=fun _=>⟨⟨#[]⟩,0,0⟩ }
theorem num1 {W:World} {s S:Nat} (h:BoxC W s [.int .u64 1]) (hS:1≤S):Num W (some ⟨s,0,none⟩) 1 1 1 S:=by
 refine ⟨[1],rfl,Nat.le_refl _,.inr ⟨s,0,rfl,fun i hi=>?_⟩,?_,rfl,hS⟩
 ·obtain rfl:i=0:=by simp at hi;omega
  exact h 0 _ rfl
 ·intro x hx
  simp at hx
  subst hx
  exact ⟨by decide,by decide⟩
theorem tr1 {W:World} {s t S:Nat} (h:BoxC W s [.int .u64 1]) (h':BoxC W t [.int .u64 1]) (hS:1≤S):TR W false (some ⟨s,0,none⟩) 1 1 (some ⟨t,0,none⟩) 1 1 1 S :=
 ⟨1,1,⟨1,num1 h hS,rfl⟩,num1 h' hS,by decide⟩
theorem itA_at {W:World} {s t b:Nat} {cs:List Value} (h:BoxC W s [.int .u64 1]) (h':BoxC W t [.int .u64 1]) (hb:BoxC W b cs) (o:Nat) (ho:∀ (i:Nat) u,[Value.bool false,.slice (some ⟨s,0,none⟩) 1 1,.slice (some ⟨t,0,none⟩) 1 1,.string ⟨#[120]⟩,.int .i64 0,.int .i64 0][i]? = some u→cs[o+i]? = some u):ItemAt W b o itA 1:=by
 have c0:=hb o _ (ho 0 _ rfl)
 exact ⟨⟨false,_,1,1,_,1,1,c0,hb (o+1) _ (ho 1 _ rfl),hb (o+2) _ (ho 2 _ rfl),tr1 h h' (Nat.le_refl _)⟩,hb (o+3) _ (ho 3 _ rfl),hb (o+4) _ (ho 4 _ rfl),hb (o+5) _ (ho 5 _ rfl),Nat.le_refl _,(tr1 h h' (Nat.le_refl 1)).sz (by omega),(show 1≤1000000000 by decide)⟩
theorem txA_tx (w W:World) (hW:W=(((((((((w.alloc (.cells #[.int .u64 1] 57)).alloc (.cells #[.int .u64 1] 57)).alloc (.cells #[.bool false,.slice (some ⟨w.heap.size,0,none⟩) 1 1,.slice (some ⟨w.heap.size+1,0,none⟩) 1 1] 27)).alloc (.cells #[.bool false,.slice (some ⟨w.heap.size,0,none⟩) 1 1,.slice (some ⟨w.heap.size+1,0,none⟩) 1 1,.string ⟨#[120]⟩,.int .i64 0,.int .i64 0] 59)).alloc (.cells #[.bool true,.bool false,.slice (some ⟨w.heap.size,0,none⟩) 1 1,.slice (some ⟨w.heap.size+1,0,none⟩) 1 1] 49)).alloc (.cells #[.bool false,.slice (some ⟨w.heap.size,0,none⟩) 1 1,.slice (some ⟨w.heap.size+1,0,none⟩) 1 1,.string ⟨#[120]⟩,.int .i64 0,.int .i64 0] 59)).alloc (.cells #[.bool false,.slice (some ⟨w.heap.size,0,none⟩) 1 1,.slice (some ⟨w.heap.size+1,0,none⟩) 1 1,.string ⟨#[120]⟩,.int .i64 0,.int .i64 0] 59)).alloc (.cells #[.bool false,.slice (some ⟨w.heap.size,0,none⟩) 1 1,.slice (some ⟨w.heap.size+1,0,none⟩) 1 1,.string ⟨#[120]⟩,.int .i64 0,.int .i64 0,.bool false,.slice (some ⟨w.heap.size,0,none⟩) 1 1,.slice (some ⟨w.heap.size+1,0,none⟩) 1 1,.string ⟨#[120]⟩,.int .i64 0,.int .i64 0] 59)).alloc (.cells #[.string ⟨#[82,50]⟩,.int .i64 0,.int .i64 0,.slice (some ⟨w.heap.size+1+1+1+1+1+1,0,none⟩) 1 1,.bool true,.bool false,.slice (some ⟨w.heap.size,0,none⟩) 1 1,.slice (some ⟨w.heap.size+1,0,none⟩) 1 1,.bool false,.bool false,.slice none 0 0,.slice none 0 0,.string ⟨#[]⟩,.int .i64 0,.int .i64 0,.slice (some ⟨w.heap.size+1+1+1+1+1+1+1,0,none⟩) 2 2,.bool true,.bool false,.slice (some ⟨w.heap.size,0,none⟩) 1 1,.slice (some ⟨w.heap.size+1,0,none⟩) 1 1,.bool false,.bool false,.slice none 0 0,.slice none 0 0] 61)).alloc (.cells #[.bool false,.string ⟨#[]⟩,.slice (some ⟨w.heap.size+1+1+1+1+1,0,none⟩) 1 1,.slice (some ⟨w.heap.size+1+1+1+1+1+1+1+1,0,none⟩) 2 2,.slice none 0 0,.slice none 0 0,.slice none 0 0] 43)):TX W (txA w)∧Below w.heap.size w W:=by
 obtain ⟨F0,F1,F5,F6,F7,F8,hb⟩:=awk_start w W hW
 have hI:∀ i,i<1→ItemAt W (w.heap.size+1+1+1+1+1) (0+i*6) itA 1:=fun i hi=>by
  obtain rfl:i=0:=by omega
  exact itA_at F0 F1 F5 0 (fun i u hu=>by simpa using hu)
 have hI6:∀ i,i<1→ItemAt W (w.heap.size+1+1+1+1+1+1) (0+i*6) itA 1:=fun i hi=>by
  obtain rfl:i=0:=by omega
  exact itA_at F0 F1 F6 0 (fun i u hu=>by simpa using hu)
 have hI7:∀ i,i<2→ItemAt W (w.heap.size+1+1+1+1+1+1+1) (0+i*6) itA 1:=fun i hi=>by
  rcases (by omega:i=0∨i=1) with rfl|rfl
  ·exact itA_at F0 F1 F7 0 (fun i u hu=>by
    have:=(List.getElem?_eq_some_iff.1 hu).1
    rw [Nat.zero_add]
    match i,hu with
    | 0,hu=>exact hu
    | 1,hu=>exact hu
    | 2,hu=>exact hu
    | 3,hu=>exact hu
    | 4,hu=>exact hu
    | 5,hu=>exact hu
    | i+6,hu=>simp at this;omega)
  ·exact itA_at F0 F1 F7 6 (fun i u hu=>by
    have:=(List.getElem?_eq_some_iff.1 hu).1
    match i,hu with
    | 0,hu=>exact hu
    | 1,hu=>exact hu
    | 2,hu=>exact hu
    | 3,hu=>exact hu
    | 4,hu=>exact hu
    | 5,hu=>exact hu
    | i+6,hu=>simp at this;omega)
 have t1:=tr1 F0 F1 (show 1≤10 by omega)
 have t0:=(tr_zero W).up (show 1≤10 by omega)
 refine ⟨⟨.inr ⟨_,0,rfl,hI⟩,.inr ⟨_,0,rfl,fun i hi=>?_⟩,(show 3+23+0≤100 by decide),Nat.le_refl _,Nat.le_refl _,.inl rfl,.inl rfl,(show 0≤1048580∧0≤1048580 by decide)⟩,hb⟩
 have hi':i<2:=hi
 rcases (by omega:i=0∨i=1) with rfl|rfl
 ·exact ⟨F8 0 _ rfl,F8 1 _ rfl,F8 2 _ rfl,⟨_,1,fun _=>1,F8 3 _ rfl,.inr ⟨_,0,rfl,hI6⟩,(show 3≤10 by decide),Nat.le_refl _⟩,F8 4 _ rfl,⟨_,_,_,_,_,_,_,F8 5 _ rfl,F8 6 _ rfl,F8 7 _ rfl,t1⟩,F8 8 _ rfl,⟨_,_,_,_,_,_,_,F8 9 _ rfl,F8 10 _ rfl,F8 11 _ rfl,t0⟩,(show 1≤10 by decide),t1.sz (by omega),t0.sz (by omega),(show 2≤1000000000 by decide)⟩
 ·exact ⟨F8 12 _ rfl,F8 13 _ rfl,F8 14 _ rfl,⟨_,2,fun _=>1,F8 15 _ rfl,.inr ⟨_,0,rfl,hI7⟩,(show 5≤10 by decide),Nat.le_refl _⟩,F8 16 _ rfl,⟨_,_,_,_,_,_,_,F8 17 _ rfl,F8 18 _ rfl,F8 19 _ rfl,t1⟩,F8 20 _ rfl,⟨_,_,_,_,_,_,_,F8 21 _ rfl,F8 22 _ rfl,F8 23 _ rfl,t0⟩,(show 1≤10 by decide),t1.sz (by omega),t0.sz (by omega),(show 0≤1000000000 by decide)⟩
theorem txA_awk (w:World):Awk (txA w) ⟨#[120]⟩:=by
 refine ⟨rfl,(show 100≤100000 by decide),rfl,rfl,rfl,by simp,by decide,fun i hi=>rfl,fun j hj i hi=>?_,?_,?_,⟨rfl,rfl,rfl,rfl,rfl,rfl⟩⟩
 ·show ((if j=0 then _ else _:PC).I i).nm=_
  split <;> rfl
 ·simp [allNames,folC,folL,folM,fol,stq,txA,itA]
 ·show (0+if (0:Int)=0 then (1:Rat) else 0)≠0
  rw [if_pos rfl,Rat.zero_add]
  intro h
  have:=congrArg Rat.num h
  simp at this
theorem two_two:((2:Int):Rat)=2:=by rfl
theorem one_one:(1:Rat)+1=2:=by grind
theorem awk_out {w' w:World} {B:Nat} {Q:Prob} {v:Value} (h:TO w' B Q v) (hvn:Q.vn=1) (hrn:Q.rn=2) (hR:Q.R=rwA (txA w)) (hV:Q.V 0=vaA (txA w) ⟨#[120]⟩) :
  ∃ mx nm f c n k c' n' k' gv vc gr rc gt tc p a na ca d nd cd,v = .agg #[.bool mx,.string nm,.bool f,.slice c n k,.slice c' n' k',.slice (some ⟨gv,0,none⟩) 1 vc,.slice (some ⟨gr,0,none⟩) 2 rc]∧w'.cell? ⟨gv,4,none⟩=some (.bool true)∧w'.cell? ⟨gv,8,none⟩=some (.bool false)∧w'.cell? ⟨gr,0,none⟩=some (.string ⟨#[82,50]⟩)∧w'.cell? ⟨gr,10,none⟩=some (.string ⟨#[82,51]⟩) ∧
   w'.cell? ⟨gr,11,none⟩=some (.slice (some ⟨gt,0,none⟩) 1 tc)∧w'.cell? ⟨gt,1,none⟩=some (.bool p)∧w'.cell? ⟨gt,2,none⟩=some (.slice a na ca)∧w'.cell? ⟨gt,3,none⟩=some (.slice d nd cd)∧GR w' B p a na ca d nd cd 2 1:=by
 obtain ⟨f,c,n,k,c',n',k',va,vc,ra,rc,E,F,e,_,SV,VV,SR,VR⟩:=h
 rw [hvn] at e SV VV
 rw [hrn] at e SR VR
 rw [hR,hvn] at VR
 have v0:=VV 0 (by omega)
 rw [hV] at v0
 have r0:=VR 0 (by omega)
 have r1:=VR 1 (by omega)
 clear VV VR hvn hrn hR hV
 rcases SV.cell with h0|⟨gv,rfl,hcv⟩
 ·omega
 rcases SR.cell with h0|⟨gr,rfl,hcr⟩
 ·omega
 replace hcv:=hcv 0 (by omega)
 have hcr0:=hcr 0 (by omega)
 have hcr1:=hcr 1 (by omega)
 clear hcr SV SR
 obtain ⟨_,_,_,_,_,_,_,_,_,_,_,_,_,_,_,_,_,_,_,_,_,ev,_⟩:=v0
 obtain ⟨_,_,_,_,_,_,_,_,_,_,_,_,_,_,_,_,_,_,er0,_⟩:=r0
 obtain ⟨tv,m,u,Z,_,_,_,_,_,_,_,_,_,_,_,_,_,_,er1,hG,_,_,⟨ET,ST,VT⟩,_⟩:=r1
 rw [ev] at hcv
 rw [er0] at hcr0
 rw [er1] at hcr1
 have hg:gsum (rwA (txA w) 1).t (rwA (txA w) 1).nt 0=2:=by
  show 0+(if (0:Int)=0 then (1:Rat) else 0)+(if (0:Int)=0 then (1:Rat) else 0)=2
  rw [if_pos rfl,Rat.zero_add]
  exact one_one
 have hg0:gsum (rwA (txA w) 1).t (rwA (txA w) 1).nt 0≠0:=by
  rw [hg]
  intro h
  have:=congrArg Rat.num h
  simp at this
 obtain ⟨i,hi,hu⟩:=hG.all 0 (by omega) (by omega) hg0
 have hm:m=1:=by
  rcases Nat.lt_or_ge 1 m with h2|h2
  ·have a0:=hG.lt 0 (by omega)
   have a1:=hG.lt 1 h2
   have a2:=hG.up 0 1 (by omega) h2
   omega
  ·omega
 subst hm
 obtain rfl:i=0:=by omega
 have hco:=(hG.co 0 (by omega)).1
 rw [hu,hg] at hco
 have t0:=VT 0 (by omega)
 obtain ⟨p,a,na,ca,d,nd,cd,et,g⟩:=t0
 rw [hco] at g
 obtain ⟨vs,h1,h2⟩:=id ST
 rcases h1.2 with ⟨_,h3⟩|⟨gt,tc,cur,e1,_⟩
 ·omega
 subst e1
 rcases ST.cell with h0|⟨gt',e2,hct⟩
 ·omega
 simp only [Option.some.injEq,Addr.mk.injEq,and_true] at e2
 subst e2
 replace hct:=hct 0 (by omega)
 rw [et] at hct
 have c1:=hct 1 _ rfl
 have c2:=hct 2 _ rfl
 have c3:=hct 3 _ rfl
 exact ⟨_,_,_,_,_,_,_,_,_,gv,vc,gr,rc,gt,tc,p,a,na,ca,d,nd,cd,e,hcv 4 _ rfl,hcv 8 _ rfl,hcr0 0 _ rfl,hcr1 0 _ rfl,hcr1 1 _ rfl,c1,c2,c3,g.fit ⟨show (2:Int)<18446744073709551616 by decide,show (1:Int)<18446744073709551616 by decide⟩⟩
set_option maxRecDepth 100000 in
set_option maxHeartbeats 8000000 in
theorem awake7 (w:World) (hTB:TB w):Calls Tryz.prog 5 #[] w fun e w'=>e = .returned (.bool true)∧Below w.heap.size w w':=by
 go_enter Tryz.func5,Tryz.ntmps5
 go_wp2_with fail
 obtain ⟨W,hW⟩:∃ W,W=(((((((((w.alloc (.cells #[.int .u64 1] 57)).alloc (.cells #[.int .u64 1] 57)).alloc (.cells #[.bool false,.slice (some ⟨w.heap.size,0,none⟩) 1 1,.slice (some ⟨w.heap.size+1,0,none⟩) 1 1] 27)).alloc (.cells #[.bool false,.slice (some ⟨w.heap.size,0,none⟩) 1 1,.slice (some ⟨w.heap.size+1,0,none⟩) 1 1,.string ⟨#[120]⟩,.int .i64 0,.int .i64 0] 59)).alloc (.cells #[.bool true,.bool false,.slice (some ⟨w.heap.size,0,none⟩) 1 1,.slice (some ⟨w.heap.size+1,0,none⟩) 1 1] 49)).alloc (.cells #[.bool false,.slice (some ⟨w.heap.size,0,none⟩) 1 1,.slice (some ⟨w.heap.size+1,0,none⟩) 1 1,.string ⟨#[120]⟩,.int .i64 0,.int .i64 0] 59)).alloc (.cells #[.bool false,.slice (some ⟨w.heap.size,0,none⟩) 1 1,.slice (some ⟨w.heap.size+1,0,none⟩) 1 1,.string ⟨#[120]⟩,.int .i64 0,.int .i64 0] 59)).alloc (.cells #[.bool false,.slice (some ⟨w.heap.size,0,none⟩) 1 1,.slice (some ⟨w.heap.size+1,0,none⟩) 1 1,.string ⟨#[120]⟩,.int .i64 0,.int .i64 0,.bool false,.slice (some ⟨w.heap.size,0,none⟩) 1 1,.slice (some ⟨w.heap.size+1,0,none⟩) 1 1,.string ⟨#[120]⟩,.int .i64 0,.int .i64 0] 59)).alloc (.cells #[.string ⟨#[82,50]⟩,.int .i64 0,.int .i64 0,.slice (some ⟨w.heap.size+1+1+1+1+1+1,0,none⟩) 1 1,.bool true,.bool false,.slice (some ⟨w.heap.size,0,none⟩) 1 1,.slice (some ⟨w.heap.size+1,0,none⟩) 1 1,.bool false,.bool false,.slice none 0 0,.slice none 0 0,.string ⟨#[]⟩,.int .i64 0,.int .i64 0,.slice (some ⟨w.heap.size+1+1+1+1+1+1+1,0,none⟩) 2 2,.bool true,.bool false,.slice (some ⟨w.heap.size,0,none⟩) 1 1,.slice (some ⟨w.heap.size+1,0,none⟩) 1 1,.bool false,.bool false,.slice none 0 0,.slice none 0 0] 61)).alloc (.cells #[.bool false,.string ⟨#[]⟩,.slice (some ⟨w.heap.size+1+1+1+1+1,0,none⟩) 1 1,.slice (some ⟨w.heap.size+1+1+1+1+1+1+1+1,0,none⟩) 2 2,.slice none 0 0,.slice none 0 0,.slice none 0 0] 43):=⟨_,rfl⟩
 rw [← hW]
 obtain ⟨hT,hb⟩:=txA_tx w W hW
 clear hW
 refine (buildA (txA w) ⟨#[120]⟩ W hT (txA_awk w) (hTB.below hb)).mono ?_
 rintro e w2 ⟨v,Q,rfl,hTO,hvn,hrn,hR,hV,hB⟩
 obtain ⟨mx,nm,f,c,n,k,c',n',k',gv,vc,gr,rc,gt,tc,p,a,na,ca,d,nd,cd,rfl,v4,v8,q0,q10,q11,t1,t2,t3,g⟩:=awk_out hTO hvn hrn hR hV
 have hb2:=bel_tr hb hB
 clear hTO hvn hrn hR hV hT hb hB
 have P0:=box_new w2 #[.bool mx,.string nm,.bool f,.slice c n k,.slice c' n' k',.slice (some ⟨gv,0,none⟩) 1 vc,.slice (some ⟨gr,0,none⟩) 2 rc] 31
 have x0:=bel_d0 w2 (.cells #[.bool mx,.string nm,.bool f,.slice c n k,.slice c' n' k',.slice (some ⟨gv,0,none⟩) 1 vc,.slice (some ⟨gr,0,none⟩) 2 rc] 31)
 have y5:=P0 5 _ rfl
 have y6:=P0 6 _ rfl
 have z4:=kept_c x0 v4
 have z8:=kept_c x0 v8
 have s0:=kept_c x0 q0
 have s10:=kept_c x0 q10
 have s11:=kept_c x0 q11
 have u1:=kept_c x0 t1
 have u2:=kept_c x0 t2
 have u3:=kept_c x0 t3
 replace g:=g.below x0
 replace hb2:=bel_tr hb2 x0
 clear v4 v8 q0 q10 q11 t1 t2 t3 P0 x0
 go_wp2_with fail
 generalize w2.alloc (.cells #[.bool mx,.string nm,.bool f,.slice c n k,.slice c' n' k',.slice (some ⟨gv,0,none⟩) 1 vc,.slice (some ⟨gr,0,none⟩) 2 rc] 31)=W3 at *
 obtain ⟨R,hR⟩:∃ R,w2.heap.size=R:=⟨_,rfl⟩
 rw [hR] at y5 y6 ⊢
 clear hR
 have HB:∀ w',Below W3.heap.size W3 w'→w'.cell? ⟨R,6,none⟩=some (.slice (some ⟨gr,0,none⟩) 2 rc)∧w'.cell? ⟨gr,11,none⟩=some (.slice (some ⟨gt,0,none⟩) 1 tc)∧w'.cell? ⟨gt,1,none⟩=some (.bool p)∧w'.cell? ⟨gt,2,none⟩=some (.slice a na ca)∧w'.cell? ⟨gt,3,none⟩=some (.slice d nd cd):=fun w' h=>⟨kept_c h y6,kept_c h s11,kept_c h u1,kept_c h u2,kept_c h u3⟩
 go_region_held3 (fun w'=>w'.cell? ⟨R,6,none⟩=some (.slice (some ⟨gr,0,none⟩) 2 rc)∧w'.cell? ⟨gr,11,none⟩=some (.slice (some ⟨gt,0,none⟩) 1 tc)∧w'.cell? ⟨gt,1,none⟩=some (.bool p)∧w'.cell? ⟨gt,2,none⟩=some (.slice a na ca)∧w'.cell? ⟨gt,3,none⟩=some (.slice d nd cd))
  (with_reducible refine HB _ ?_;repeat' (first|with_reducible exact hc2|with_reducible exact hc1|with_reducible exact Below.refl _ _|with_reducible refine bel_dr ?_|omega))
  ((first
   | (go_at_call 13;go_fit (ofD 2 _ (by decide) (by decide));rintro e v1 ⟨f1,c1,n1,l1,e1,m1,r1,rfl,G1,hb1⟩;have hc1:Below W3.heap.size W3 v1:=(by first|exact bel_tr (bel_d1 _) hb1|exact hb1);replace G1:=G1.val two_two)
   | (go_at_call 12;go_fit (refSameP _ (g.1.below (bel_tr hc1 (by first|exact Below.refl _ _|exact bel_d1 _|exact bel_d2 _ _))) (g.2.below (bel_tr hc1 (by first|exact Below.refl _ _|exact bel_d1 _|exact bel_d2 _ _))) (G1.1.below (by first|exact Below.refl _ _|exact bel_d1 _|exact bel_d2 _ _)) (G1.2.below (by first|exact Below.refl _ _|exact bel_d1 _|exact bel_d2 _ _)) (by omega));rintro e v2 ⟨rfl,hb3⟩;have hc2:Below W3.heap.size W3 v2:=(by first|exact bel_tr hc1 hb3|exact bel_tr hc1 (bel_tr (bel_d1 _) hb3)))))
 replace y5:=kept_c hc2 y5
 replace y6:=kept_c hc2 y6
 replace z4:=kept_c hc2 z4
 replace z8:=kept_c hc2 z8
 replace s0:=kept_c hc2 s0
 replace s10:=kept_c hc2 s10
 have hw:=bel_tr hb2 hc2
 clear HB g G1 hb1 hb3 hc1 hc2 hb2 s11 u1 u2 u3
 go_wp2
 go_ret
 exact ⟨rfl,hw⟩
end Go.Proofs.YtceigfafmalfgaaGreatDoor
namespace Go.Proofs.YtceigfafmalfgaaGreatDoor
open Go.RowKit
theorem awake_any {w:World} (hT:TB w):∀ w1,Below w.heap.size w w1→Calls Tryz.prog 5 #[] w1 fun e w'=>e = .returned (.bool true)∧Below w1.heap.size w1 w':=fun w1 h=>awake7 w1 (hT.below h)
end Go.Proofs.YtceigfafmalfgaaGreatDoor
