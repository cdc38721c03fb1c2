import Derived.Test.YtgdilnljjgdinaaGreatDoorLzIAll
import Derived.Test.YtgdilnljjgdinaaGreatDoorLxFAll
namespace Go.Proofs.YtgdilnljjgdinaaGreatDoor
open Go.RowKit Go.Shelf
set_option maxRecDepth 100000 in
set_option maxHeartbeats 2000000 in
theorem nmA (s:ByteArray) {k p q r:Nat} {x y z M T:ByteArray} (w:World) (kp:k≤p) (pq:p≤q) (qr:q≤r) (rs:r≤s.size) (hx:s.extract k p=x) (HN1:(∀ u,Calls Tryz.prog 62 #[.string s,.int .i64 (k:Int)] u fun e w'=>e = .returned (.int .i64 (p:Int))∧w'=u)) (H2:(∀ u,Calls Tryz.prog 63 #[.string x] u fun e w'=>e = .returned (.string M)∧Below u.heap.size u w')) (HG:(∀ u,Calls Tryz.prog 15 #[.string s,.int .i64 (p:Int)] u fun e w'=>e = .returned (.int .i64 (q:Int))∧w'=u)) (HN2:(∀ u,Calls Tryz.prog 62 #[.string s,.int .i64 (q:Int)] u fun e w'=>e = .returned (.int .i64 (r:Int))∧w'=u)) (HC2:(∀ u,Calls Tryz.prog 64 #[.string s,.int .i64 (r:Int)] u fun e w'=>e = .returned (.bool false)∧w'=u)) (bM:(M.toList == [])=false) (pqs:(p:Int)<(q:Int)) (hy:s.extract q r=y) (HS:(∀ u,Calls Tryz.prog 65 #[.string y] u fun e w'=>e = .returned (.string T)∧Below u.heap.size u w')) (bE:(T.toList == M.toList)=true) (hz:s.extract k r=z) :
  Calls Tryz.prog 36 #[.string s,.int .i64 (k:Int)] w fun e w'=>e = .returned (.tuple #[.agg (tkC 9 z (.bool false) (.slice none 0 0) (.slice none 0 0) 3 0 0),.int .i64 (r:Int)])∧Below w.heap.size w w':=by
 have hu:=And.intro kp (And.intro pq (And.intro qr rs))
 clear hu
 have ikp:(k:Int)≤(p:Int):=by omega
 have ipq:(p:Int)≤(q:Int):=by omega
 have iqr:(q:Int)≤(r:Int):=by omega
 have ikr:(k:Int)≤(r:Int):=by omega
 have jk:(0:Int)≤(k:Int):=by omega
 have lk:(k:Int)≤(s.size:Int):=by omega
 have jp:(0:Int)≤(p:Int):=by omega
 have lp:(p:Int)≤(s.size:Int):=by omega
 have jq:(0:Int)≤(q:Int):=by omega
 have lq:(q:Int)≤(s.size:Int):=by omega
 have jr:(0:Int)≤(r:Int):=by omega
 have lr:(r:Int)≤(s.size:Int):=by omega
 have R0:=Rw.new 46 w #[.int .i64 0,.string ⟨#[]⟩,.bool false,.slice none 0 0,.slice none 0 0,.int .i64 0,.int .i64 0,.int .i64 0]
 have hb:Below w.heap.size w (w.alloc (.cells #[.int .i64 0,.string ⟨#[]⟩,.bool false,.slice none 0 0,.slice none 0 0,.int .i64 0,.int .i64 0,.int .i64 0] 46)):=(Below.refl _ _).alloc (Nat.le_refl _) _
 go_enter Tryz.func36,Tryz.ntmps36
 go_wp2_with fail
 generalize w.alloc (.cells #[.int .i64 0,.string ⟨#[]⟩,.bool false,.slice none 0 0,.slice none 0 0,.int .i64 0,.int .i64 0,.int .i64 0] 46)=W0 at *
 refine (HN1 _).mono ?_
 rintro e w1 ⟨rfl,rfl⟩
 clear HN1
 go_wp2_with fail
 refine (H2 _).mono ?_
 rintro e w1 ⟨rfl,hb1⟩
 replace R0:=R0.below hb1
 replace hb:=bel_tr hb hb1
 clear H2 hb1
 go_wp2_with fail
 refine (HG _).mono ?_
 rintro e w1 ⟨rfl,rfl⟩
 clear HG
 go_wp2_with fail
 refine (HN2 _).mono ?_
 rintro e w1 ⟨rfl,rfl⟩
 clear HN2
 go_wp2_with fail
 refine (HC2 _).mono ?_
 rintro e w1 ⟨rfl,rfl⟩
 clear HC2
 go_wp2_with fail
 refine (HS _).mono ?_
 rintro e w1 ⟨rfl,hb1⟩
 replace R0:=R0.below hb1
 replace hb:=bel_tr hb hb1
 clear HS hb1
 go_wp2_with (refine R0.put (tkC 9 z (.bool false) (.slice none 0 0) (.slice none 0 0) 3 0 0) rfl _ _ rfl rfl rfl tkI rfl (tkC_one _ _ _ _ _ rfl rfl rfl) ?_)
 intro w4 R2 O
 have hb2:=hb.trans (O.below (B:=w.heap.size) (Nat.le_refl _))
 go_wp2
 exact bodyPost_ret (R2.ret2 Tryz.results36 _ rfl Tryz.underlying46 tkI) rfl ⟨rfl,hb2⟩
set_option maxRecDepth 100000 in
set_option maxHeartbeats 2000000 in
theorem nma1 (s:ByteArray) {k p q r W1:Nat} {x:ByteArray} {C2:Bool} (w:World) (kp:k≤p) (pq:p≤q) (qr:q≤r) (rs:r≤s.size) (hx:s.extract k p=x) (HN1:(∀ u,Calls Tryz.prog 62 #[.string s,.int .i64 (k:Int)] u fun e w'=>e = .returned (.int .i64 (p:Int))∧w'=u)) (H2:(∀ u,Calls Tryz.prog 63 #[.string x] u fun e w'=>e = .returned (.string ⟨#[]⟩)∧Below u.heap.size u w')) (HG:(∀ u,Calls Tryz.prog 15 #[.string s,.int .i64 (p:Int)] u fun e w'=>e = .returned (.int .i64 (q:Int))∧w'=u)) (HN2:(∀ u,Calls Tryz.prog 62 #[.string s,.int .i64 (q:Int)] u fun e w'=>e = .returned (.int .i64 (r:Int))∧w'=u)) (HC2:(∀ u,Calls Tryz.prog 64 #[.string s,.int .i64 (r:Int)] u fun e w'=>e = .returned (.bool C2)∧w'=u)) (HL:(∀ u,Calls Tryz.prog 66 #[.string x] u fun e w'=>e = .returned (.int .i64 (W1:Int))∧Below u.heap.size u w')) (bW:((W1:Int) == 0)=false) (nW:¬ (W1:Int)=0) (HC1:(∀ u,Calls Tryz.prog 64 #[.string s,.int .i64 (p:Int)] u fun e w'=>e = .returned (.bool false)∧w'=u)) :
  Calls Tryz.prog 36 #[.string s,.int .i64 (k:Int)] w fun e w'=>e = .returned (.tuple #[.agg (tkC 9 x (.bool false) (.slice none 0 0) (.slice none 0 0) (W1:Nat) 0 0),.int .i64 (p:Int)])∧Below w.heap.size w w':=by
 have hu:=And.intro kp (And.intro pq (And.intro qr rs))
 clear hu
 have ikp:(k:Int)≤(p:Int):=by omega
 have ipq:(p:Int)≤(q:Int):=by omega
 have iqr:(q:Int)≤(r:Int):=by omega
 have ikr:(k:Int)≤(r:Int):=by omega
 have jk:(0:Int)≤(k:Int):=by omega
 have lk:(k:Int)≤(s.size:Int):=by omega
 have jp:(0:Int)≤(p:Int):=by omega
 have lp:(p:Int)≤(s.size:Int):=by omega
 have jq:(0:Int)≤(q:Int):=by omega
 have lq:(q:Int)≤(s.size:Int):=by omega
 have jr:(0:Int)≤(r:Int):=by omega
 have lr:(r:Int)≤(s.size:Int):=by omega
 have R0:=Rw.new 46 w #[.int .i64 0,.string ⟨#[]⟩,.bool false,.slice none 0 0,.slice none 0 0,.int .i64 0,.int .i64 0,.int .i64 0]
 have hb:Below w.heap.size w (w.alloc (.cells #[.int .i64 0,.string ⟨#[]⟩,.bool false,.slice none 0 0,.slice none 0 0,.int .i64 0,.int .i64 0,.int .i64 0] 46)):=(Below.refl _ _).alloc (Nat.le_refl _) _
 go_enter Tryz.func36,Tryz.ntmps36
 go_wp2_with fail
 generalize w.alloc (.cells #[.int .i64 0,.string ⟨#[]⟩,.bool false,.slice none 0 0,.slice none 0 0,.int .i64 0,.int .i64 0,.int .i64 0] 46)=W0 at *
 refine (HN1 _).mono ?_
 rintro e w1 ⟨rfl,rfl⟩
 clear HN1
 go_wp2_with fail
 refine (H2 _).mono ?_
 rintro e w1 ⟨rfl,hb1⟩
 replace R0:=R0.below hb1
 replace hb:=bel_tr hb hb1
 clear H2 hb1
 go_wp2_with fail
 refine (HG _).mono ?_
 rintro e w1 ⟨rfl,rfl⟩
 clear HG
 go_wp2_with fail
 refine (HN2 _).mono ?_
 rintro e w1 ⟨rfl,rfl⟩
 clear HN2
 go_wp2_with fail
 refine (HC2 _).mono ?_
 rintro e w1 ⟨rfl,rfl⟩
 clear HC2
 go_wp2_with fail
 refine (HL _).mono ?_
 rintro e w1 ⟨rfl,hb1⟩
 replace R0:=R0.below hb1
 replace hb:=bel_tr hb hb1
 clear HL hb1
 go_wp2_with fail
 refine (HC1 _).mono ?_
 rintro e w1 ⟨rfl,rfl⟩
 clear HC1
 go_wp2_with (refine R0.put (tkC 9 x (.bool false) (.slice none 0 0) (.slice none 0 0) (W1:Nat) 0 0) rfl _ _ rfl rfl rfl tkI rfl (tkC_one _ _ _ _ _ rfl rfl rfl) ?_)
 intro w4 R2 O
 have hb2:=hb.trans (O.below (B:=w.heap.size) (Nat.le_refl _))
 go_wp2
 exact bodyPost_ret (R2.ret2 Tryz.results36 _ rfl Tryz.underlying46 tkI) rfl ⟨rfl,hb2⟩
set_option maxRecDepth 100000 in
set_option maxHeartbeats 2000000 in
theorem nma2 (s:ByteArray) {k p q r:Nat} {x:ByteArray} {C1 C2:Bool} (w:World) (kp:k≤p) (pq:p≤q) (qr:q≤r) (rs:r≤s.size) (hx:s.extract k p=x) (HN1:(∀ u,Calls Tryz.prog 62 #[.string s,.int .i64 (k:Int)] u fun e w'=>e = .returned (.int .i64 (p:Int))∧w'=u)) (H2:(∀ u,Calls Tryz.prog 63 #[.string x] u fun e w'=>e = .returned (.string ⟨#[]⟩)∧Below u.heap.size u w')) (HG:(∀ u,Calls Tryz.prog 15 #[.string s,.int .i64 (p:Int)] u fun e w'=>e = .returned (.int .i64 (q:Int))∧w'=u)) (HN2:(∀ u,Calls Tryz.prog 62 #[.string s,.int .i64 (q:Int)] u fun e w'=>e = .returned (.int .i64 (r:Int))∧w'=u)) (HC2:(∀ u,Calls Tryz.prog 64 #[.string s,.int .i64 (r:Int)] u fun e w'=>e = .returned (.bool C2)∧w'=u)) (HL:(∀ u,Calls Tryz.prog 66 #[.string x] u fun e w'=>e = .returned (.int .i64 0)∧Below u.heap.size u w')) (HC1:(∀ u,Calls Tryz.prog 64 #[.string s,.int .i64 (p:Int)] u fun e w'=>e = .returned (.bool C1)∧w'=u)) :
  Calls Tryz.prog 36 #[.string s,.int .i64 (k:Int)] w fun e w'=>e = .returned (.tuple #[.agg (tkC 1 x (.bool false) (.slice none 0 0) (.slice none 0 0) 0 0 0),.int .i64 (p:Int)])∧Below w.heap.size w w':=by
 have hu:=And.intro kp (And.intro pq (And.intro qr rs))
 clear hu
 have ikp:(k:Int)≤(p:Int):=by omega
 have ipq:(p:Int)≤(q:Int):=by omega
 have iqr:(q:Int)≤(r:Int):=by omega
 have ikr:(k:Int)≤(r:Int):=by omega
 have jk:(0:Int)≤(k:Int):=by omega
 have lk:(k:Int)≤(s.size:Int):=by omega
 have jp:(0:Int)≤(p:Int):=by omega
 have lp:(p:Int)≤(s.size:Int):=by omega
 have jq:(0:Int)≤(q:Int):=by omega
 have lq:(q:Int)≤(s.size:Int):=by omega
 have jr:(0:Int)≤(r:Int):=by omega
 have lr:(r:Int)≤(s.size:Int):=by omega
 have R0:=Rw.new 46 w #[.int .i64 0,.string ⟨#[]⟩,.bool false,.slice none 0 0,.slice none 0 0,.int .i64 0,.int .i64 0,.int .i64 0]
 have hb:Below w.heap.size w (w.alloc (.cells #[.int .i64 0,.string ⟨#[]⟩,.bool false,.slice none 0 0,.slice none 0 0,.int .i64 0,.int .i64 0,.int .i64 0] 46)):=(Below.refl _ _).alloc (Nat.le_refl _) _
 go_enter Tryz.func36,Tryz.ntmps36
 go_wp2_with fail
 generalize w.alloc (.cells #[.int .i64 0,.string ⟨#[]⟩,.bool false,.slice none 0 0,.slice none 0 0,.int .i64 0,.int .i64 0,.int .i64 0] 46)=W0 at *
 refine (HN1 _).mono ?_
 rintro e w1 ⟨rfl,rfl⟩
 clear HN1
 go_wp2_with fail
 refine (H2 _).mono ?_
 rintro e w1 ⟨rfl,hb1⟩
 replace R0:=R0.below hb1
 replace hb:=bel_tr hb hb1
 clear H2 hb1
 go_wp2_with fail
 refine (HG _).mono ?_
 rintro e w1 ⟨rfl,rfl⟩
 clear HG
 go_wp2_with fail
 refine (HN2 _).mono ?_
 rintro e w1 ⟨rfl,rfl⟩
 clear HN2
 go_wp2_with fail
 refine (HC2 _).mono ?_
 rintro e w1 ⟨rfl,rfl⟩
 clear HC2
 go_wp2_with fail
 refine (HL _).mono ?_
 rintro e w1 ⟨rfl,hb1⟩
 replace R0:=R0.below hb1
 replace hb:=bel_tr hb hb1
 clear HL hb1
 go_wp2_with fail
 refine (HC1 _).mono ?_
 rintro e w1 ⟨rfl,rfl⟩
 clear HC1
 go_wp2_with (refine R0.put (tkC 1 x (.bool false) (.slice none 0 0) (.slice none 0 0) 0 0 0) rfl _ _ rfl rfl rfl tkI rfl (tkC_one _ _ _ _ _ rfl rfl rfl) ?_)
 intro w4 R2 O
 have hb2:=hb.trans (O.below (B:=w.heap.size) (Nat.le_refl _))
 go_wp2
 exact bodyPost_ret (R2.ret2 Tryz.results36 _ rfl Tryz.underlying46 tkI) rfl ⟨rfl,hb2⟩
set_option maxRecDepth 100000 in
set_option maxHeartbeats 2000000 in
theorem nma3 (s:ByteArray) {k p q r W1:Nat} {x:ByteArray} {C2:Bool} (w:World) (kp:k≤p) (pq:p≤q) (qr:q≤r) (rs:r≤s.size) (hx:s.extract k p=x) (HN1:(∀ u,Calls Tryz.prog 62 #[.string s,.int .i64 (k:Int)] u fun e w'=>e = .returned (.int .i64 (p:Int))∧w'=u)) (H2:(∀ u,Calls Tryz.prog 63 #[.string x] u fun e w'=>e = .returned (.string ⟨#[]⟩)∧Below u.heap.size u w')) (HG:(∀ u,Calls Tryz.prog 15 #[.string s,.int .i64 (p:Int)] u fun e w'=>e = .returned (.int .i64 (q:Int))∧w'=u)) (HN2:(∀ u,Calls Tryz.prog 62 #[.string s,.int .i64 (q:Int)] u fun e w'=>e = .returned (.int .i64 (r:Int))∧w'=u)) (HC2:(∀ u,Calls Tryz.prog 64 #[.string s,.int .i64 (r:Int)] u fun e w'=>e = .returned (.bool C2)∧w'=u)) (HL:(∀ u,Calls Tryz.prog 66 #[.string x] u fun e w'=>e = .returned (.int .i64 (W1:Int))∧Below u.heap.size u w')) (nW:¬ (W1:Int)=0) (HC1:(∀ u,Calls Tryz.prog 64 #[.string s,.int .i64 (p:Int)] u fun e w'=>e = .returned (.bool true)∧w'=u)) :
  Calls Tryz.prog 36 #[.string s,.int .i64 (k:Int)] w fun e w'=>e = .returned (.tuple #[.agg (tkC 1 x (.bool false) (.slice none 0 0) (.slice none 0 0) 0 0 0),.int .i64 (p:Int)])∧Below w.heap.size w w':=by
 have hu:=And.intro kp (And.intro pq (And.intro qr rs))
 clear hu
 have ikp:(k:Int)≤(p:Int):=by omega
 have ipq:(p:Int)≤(q:Int):=by omega
 have iqr:(q:Int)≤(r:Int):=by omega
 have ikr:(k:Int)≤(r:Int):=by omega
 have jk:(0:Int)≤(k:Int):=by omega
 have lk:(k:Int)≤(s.size:Int):=by omega
 have jp:(0:Int)≤(p:Int):=by omega
 have lp:(p:Int)≤(s.size:Int):=by omega
 have jq:(0:Int)≤(q:Int):=by omega
 have lq:(q:Int)≤(s.size:Int):=by omega
 have jr:(0:Int)≤(r:Int):=by omega
 have lr:(r:Int)≤(s.size:Int):=by omega
 have R0:=Rw.new 46 w #[.int .i64 0,.string ⟨#[]⟩,.bool false,.slice none 0 0,.slice none 0 0,.int .i64 0,.int .i64 0,.int .i64 0]
 have hb:Below w.heap.size w (w.alloc (.cells #[.int .i64 0,.string ⟨#[]⟩,.bool false,.slice none 0 0,.slice none 0 0,.int .i64 0,.int .i64 0,.int .i64 0] 46)):=(Below.refl _ _).alloc (Nat.le_refl _) _
 go_enter Tryz.func36,Tryz.ntmps36
 go_wp2_with fail
 generalize w.alloc (.cells #[.int .i64 0,.string ⟨#[]⟩,.bool false,.slice none 0 0,.slice none 0 0,.int .i64 0,.int .i64 0,.int .i64 0] 46)=W0 at *
 refine (HN1 _).mono ?_
 rintro e w1 ⟨rfl,rfl⟩
 clear HN1
 go_wp2_with fail
 refine (H2 _).mono ?_
 rintro e w1 ⟨rfl,hb1⟩
 replace R0:=R0.below hb1
 replace hb:=bel_tr hb hb1
 clear H2 hb1
 go_wp2_with fail
 refine (HG _).mono ?_
 rintro e w1 ⟨rfl,rfl⟩
 clear HG
 go_wp2_with fail
 refine (HN2 _).mono ?_
 rintro e w1 ⟨rfl,rfl⟩
 clear HN2
 go_wp2_with fail
 refine (HC2 _).mono ?_
 rintro e w1 ⟨rfl,rfl⟩
 clear HC2
 go_wp2_with fail
 refine (HL _).mono ?_
 rintro e w1 ⟨rfl,hb1⟩
 replace R0:=R0.below hb1
 replace hb:=bel_tr hb hb1
 clear HL hb1
 go_wp2_with fail
 refine (HC1 _).mono ?_
 rintro e w1 ⟨rfl,rfl⟩
 clear HC1
 go_wp2_with (refine R0.put (tkC 1 x (.bool false) (.slice none 0 0) (.slice none 0 0) 0 0 0) rfl _ _ rfl rfl rfl tkI rfl (tkC_one _ _ _ _ _ rfl rfl rfl) ?_)
 intro w4 R2 O
 have hb2:=hb.trans (O.below (B:=w.heap.size) (Nat.le_refl _))
 go_wp2
 exact bodyPost_ret (R2.ret2 Tryz.results36 _ rfl Tryz.underlying46 tkI) rfl ⟨rfl,hb2⟩
set_option maxRecDepth 100000 in
set_option maxHeartbeats 2000000 in
theorem nmb1 (s:ByteArray) {k p q r W1:Nat} {x M:ByteArray} {C2:Bool} (w:World) (kp:k≤p) (pq:p≤q) (qr:q≤r) (rs:r≤s.size) (hx:s.extract k p=x) (HN1:(∀ u,Calls Tryz.prog 62 #[.string s,.int .i64 (k:Int)] u fun e w'=>e = .returned (.int .i64 (p:Int))∧w'=u)) (H2:(∀ u,Calls Tryz.prog 63 #[.string x] u fun e w'=>e = .returned (.string M)∧Below u.heap.size u w')) (HG:(∀ u,Calls Tryz.prog 15 #[.string s,.int .i64 (p:Int)] u fun e w'=>e = .returned (.int .i64 (q:Int))∧w'=u)) (HN2:(∀ u,Calls Tryz.prog 62 #[.string s,.int .i64 (q:Int)] u fun e w'=>e = .returned (.int .i64 (r:Int))∧w'=u)) (bM:(M.toList == [])=false) (pqs:¬ (p:Int)<(q:Int)) (HC2:(∀ u,Calls Tryz.prog 64 #[.string s,.int .i64 (r:Int)] u fun e w'=>e = .returned (.bool C2)∧w'=u)) (HL:(∀ u,Calls Tryz.prog 66 #[.string x] u fun e w'=>e = .returned (.int .i64 (W1:Int))∧Below u.heap.size u w')) (bW:((W1:Int) == 0)=false) (nW:¬ (W1:Int)=0) (HC1:(∀ u,Calls Tryz.prog 64 #[.string s,.int .i64 (p:Int)] u fun e w'=>e = .returned (.bool false)∧w'=u)) :
  Calls Tryz.prog 36 #[.string s,.int .i64 (k:Int)] w fun e w'=>e = .returned (.tuple #[.agg (tkC 9 x (.bool false) (.slice none 0 0) (.slice none 0 0) (W1:Nat) 0 0),.int .i64 (p:Int)])∧Below w.heap.size w w':=by
 have hu:=And.intro kp (And.intro pq (And.intro qr rs))
 clear hu
 have ikp:(k:Int)≤(p:Int):=by omega
 have ipq:(p:Int)≤(q:Int):=by omega
 have iqr:(q:Int)≤(r:Int):=by omega
 have ikr:(k:Int)≤(r:Int):=by omega
 have jk:(0:Int)≤(k:Int):=by omega
 have lk:(k:Int)≤(s.size:Int):=by omega
 have jp:(0:Int)≤(p:Int):=by omega
 have lp:(p:Int)≤(s.size:Int):=by omega
 have jq:(0:Int)≤(q:Int):=by omega
 have lq:(q:Int)≤(s.size:Int):=by omega
 have jr:(0:Int)≤(r:Int):=by omega
 have lr:(r:Int)≤(s.size:Int):=by omega
 have R0:=Rw.new 46 w #[.int .i64 0,.string ⟨#[]⟩,.bool false,.slice none 0 0,.slice none 0 0,.int .i64 0,.int .i64 0,.int .i64 0]
 have hb:Below w.heap.size w (w.alloc (.cells #[.int .i64 0,.string ⟨#[]⟩,.bool false,.slice none 0 0,.slice none 0 0,.int .i64 0,.int .i64 0,.int .i64 0] 46)):=(Below.refl _ _).alloc (Nat.le_refl _) _
 go_enter Tryz.func36,Tryz.ntmps36
 go_wp2_with fail
 generalize w.alloc (.cells #[.int .i64 0,.string ⟨#[]⟩,.bool false,.slice none 0 0,.slice none 0 0,.int .i64 0,.int .i64 0,.int .i64 0] 46)=W0 at *
 refine (HN1 _).mono ?_
 rintro e w1 ⟨rfl,rfl⟩
 clear HN1
 go_wp2_with fail
 refine (H2 _).mono ?_
 rintro e w1 ⟨rfl,hb1⟩
 replace R0:=R0.below hb1
 replace hb:=bel_tr hb hb1
 clear H2 hb1
 go_wp2_with fail
 refine (HG _).mono ?_
 rintro e w1 ⟨rfl,rfl⟩
 clear HG
 go_wp2_with fail
 refine (HN2 _).mono ?_
 rintro e w1 ⟨rfl,rfl⟩
 clear HN2
 go_wp2_with fail
 refine (HC2 _).mono ?_
 rintro e w1 ⟨rfl,rfl⟩
 clear HC2
 go_wp2_with fail
 refine (HL _).mono ?_
 rintro e w1 ⟨rfl,hb1⟩
 replace R0:=R0.below hb1
 replace hb:=bel_tr hb hb1
 clear HL hb1
 go_wp2_with fail
 refine (HC1 _).mono ?_
 rintro e w1 ⟨rfl,rfl⟩
 clear HC1
 go_wp2_with (refine R0.put (tkC 9 x (.bool false) (.slice none 0 0) (.slice none 0 0) (W1:Nat) 0 0) rfl _ _ rfl rfl rfl tkI rfl (tkC_one _ _ _ _ _ rfl rfl rfl) ?_)
 intro w4 R2 O
 have hb2:=hb.trans (O.below (B:=w.heap.size) (Nat.le_refl _))
 go_wp2
 exact bodyPost_ret (R2.ret2 Tryz.results36 _ rfl Tryz.underlying46 tkI) rfl ⟨rfl,hb2⟩
set_option maxRecDepth 100000 in
set_option maxHeartbeats 2000000 in
theorem nmb2 (s:ByteArray) {k p q r:Nat} {x M:ByteArray} {C1 C2:Bool} (w:World) (kp:k≤p) (pq:p≤q) (qr:q≤r) (rs:r≤s.size) (hx:s.extract k p=x) (HN1:(∀ u,Calls Tryz.prog 62 #[.string s,.int .i64 (k:Int)] u fun e w'=>e = .returned (.int .i64 (p:Int))∧w'=u)) (H2:(∀ u,Calls Tryz.prog 63 #[.string x] u fun e w'=>e = .returned (.string M)∧Below u.heap.size u w')) (HG:(∀ u,Calls Tryz.prog 15 #[.string s,.int .i64 (p:Int)] u fun e w'=>e = .returned (.int .i64 (q:Int))∧w'=u)) (HN2:(∀ u,Calls Tryz.prog 62 #[.string s,.int .i64 (q:Int)] u fun e w'=>e = .returned (.int .i64 (r:Int))∧w'=u)) (bM:(M.toList == [])=false) (pqs:¬ (p:Int)<(q:Int)) (HC2:(∀ u,Calls Tryz.prog 64 #[.string s,.int .i64 (r:Int)] u fun e w'=>e = .returned (.bool C2)∧w'=u)) (HL:(∀ u,Calls Tryz.prog 66 #[.string x] u fun e w'=>e = .returned (.int .i64 0)∧Below u.heap.size u w')) (HC1:(∀ u,Calls Tryz.prog 64 #[.string s,.int .i64 (p:Int)] u fun e w'=>e = .returned (.bool C1)∧w'=u)) :
  Calls Tryz.prog 36 #[.string s,.int .i64 (k:Int)] w fun e w'=>e = .returned (.tuple #[.agg (tkC 1 x (.bool false) (.slice none 0 0) (.slice none 0 0) 0 0 0),.int .i64 (p:Int)])∧Below w.heap.size w w':=by
 have hu:=And.intro kp (And.intro pq (And.intro qr rs))
 clear hu
 have ikp:(k:Int)≤(p:Int):=by omega
 have ipq:(p:Int)≤(q:Int):=by omega
 have iqr:(q:Int)≤(r:Int):=by omega
 have ikr:(k:Int)≤(r:Int):=by omega
 have jk:(0:Int)≤(k:Int):=by omega
 have lk:(k:Int)≤(s.size:Int):=by omega
 have jp:(0:Int)≤(p:Int):=by omega
 have lp:(p:Int)≤(s.size:Int):=by omega
 have jq:(0:Int)≤(q:Int):=by omega
 have lq:(q:Int)≤(s.size:Int):=by omega
 have jr:(0:Int)≤(r:Int):=by omega
 have lr:(r:Int)≤(s.size:Int):=by omega
 have R0:=Rw.new 46 w #[.int .i64 0,.string ⟨#[]⟩,.bool false,.slice none 0 0,.slice none 0 0,.int .i64 0,.int .i64 0,.int .i64 0]
 have hb:Below w.heap.size w (w.alloc (.cells #[.int .i64 0,.string ⟨#[]⟩,.bool false,.slice none 0 0,.slice none 0 0,.int .i64 0,.int .i64 0,.int .i64 0] 46)):=(Below.refl _ _).alloc (Nat.le_refl _) _
 go_enter Tryz.func36,Tryz.ntmps36
 go_wp2_with fail
 generalize w.alloc (.cells #[.int .i64 0,.string ⟨#[]⟩,.bool false,.slice none 0 0,.slice none 0 0,.int .i64 0,.int .i64 0,.int .i64 0] 46)=W0 at *
 refine (HN1 _).mono ?_
 rintro e w1 ⟨rfl,rfl⟩
 clear HN1
 go_wp2_with fail
 refine (H2 _).mono ?_
 rintro e w1 ⟨rfl,hb1⟩
 replace R0:=R0.below hb1
 replace hb:=bel_tr hb hb1
 clear H2 hb1
 go_wp2_with fail
 refine (HG _).mono ?_
 rintro e w1 ⟨rfl,rfl⟩
 clear HG
 go_wp2_with fail
 refine (HN2 _).mono ?_
 rintro e w1 ⟨rfl,rfl⟩
 clear HN2
 go_wp2_with fail
 refine (HC2 _).mono ?_
 rintro e w1 ⟨rfl,rfl⟩
 clear HC2
 go_wp2_with fail
 refine (HL _).mono ?_
 rintro e w1 ⟨rfl,hb1⟩
 replace R0:=R0.below hb1
 replace hb:=bel_tr hb hb1
 clear HL hb1
 go_wp2_with fail
 refine (HC1 _).mono ?_
 rintro e w1 ⟨rfl,rfl⟩
 clear HC1
 go_wp2_with (refine R0.put (tkC 1 x (.bool false) (.slice none 0 0) (.slice none 0 0) 0 0 0) rfl _ _ rfl rfl rfl tkI rfl (tkC_one _ _ _ _ _ rfl rfl rfl) ?_)
 intro w4 R2 O
 have hb2:=hb.trans (O.below (B:=w.heap.size) (Nat.le_refl _))
 go_wp2
 exact bodyPost_ret (R2.ret2 Tryz.results36 _ rfl Tryz.underlying46 tkI) rfl ⟨rfl,hb2⟩
set_option maxRecDepth 100000 in
set_option maxHeartbeats 2000000 in
theorem nmb3 (s:ByteArray) {k p q r W1:Nat} {x M:ByteArray} {C2:Bool} (w:World) (kp:k≤p) (pq:p≤q) (qr:q≤r) (rs:r≤s.size) (hx:s.extract k p=x) (HN1:(∀ u,Calls Tryz.prog 62 #[.string s,.int .i64 (k:Int)] u fun e w'=>e = .returned (.int .i64 (p:Int))∧w'=u)) (H2:(∀ u,Calls Tryz.prog 63 #[.string x] u fun e w'=>e = .returned (.string M)∧Below u.heap.size u w')) (HG:(∀ u,Calls Tryz.prog 15 #[.string s,.int .i64 (p:Int)] u fun e w'=>e = .returned (.int .i64 (q:Int))∧w'=u)) (HN2:(∀ u,Calls Tryz.prog 62 #[.string s,.int .i64 (q:Int)] u fun e w'=>e = .returned (.int .i64 (r:Int))∧w'=u)) (bM:(M.toList == [])=false) (pqs:¬ (p:Int)<(q:Int)) (HC2:(∀ u,Calls Tryz.prog 64 #[.string s,.int .i64 (r:Int)] u fun e w'=>e = .returned (.bool C2)∧w'=u)) (HL:(∀ u,Calls Tryz.prog 66 #[.string x] u fun e w'=>e = .returned (.int .i64 (W1:Int))∧Below u.heap.size u w')) (nW:¬ (W1:Int)=0) (HC1:(∀ u,Calls Tryz.prog 64 #[.string s,.int .i64 (p:Int)] u fun e w'=>e = .returned (.bool true)∧w'=u)) :
  Calls Tryz.prog 36 #[.string s,.int .i64 (k:Int)] w fun e w'=>e = .returned (.tuple #[.agg (tkC 1 x (.bool false) (.slice none 0 0) (.slice none 0 0) 0 0 0),.int .i64 (p:Int)])∧Below w.heap.size w w':=by
 have hu:=And.intro kp (And.intro pq (And.intro qr rs))
 clear hu
 have ikp:(k:Int)≤(p:Int):=by omega
 have ipq:(p:Int)≤(q:Int):=by omega
 have iqr:(q:Int)≤(r:Int):=by omega
 have ikr:(k:Int)≤(r:Int):=by omega
 have jk:(0:Int)≤(k:Int):=by omega
 have lk:(k:Int)≤(s.size:Int):=by omega
 have jp:(0:Int)≤(p:Int):=by omega
 have lp:(p:Int)≤(s.size:Int):=by omega
 have jq:(0:Int)≤(q:Int):=by omega
 have lq:(q:Int)≤(s.size:Int):=by omega
 have jr:(0:Int)≤(r:Int):=by omega
 have lr:(r:Int)≤(s.size:Int):=by omega
 have R0:=Rw.new 46 w #[.int .i64 0,.string ⟨#[]⟩,.bool false,.slice none 0 0,.slice none 0 0,.int .i64 0,.int .i64 0,.int .i64 0]
 have hb:Below w.heap.size w (w.alloc (.cells #[.int .i64 0,.string ⟨#[]⟩,.bool false,.slice none 0 0,.slice none 0 0,.int .i64 0,.int .i64 0,.int .i64 0] 46)):=(Below.refl _ _).alloc (Nat.le_refl _) _
 go_enter Tryz.func36,Tryz.ntmps36
 go_wp2_with fail
 generalize w.alloc (.cells #[.int .i64 0,.string ⟨#[]⟩,.bool false,.slice none 0 0,.slice none 0 0,.int .i64 0,.int .i64 0,.int .i64 0] 46)=W0 at *
 refine (HN1 _).mono ?_
 rintro e w1 ⟨rfl,rfl⟩
 clear HN1
 go_wp2_with fail
 refine (H2 _).mono ?_
 rintro e w1 ⟨rfl,hb1⟩
 replace R0:=R0.below hb1
 replace hb:=bel_tr hb hb1
 clear H2 hb1
 go_wp2_with fail
 refine (HG _).mono ?_
 rintro e w1 ⟨rfl,rfl⟩
 clear HG
 go_wp2_with fail
 refine (HN2 _).mono ?_
 rintro e w1 ⟨rfl,rfl⟩
 clear HN2
 go_wp2_with fail
 refine (HC2 _).mono ?_
 rintro e w1 ⟨rfl,rfl⟩
 clear HC2
 go_wp2_with fail
 refine (HL _).mono ?_
 rintro e w1 ⟨rfl,hb1⟩
 replace R0:=R0.below hb1
 replace hb:=bel_tr hb hb1
 clear HL hb1
 go_wp2_with fail
 refine (HC1 _).mono ?_
 rintro e w1 ⟨rfl,rfl⟩
 clear HC1
 go_wp2_with (refine R0.put (tkC 1 x (.bool false) (.slice none 0 0) (.slice none 0 0) 0 0 0) rfl _ _ rfl rfl rfl tkI rfl (tkC_one _ _ _ _ _ rfl rfl rfl) ?_)
 intro w4 R2 O
 have hb2:=hb.trans (O.below (B:=w.heap.size) (Nat.le_refl _))
 go_wp2
 exact bodyPost_ret (R2.ret2 Tryz.results36 _ rfl Tryz.underlying46 tkI) rfl ⟨rfl,hb2⟩
set_option maxRecDepth 100000 in
set_option maxHeartbeats 2000000 in
theorem nmc1 (s:ByteArray) {k p q r W1:Nat} {x y M T:ByteArray} {C2:Bool} (w:World) (kp:k≤p) (pq:p≤q) (qr:q≤r) (rs:r≤s.size) (hx:s.extract k p=x) (HN1:(∀ u,Calls Tryz.prog 62 #[.string s,.int .i64 (k:Int)] u fun e w'=>e = .returned (.int .i64 (p:Int))∧w'=u)) (H2:(∀ u,Calls Tryz.prog 63 #[.string x] u fun e w'=>e = .returned (.string M)∧Below u.heap.size u w')) (HG:(∀ u,Calls Tryz.prog 15 #[.string s,.int .i64 (p:Int)] u fun e w'=>e = .returned (.int .i64 (q:Int))∧w'=u)) (HN2:(∀ u,Calls Tryz.prog 62 #[.string s,.int .i64 (q:Int)] u fun e w'=>e = .returned (.int .i64 (r:Int))∧w'=u)) (bM:(M.toList == [])=false) (pqs:(p:Int)<(q:Int)) (hy:s.extract q r=y) (HS:(∀ u,Calls Tryz.prog 65 #[.string y] u fun e w'=>e = .returned (.string T)∧Below u.heap.size u w')) (bE:(T.toList == M.toList)=false) (HC2:(∀ u,Calls Tryz.prog 64 #[.string s,.int .i64 (r:Int)] u fun e w'=>e = .returned (.bool C2)∧w'=u)) (HL:(∀ u,Calls Tryz.prog 66 #[.string x] u fun e w'=>e = .returned (.int .i64 (W1:Int))∧Below u.heap.size u w')) (bW:((W1:Int) == 0)=false) (nW:¬ (W1:Int)=0) (HC1:(∀ u,Calls Tryz.prog 64 #[.string s,.int .i64 (p:Int)] u fun e w'=>e = .returned (.bool false)∧w'=u)) :
  Calls Tryz.prog 36 #[.string s,.int .i64 (k:Int)] w fun e w'=>e = .returned (.tuple #[.agg (tkC 9 x (.bool false) (.slice none 0 0) (.slice none 0 0) (W1:Nat) 0 0),.int .i64 (p:Int)])∧Below w.heap.size w w':=by
 have hu:=And.intro kp (And.intro pq (And.intro qr rs))
 clear hu
 have ikp:(k:Int)≤(p:Int):=by omega
 have ipq:(p:Int)≤(q:Int):=by omega
 have iqr:(q:Int)≤(r:Int):=by omega
 have ikr:(k:Int)≤(r:Int):=by omega
 have jk:(0:Int)≤(k:Int):=by omega
 have lk:(k:Int)≤(s.size:Int):=by omega
 have jp:(0:Int)≤(p:Int):=by omega
 have lp:(p:Int)≤(s.size:Int):=by omega
 have jq:(0:Int)≤(q:Int):=by omega
 have lq:(q:Int)≤(s.size:Int):=by omega
 have jr:(0:Int)≤(r:Int):=by omega
 have lr:(r:Int)≤(s.size:Int):=by omega
 have R0:=Rw.new 46 w #[.int .i64 0,.string ⟨#[]⟩,.bool false,.slice none 0 0,.slice none 0 0,.int .i64 0,.int .i64 0,.int .i64 0]
 have hb:Below w.heap.size w (w.alloc (.cells #[.int .i64 0,.string ⟨#[]⟩,.bool false,.slice none 0 0,.slice none 0 0,.int .i64 0,.int .i64 0,.int .i64 0] 46)):=(Below.refl _ _).alloc (Nat.le_refl _) _
 go_enter Tryz.func36,Tryz.ntmps36
 go_wp2_with fail
 generalize w.alloc (.cells #[.int .i64 0,.string ⟨#[]⟩,.bool false,.slice none 0 0,.slice none 0 0,.int .i64 0,.int .i64 0,.int .i64 0] 46)=W0 at *
 refine (HN1 _).mono ?_
 rintro e w1 ⟨rfl,rfl⟩
 clear HN1
 go_wp2_with fail
 refine (H2 _).mono ?_
 rintro e w1 ⟨rfl,hb1⟩
 replace R0:=R0.below hb1
 replace hb:=bel_tr hb hb1
 clear H2 hb1
 go_wp2_with fail
 refine (HG _).mono ?_
 rintro e w1 ⟨rfl,rfl⟩
 clear HG
 go_wp2_with fail
 refine (HN2 _).mono ?_
 rintro e w1 ⟨rfl,rfl⟩
 clear HN2
 go_wp2_with fail
 refine (HC2 _).mono ?_
 rintro e w1 ⟨rfl,rfl⟩
 clear HC2
 go_wp2_with fail
 refine (HS _).mono ?_
 rintro e w1 ⟨rfl,hb1⟩
 replace R0:=R0.below hb1
 replace hb:=bel_tr hb hb1
 clear HS hb1
 go_wp2_with fail
 refine (HL _).mono ?_
 rintro e w1 ⟨rfl,hb1⟩
 replace R0:=R0.below hb1
 replace hb:=bel_tr hb hb1
 clear HL hb1
 go_wp2_with fail
 refine (HC1 _).mono ?_
 rintro e w1 ⟨rfl,rfl⟩
 clear HC1
 go_wp2_with (refine R0.put (tkC 9 x (.bool false) (.slice none 0 0) (.slice none 0 0) (W1:Nat) 0 0) rfl _ _ rfl rfl rfl tkI rfl (tkC_one _ _ _ _ _ rfl rfl rfl) ?_)
 intro w4 R2 O
 have hb2:=hb.trans (O.below (B:=w.heap.size) (Nat.le_refl _))
 go_wp2
 exact bodyPost_ret (R2.ret2 Tryz.results36 _ rfl Tryz.underlying46 tkI) rfl ⟨rfl,hb2⟩
set_option maxRecDepth 100000 in
set_option maxHeartbeats 2000000 in
theorem nmc2 (s:ByteArray) {k p q r:Nat} {x y M T:ByteArray} {C1 C2:Bool} (w:World) (kp:k≤p) (pq:p≤q) (qr:q≤r) (rs:r≤s.size) (hx:s.extract k p=x) (HN1:(∀ u,Calls Tryz.prog 62 #[.string s,.int .i64 (k:Int)] u fun e w'=>e = .returned (.int .i64 (p:Int))∧w'=u)) (H2:(∀ u,Calls Tryz.prog 63 #[.string x] u fun e w'=>e = .returned (.string M)∧Below u.heap.size u w')) (HG:(∀ u,Calls Tryz.prog 15 #[.string s,.int .i64 (p:Int)] u fun e w'=>e = .returned (.int .i64 (q:Int))∧w'=u)) (HN2:(∀ u,Calls Tryz.prog 62 #[.string s,.int .i64 (q:Int)] u fun e w'=>e = .returned (.int .i64 (r:Int))∧w'=u)) (bM:(M.toList == [])=false) (pqs:(p:Int)<(q:Int)) (hy:s.extract q r=y) (HS:(∀ u,Calls Tryz.prog 65 #[.string y] u fun e w'=>e = .returned (.string T)∧Below u.heap.size u w')) (bE:(T.toList == M.toList)=false) (HC2:(∀ u,Calls Tryz.prog 64 #[.string s,.int .i64 (r:Int)] u fun e w'=>e = .returned (.bool C2)∧w'=u)) (HL:(∀ u,Calls Tryz.prog 66 #[.string x] u fun e w'=>e = .returned (.int .i64 0)∧Below u.heap.size u w')) (HC1:(∀ u,Calls Tryz.prog 64 #[.string s,.int .i64 (p:Int)] u fun e w'=>e = .returned (.bool C1)∧w'=u)) :
  Calls Tryz.prog 36 #[.string s,.int .i64 (k:Int)] w fun e w'=>e = .returned (.tuple #[.agg (tkC 1 x (.bool false) (.slice none 0 0) (.slice none 0 0) 0 0 0),.int .i64 (p:Int)])∧Below w.heap.size w w':=by
 have hu:=And.intro kp (And.intro pq (And.intro qr rs))
 clear hu
 have ikp:(k:Int)≤(p:Int):=by omega
 have ipq:(p:Int)≤(q:Int):=by omega
 have iqr:(q:Int)≤(r:Int):=by omega
 have ikr:(k:Int)≤(r:Int):=by omega
 have jk:(0:Int)≤(k:Int):=by omega
 have lk:(k:Int)≤(s.size:Int):=by omega
 have jp:(0:Int)≤(p:Int):=by omega
 have lp:(p:Int)≤(s.size:Int):=by omega
 have jq:(0:Int)≤(q:Int):=by omega
 have lq:(q:Int)≤(s.size:Int):=by omega
 have jr:(0:Int)≤(r:Int):=by omega
 have lr:(r:Int)≤(s.size:Int):=by omega
 have R0:=Rw.new 46 w #[.int .i64 0,.string ⟨#[]⟩,.bool false,.slice none 0 0,.slice none 0 0,.int .i64 0,.int .i64 0,.int .i64 0]
 have hb:Below w.heap.size w (w.alloc (.cells #[.int .i64 0,.string ⟨#[]⟩,.bool false,.slice none 0 0,.slice none 0 0,.int .i64 0,.int .i64 0,.int .i64 0] 46)):=(Below.refl _ _).alloc (Nat.le_refl _) _
 go_enter Tryz.func36,Tryz.ntmps36
 go_wp2_with fail
 generalize w.alloc (.cells #[.int .i64 0,.string ⟨#[]⟩,.bool false,.slice none 0 0,.slice none 0 0,.int .i64 0,.int .i64 0,.int .i64 0] 46)=W0 at *
 refine (HN1 _).mono ?_
 rintro e w1 ⟨rfl,rfl⟩
 clear HN1
 go_wp2_with fail
 refine (H2 _).mono ?_
 rintro e w1 ⟨rfl,hb1⟩
 replace R0:=R0.below hb1
 replace hb:=bel_tr hb hb1
 clear H2 hb1
 go_wp2_with fail
 refine (HG _).mono ?_
 rintro e w1 ⟨rfl,rfl⟩
 clear HG
 go_wp2_with fail
 refine (HN2 _).mono ?_
 rintro e w1 ⟨rfl,rfl⟩
 clear HN2
 go_wp2_with fail
 refine (HC2 _).mono ?_
 rintro e w1 ⟨rfl,rfl⟩
 clear HC2
 go_wp2_with fail
 refine (HS _).mono ?_
 rintro e w1 ⟨rfl,hb1⟩
 replace R0:=R0.below hb1
 replace hb:=bel_tr hb hb1
 clear HS hb1
 go_wp2_with fail
 refine (HL _).mono ?_
 rintro e w1 ⟨rfl,hb1⟩
 replace R0:=R0.below hb1
 replace hb:=bel_tr hb hb1
 clear HL hb1
 go_wp2_with fail
 refine (HC1 _).mono ?_
 rintro e w1 ⟨rfl,rfl⟩
 clear HC1
 go_wp2_with (refine R0.put (tkC 1 x (.bool false) (.slice none 0 0) (.slice none 0 0) 0 0 0) rfl _ _ rfl rfl rfl tkI rfl (tkC_one _ _ _ _ _ rfl rfl rfl) ?_)
 intro w4 R2 O
 have hb2:=hb.trans (O.below (B:=w.heap.size) (Nat.le_refl _))
 go_wp2
 exact bodyPost_ret (R2.ret2 Tryz.results36 _ rfl Tryz.underlying46 tkI) rfl ⟨rfl,hb2⟩
set_option maxRecDepth 100000 in
set_option maxHeartbeats 2000000 in
theorem nmc3 (s:ByteArray) {k p q r W1:Nat} {x y M T:ByteArray} {C2:Bool} (w:World) (kp:k≤p) (pq:p≤q) (qr:q≤r) (rs:r≤s.size) (hx:s.extract k p=x) (HN1:(∀ u,Calls Tryz.prog 62 #[.string s,.int .i64 (k:Int)] u fun e w'=>e = .returned (.int .i64 (p:Int))∧w'=u)) (H2:(∀ u,Calls Tryz.prog 63 #[.string x] u fun e w'=>e = .returned (.string M)∧Below u.heap.size u w')) (HG:(∀ u,Calls Tryz.prog 15 #[.string s,.int .i64 (p:Int)] u fun e w'=>e = .returned (.int .i64 (q:Int))∧w'=u)) (HN2:(∀ u,Calls Tryz.prog 62 #[.string s,.int .i64 (q:Int)] u fun e w'=>e = .returned (.int .i64 (r:Int))∧w'=u)) (bM:(M.toList == [])=false) (pqs:(p:Int)<(q:Int)) (hy:s.extract q r=y) (HS:(∀ u,Calls Tryz.prog 65 #[.string y] u fun e w'=>e = .returned (.string T)∧Below u.heap.size u w')) (bE:(T.toList == M.toList)=false) (HC2:(∀ u,Calls Tryz.prog 64 #[.string s,.int .i64 (r:Int)] u fun e w'=>e = .returned (.bool C2)∧w'=u)) (HL:(∀ u,Calls Tryz.prog 66 #[.string x] u fun e w'=>e = .returned (.int .i64 (W1:Int))∧Below u.heap.size u w')) (nW:¬ (W1:Int)=0) (HC1:(∀ u,Calls Tryz.prog 64 #[.string s,.int .i64 (p:Int)] u fun e w'=>e = .returned (.bool true)∧w'=u)) :
  Calls Tryz.prog 36 #[.string s,.int .i64 (k:Int)] w fun e w'=>e = .returned (.tuple #[.agg (tkC 1 x (.bool false) (.slice none 0 0) (.slice none 0 0) 0 0 0),.int .i64 (p:Int)])∧Below w.heap.size w w':=by
 have hu:=And.intro kp (And.intro pq (And.intro qr rs))
 clear hu
 have ikp:(k:Int)≤(p:Int):=by omega
 have ipq:(p:Int)≤(q:Int):=by omega
 have iqr:(q:Int)≤(r:Int):=by omega
 have ikr:(k:Int)≤(r:Int):=by omega
 have jk:(0:Int)≤(k:Int):=by omega
 have lk:(k:Int)≤(s.size:Int):=by omega
 have jp:(0:Int)≤(p:Int):=by omega
 have lp:(p:Int)≤(s.size:Int):=by omega
 have jq:(0:Int)≤(q:Int):=by omega
 have lq:(q:Int)≤(s.size:Int):=by omega
 have jr:(0:Int)≤(r:Int):=by omega
 have lr:(r:Int)≤(s.size:Int):=by omega
 have R0:=Rw.new 46 w #[.int .i64 0,.string ⟨#[]⟩,.bool false,.slice none 0 0,.slice none 0 0,.int .i64 0,.int .i64 0,.int .i64 0]
 have hb:Below w.heap.size w (w.alloc (.cells #[.int .i64 0,.string ⟨#[]⟩,.bool false,.slice none 0 0,.slice none 0 0,.int .i64 0,.int .i64 0,.int .i64 0] 46)):=(Below.refl _ _).alloc (Nat.le_refl _) _
 go_enter Tryz.func36,Tryz.ntmps36
 go_wp2_with fail
 generalize w.alloc (.cells #[.int .i64 0,.string ⟨#[]⟩,.bool false,.slice none 0 0,.slice none 0 0,.int .i64 0,.int .i64 0,.int .i64 0] 46)=W0 at *
 refine (HN1 _).mono ?_
 rintro e w1 ⟨rfl,rfl⟩
 clear HN1
 go_wp2_with fail
 refine (H2 _).mono ?_
 rintro e w1 ⟨rfl,hb1⟩
 replace R0:=R0.below hb1
 replace hb:=bel_tr hb hb1
 clear H2 hb1
 go_wp2_with fail
 refine (HG _).mono ?_
 rintro e w1 ⟨rfl,rfl⟩
 clear HG
 go_wp2_with fail
 refine (HN2 _).mono ?_
 rintro e w1 ⟨rfl,rfl⟩
 clear HN2
 go_wp2_with fail
 refine (HC2 _).mono ?_
 rintro e w1 ⟨rfl,rfl⟩
 clear HC2
 go_wp2_with fail
 refine (HS _).mono ?_
 rintro e w1 ⟨rfl,hb1⟩
 replace R0:=R0.below hb1
 replace hb:=bel_tr hb hb1
 clear HS hb1
 go_wp2_with fail
 refine (HL _).mono ?_
 rintro e w1 ⟨rfl,hb1⟩
 replace R0:=R0.below hb1
 replace hb:=bel_tr hb hb1
 clear HL hb1
 go_wp2_with fail
 refine (HC1 _).mono ?_
 rintro e w1 ⟨rfl,rfl⟩
 clear HC1
 go_wp2_with (refine R0.put (tkC 1 x (.bool false) (.slice none 0 0) (.slice none 0 0) 0 0 0) rfl _ _ rfl rfl rfl tkI rfl (tkC_one _ _ _ _ _ rfl rfl rfl) ?_)
 intro w4 R2 O
 have hb2:=hb.trans (O.below (B:=w.heap.size) (Nat.le_refl _))
 go_wp2
 exact bodyPost_ret (R2.ret2 Tryz.results36 _ rfl Tryz.underlying46 tkI) rfl ⟨rfl,hb2⟩
set_option maxRecDepth 100000 in
set_option maxHeartbeats 2000000 in
theorem nmd1 (s:ByteArray) {k p q r W1:Nat} {x y M T:ByteArray} (w:World) (kp:k≤p) (pq:p≤q) (qr:q≤r) (rs:r≤s.size) (hx:s.extract k p=x) (HN1:(∀ u,Calls Tryz.prog 62 #[.string s,.int .i64 (k:Int)] u fun e w'=>e = .returned (.int .i64 (p:Int))∧w'=u)) (H2:(∀ u,Calls Tryz.prog 63 #[.string x] u fun e w'=>e = .returned (.string M)∧Below u.heap.size u w')) (HG:(∀ u,Calls Tryz.prog 15 #[.string s,.int .i64 (p:Int)] u fun e w'=>e = .returned (.int .i64 (q:Int))∧w'=u)) (HN2:(∀ u,Calls Tryz.prog 62 #[.string s,.int .i64 (q:Int)] u fun e w'=>e = .returned (.int .i64 (r:Int))∧w'=u)) (bM:(M.toList == [])=false) (pqs:(p:Int)<(q:Int)) (hy:s.extract q r=y) (HS:(∀ u,Calls Tryz.prog 65 #[.string y] u fun e w'=>e = .returned (.string T)∧Below u.heap.size u w')) (bE:(T.toList == M.toList)=true) (HC2:(∀ u,Calls Tryz.prog 64 #[.string s,.int .i64 (r:Int)] u fun e w'=>e = .returned (.bool true)∧w'=u)) (HL:(∀ u,Calls Tryz.prog 66 #[.string x] u fun e w'=>e = .returned (.int .i64 (W1:Int))∧Below u.heap.size u w')) (bW:((W1:Int) == 0)=false) (nW:¬ (W1:Int)=0) (HC1:(∀ u,Calls Tryz.prog 64 #[.string s,.int .i64 (p:Int)] u fun e w'=>e = .returned (.bool false)∧w'=u)) :
  Calls Tryz.prog 36 #[.string s,.int .i64 (k:Int)] w fun e w'=>e = .returned (.tuple #[.agg (tkC 9 x (.bool false) (.slice none 0 0) (.slice none 0 0) (W1:Nat) 0 0),.int .i64 (p:Int)])∧Below w.heap.size w w':=by
 have hu:=And.intro kp (And.intro pq (And.intro qr rs))
 clear hu
 have ikp:(k:Int)≤(p:Int):=by omega
 have ipq:(p:Int)≤(q:Int):=by omega
 have iqr:(q:Int)≤(r:Int):=by omega
 have ikr:(k:Int)≤(r:Int):=by omega
 have jk:(0:Int)≤(k:Int):=by omega
 have lk:(k:Int)≤(s.size:Int):=by omega
 have jp:(0:Int)≤(p:Int):=by omega
 have lp:(p:Int)≤(s.size:Int):=by omega
 have jq:(0:Int)≤(q:Int):=by omega
 have lq:(q:Int)≤(s.size:Int):=by omega
 have jr:(0:Int)≤(r:Int):=by omega
 have lr:(r:Int)≤(s.size:Int):=by omega
 have R0:=Rw.new 46 w #[.int .i64 0,.string ⟨#[]⟩,.bool false,.slice none 0 0,.slice none 0 0,.int .i64 0,.int .i64 0,.int .i64 0]
 have hb:Below w.heap.size w (w.alloc (.cells #[.int .i64 0,.string ⟨#[]⟩,.bool false,.slice none 0 0,.slice none 0 0,.int .i64 0,.int .i64 0,.int .i64 0] 46)):=(Below.refl _ _).alloc (Nat.le_refl _) _
 go_enter Tryz.func36,Tryz.ntmps36
 go_wp2_with fail
 generalize w.alloc (.cells #[.int .i64 0,.string ⟨#[]⟩,.bool false,.slice none 0 0,.slice none 0 0,.int .i64 0,.int .i64 0,.int .i64 0] 46)=W0 at *
 refine (HN1 _).mono ?_
 rintro e w1 ⟨rfl,rfl⟩
 clear HN1
 go_wp2_with fail
 refine (H2 _).mono ?_
 rintro e w1 ⟨rfl,hb1⟩
 replace R0:=R0.below hb1
 replace hb:=bel_tr hb hb1
 clear H2 hb1
 go_wp2_with fail
 refine (HG _).mono ?_
 rintro e w1 ⟨rfl,rfl⟩
 clear HG
 go_wp2_with fail
 refine (HN2 _).mono ?_
 rintro e w1 ⟨rfl,rfl⟩
 clear HN2
 go_wp2_with fail
 refine (HC2 _).mono ?_
 rintro e w1 ⟨rfl,rfl⟩
 clear HC2
 go_wp2_with fail
 refine (HS _).mono ?_
 rintro e w1 ⟨rfl,hb1⟩
 replace R0:=R0.below hb1
 replace hb:=bel_tr hb hb1
 clear HS hb1
 go_wp2_with fail
 refine (HL _).mono ?_
 rintro e w1 ⟨rfl,hb1⟩
 replace R0:=R0.below hb1
 replace hb:=bel_tr hb hb1
 clear HL hb1
 go_wp2_with fail
 refine (HC1 _).mono ?_
 rintro e w1 ⟨rfl,rfl⟩
 clear HC1
 go_wp2_with (refine R0.put (tkC 9 x (.bool false) (.slice none 0 0) (.slice none 0 0) (W1:Nat) 0 0) rfl _ _ rfl rfl rfl tkI rfl (tkC_one _ _ _ _ _ rfl rfl rfl) ?_)
 intro w4 R2 O
 have hb2:=hb.trans (O.below (B:=w.heap.size) (Nat.le_refl _))
 go_wp2
 exact bodyPost_ret (R2.ret2 Tryz.results36 _ rfl Tryz.underlying46 tkI) rfl ⟨rfl,hb2⟩
set_option maxRecDepth 100000 in
set_option maxHeartbeats 2000000 in
theorem nmd2 (s:ByteArray) {k p q r:Nat} {x y M T:ByteArray} {C1:Bool} (w:World) (kp:k≤p) (pq:p≤q) (qr:q≤r) (rs:r≤s.size) (hx:s.extract k p=x) (HN1:(∀ u,Calls Tryz.prog 62 #[.string s,.int .i64 (k:Int)] u fun e w'=>e = .returned (.int .i64 (p:Int))∧w'=u)) (H2:(∀ u,Calls Tryz.prog 63 #[.string x] u fun e w'=>e = .returned (.string M)∧Below u.heap.size u w')) (HG:(∀ u,Calls Tryz.prog 15 #[.string s,.int .i64 (p:Int)] u fun e w'=>e = .returned (.int .i64 (q:Int))∧w'=u)) (HN2:(∀ u,Calls Tryz.prog 62 #[.string s,.int .i64 (q:Int)] u fun e w'=>e = .returned (.int .i64 (r:Int))∧w'=u)) (bM:(M.toList == [])=false) (pqs:(p:Int)<(q:Int)) (hy:s.extract q r=y) (HS:(∀ u,Calls Tryz.prog 65 #[.string y] u fun e w'=>e = .returned (.string T)∧Below u.heap.size u w')) (bE:(T.toList == M.toList)=true) (HC2:(∀ u,Calls Tryz.prog 64 #[.string s,.int .i64 (r:Int)] u fun e w'=>e = .returned (.bool true)∧w'=u)) (HL:(∀ u,Calls Tryz.prog 66 #[.string x] u fun e w'=>e = .returned (.int .i64 0)∧Below u.heap.size u w')) (HC1:(∀ u,Calls Tryz.prog 64 #[.string s,.int .i64 (p:Int)] u fun e w'=>e = .returned (.bool C1)∧w'=u)) :
  Calls Tryz.prog 36 #[.string s,.int .i64 (k:Int)] w fun e w'=>e = .returned (.tuple #[.agg (tkC 1 x (.bool false) (.slice none 0 0) (.slice none 0 0) 0 0 0),.int .i64 (p:Int)])∧Below w.heap.size w w':=by
 have hu:=And.intro kp (And.intro pq (And.intro qr rs))
 clear hu
 have ikp:(k:Int)≤(p:Int):=by omega
 have ipq:(p:Int)≤(q:Int):=by omega
 have iqr:(q:Int)≤(r:Int):=by omega
 have ikr:(k:Int)≤(r:Int):=by omega
 have jk:(0:Int)≤(k:Int):=by omega
 have lk:(k:Int)≤(s.size:Int):=by omega
 have jp:(0:Int)≤(p:Int):=by omega
 have lp:(p:Int)≤(s.size:Int):=by omega
 have jq:(0:Int)≤(q:Int):=by omega
 have lq:(q:Int)≤(s.size:Int):=by omega
 have jr:(0:Int)≤(r:Int):=by omega
 have lr:(r:Int)≤(s.size:Int):=by omega
 have R0:=Rw.new 46 w #[.int .i64 0,.string ⟨#[]⟩,.bool false,.slice none 0 0,.slice none 0 0,.int .i64 0,.int .i64 0,.int .i64 0]
 have hb:Below w.heap.size w (w.alloc (.cells #[.int .i64 0,.string ⟨#[]⟩,.bool false,.slice none 0 0,.slice none 0 0,.int .i64 0,.int .i64 0,.int .i64 0] 46)):=(Below.refl _ _).alloc (Nat.le_refl _) _
 go_enter Tryz.func36,Tryz.ntmps36
 go_wp2_with fail
 generalize w.alloc (.cells #[.int .i64 0,.string ⟨#[]⟩,.bool false,.slice none 0 0,.slice none 0 0,.int .i64 0,.int .i64 0,.int .i64 0] 46)=W0 at *
 refine (HN1 _).mono ?_
 rintro e w1 ⟨rfl,rfl⟩
 clear HN1
 go_wp2_with fail
 refine (H2 _).mono ?_
 rintro e w1 ⟨rfl,hb1⟩
 replace R0:=R0.below hb1
 replace hb:=bel_tr hb hb1
 clear H2 hb1
 go_wp2_with fail
 refine (HG _).mono ?_
 rintro e w1 ⟨rfl,rfl⟩
 clear HG
 go_wp2_with fail
 refine (HN2 _).mono ?_
 rintro e w1 ⟨rfl,rfl⟩
 clear HN2
 go_wp2_with fail
 refine (HC2 _).mono ?_
 rintro e w1 ⟨rfl,rfl⟩
 clear HC2
 go_wp2_with fail
 refine (HS _).mono ?_
 rintro e w1 ⟨rfl,hb1⟩
 replace R0:=R0.below hb1
 replace hb:=bel_tr hb hb1
 clear HS hb1
 go_wp2_with fail
 refine (HL _).mono ?_
 rintro e w1 ⟨rfl,hb1⟩
 replace R0:=R0.below hb1
 replace hb:=bel_tr hb hb1
 clear HL hb1
 go_wp2_with fail
 refine (HC1 _).mono ?_
 rintro e w1 ⟨rfl,rfl⟩
 clear HC1
 go_wp2_with (refine R0.put (tkC 1 x (.bool false) (.slice none 0 0) (.slice none 0 0) 0 0 0) rfl _ _ rfl rfl rfl tkI rfl (tkC_one _ _ _ _ _ rfl rfl rfl) ?_)
 intro w4 R2 O
 have hb2:=hb.trans (O.below (B:=w.heap.size) (Nat.le_refl _))
 go_wp2
 exact bodyPost_ret (R2.ret2 Tryz.results36 _ rfl Tryz.underlying46 tkI) rfl ⟨rfl,hb2⟩
set_option maxRecDepth 100000 in
set_option maxHeartbeats 2000000 in
theorem nmd3 (s:ByteArray) {k p q r W1:Nat} {x y M T:ByteArray} (w:World) (kp:k≤p) (pq:p≤q) (qr:q≤r) (rs:r≤s.size) (hx:s.extract k p=x) (HN1:(∀ u,Calls Tryz.prog 62 #[.string s,.int .i64 (k:Int)] u fun e w'=>e = .returned (.int .i64 (p:Int))∧w'=u)) (H2:(∀ u,Calls Tryz.prog 63 #[.string x] u fun e w'=>e = .returned (.string M)∧Below u.heap.size u w')) (HG:(∀ u,Calls Tryz.prog 15 #[.string s,.int .i64 (p:Int)] u fun e w'=>e = .returned (.int .i64 (q:Int))∧w'=u)) (HN2:(∀ u,Calls Tryz.prog 62 #[.string s,.int .i64 (q:Int)] u fun e w'=>e = .returned (.int .i64 (r:Int))∧w'=u)) (bM:(M.toList == [])=false) (pqs:(p:Int)<(q:Int)) (hy:s.extract q r=y) (HS:(∀ u,Calls Tryz.prog 65 #[.string y] u fun e w'=>e = .returned (.string T)∧Below u.heap.size u w')) (bE:(T.toList == M.toList)=true) (HC2:(∀ u,Calls Tryz.prog 64 #[.string s,.int .i64 (r:Int)] u fun e w'=>e = .returned (.bool true)∧w'=u)) (HL:(∀ u,Calls Tryz.prog 66 #[.string x] u fun e w'=>e = .returned (.int .i64 (W1:Int))∧Below u.heap.size u w')) (nW:¬ (W1:Int)=0) (HC1:(∀ u,Calls Tryz.prog 64 #[.string s,.int .i64 (p:Int)] u fun e w'=>e = .returned (.bool true)∧w'=u)) :
  Calls Tryz.prog 36 #[.string s,.int .i64 (k:Int)] w fun e w'=>e = .returned (.tuple #[.agg (tkC 1 x (.bool false) (.slice none 0 0) (.slice none 0 0) 0 0 0),.int .i64 (p:Int)])∧Below w.heap.size w w':=by
 have hu:=And.intro kp (And.intro pq (And.intro qr rs))
 clear hu
 have ikp:(k:Int)≤(p:Int):=by omega
 have ipq:(p:Int)≤(q:Int):=by omega
 have iqr:(q:Int)≤(r:Int):=by omega
 have ikr:(k:Int)≤(r:Int):=by omega
 have jk:(0:Int)≤(k:Int):=by omega
 have lk:(k:Int)≤(s.size:Int):=by omega
 have jp:(0:Int)≤(p:Int):=by omega
 have lp:(p:Int)≤(s.size:Int):=by omega
 have jq:(0:Int)≤(q:Int):=by omega
 have lq:(q:Int)≤(s.size:Int):=by omega
 have jr:(0:Int)≤(r:Int):=by omega
 have lr:(r:Int)≤(s.size:Int):=by omega
 have R0:=Rw.new 46 w #[.int .i64 0,.string ⟨#[]⟩,.bool false,.slice none 0 0,.slice none 0 0,.int .i64 0,.int .i64 0,.int .i64 0]
 have hb:Below w.heap.size w (w.alloc (.cells #[.int .i64 0,.string ⟨#[]⟩,.bool false,.slice none 0 0,.slice none 0 0,.int .i64 0,.int .i64 0,.int .i64 0] 46)):=(Below.refl _ _).alloc (Nat.le_refl _) _
 go_enter Tryz.func36,Tryz.ntmps36
 go_wp2_with fail
 generalize w.alloc (.cells #[.int .i64 0,.string ⟨#[]⟩,.bool false,.slice none 0 0,.slice none 0 0,.int .i64 0,.int .i64 0,.int .i64 0] 46)=W0 at *
 refine (HN1 _).mono ?_
 rintro e w1 ⟨rfl,rfl⟩
 clear HN1
 go_wp2_with fail
 refine (H2 _).mono ?_
 rintro e w1 ⟨rfl,hb1⟩
 replace R0:=R0.below hb1
 replace hb:=bel_tr hb hb1
 clear H2 hb1
 go_wp2_with fail
 refine (HG _).mono ?_
 rintro e w1 ⟨rfl,rfl⟩
 clear HG
 go_wp2_with fail
 refine (HN2 _).mono ?_
 rintro e w1 ⟨rfl,rfl⟩
 clear HN2
 go_wp2_with fail
 refine (HC2 _).mono ?_
 rintro e w1 ⟨rfl,rfl⟩
 clear HC2
 go_wp2_with fail
 refine (HS _).mono ?_
 rintro e w1 ⟨rfl,hb1⟩
 replace R0:=R0.below hb1
 replace hb:=bel_tr hb hb1
 clear HS hb1
 go_wp2_with fail
 refine (HL _).mono ?_
 rintro e w1 ⟨rfl,hb1⟩
 replace R0:=R0.below hb1
 replace hb:=bel_tr hb hb1
 clear HL hb1
 go_wp2_with fail
 refine (HC1 _).mono ?_
 rintro e w1 ⟨rfl,rfl⟩
 clear HC1
 go_wp2_with (refine R0.put (tkC 1 x (.bool false) (.slice none 0 0) (.slice none 0 0) 0 0 0) rfl _ _ rfl rfl rfl tkI rfl (tkC_one _ _ _ _ _ rfl rfl rfl) ?_)
 intro w4 R2 O
 have hb2:=hb.trans (O.below (B:=w.heap.size) (Nat.le_refl _))
 go_wp2
 exact bodyPost_ret (R2.ret2 Tryz.results36 _ rfl Tryz.underlying46 tkI) rfl ⟨rfl,hb2⟩
end Go.Proofs.YtgdilnljjgdinaaGreatDoor
