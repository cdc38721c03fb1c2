import Derived.Test.YtjiodidemimgmaaGreatDoorBoD
import Derived.Test.YtjiodidemimgmaaGreatDoorPrEAll
namespace Go.Proofs.YtjiodidemimgmaaGreatDoor
open Go.RowKit
theorem hgt_pw {q:Rat} {s:Nat} (h:SzR q s):(hgt q:Int)≤pw (s + 1):=by
 have h1:=h.1
 have h2:=h.2
 have:=pw_succ s
 have:=pw_pos s
 unfold hgt
 omega
theorem hgt_zero:hgt 0 = 1:=rfl
theorem hpr_pw {X:Nat→Rat} {s:Nat→Nat}:∀ n,(∀ c,c < n→X c = 0∧s c = 0∨1≤s c∧SzR (X c) (s c - 1))→(hpr X n:Int)≤pw (totB s n)
 | 0,_=>by rw [show totB s 0 = 0 from rfl,pw_zero];exact Int.le_refl _
 | n + 1,h=>by
  have a:=hpr_pw n fun c hc=>h c (by omega)
  have b:(hgt (X n):Int)≤pw (s n):=by
   rcases h n (by omega) with ⟨h1,h2⟩ | ⟨h1,h2⟩
   ·rw [h1,h2,hgt_zero,pw_zero];exact Int.le_refl _
   ·have:=hgt_pw h2
    rwa [show s n - 1 + 1 = s n from by omega] at this
  show ((hpr X n * hgt (X n):Nat):Int)≤pw (totB s n + s n)
  rw [pw_add,Int.natCast_mul]
  exact Int.mul_le_mul a b (by omega) (Int.le_of_lt (pw_pos _))
def rws (s:Nat→Nat):Nat→Nat→Nat
 | 0,_=>0
 | n + 1,k=>s k + rws s n (k + 1)
theorem pds_pw {M s:Nat→Nat}:∀ n k,(∀ r,k≤r→r < k + n→(M r:Int)≤pw (s r))→(pds M n k:Int)≤pw (rws s n k)
 | 0,_,_=>by rw [show rws s 0 _ = 0 from rfl,pw_zero];exact Int.le_refl _
 | n + 1,k,h=>by
  have a:=h k (by omega) (by omega)
  have b:=pds_pw (M:=M) (s:=s) n (k + 1) fun r h1 h2=>h r (by omega) (by omega)
  show ((M k * pds M n (k + 1):Nat):Int)≤pw (s k + rws s n (k + 1))
  rw [pw_add,Int.natCast_mul]
  exact Int.mul_le_mul a b (by omega) (Int.le_of_lt (pw_pos _))
theorem Pvt.szr {n N:Nat} {A T:Nat→Nat→Rat} {b:Nat→Nat} (h:Pvt n A T b) (hb:∀ i,i < n→b i < N) (hi:∀ i j,i < n→j < n→b i = b j→i = j) {s:Nat→Nat→Nat} (hs:∀ r,r < n→∀ c,c < N→A c r = 0∧s c r = 0∨1≤s c r∧SzR (A c r) (s c r - 1)) {c i:Nat} (hc:c < N) (hn:i < n) :
  SzR (T c i) (rws (fun r=>totB (fun c=>s c r) N) n 0 + 1):=by
 have a:=h.hgt hb hi hc hn
 have p:=pds_pw (M:=fun r=>hpr (fun c=>A c r) N) (s:=fun r=>totB (fun c=>s c r) N) n 0 fun r _ hr=>hpr_pw N fun c hc=>hs r (by omega) c hc
 have:=pw_succ (rws (fun r=>totB (fun c=>s c r) N) n 0)
 have:=pw_pos (rws (fun r=>totB (fun c=>s c r) N) n 0)
 exact ⟨by omega,by omega⟩
theorem Pvt.unit {n:Nat} {A T:Nat→Nat→Rat} {b:Nat→Nat} (h:Pvt n A T b) {i j:Nat} (hi:i < n) (hj:j < n):T (b j) i = if i = j then 1 else 0:=by
 have e:=cramer (n:=n) (k:=0) (C:=fun i=>A (b i)) (x:=fun i=>T (b j) i) (v:=A (b j)) hi fun r _ hr=>h.comb (b j) r (by omega)
 by_cases hij:i = j
 ·subst hij
  rw [if_pos rfl]
  rw [show A (b i) = (fun i=>A (b i)) i from rfl,stc_self] at e
  have e2:(T (b i) i - 1) * dtm n 0 (fun i=>A (b i)) = 0:=by grind
  rcases Rat.mul_eq_zero.1 e2 with h1 | h1
  ·grind
  ·exact absurd h1 h.ne
 ·rw [if_neg hij]
  have z:dtm n 0 (stc (fun i=>A (b i)) i (A (b j))) = 0:=by
   rcases Nat.lt_or_gt_of_ne hij with h2 | h2
   ·exact alt_all n 0 _ i j h2 (by omega) (by simp [stc])
   ·exact alt_all n 0 _ j i h2 (by omega) (by simp [stc])
  rw [z] at e
  rcases Rat.mul_eq_zero.1 e.symm with h1 | h1
  ·exact h1
  ·exact absurd h1 h.ne
theorem Pvt.inj {n:Nat} {A T:Nat→Nat→Rat} {b:Nat→Nat} (h:Pvt n A T b) {i j:Nat} (hi:i < n) (hj:j < n) (e:b i = b j):i = j:=by
 have a:=h.unit hi hj
 have c:=h.unit hi hi
 rw [if_pos rfl] at c
 rw [← e,c] at a
 by_cases hij:i = j
 ·exact hij
 ·rw [if_neg hij] at a
  exact absurd a (by decide)
theorem Pvt.common {n N:Nat} {A T:Nat→Nat→Rat} {b:Nat→Nat} (h:Pvt n A T b) (hb:∀ i,i < n→b i < N):∃ z:Int,z ≠ 0∧z.natAbs≤pds (fun r=>hpr (fun c=>A c r) N) n 0∧∀ c,c < N→∀ i,i < n→∃ y:Int,T c i * (z:Rat) = y∧y.natAbs≤pds (fun r=>hpr (fun c=>A c r) N) n 0:=by
 have hd:∀ r,dnp (fun c=>A c r) N ≠ 0:=fun r=>dnp_ne _ _
 have W:∀ s:Nat→Nat,(∀ i,i < n→s i < N)→(∀ i j,i < n→j < n→s i = s j→i = j)→∃ z:Int,(pds (fun r=>dnp (fun c=>A c r) N) n 0:Rat) * dtm n 0 (fun i=>A (s i)) = z∧z.natAbs≤pds (fun r=>hpr (fun c=>A c r) N) n 0:=fun s h1 h2=>by
  obtain ⟨z,e1,e2⟩:=dtm_bd n 0 (fun i r=>Classical.choose (row_whole (fun c=>A c r) N) (s i)) (fun r=>hpr (fun c=>A c r) N) fun r _ hr=>Nat.le_trans (totB_inj n (fun c=>(Classical.choose (row_whole (fun c=>A c r) N) c).natAbs) h1 h2) (Classical.choose_spec (row_whole (fun c=>A c r) N)).2
  refine ⟨z,?_,e2⟩
  rw [← dtm_scale,← e1]
  exact dtm_congr n 0 fun j hj r _ hr=>(Classical.choose_spec (row_whole (fun c=>A c r) N)).1 (s j) (h1 j hj)
 have hi:∀ i j,i < n→j < n→b i = b j→i = j:=fun i j h1 h2 e=>h.inj h1 h2 e
 obtain ⟨z,e1,b1⟩:=W b hb hi
 have hp:(pds (fun r=>dnp (fun c=>A c r) N) n 0:Rat) ≠ 0:=by
  have:=pds_ne (d:=fun r=>dnp (fun c=>A c r) N) n 0 fun r _ hr=>hd r
  exact_mod_cast this
 refine ⟨z,fun h0=>?_,b1,fun c hc i hn=>?_⟩
 ·rw [h0] at e1
  rcases Rat.mul_eq_zero.1 e1 with h1 | h1
  ·exact hp h1
  ·exact h.ne h1
 by_cases hcb:∃ j,j < n∧b j = c
 ·obtain ⟨j,hj,rfl⟩:=hcb
  rw [h.unit hn hj]
  by_cases hij:i = j
  ·exact ⟨z,by rw [if_pos hij,Rat.one_mul],b1⟩
  ·exact ⟨0,by rw [if_neg hij,Rat.zero_mul];rfl,Nat.zero_le _⟩
 ·have e:=cramer (n:=n) (k:=0) (C:=fun i=>A (b i)) (x:=fun i=>T c i) (v:=A c) hn fun r _ hr=>h.comb c r (by omega)
  obtain ⟨y,e2,b2⟩:=W (fun j=>if j = i then c else b j) (fun j hj=>by split;exact hc;exact hb j hj) (fun j k hj hk ee=>by
   by_cases h1:j = i
   ·by_cases h2:k = i
    ·omega
    ·rw [if_pos h1,if_neg h2] at ee
     exact absurd ⟨k,hk,ee.symm⟩ hcb
   ·by_cases h2:k = i
    ·rw [if_neg h1,if_pos h2] at ee
     exact absurd ⟨j,hj,ee⟩ hcb
    ·rw [if_neg h1,if_neg h2] at ee
     exact hi j k hj hk ee)
  have e3:(fun j=>A (if j = i then c else b j)) = stc (fun i=>A (b i)) i (A c):=by
   funext j
   simp only [stc]
   split <;> rfl
  rw [e3,e] at e2
  exact ⟨y,by rw [← e1,← e2];generalize dtm n 0 (fun i=>A (b i)) = u;generalize (pds (fun r=>dnp (fun c=>A c r) N) n 0:Rat) = v;grind,b2⟩
def Rise (l:List (Nat × Rat)):Prop:=∀ (i j:Nat) (e f:Nat × Rat),l[i]? = some e→l[j]? = some f→i < j→e.1 < f.1
def lat (l:List (Nat × Rat)) (c:Nat):Rat:=match l.find? (fun e=>e.1 == c) with
 | some e=>e.2
 | none=>0
theorem lat_at {l:List (Nat × Rat)} (h:Rise l) {i:Nat} {e:Nat × Rat} (he:l[i]? = some e):lat l e.1 = e.2:=by
 unfold lat
 cases hf:l.find? (fun x=>x.1 == e.1) with
 | none =>
  have:=List.find?_eq_none.1 hf e (List.mem_of_getElem? he)
  simp at this
 | some x =>
  have h1:=List.find?_some hf
  obtain ⟨j,hj⟩:=List.getElem?_of_mem (List.mem_of_find?_eq_some hf)
  simp only [beq_iff_eq] at h1
  rcases Nat.lt_trichotomy i j with c | c | c
  ·have:=h i j e x he hj c;omega
  ·subst c;rw [he] at hj;cases hj;rfl
  ·have:=h j i x e hj he c;omega
theorem lat_none {l:List (Nat × Rat)} {c:Nat} (h:∀ (i:Nat) (e:Nat × Rat),l[i]? = some e→e.1 ≠ c):lat l c = 0:=by
 unfold lat
 rw [List.find?_eq_none.2 (fun x hx=>by
  obtain ⟨j,hj⟩:=List.getElem?_of_mem hx
  simpa using h j x hj)]
def lwith (l:List (Nat × Rat)) (c:Nat) (r:Rat):List (Nat × Rat):=if r = 0 then l else l ++ [(c,r)]
theorem lat_nil (c:Nat):lat [] c = 0:=rfl
theorem lat_cons (e:Nat × Rat) (l:List (Nat × Rat)) (c:Nat):lat (e :: l) c = if e.1 = c then e.2 else lat l c:=by
 unfold lat
 rw [List.find?_cons]
 by_cases h:e.1 = c
 ·rw [if_pos h]
  simp [h]
 ·rw [if_neg h]
  have:(e.1 == c) = false:=by simpa using h
  rw [this]
def Blw (l:List (Nat × Rat)) (c:Nat):Prop:=∀ e ∈ l,e.1 < c
theorem Blw.lat {l:List (Nat × Rat)} {c d:Nat} (h:Blw l c) (hd:c≤d):lat l d = 0:=lat_none fun i e he=>by
 have:=h e (List.mem_of_getElem? he)
 omega
theorem lat_snoc {l:List (Nat × Rat)} {c:Nat} (h:Blw l c) (r:Rat) (d:Nat):lat (l ++ [(c,r)]) d = if c = d then r else lat l d:=by
 induction l with
 | nil=>rw [List.nil_append,lat_cons]
 | cons e l ih =>
  have h1:=h e (by simp)
  rw [List.cons_append,lat_cons,lat_cons,ih fun x hx=>h x (by simp [hx])]
  by_cases hd:c = d
  ·rw [if_pos hd,if_pos hd,if_neg (by omega)]
  ·rw [if_neg hd,if_neg hd]
theorem lat_lwith {l:List (Nat × Rat)} {c:Nat} (h:Blw l c) (r:Rat) (d:Nat):lat (lwith l c r) d = if c = d then r else lat l d:=by
 unfold lwith
 by_cases hr:r = 0
 ·rw [if_pos hr]
  by_cases hd:c = d
  ·rw [if_pos hd,hr,h.lat (by omega)]
  ·rw [if_neg hd]
 ·rw [if_neg hr,lat_snoc h]
theorem Blw.lwith {l:List (Nat × Rat)} {c d:Nat} (h:Blw l c) (r:Rat) (hd:c < d):Blw (lwith l c r) d:=fun e he=>by
 unfold Go.Proofs.YtjiodidemimgmaaGreatDoor.lwith at he
 split at he
 ·have:=h e he
  omega
 ·rcases List.mem_append.1 he with h1 | h1
  ·have:=h e h1
   omega
  ·rw [List.mem_singleton.1 h1]
   exact hd
theorem Blw.snoc {l:List (Nat × Rat)} {c d:Nat} (h:Blw l c) (r:Rat) (hd:c < d):Blw (l ++ [(c,r)]) d:=fun e he=>by
 rcases List.mem_append.1 he with h1 | h1
 ·have:=h e h1
  omega
 ·rw [List.mem_singleton.1 h1]
  exact hd
theorem rise_snoc {l:List (Nat × Rat)} {c:Nat} (hl:Rise l) (h:Blw l c) (r:Rat):Rise (l ++ [(c,r)]):=fun i j e f he hf hij=>by
 rw [List.getElem?_append] at he hf
 by_cases hj:j < l.length
 ·rw [if_pos hj] at hf
  rw [if_pos (by omega)] at he
  exact hl i j e f he hf hij
 ·rw [if_neg hj] at hf
  have hj2:j - l.length = 0:=by
   rcases Nat.eq_zero_or_pos (j - l.length) with h0 | h0
   ·exact h0
   ·rw [List.getElem?_eq_none (by simp;omega)] at hf
    cases hf
  rw [hj2] at hf
  obtain rfl:(c,r) = f:=by simpa using hf
  rw [if_pos (by omega)] at he
  exact h e (List.mem_of_getElem? he)
theorem rise_lwith {l:List (Nat × Rat)} {c:Nat} (hl:Rise l) (h:Blw l c) (r:Rat):Rise (lwith l c r):=by
 unfold lwith
 split
 ·exact hl
 ·exact rise_snoc hl h r
theorem Rise.tail {e:Nat × Rat} {l:List (Nat × Rat)} (h:Rise (e :: l)):Rise l:=fun i j x y hx hy hij=>h (i + 1) (j + 1) x y (by simpa using hx) (by simpa using hy) (by omega)
theorem Rise.head {e:Nat × Rat} {l:List (Nat × Rat)} (h:Rise (e :: l)) {x:Nat × Rat} (hx:x ∈ l):e.1 < x.1:=by
 obtain ⟨j,hj⟩:=List.getElem?_of_mem hx
 exact h 0 (j + 1) e x rfl (by simpa using hj) (by omega)
theorem Rise.lat_le {e:Nat × Rat} {l:List (Nat × Rat)} (h:Rise (e :: l)) {c:Nat} (hc:c≤e.1):lat l c = 0:=lat_none fun i x hx=>by
 have:=h.head (List.mem_of_getElem? hx)
 omega
structure Mrg (t:Rat) (W:Nat→Rat) (acc l o:List (Nat × Rat)):Prop where
 ra:Rise acc
 rl:Rise l
 ro:Rise o
 al:∀ e ∈ l,Blw acc e.1
 ao:∀ e ∈ o,Blw acc e.1
 eq:∀ c,lat acc c + lat l c - t * lat o c = W c
theorem Mrg.start {t:Rat} {l o:List (Nat × Rat)} (hl:Rise l) (ho:Rise o):Mrg t (fun c=>lat l c - t * lat o c) [] l o :=
 ⟨fun _ _ _ _ h=>by simp at h,hl,ho,fun _ _ _ h=>by simp at h,fun _ _ _ h=>by simp at h,fun c=>by rw [lat_nil,Rat.zero_add]⟩
theorem Mrg.done {t:Rat} {W:Nat→Rat} {acc:List (Nat × Rat)} (h:Mrg t W acc [] []):Rise acc∧∀ c,lat acc c = W c :=
 ⟨h.ra,fun c=>by have:=h.eq c;rw [lat_nil,Rat.mul_zero,Rat.add_zero] at this;grind⟩
theorem Mrg.left {t:Rat} {W:Nat→Rat} {acc l o:List (Nat × Rat)} {e:Nat × Rat} (h:Mrg t W acc (e :: l) o) (hlt:∀ f ∈ o,e.1 < f.1):Mrg t W (acc ++ [(e.1,e.2)]) l o:=by
 have hb:=h.al e (by simp)
 refine ⟨rise_snoc h.ra hb _,h.rl.tail,h.ro,fun f hf=>hb.snoc _ (h.rl.head hf),fun f hf=>hb.snoc _ (hlt f hf),fun c=>?_⟩
 have:=h.eq c
 rw [lat_cons] at this
 rw [lat_snoc hb]
 by_cases hc:e.1 = c
 ·rw [if_pos hc] at this ⊢
  rw [hb.lat (by omega)] at this
  rw [h.rl.lat_le (by omega)]
  grind
 ·rw [if_neg hc] at this ⊢
  exact this
theorem Mrg.right {t:Rat} {W:Nat→Rat} {acc l o:List (Nat × Rat)} {f:Nat × Rat} (h:Mrg t W acc l (f :: o)) (hlt:∀ e ∈ l,f.1 < e.1):Mrg t W (lwith acc f.1 (0 - f.2 * t)) l o:=by
 have hb:=h.ao f (by simp)
 refine ⟨rise_lwith h.ra hb _,h.rl,h.ro.tail,fun e he=>hb.lwith _ (hlt e he),fun e he=>hb.lwith _ (h.ro.head he),fun c=>?_⟩
 have:=h.eq c
 rw [lat_cons] at this
 rw [lat_lwith hb]
 by_cases hc:f.1 = c
 ·rw [if_pos hc] at this ⊢
  rw [hb.lat (by omega)] at this
  rw [h.ro.lat_le (by omega)]
  grind
 ·rw [if_neg hc] at this ⊢
  exact this
theorem Mrg.both {t:Rat} {W:Nat→Rat} {acc l o:List (Nat × Rat)} {e f:Nat × Rat} (h:Mrg t W acc (e :: l) (f :: o)) (he:e.1 = f.1):Mrg t W (lwith acc e.1 (e.2 - f.2 * t)) l o:=by
 have hb:=h.al e (by simp)
 refine ⟨rise_lwith h.ra hb _,h.rl.tail,h.ro.tail,fun x hx=>hb.lwith _ (h.rl.head hx),fun x hx=>hb.lwith _ (by rw [he];exact h.ro.head hx),fun c=>?_⟩
 have:=h.eq c
 rw [lat_cons,lat_cons] at this
 rw [lat_lwith hb]
 by_cases hc:e.1 = c
 ·rw [if_pos hc,if_pos (by omega)] at this
  rw [if_pos hc]
  rw [hb.lat (by omega)] at this
  rw [h.rl.lat_le (by omega),h.ro.lat_le (by omega)]
  grind
 ·rw [if_neg hc,if_neg (by omega)] at this
  rw [if_neg hc]
  exact this
def ltim (l:List (Nat × Rat)) (f:Rat):List (Nat × Rat):=l.map fun e=>(e.1,e.2 * f)
theorem lat_ltim (l:List (Nat × Rat)) (f:Rat) (c:Nat):lat (ltim l f) c = lat l c * f:=by
 induction l with
 | nil=>rw [show ltim [] f = [] from rfl,lat_nil,Rat.zero_mul]
 | cons e l ih =>
  rw [show ltim (e :: l) f = (e.1,e.2 * f) :: ltim l f from rfl,lat_cons,lat_cons,ih]
  split <;> rfl
theorem rise_ltim {l:List (Nat × Rat)} (h:Rise l) (f:Rat):Rise (ltim l f):=fun i j x y hx hy hij=>by
 unfold ltim at hx hy
 rw [List.getElem?_map] at hx hy
 obtain ⟨x',h1,rfl⟩:=Option.map_eq_some_iff.1 hx
 obtain ⟨y',h2,rfl⟩:=Option.map_eq_some_iff.1 hy
 exact h i j x' y' h1 h2 hij
def EnC (w:World) (cs:List Value) (e:Nat × Rat) (S:Nat):Prop:=∃ p a na ca d nd cd,cs = [.int .i64 (e.1:Nat),.bool p,.slice a na ca,.slice d nd cd]∧GR w 0 p a na ca d nd cd e.2 S
def LnE (w:World) (B:Nat) (v:Value) (l:List (Nat × Rat)) (S:Nat):Prop:=∃ E,SL w B 97 4 v l.length E∧∀ (i:Nat) (e:Nat × Rat),l[i]? = some e→EnC w (E i) e S
theorem EnC.below {w w':World} {cs:List Value} {e:Nat × Rat} {S:Nat} (h:EnC w cs e S) (hb:Below w.heap.size w w'):EnC w' cs e S:=by
 obtain ⟨p,a,na,ca,d,nd,cd,e1,g⟩:=h
 exact ⟨p,a,na,ca,d,nd,cd,e1,g.below hb⟩
theorem EnC.keep {w w':World} {cs:List Value} {e:Nat × Rat} {S:Nat} (h:EnC w cs e S) {row:Option Nat} (hn:NoW w row) (hg:w.grownBy w' row):EnC w' cs e S:=by
 obtain ⟨p,a,na,ca,d,nd,cd,e1,g⟩:=h
 exact ⟨p,a,na,ca,d,nd,cd,e1,g.keep hn hg⟩
theorem EnC.le {w:World} {cs:List Value} {e:Nat × Rat} {S S':Nat} (h:EnC w cs e S) (hS:S≤S'):EnC w cs e S':=by
 obtain ⟨p,a,na,ca,d,nd,cd,e1,g⟩:=h
 exact ⟨p,a,na,ca,d,nd,cd,e1,g.le hS⟩
theorem LnE.nil (w:World) (B S:Nat):LnE w B (.slice none 0 0) [] S:=⟨fun _=>[],SL.nil _ _ _ _ _,fun i e h=>by simp at h⟩
theorem LnE.below {w w':World} {B:Nat} {v:Value} {l:List (Nat × Rat)} {S:Nat} (h:LnE w B v l S) (hb:Below w.heap.size w w'):LnE w' B v l S:=by
 obtain ⟨E,h1,h2⟩:=h
 exact ⟨E,h1.below hb,fun i e he=>(h2 i e he).below hb⟩
theorem LnE.mono {w:World} {B B':Nat} {v:Value} {l:List (Nat × Rat)} {S:Nat} (h:LnE w B v l S) (hB:B'≤B):LnE w B' v l S:=by
 obtain ⟨E,h1,h2⟩:=h
 exact ⟨E,h1.mono hB,h2⟩
theorem LnE.le {w:World} {B:Nat} {v:Value} {l:List (Nat × Rat)} {S S':Nat} (h:LnE w B v l S) (hS:S≤S'):LnE w B v l S':=by
 obtain ⟨E,h1,h2⟩:=h
 exact ⟨E,h1,fun i e he=>(h2 i e he).le hS⟩
theorem LnE.form {w:World} {B:Nat} {v:Value} {l:List (Nat × Rat)} {S:Nat} (h:LnE w B v l S):∃ a cap,v = .slice a l.length cap∧l.length≤cap:=by
 obtain ⟨E,h1,h2⟩:=h
 exact h1.form
theorem LnE.lt {w:World} {B:Nat} {v:Value} {l:List (Nat × Rat)} {S:Nat} (h:LnE w B v l S):∀ k,v.ownBlock = some k→B≤k∧k < w.heap.size:=by
 obtain ⟨E,h1,h2⟩:=h
 exact h1.lt
theorem LnE.typ {w:World} {B:Nat} {v:Value} {l:List (Nat × Rat)} {S:Nat} (h:LnE w B v l S) {g:Nat} (hg:v.ownBlock = some g):∃ cur,w.heap[g]? = some (.cells cur 97 (0,0)):=by
 obtain ⟨E,h1,h2⟩:=h
 exact h1.typ hg
theorem LnE.get {w:World} {B:Nat} {a:Option Addr} {n cap:Nat} {l:List (Nat × Rat)} {S:Nat} (h:LnE w B (.slice a n cap) l S) {i:Nat} {e:Nat × Rat} (he:l[i]? = some e):∃ g p b nb cb d nd cd,a = some ⟨g,0,none⟩∧w.cell? ⟨g,i * 4,none⟩ = some (.int .i64 (e.1:Nat))∧w.cell? ⟨g,i * 4 + 1,none⟩ = some (.bool p)∧w.cell? ⟨g,i * 4 + 2,none⟩ = some (.slice b nb cb)∧w.cell? ⟨g,i * 4 + 3,none⟩ = some (.slice d nd cd)∧GR w 0 p b nb cb d nd cd e.2 S:=by
 obtain ⟨E,h1,h2⟩:=h
 have hi:i < l.length:=(List.getElem?_eq_some_iff.1 he).1
 rcases h1.cell with h0 | ⟨g,ea,hc⟩
 ·omega
 ·obtain ⟨p,b,nb,cb,d,nd,cd,e1,g1⟩:=h2 i e he
  have hk:=hc i hi
  rw [e1] at hk
  exact ⟨g,p,b,nb,cb,d,nd,cd,ea,by simpa using hk 0 _ rfl,hk 1 _ rfl,hk 2 _ rfl,hk 3 _ rfl,g1⟩
theorem LnE.snoc {w:World} {B:Nat} {v:Value} {l:List (Nat × Rat)} {S m:Nat} {E:Nat→List Value} {cs:List Value} {e:Nat × Rat} (hm:m = l.length) (h:SL w B 97 4 v (m + 1) (fun i=>if i < m then E i else cs)) (hE:∀ (i:Nat) (e:Nat × Rat),l[i]? = some e→EnC w (E i) e S) (hc:EnC w cs e S):LnE w B v (l ++ [e]) S:=by
 subst hm
 refine ⟨_,by rw [List.length_append];exact h,fun i t ht=>?_⟩
 by_cases hi:i < l.length
 ·rw [List.getElem?_append_left hi] at ht
  simp only [hi,if_true]
  exact hE i t ht
 ·rw [List.getElem?_append_right (by omega)] at ht
  have:=(List.getElem?_eq_some_iff.1 ht).1
  have e0:i - l.length = 0:=by simp at this;omega
  rw [e0] at ht
  simp at ht
  subst ht
  simp only [hi,if_false]
  exact hc
def latI (l:List (Nat × Rat)) (k:Int):Rat:=if 0≤k then lat l k.toNat else 0
theorem latI_nat (l:List (Nat × Rat)) (k:Nat):latI l (k:Int) = lat l k:=by
 unfold latI
 rw [if_pos (by omega),Int.toNat_natCast]
theorem latI_at {l:List (Nat × Rat)} (h:Rise l) {i:Nat} {e:Nat × Rat} (he:l[i]? = some e) {k:Int} (hk:(e.1:Int) = k):latI l k = e.2:=by
 subst hk
 rw [latI_nat]
 exact lat_at h he
theorem latI_none {l:List (Nat × Rat)} {k:Int} (h:∀ (i:Nat) (e:Nat × Rat),l[i]? = some e→(e.1:Int) ≠ k):latI l k = 0:=by
 unfold latI
 split
 ·exact lat_none fun i e he=>by have:=h i e he;omega
 ·rfl
theorem TR.zero (w:World) (S:Nat):TR w false none 0 0 none 0 0 0 S:=⟨0,0,((GI.nil w 0).le (Nat.zero_le S)).ti,((Got.nil w 0).le (Nat.zero_le S)).num,by simp⟩
def NZ (w:World) (p:Bool) (a:Option Addr) (na ca:Nat) (d:Option Addr) (nd cd:Nat) (r:Rat) (S:Nat):Prop:=(p = false∧a = none∧na = 0∧ca = 0∧d = none∧nd = 0∧cd = 0∧r = 0)∨GR w 0 p a na ca d nd cd r S
section
variable {w w':World} {p:Bool} {a:Option Addr} {na ca:Nat} {d:Option Addr} {nd cd:Nat} {r:Rat} {S:Nat}
theorem NZ.zero (w:World) (S:Nat):NZ w false none 0 0 none 0 0 0 S:=.inl ⟨rfl,rfl,rfl,rfl,rfl,rfl,rfl,rfl⟩
theorem NZ.tr (h:NZ w p a na ca d nd cd r S):TR w p a na ca d nd cd r S:=by
 rcases h with ⟨rfl,rfl,rfl,rfl,rfl,rfl,rfl,rfl⟩ | h
 ·exact TR.zero _ _
 ·exact h.tr
theorem NZ.below (h:NZ w p a na ca d nd cd r S) (hb:Below w.heap.size w w'):NZ w' p a na ca d nd cd r S:=h.imp id fun h=>h.below hb
theorem NZ.kf {C C':Nat→Prop} (h:NZ w p a na ca d nd cd r S) (hk:KF C C' w w') (hn:NoU w C):NZ w' p a na ca d nd cd r S:=h.imp id fun h=>h.kf hk hn
end
theorem LnE.put {w:World} {B g n cap:Nat} {l:List (Nat × Rat)} {S i:Nat} {e:Nat × Rat} (h:LnE w B (.slice (some ⟨g,0,none⟩) n cap) l S) (he:l[i]? = some e) {p:Bool} {a:Option Addr} {na ca:Nat} {d:Option Addr} {nd cd:Nat} {r:Rat} (G:GR w 0 p a na ca d nd cd r S) :
  LnE (((w.setCell ⟨g,i * 4 + 1,none⟩ (.bool p)).setCell ⟨g,i * 4 + 2,none⟩ (.slice a na ca)).setCell ⟨g,i * 4 + 3,none⟩ (.slice d nd cd)) B (.slice (some ⟨g,0,none⟩) n cap) (l.set i (e.1,r)) S∧Off g w (((w.setCell ⟨g,i * 4 + 1,none⟩ (.bool p)).setCell ⟨g,i * 4 + 2,none⟩ (.slice a na ca)).setCell ⟨g,i * 4 + 3,none⟩ (.slice d nd cd)):=by
 have hO:Off g w (((w.setCell ⟨g,i * 4 + 1,none⟩ (.bool p)).setCell ⟨g,i * 4 + 2,none⟩ (.slice a na ca)).setCell ⟨g,i * 4 + 3,none⟩ (.slice d nd cd)):=(((Off.refl _ _).set _ _).set _ _).set _ _
 refine ⟨?_,hO⟩
 obtain ⟨E,h1,h2⟩:=h
 obtain ⟨a',c',e1,_⟩:=h1.form
 simp only [Value.slice.injEq] at e1
 obtain ⟨_,rfl,_⟩:=e1
 have hi:i < l.length:=(List.getElem?_eq_some_iff.1 he).1
 obtain ⟨p0,a0,n0,c0,d0,m0,e0,ecs,_⟩:=h2 i e he
 have hn:NoW w (some g):=h1.noW (show 97 ≠ 85 by decide)
 let E1:Nat→List Value:=fun q=>if q = i then [.int .i64 (e.1:Nat),.bool p,.slice a0 n0 c0,.slice d0 m0 e0] else E q
 let E2:Nat→List Value:=fun q=>if q = i then [.int .i64 (e.1:Nat),.bool p,.slice a na ca,.slice d0 m0 e0] else E q
 let E3:Nat→List Value:=fun q=>if q = i then [.int .i64 (e.1:Nat),.bool p,.slice a na ca,.slice d nd cd] else E q
 have s1:=h1.put (E':=E1) (i:=i) (o:=1) (v:=.bool p) hi (by decide) (fun q _ hq=>if_neg hq) (fun j u hu=>by
  have hu':[Value.int .i64 (e.1:Nat),.bool p,.slice a0 n0 c0,.slice d0 m0 e0][j]? = some u:=by simpa [E1] using hu
  rw [ecs]
  rcases j with _ | _ | _ | _ | j <;> simp at hu' ⊢ <;> first | exact hu' | exact hu'.symm)
 have s2:=s1.put (E':=E2) (i:=i) (o:=2) (v:=.slice a na ca) hi (by decide) (fun q _ hq=>by simp [E1,E2,hq]) (fun j u hu=>by
  have hu':[Value.int .i64 (e.1:Nat),.bool p,.slice a na ca,.slice d0 m0 e0][j]? = some u:=by simpa [E2] using hu
  simp only [E1,if_true]
  rcases j with _ | _ | _ | _ | j <;> simp at hu' ⊢ <;> first | exact hu' | exact hu'.symm)
 have s3:=s2.put (E':=E3) (i:=i) (o:=3) (v:=.slice d nd cd) hi (by decide) (fun q _ hq=>by simp [E2,E3,hq]) (fun j u hu=>by
  have hu':[Value.int .i64 (e.1:Nat),.bool p,.slice a na ca,.slice d nd cd][j]? = some u:=by simpa [E3] using hu
  simp only [E2,if_true]
  rcases j with _ | _ | _ | _ | j <;> simp at hu' ⊢ <;> first | exact hu' | exact hu'.symm)
 refine ⟨E3,by rw [List.length_set];exact s3,fun q x hx=>?_⟩
 by_cases hq:q = i
 ·subst hq
  rw [List.getElem?_set_self hi] at hx
  cases hx
  exact ⟨p,a,na,ca,d,nd,cd,by simp [E3],G.keep hn hO.grown⟩
 ·rw [List.getElem?_set_ne (Ne.symm hq)] at hx
  simp only [E3,hq,if_false]
  exact (h2 q x hx).keep hn hO.grown
def LnS (w:World) (a:Option Addr) (l:List (Nat × Rat)) (S:Nat):Prop:=l = []∨∃ g o,a = some ⟨g,o,none⟩∧∀ (i:Nat) (e:Nat × Rat),l[i]? = some e→∃ p b nb cb d nd cd,w.cell? ⟨g,o + i * 4,none⟩ = some (.int .i64 (e.1:Nat))∧w.cell? ⟨g,o + i * 4 + 1,none⟩ = some (.bool p)∧w.cell? ⟨g,o + i * 4 + 2,none⟩ = some (.slice b nb cb)∧w.cell? ⟨g,o + i * 4 + 3,none⟩ = some (.slice d nd cd)∧GR w 0 p b nb cb d nd cd e.2 S
theorem LnE.rest {w:World} {B:Nat} {a:Option Addr} {n cap:Nat} {l:List (Nat × Rat)} {S:Nat} (h:LnE w B (.slice a n cap) l S):LnS w a l S:=by
 rcases l with _ | ⟨x,l⟩
 ·exact .inl rfl
 ·obtain ⟨g,_,_,_,_,_,_,_,ea,_⟩:=h.get (i:=0) (e:=x) rfl
  refine .inr ⟨g,0,ea,fun i e he=>?_⟩
  obtain ⟨g',p,b,nb,cb,d,nd,cd,ea',y0,y1,y2,y3,G⟩:=h.get he
  rw [ea] at ea'
  simp only [Option.some.injEq,Addr.mk.injEq,and_true] at ea'
  subst ea'
  exact ⟨p,b,nb,cb,d,nd,cd,by rw [Nat.zero_add];exact y0,by rw [Nat.zero_add];exact y1,by rw [Nat.zero_add];exact y2,by rw [Nat.zero_add];exact y3,G⟩
theorem LnS.below {w w':World} {a:Option Addr} {l:List (Nat × Rat)} {S:Nat} (h:LnS w a l S) (hb:Below w.heap.size w w'):LnS w' a l S:=by
 rcases h with h | ⟨g,o,ea,h⟩
 ·exact .inl h
 ·refine .inr ⟨g,o,ea,fun i e he=>?_⟩
  obtain ⟨p,b,nb,cb,d,nd,cd,y0,y1,y2,y3,G⟩:=h i e he
  exact ⟨p,b,nb,cb,d,nd,cd,kept_c hb y0,kept_c hb y1,kept_c hb y2,kept_c hb y3,G.below hb⟩
theorem LnS.uncons {w:World} {a:Option Addr} {e:Nat × Rat} {l:List (Nat × Rat)} {S:Nat} (h:LnS w a (e :: l) S):∃ g o p b nb cb d nd cd,a = some ⟨g,o,none⟩∧w.cell? ⟨g,o,none⟩ = some (.int .i64 (e.1:Nat))∧w.cell? ⟨g,o + 1,none⟩ = some (.bool p)∧w.cell? ⟨g,o + 2,none⟩ = some (.slice b nb cb)∧w.cell? ⟨g,o + 3,none⟩ = some (.slice d nd cd)∧GR w 0 p b nb cb d nd cd e.2 S∧LnS w (some ⟨g,o + 4,none⟩) l S:=by
 rcases h with h | ⟨g,o,ea,h⟩
 ·cases h
 ·obtain ⟨p,b,nb,cb,d,nd,cd,y0,y1,y2,y3,G⟩:=h 0 e rfl
  simp only [Nat.zero_mul,Nat.add_zero] at y0 y1 y2 y3
  refine ⟨g,o,p,b,nb,cb,d,nd,cd,ea,y0,y1,y2,y3,G,.inr ⟨g,o + 4,rfl,fun i x hx=>?_⟩⟩
  obtain ⟨p,b,nb,cb,d,nd,cd,y0,y1,y2,y3,G⟩:=h (i + 1) x (by simpa using hx)
  have e4:o + (i + 1) * 4 = o + 4 + i * 4:=by omega
  rw [e4] at y0 y1 y2 y3
  exact ⟨p,b,nb,cb,d,nd,cd,y0,y1,y2,y3,G⟩
end Go.Proofs.YtjiodidemimgmaaGreatDoor
