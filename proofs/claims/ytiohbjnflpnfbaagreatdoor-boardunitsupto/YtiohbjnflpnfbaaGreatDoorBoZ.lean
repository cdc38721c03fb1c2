import Derived.Test.YtiohbjnflpnfbaaGreatDoorBoXAll
namespace Go.Proofs.YtiohbjnflpnfbaaGreatDoor
open Go.RowKit
def WdP (w:World) (e:Ending) (w':World):Prop:=∃ x:Int,e = .returned (.int .i64 x)∧w' = w
set_option maxRecDepth 100000 in
set_option maxHeartbeats 8000000 in
theorem pickB (c n:Int) (hn:n ≠ 0) (w:World):Calls Tryz.prog 44 #[.int .i64 c,.int .i64 n] w fun e w'=>WdP w e w':=by
 have hn2:(n == 0) = false:=by simpa using hn
 by_cases hc:c < 0
 ·go_enter Tryz.func44,Tryz.ntmps44
  go_wp2
  go_ret
  exact ⟨_,rfl,rfl⟩
 ·have hc':0≤c:=by omega
  go_enter Tryz.func44,Tryz.ntmps44
  go_wp2
  go_ret
  exact ⟨_,rfl,rfl⟩
def Wd2 (w:World) (e:Ending) (w':World):Prop:=∃ x y:Int,e = .returned (.tuple #[.int .i64 x,.int .i64 y])∧Below w.heap.size w w'
set_option maxRecDepth 100000 in
set_option maxHeartbeats 8000000 in
theorem placesB {kd oi oj:Int} {rw:Bool} {ca:Option Addr} {cn cc:Nat} (m n:Int) (w:World):Calls Tryz.prog 13 #[.agg #[.int .i64 kd,.int .i64 oi,.int .i64 oj,.bool rw,.slice ca cn cc],.int .i64 m,.int .i64 n] w fun e w'=>Wd2 w e w':=by
 have BX:=box_new w #[.int .i64 kd,.int .i64 oi,.int .i64 oj,.bool rw,.slice ca cn cc] 46
 have hb0:=bel_d0 w (.cells #[.int .i64 kd,.int .i64 oi,.int .i64 oj,.bool rw,.slice ca cn cc] 46)
 have x3:=BX 3 _ rfl
 by_cases hraw:rw = true∨m = 0∨n = 0
 ·have HP:∀ w',Below w.heap.size w w'→Wd2 w (.returned (.tuple #[.int .i64 oi,.int .i64 oj])) w':=fun w' h=>⟨_,_,rfl,h⟩
  have key:rw = true∨rw = false∧m = 0∨rw = false∧m ≠ 0∧n = 0:=by
   cases rw with
   | true=>exact .inl rfl
   | false =>
    by_cases hm:m = 0
    ·exact .inr (.inl ⟨rfl,hm⟩)
    ·exact .inr (.inr ⟨rfl,hm,by rcases hraw with h | h | h;cases h;exact absurd h hm;exact h⟩)
  clear hraw
  rcases key with rfl | ⟨rfl,rfl⟩ | ⟨rfl,hm,rfl⟩
  ·skip
   go_enter Tryz.func13,Tryz.ntmps13
   go_wp2_with fail
   generalize w.alloc (.cells #[.int .i64 kd,.int .i64 oi,.int .i64 oj,.bool true,.slice ca cn cc] 46) = W0 at *
   have HBX:∀ w',Below W0.heap.size W0 w'→(w'.cell? ⟨w.heap.size,1,none⟩ = some (.int .i64 oi)∧w'.cell? ⟨w.heap.size,2,none⟩ = some (.int .i64 oj)):=fun w' h=>⟨kept_c h (BX 1 _ rfl),kept_c h (BX 2 _ rfl)⟩
   refine wp_region_noPanic (wp_region_guardB HBX (by as_aux_lemma=>kernel_rfl) ?_)
   have hc0:Below W0.heap.size W0 W0.drew:=bel_d1 _
   generalize W0.drew = z0 at *
   refine wpAnyG.tA 0 (v:=.pointer (some ⟨w.heap.size,1,none⟩)) (by decide) 5 (by as_aux_lemma=>kernel_rfl) (by rfl) ?y0 (HBX _ hc0) ?_
   case y0 =>
    rintro w' ⟨q0,q1⟩
    simp only [lgA,lgZ]
    go_simp
   simp only [lgA,lgZ,Act.put,lsA,lsZ,lsS]
   refine wpAnyG.tA 1 (v:=.int .i64 oi) (by decide) 5 (by as_aux_lemma=>kernel_rfl) (by rfl) ?y1 (HBX _ hc0) ?_
   case y1 =>
    rintro w' ⟨q0,q1⟩
    simp only [lgA,lgZ,lgS]
    go_simp
   simp only [lgA,lgZ,lgS,Act.put,lsA,lsZ,lsS]
   refine wpAnyG.tA 2 (v:=.pointer (some ⟨w.heap.size,2,none⟩)) (by decide) 5 (by as_aux_lemma=>kernel_rfl) (by rfl) ?y2 (HBX _ hc0) ?_
   case y2 =>
    rintro w' ⟨q0,q1⟩
    simp only [lgA,lgZ,lgS]
    go_simp
   simp only [lgA,lgZ,lgS,Act.put,lsA,lsZ,lsS]
   refine wpAnyG.tA 3 (v:=.int .i64 oj) (by decide) 5 (by as_aux_lemma=>kernel_rfl) (by rfl) ?y3 (HBX _ hc0) ?_
   case y3 =>
    rintro w' ⟨q0,q1⟩
    simp only [lgA,lgZ,lgS]
    go_simp
   simp only [lgA,lgZ,lgS,Act.put,lsA,lsZ,lsS]
   refine wpAnyG.tA 4 (v:=.int .i64 oi) (by decide) 5 (by as_aux_lemma=>kernel_rfl) (by rfl) ?y4 (HBX _ hc0) ?_
   case y4 =>
    rintro w' ⟨q0,q1⟩
    simp only [lgA,lgZ,lgS]
    go_simp
   simp only [lgA,lgZ,lgS,Act.put,lsA,lsZ,lsS]
   refine wpAnyG.one 5 (by as_aux_lemma=>kernel_rfl) (by decide) (by rfl) (fun K hK=>?_)
   simp only [lgA,lgZ,lgS]
   go_simp
   refine hK _ _ (HBX _ hc0) ?_
   clear hK K
   refine wpAnyG.done (by as_aux_lemma=>kernel_rfl) (NoPanic.normal ?_)
   have HP:=HP _ (bel_tr hb0 hc0)
   clear HBX BX hc0
   go_wp2
   go_ret2
   exact HP
  ·skip
   go_enter Tryz.func13,Tryz.ntmps13
   go_wp2_with fail
   generalize w.alloc (.cells #[.int .i64 kd,.int .i64 oi,.int .i64 oj,.bool false,.slice ca cn cc] 46) = W0 at *
   have HBX:∀ w',Below W0.heap.size W0 w'→(w'.cell? ⟨w.heap.size,1,none⟩ = some (.int .i64 oi)∧w'.cell? ⟨w.heap.size,2,none⟩ = some (.int .i64 oj)):=fun w' h=>⟨kept_c h (BX 1 _ rfl),kept_c h (BX 2 _ rfl)⟩
   refine wp_region_noPanic (wp_region_guardB HBX (by as_aux_lemma=>kernel_rfl) ?_)
   have hc0:Below W0.heap.size W0 W0.drew:=bel_d1 _
   generalize W0.drew = z0 at *
   refine wpAnyG.tA 0 (v:=.pointer (some ⟨w.heap.size,1,none⟩)) (by decide) 5 (by as_aux_lemma=>kernel_rfl) (by rfl) ?y0 (HBX _ hc0) ?_
   case y0 =>
    rintro w' ⟨q0,q1⟩
    simp only [lgA,lgZ]
    go_simp
   simp only [lgA,lgZ,Act.put,lsA,lsZ,lsS]
   refine wpAnyG.tA 1 (v:=.int .i64 oi) (by decide) 5 (by as_aux_lemma=>kernel_rfl) (by rfl) ?y1 (HBX _ hc0) ?_
   case y1 =>
    rintro w' ⟨q0,q1⟩
    simp only [lgA,lgZ,lgS]
    go_simp
   simp only [lgA,lgZ,lgS,Act.put,lsA,lsZ,lsS]
   refine wpAnyG.tA 2 (v:=.pointer (some ⟨w.heap.size,2,none⟩)) (by decide) 5 (by as_aux_lemma=>kernel_rfl) (by rfl) ?y2 (HBX _ hc0) ?_
   case y2 =>
    rintro w' ⟨q0,q1⟩
    simp only [lgA,lgZ,lgS]
    go_simp
   simp only [lgA,lgZ,lgS,Act.put,lsA,lsZ,lsS]
   refine wpAnyG.tA 3 (v:=.int .i64 oj) (by decide) 5 (by as_aux_lemma=>kernel_rfl) (by rfl) ?y3 (HBX _ hc0) ?_
   case y3 =>
    rintro w' ⟨q0,q1⟩
    simp only [lgA,lgZ,lgS]
    go_simp
   simp only [lgA,lgZ,lgS,Act.put,lsA,lsZ,lsS]
   refine wpAnyG.tA 4 (v:=.int .i64 oi) (by decide) 5 (by as_aux_lemma=>kernel_rfl) (by rfl) ?y4 (HBX _ hc0) ?_
   case y4 =>
    rintro w' ⟨q0,q1⟩
    simp only [lgA,lgZ,lgS]
    go_simp
   simp only [lgA,lgZ,lgS,Act.put,lsA,lsZ,lsS]
   refine wpAnyG.one 5 (by as_aux_lemma=>kernel_rfl) (by decide) (by rfl) (fun K hK=>?_)
   simp only [lgA,lgZ,lgS]
   go_simp
   refine hK _ _ (HBX _ hc0) ?_
   clear hK K
   refine wpAnyG.done (by as_aux_lemma=>kernel_rfl) (NoPanic.normal ?_)
   have HP:=HP _ (bel_tr hb0 hc0)
   clear HBX BX hc0
   go_wp2
   go_ret2
   exact HP
  ·skip
   have hm2:(m == 0) = false:=by simpa using hm
   go_enter Tryz.func13,Tryz.ntmps13
   go_wp2_with fail
   generalize w.alloc (.cells #[.int .i64 kd,.int .i64 oi,.int .i64 oj,.bool false,.slice ca cn cc] 46) = W0 at *
   have HBX:∀ w',Below W0.heap.size W0 w'→(w'.cell? ⟨w.heap.size,1,none⟩ = some (.int .i64 oi)∧w'.cell? ⟨w.heap.size,2,none⟩ = some (.int .i64 oj)):=fun w' h=>⟨kept_c h (BX 1 _ rfl),kept_c h (BX 2 _ rfl)⟩
   refine wp_region_noPanic (wp_region_guardB HBX (by as_aux_lemma=>kernel_rfl) ?_)
   have hc0:Below W0.heap.size W0 W0.drew:=bel_d1 _
   generalize W0.drew = z0 at *
   refine wpAnyG.tA 0 (v:=.pointer (some ⟨w.heap.size,1,none⟩)) (by decide) 5 (by as_aux_lemma=>kernel_rfl) (by rfl) ?y0 (HBX _ hc0) ?_
   case y0 =>
    rintro w' ⟨q0,q1⟩
    simp only [lgA,lgZ]
    go_simp
   simp only [lgA,lgZ,Act.put,lsA,lsZ,lsS]
   refine wpAnyG.tA 1 (v:=.int .i64 oi) (by decide) 5 (by as_aux_lemma=>kernel_rfl) (by rfl) ?y1 (HBX _ hc0) ?_
   case y1 =>
    rintro w' ⟨q0,q1⟩
    simp only [lgA,lgZ,lgS]
    go_simp
   simp only [lgA,lgZ,lgS,Act.put,lsA,lsZ,lsS]
   refine wpAnyG.tA 2 (v:=.pointer (some ⟨w.heap.size,2,none⟩)) (by decide) 5 (by as_aux_lemma=>kernel_rfl) (by rfl) ?y2 (HBX _ hc0) ?_
   case y2 =>
    rintro w' ⟨q0,q1⟩
    simp only [lgA,lgZ,lgS]
    go_simp
   simp only [lgA,lgZ,lgS,Act.put,lsA,lsZ,lsS]
   refine wpAnyG.tA 3 (v:=.int .i64 oj) (by decide) 5 (by as_aux_lemma=>kernel_rfl) (by rfl) ?y3 (HBX _ hc0) ?_
   case y3 =>
    rintro w' ⟨q0,q1⟩
    simp only [lgA,lgZ,lgS]
    go_simp
   simp only [lgA,lgZ,lgS,Act.put,lsA,lsZ,lsS]
   refine wpAnyG.tA 4 (v:=.int .i64 oi) (by decide) 5 (by as_aux_lemma=>kernel_rfl) (by rfl) ?y4 (HBX _ hc0) ?_
   case y4 =>
    rintro w' ⟨q0,q1⟩
    simp only [lgA,lgZ,lgS]
    go_simp
   simp only [lgA,lgZ,lgS,Act.put,lsA,lsZ,lsS]
   refine wpAnyG.one 5 (by as_aux_lemma=>kernel_rfl) (by decide) (by rfl) (fun K hK=>?_)
   simp only [lgA,lgZ,lgS]
   go_simp
   refine hK _ _ (HBX _ hc0) ?_
   clear hK K
   refine wpAnyG.done (by as_aux_lemma=>kernel_rfl) (NoPanic.normal ?_)
   have HP:=HP _ (bel_tr hb0 hc0)
   clear HBX BX hc0
   go_wp2
   go_ret2
   exact HP
 ·obtain ⟨h1,hm,hn⟩:rw = false∧m ≠ 0∧n ≠ 0:=⟨by cases rw with | true=>exact absurd (.inl rfl) hraw | false=>rfl,fun e=>hraw (.inr (.inl e)),fun e=>hraw (.inr (.inr e))⟩
  subst h1
  have hm2:(m == 0) = false:=by simpa using hm
  have hn2:(n == 0) = false:=by simpa using hn
  have HP:∀ x y w',Below w.heap.size w w'→Wd2 w (.returned (.tuple #[.int .i64 x,.int .i64 y])) w':=fun x y w' h=>⟨x,y,rfl,h⟩
  clear hraw
  go_enter Tryz.func13,Tryz.ntmps13
  go_wp2_with fail
  generalize w.alloc (.cells #[.int .i64 kd,.int .i64 oi,.int .i64 oj,.bool false,.slice ca cn cc] 46) = W0 at *
  have HBX:∀ w',Below W0.heap.size W0 w'→(w'.cell? ⟨w.heap.size,1,none⟩ = some (.int .i64 oi)∧w'.cell? ⟨w.heap.size,2,none⟩ = some (.int .i64 oj)):=fun w' h=>⟨kept_c h (BX 1 _ rfl),kept_c h (BX 2 _ rfl)⟩
  refine wp_region_noPanic (wp_region_guardB HBX (by as_aux_lemma=>kernel_rfl) ?_)
  have hc0:Below W0.heap.size W0 W0.drew:=bel_d1 _
  generalize W0.drew = z0 at *
  refine wpAnyG.tA 0 (v:=.pointer (some ⟨w.heap.size,1,none⟩)) (by decide) 9 (by as_aux_lemma=>kernel_rfl) (by rfl) ?y0 (HBX _ hc0) ?_
  case y0 =>
   rintro w' ⟨q0,q1⟩
   simp only [lgA,lgZ]
   go_simp
  simp only [lgA,lgZ,Act.put,lsA,lsZ,lsS]
  refine wpAnyG.tA 1 (v:=.int .i64 oi) (by decide) 9 (by as_aux_lemma=>kernel_rfl) (by rfl) ?y1 (HBX _ hc0) ?_
  case y1 =>
   rintro w' ⟨q0,q1⟩
   simp only [lgA,lgZ,lgS]
   go_simp
  simp only [lgA,lgZ,lgS,Act.put,lsA,lsZ,lsS]
  refine wpAnyG.tA 2 (v:=.int .i64 m) (by decide) 9 (by as_aux_lemma=>kernel_rfl) (by rfl) ?y2 (HBX _ hc0) ?_
  case y2 =>
   rintro w' ⟨q0,q1⟩
   simp only [lgA,lgZ,lgS]
   go_simp
  simp only [lgA,lgZ,lgS,Act.put,lsA,lsZ,lsS]
  refine wpAnyG.tA 4 (v:=.pointer (some ⟨w.heap.size,2,none⟩)) (by decide) 9 (by as_aux_lemma=>kernel_rfl) (by rfl) ?y4 (HBX _ hc0) ?_
  case y4 =>
   rintro w' ⟨q0,q1⟩
   simp only [lgA,lgZ,lgS]
   go_simp
  simp only [lgA,lgZ,lgS,Act.put,lsA,lsZ,lsS]
  refine wpAnyG.tA 5 (v:=.int .i64 oj) (by decide) 9 (by as_aux_lemma=>kernel_rfl) (by rfl) ?y5 (HBX _ hc0) ?_
  case y5 =>
   rintro w' ⟨q0,q1⟩
   simp only [lgA,lgZ,lgS]
   go_simp
  simp only [lgA,lgZ,lgS,Act.put,lsA,lsZ,lsS]
  refine wpAnyG.tA 6 (v:=.int .i64 n) (by decide) 9 (by as_aux_lemma=>kernel_rfl) (by rfl) ?y6 (HBX _ hc0) ?_
  case y6 =>
   rintro w' ⟨q0,q1⟩
   simp only [lgA,lgZ,lgS]
   go_simp
  simp only [lgA,lgZ,lgS,Act.put,lsA,lsZ,lsS]
  refine wpAnyG.one 3 (by as_aux_lemma=>kernel_rfl) (by decide) (by rfl) (fun K hK=>?_)
  simp only [lgA,lgZ,lgS]
  go_simp
  refine (pickB oi m hm z0).mono ?_
  rintro e z1 ⟨x1,rfl,rfl⟩
  have hc1:=hc0
  dsimp only
  refine hK _ _ (HBX _ hc1) ?_
  clear hK K
  refine wpAnyG.one 7 (by as_aux_lemma=>kernel_rfl) (by decide) (by rfl) (fun K hK=>?_)
  simp only [lgA,lgZ,lgS]
  go_simp
  refine (pickB oj n hn z1).mono ?_
  rintro e z2 ⟨x2,rfl,rfl⟩
  have hc2:=hc1
  dsimp only
  refine hK _ _ (HBX _ hc2) ?_
  clear hK K
  refine wpAnyG.tA 8 (v:=.int .i64 x1) (by decide) 9 (by as_aux_lemma=>kernel_rfl) (by rfl) ?y8 (HBX _ hc2) ?_
  case y8 =>
   rintro w' ⟨q0,q1⟩
   simp only [lgA,lgZ,lgS]
   go_simp
  simp only [lgA,lgZ,lgS,Act.put,lsA,lsZ,lsS]
  refine wpAnyG.one 9 (by as_aux_lemma=>kernel_rfl) (by decide) (by rfl) (fun K hK=>?_)
  simp only [lgA,lgZ,lgS]
  go_simp
  refine hK _ _ (HBX _ hc2) ?_
  clear hK K
  refine wpAnyG.done (by as_aux_lemma=>kernel_rfl) (NoPanic.normal ?_)
  have HP:=HP x1 x2 _ (bel_tr hb0 hc2)
  clear HBX BX hc0 hc1 hc2
  go_wp2
  go_ret2
  exact HP
end Go.Proofs.YtiohbjnflpnfbaaGreatDoor
