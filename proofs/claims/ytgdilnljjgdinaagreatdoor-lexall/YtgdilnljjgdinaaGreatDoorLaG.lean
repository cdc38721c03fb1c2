import Derived.Test.YtgdilnljjgdinaaGreatDoorLaDAll
namespace Go.Proofs.YtgdilnljjgdinaaGreatDoor
open Go.RowKit
def CL (w:World) (a:Option Addr) (n:Nat) (E:Nat→List Value):Prop:=n=0∨∃ g,a=some ⟨g,0,none⟩∧∀ i,i<n→∀ j u,(E i)[j]? = some u→w.cell? ⟨g,i*8+j,none⟩=some u
theorem CL.le {w:World} {a:Option Addr} {n m:Nat} {E:Nat→List Value} (h:CL w a n E) (hm:m≤n):CL w a m E:=by
 rcases h with h|⟨g,e,h⟩
 ·exact .inl (by omega)
 ·exact .inr ⟨g,e,fun i hi=>h i (by omega)⟩
set_option maxRecDepth 100000 in
set_option maxHeartbeats 8000000 in
theorem sameToksD {va vb:Option Addr} {n vc vd:Nat} {E E':Nat→List Value} {ts:List Tok} (w:World) (hn:ts.length=n) (hnb:n≤1000000000) (ca:CL w va n E) (cb:CL w vb n E') (ha:∀ i t,ts[i]? = some t→∃ lo hi,TkB w lo hi (E i) t) (hb:∀ i t,ts[i]? = some t→∃ B,TkO w B (E' i) t) :
  Calls Tryz.prog 9 #[.slice va n vc,.slice vb n vd] w fun e w'=>e = .returned (.bool true)∧Below w.heap.size w w':=by
 have hnn:((n:Int) != (n:Int))=false:=by simp
 go_enter Tryz.func9,Tryz.ntmps9
 go_wp2
 go_loopw [5] (fun si wr=>∃ i:Nat,i≤n∧si = .int .i64 i∧Below w.heap.size w wr) (fun x _=>n-(intOf x).toNat)
 case atStart=>exact ⟨0,Nat.zero_le _,rfl,Below.refl _ _⟩
 case round =>
  obtain ⟨i,hi,rfl,hbel⟩:=hrel
  by_cases hlt:i<n
  ·have hiI:(i:Int)<(n:Int):=by omega
   have hi0:¬ (i:Int)<0:=by omega
   have hi8:(i:Int)*8=((i*8:Nat):Int):=by omega
   obtain ⟨t,ht⟩:∃ t,ts[i]? = some t:=⟨_,List.getElem?_eq_getElem (by omega)⟩
   obtain ⟨lo,hi',f,a1,n1,k1,a2,n2,k2,eE,hNa,-⟩:=ha i t ht
   obtain ⟨Bo,g,b1,m1,j1,b2,m2,j2,eE',hNb⟩:=hb i t ht
   rcases ca with h0|⟨ga,rfl,ca⟩
   ·omega
   rcases cb with h0|⟨gb,rfl,cb⟩
   ·omega
   have ca:=ca i hlt
   have cb:=cb i hlt
   rw [eE] at ca
   rw [eE'] at cb
   obtain ⟨k,x,wd,l,c,q⟩:=t
   simp only at hNa hNb ca cb
   have HSM:Hid (∀ z,Below wr.heap.size wr z→Calls Tryz.prog 22 #[.agg #[.int .i64 (k:Nat),.string x,.bool f,.slice a1 n1 k1,.slice a2 n2 k2,.int .i64 (wd:Nat),.int .i64 l,.int .i64 c],.agg #[.int .i64 (k:Nat),.string x,.bool g,.slice b1 m1 j1,.slice b2 m2 j2,.int .i64 (wd:Nat),.int .i64 l,.int .i64 c]] z fun e w'=>e = .returned (.bool true)∧Below z.heap.size z w'):=fun z hz=>sameTokD z (hNa.ku (Ku.of_below (bel_tr hbel hz))) (hNb.ku (Ku.of_below (bel_tr hbel hz)))
   have x0:=kept_c hbel (ca 0 _ rfl)
   have x1:=kept_c hbel (ca 1 _ rfl)
   have x2:=kept_c hbel (ca 2 _ rfl)
   have x3:=kept_c hbel (ca 3 _ rfl)
   have x4:=kept_c hbel (ca 4 _ rfl)
   have x5:=kept_c hbel (ca 5 _ rfl)
   have x6:=kept_c hbel (ca 6 _ rfl)
   have x7:=kept_c hbel (ca 7 _ rfl)
   have x8:=kept_c hbel (cb 0 _ rfl)
   have x9:=kept_c hbel (cb 1 _ rfl)
   have x10:=kept_c hbel (cb 2 _ rfl)
   have x11:=kept_c hbel (cb 3 _ rfl)
   have x12:=kept_c hbel (cb 4 _ rfl)
   have x13:=kept_c hbel (cb 5 _ rfl)
   have x14:=kept_c hbel (cb 6 _ rfl)
   have x15:=kept_c hbel (cb 7 _ rfl)
   have HB6:∀ w',Below wr.heap.size wr w'→(w'.cell? ⟨ga,i*8,none⟩=some (.int .i64 (k:Nat))∧w'.cell? ⟨ga,i*8+1,none⟩=some (.string x)∧w'.cell? ⟨ga,i*8+2,none⟩=some (.bool f)∧w'.cell? ⟨ga,i*8+3,none⟩=some (.slice a1 n1 k1)∧w'.cell? ⟨ga,i*8+4,none⟩=some (.slice a2 n2 k2)∧w'.cell? ⟨ga,i*8+5,none⟩=some (.int .i64 (wd:Nat))∧w'.cell? ⟨ga,i*8+6,none⟩=some (.int .i64 l)∧w'.cell? ⟨ga,i*8+7,none⟩=some (.int .i64 c)∧w'.cell? ⟨gb,i*8,none⟩=some (.int .i64 (k:Nat))∧w'.cell? ⟨gb,i*8+1,none⟩=some (.string x)∧w'.cell? ⟨gb,i*8+2,none⟩=some (.bool g)∧w'.cell? ⟨gb,i*8+3,none⟩=some (.slice b1 m1 j1)∧w'.cell? ⟨gb,i*8+4,none⟩=some (.slice b2 m2 j2)∧w'.cell? ⟨gb,i*8+5,none⟩=some (.int .i64 (wd:Nat))∧w'.cell? ⟨gb,i*8+6,none⟩=some (.int .i64 l)∧w'.cell? ⟨gb,i*8+7,none⟩=some (.int .i64 c)):=fun w' h=>⟨kept_c h x0,kept_c h x1,kept_c h x2,kept_c h x3,kept_c h x4,kept_c h x5,kept_c h x6,kept_c h x7,kept_c h x8,kept_c h x9,kept_c h x10,kept_c h x11,kept_c h x12,kept_c h x13,kept_c h x14,kept_c h x15⟩
   clear ca cb hNa hNb eE eE' ha hb ht x0 x1 x2 x3 x4 x5 x6 x7 x8 x9 x10 x11 x12 x13 x14 x15
   go_wp2_with fail
   refine wp_region_noPanic (wp_region_guardB HB6 (by as_aux_lemma=>kernel_rfl) ?_)
   have hc0:Below wr.heap.size wr wr.drew:=bel_d1 _
   generalize wr.drew=z0 at *
   refine wpAnyG.tA 0 (v:=.slice (some ⟨ga,0,none⟩) n vc) (by decide) 9 (by as_aux_lemma=>kernel_rfl) (by rfl) ?y0 (HB6 _ hc0) ?_
   case y0 =>
    rintro w' ⟨q0,q1,q2,q3,q4,q5,q6,q7,q8,q9,q10,q11,q12,q13,q14,q15⟩
    simp only [lgA,lgZ]
    go_simp
   simp only [lgA,lgZ,Act.put,lsA,lsZ,lsS]
   refine wpAnyG.tA 1 (v:=.int .i64 (i:Int)) (by decide) 9 (by as_aux_lemma=>kernel_rfl) (by rfl) ?y1 (HB6 _ hc0) ?_
   case y1 =>
    rintro w' ⟨q0,q1,q2,q3,q4,q5,q6,q7,q8,q9,q10,q11,q12,q13,q14,q15⟩
    simp only [lgA,lgZ,lgS]
    go_simp
   simp only [lgA,lgZ,lgS,Act.put,lsA,lsZ,lsS]
   refine wpAnyG.tA 2 (v:=.pointer (some ⟨ga,i*8,none⟩)) (by decide) 9 (by as_aux_lemma=>kernel_rfl) (by rfl) ?y2 (HB6 _ hc0) ?_
   case y2 =>
    rintro w' ⟨q0,q1,q2,q3,q4,q5,q6,q7,q8,q9,q10,q11,q12,q13,q14,q15⟩
    simp only [lgA,lgZ,lgS]
    go_simp
   simp only [lgA,lgZ,lgS,Act.put,lsA,lsZ,lsS]
   refine wpAnyG.tA 3 (v:=.agg #[.int .i64 (k:Nat),.string x,.bool f,.slice a1 n1 k1,.slice a2 n2 k2,.int .i64 (wd:Nat),.int .i64 l,.int .i64 c]) (by decide) 9 (by as_aux_lemma=>kernel_rfl) (by rfl) ?y3 (HB6 _ hc0) ?_
   case y3 =>
    rintro w' ⟨q0,q1,q2,q3,q4,q5,q6,q7,q8,q9,q10,q11,q12,q13,q14,q15⟩
    simp only [lgA,lgZ,lgS]
    go_simp
   simp only [lgA,lgZ,lgS,Act.put,lsA,lsZ,lsS]
   refine wpAnyG.tA 4 (v:=.slice (some ⟨gb,0,none⟩) n vd) (by decide) 9 (by as_aux_lemma=>kernel_rfl) (by rfl) ?y4 (HB6 _ hc0) ?_
   case y4 =>
    rintro w' ⟨q0,q1,q2,q3,q4,q5,q6,q7,q8,q9,q10,q11,q12,q13,q14,q15⟩
    simp only [lgA,lgZ,lgS]
    go_simp
   simp only [lgA,lgZ,lgS,Act.put,lsA,lsZ,lsS]
   refine wpAnyG.tA 5 (v:=.int .i64 (i:Int)) (by decide) 9 (by as_aux_lemma=>kernel_rfl) (by rfl) ?y5 (HB6 _ hc0) ?_
   case y5 =>
    rintro w' ⟨q0,q1,q2,q3,q4,q5,q6,q7,q8,q9,q10,q11,q12,q13,q14,q15⟩
    simp only [lgA,lgZ,lgS]
    go_simp
   simp only [lgA,lgZ,lgS,Act.put,lsA,lsZ,lsS]
   refine wpAnyG.tA 6 (v:=.pointer (some ⟨gb,i*8,none⟩)) (by decide) 9 (by as_aux_lemma=>kernel_rfl) (by rfl) ?y6 (HB6 _ hc0) ?_
   case y6 =>
    rintro w' ⟨q0,q1,q2,q3,q4,q5,q6,q7,q8,q9,q10,q11,q12,q13,q14,q15⟩
    simp only [lgA,lgZ,lgS]
    go_simp
   simp only [lgA,lgZ,lgS,Act.put,lsA,lsZ,lsS]
   refine wpAnyG.tA 7 (v:=.agg #[.int .i64 (k:Nat),.string x,.bool g,.slice b1 m1 j1,.slice b2 m2 j2,.int .i64 (wd:Nat),.int .i64 l,.int .i64 c]) (by decide) 9 (by as_aux_lemma=>kernel_rfl) (by rfl) ?y7 (HB6 _ hc0) ?_
   case y7 =>
    rintro w' ⟨q0,q1,q2,q3,q4,q5,q6,q7,q8,q9,q10,q11,q12,q13,q14,q15⟩
    simp only [lgA,lgZ,lgS]
    go_simp
   simp only [lgA,lgZ,lgS,Act.put,lsA,lsZ,lsS]
   refine wpAnyG.one 8 (by as_aux_lemma=>kernel_rfl) (by decide) (by rfl) (fun K hK=>?_)
   simp only [lgA,lgZ,lgS]
   go_simp
   refine (HSM.out z0 hc0).mono ?_
   rintro e z1 ⟨rfl,hk1⟩
   have hc1:Below wr.heap.size wr z1:=bel_tr hc0 hk1
   dsimp only
   refine hK _ _ (HB6 _ hc1) ?_
   clear hK K
   refine wpAnyG.one 9 (by as_aux_lemma=>kernel_rfl) (by decide) (by rfl) (fun K hK=>?_)
   simp only [lgA,lgZ,lgS]
   go_simp
   refine hK _ _ (HB6 _ hc1) ?_
   clear hK K
   refine wpAnyG.done (by as_aux_lemma=>kernel_rfl) (NoPanic.normal ?_)
   have hbf:=bel_tr hbel hc1
   clear HB6 HSM hc0 hc1 hk1 hbel
   go_wp2
   go_roundw
   case rel=>first|exact ⟨i+1,by omega,by first|rfl|go_num,hbf⟩|((repeat apply Exists.intro);refine ⟨?_,rfl⟩;exact ⟨i+1,by omega,by first|rfl|go_num,hbf⟩)
   case measure=>simp [intOf];omega
  ·have hiI:¬ (i:Int)<(n:Int):=by omega
   go_wp2
   go_ret
   exact ⟨rfl,hbel⟩
end Go.Proofs.YtgdilnljjgdinaaGreatDoor
