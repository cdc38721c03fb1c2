import Derived.Test.YtnkpbjmfdfjeiaaGreatDoorSoVAll
namespace Go.Proofs.YtnkpbjmfdfjeiaaGreatDoor
open Go.RowKit
theorem st_new (w:World) (P:Prob) (s:ByteArray):St w ((((w.alloc (.cells #[.bool P.mx,.string P.nm,.bool P.p,.slice P.a P.na P.ca,.slice P.d P.nd P.cd,.slice P.va P.vn P.vc,.slice P.ra P.rn P.rc] 31)).alloc (.cells #[.int .i64 0,.bool false,.slice none 0 0,.slice none 0 0,.slice none 0 0,.slice none 0 0,.slice none 0 0] 35)).alloc (.cells #[.string s,.int .i64 0,.bool true] 58)).alloc (.cells #[.int .i64 0,.bool false,.slice none 0 0,.slice none 0 0,.slice none 0 0,.slice none 0 0,.slice none 0 0] 35)) w.heap.size P s 0 true Z7:=by
 have b0:=bel_d0 w (.cells #[.bool P.mx,.string P.nm,.bool P.p,.slice P.a P.na P.ca,.slice P.d P.nd P.cd,.slice P.va P.vn P.vc,.slice P.ra P.rn P.rc] 31)
 have b1:=bel_d0 (w.alloc (.cells #[.bool P.mx,.string P.nm,.bool P.p,.slice P.a P.na P.ca,.slice P.d P.nd P.cd,.slice P.va P.vn P.vc,.slice P.ra P.rn P.rc] 31)) (.cells #[.int .i64 0,.bool false,.slice none 0 0,.slice none 0 0,.slice none 0 0,.slice none 0 0,.slice none 0 0] 35)
 have b2:=bel_d0 ((w.alloc (.cells #[.bool P.mx,.string P.nm,.bool P.p,.slice P.a P.na P.ca,.slice P.d P.nd P.cd,.slice P.va P.vn P.vc,.slice P.ra P.rn P.rc] 31)).alloc (.cells #[.int .i64 0,.bool false,.slice none 0 0,.slice none 0 0,.slice none 0 0,.slice none 0 0,.slice none 0 0] 35)) (.cells #[.string s,.int .i64 0,.bool true] 58)
 have b3:=bel_d0 (((w.alloc (.cells #[.bool P.mx,.string P.nm,.bool P.p,.slice P.a P.na P.ca,.slice P.d P.nd P.cd,.slice P.va P.vn P.vc,.slice P.ra P.rn P.rc] 31)).alloc (.cells #[.int .i64 0,.bool false,.slice none 0 0,.slice none 0 0,.slice none 0 0,.slice none 0 0,.slice none 0 0] 35)).alloc (.cells #[.string s,.int .i64 0,.bool true] 58)) (.cells #[.int .i64 0,.bool false,.slice none 0 0,.slice none 0 0,.slice none 0 0,.slice none 0 0,.slice none 0 0] 35)
 have e1:(w.alloc (.cells #[.bool P.mx,.string P.nm,.bool P.p,.slice P.a P.na P.ca,.slice P.d P.nd P.cd,.slice P.va P.vn P.vc,.slice P.ra P.rn P.rc] 31)).heap.size = w.heap.size + 1:=by simp
 have e2:((w.alloc (.cells #[.bool P.mx,.string P.nm,.bool P.p,.slice P.a P.na P.ca,.slice P.d P.nd P.cd,.slice P.va P.vn P.vc,.slice P.ra P.rn P.rc] 31)).alloc (.cells #[.int .i64 0,.bool false,.slice none 0 0,.slice none 0 0,.slice none 0 0,.slice none 0 0,.slice none 0 0] 35)).heap.size = w.heap.size + 2:=by simp
 have e3:(((w.alloc (.cells #[.bool P.mx,.string P.nm,.bool P.p,.slice P.a P.na P.ca,.slice P.d P.nd P.cd,.slice P.va P.vn P.vc,.slice P.ra P.rn P.rc] 31)).alloc (.cells #[.int .i64 0,.bool false,.slice none 0 0,.slice none 0 0,.slice none 0 0,.slice none 0 0,.slice none 0 0] 35)).alloc (.cells #[.string s,.int .i64 0,.bool true] 58)).heap.size = w.heap.size + 3:=by simp
 have r0:Rw 31 (w.alloc (.cells #[.bool P.mx,.string P.nm,.bool P.p,.slice P.a P.na P.ca,.slice P.d P.nd P.cd,.slice P.va P.vn P.vc,.slice P.ra P.rn P.rc] 31)) w.heap.size (P7 P):=Rw.new _ _ _
 have r1:=Rw.new 35 (w.alloc (.cells #[.bool P.mx,.string P.nm,.bool P.p,.slice P.a P.na P.ca,.slice P.d P.nd P.cd,.slice P.va P.vn P.vc,.slice P.ra P.rn P.rc] 31)) Z7
 have r2:=Rw.new 58 ((w.alloc (.cells #[.bool P.mx,.string P.nm,.bool P.p,.slice P.a P.na P.ca,.slice P.d P.nd P.cd,.slice P.va P.vn P.vc,.slice P.ra P.rn P.rc] 31)).alloc (.cells #[.int .i64 0,.bool false,.slice none 0 0,.slice none 0 0,.slice none 0 0,.slice none 0 0,.slice none 0 0] 35)) #[.string s,.int .i64 0,.bool true]
 have r3:=Rw.new 35 (((w.alloc (.cells #[.bool P.mx,.string P.nm,.bool P.p,.slice P.a P.na P.ca,.slice P.d P.nd P.cd,.slice P.va P.vn P.vc,.slice P.ra P.rn P.rc] 31)).alloc (.cells #[.int .i64 0,.bool false,.slice none 0 0,.slice none 0 0,.slice none 0 0,.slice none 0 0,.slice none 0 0] 35)).alloc (.cells #[.string s,.int .i64 0,.bool true] 58)) Z7
 rw [e1] at r1
 rw [e2] at r2
 rw [e3] at r3
 exact ⟨rfl,bel_tr (bel_tr (bel_tr b0 b1) b2) b3,((r0.below b1).below b2).below b3,(Rw.below (w:=(w.alloc (.cells #[.bool P.mx,.string P.nm,.bool P.p,.slice P.a P.na P.ca,.slice P.d P.nd P.cd,.slice P.va P.vn P.vc,.slice P.ra P.rn P.rc] 31)).alloc (.cells #[.int .i64 0,.bool false,.slice none 0 0,.slice none 0 0,.slice none 0 0,.slice none 0 0,.slice none 0 0] 35)) r1 b2).below b3,Rw.below (w:=((w.alloc (.cells #[.bool P.mx,.string P.nm,.bool P.p,.slice P.a P.na P.ca,.slice P.d P.nd P.cd,.slice P.va P.vn P.vc,.slice P.ra P.rn P.rc] 31)).alloc (.cells #[.int .i64 0,.bool false,.slice none 0 0,.slice none 0 0,.slice none 0 0,.slice none 0 0,.slice none 0 0] 35)).alloc (.cells #[.string s,.int .i64 0,.bool true] 58)) r2 b3,r3,Nat.zero_le _⟩
theorem head_w {s t:ByteArray} {v b:Nat} {ok2:Bool} {m:List UInt8} (hl:s.data.toList = wdV v ++ 10 :: m) (h:(ok2 = true∧NoB t.data.toList∧s.data.toList.drop 0 = t.data.toList ++ 10 :: s.data.toList.drop b)∨(ok2 = false∧t = ⟨#[]⟩∧∀ x m,s.data.toList.drop 0 = x ++ 10 :: m→¬ NoB x)):t.data.toList = wdV v∧ok2 = true∧s.data.toList.drop b = m:=by
 rcases h with ⟨h1,h2,h3⟩ | ⟨_,_,h3⟩
 ·have h4:wdV v ++ 10 :: m = t.data.toList ++ 10 :: s.data.toList.drop b:=by rw [← hl];rw [List.drop_zero] at h3;exact h3
  obtain ⟨e1,e2⟩:=nob_split (.inr rfl) wd_nob h2 (fun b t hbt=>by simp only [List.cons.injEq] at hbt;exact .inr hbt.1.symm) h4
  simp only [List.cons.injEq,true_and] at e2
  exact ⟨e1.symm,h1,e2.symm⟩
 ·exact absurd wd_nob (h3 _ _ (by rw [List.drop_zero];exact hl))
theorem lns_head {s:ByteArray} {v b:Nat} {P:Prob} {m:List UInt8} (hl:s.data.toList = wdV v ++ 10 :: m) (hb:s.data.toList.drop b = m):Lns (lnsW v P.vn (vnm P) P.rn (unm P)) (lnsK v P.vn P.rn) s.data.toList (putR (fun _=>[]) 0 []) 1 (s.data.toList.drop b) :=
 (Lns.zero _ _ _ _).snoc (by show 0 = lnsK v P.vn P.rn 0;unfold lnsK;rw [if_pos rfl]) (by
  rw [show lnsW v P.vn (vnm P) P.rn (unm P) 0 = wdV v by unfold lnsW;rw [if_pos rfl],ln0,hb];exact hl)
theorem Rw.sev {t:TypeId} {w:World} {R:Nat} {a0 a1 a2 a3 a4 a5 a6:Value} {b0 b1 b2 b3 b4 b5 b6:Value} (h:Rw t w R #[a0,a1,a2,a3,a4,a5,a6]) :
  Rw t (((((((w.setCell ⟨R,0,none⟩ b0).setCell ⟨R,1,none⟩ b1).setCell ⟨R,2,none⟩ b2).setCell ⟨R,3,none⟩ b3).setCell ⟨R,4,none⟩ b4).setCell ⟨R,5,none⟩ b5).setCell ⟨R,6,none⟩ b6) R #[b0,b1,b2,b3,b4,b5,b6]∧Off R w (((((((w.setCell ⟨R,0,none⟩ b0).setCell ⟨R,1,none⟩ b1).setCell ⟨R,2,none⟩ b2).setCell ⟨R,3,none⟩ b3).setCell ⟨R,4,none⟩ b4).setCell ⟨R,5,none⟩ b5).setCell ⟨R,6,none⟩ b6):=by
 refine ⟨?_,(((((((Off.refl _ _).set 0 b0).set 1 b1).set 2 b2).set 3 b3).set 4 b4).set 5 b5).set 6 b6⟩
 have:=(((((((h.setK 0 b0).1.setK 1 b1).1.setK 2 b2).1.setK 3 b3).1.setK 4 b4).1.setK 5 b5).1.setK 6 b6).1
 simpa using this
theorem nb_nil:∀ g,((Value.slice none 0 0).ownBlock = some g→(Value.slice none 0 0).ownBlock ≠ some g∧(Value.slice none 0 0).ownBlock ≠ some g)∧((Value.slice none 0 0).ownBlock = some g→(Value.slice none 0 0).ownBlock ≠ some g):=fun g=>⟨(fun e=>by simp [Value.ownBlock] at e),(fun e=>by simp [Value.ownBlock] at e)⟩
theorem blk_fresh {xv u:Value} {g8 n cap8:Nat} {z2:World} (hat:xv.ownBlock = some g8∨g8 = z2.heap.size) (hne:∀ g,xv.ownBlock = some g→u.ownBlock ≠ some g) (hu:∀ g,u.ownBlock = some g→g < z2.heap.size):∀ g,(Value.slice (some ⟨g8,0,none⟩) n cap8).ownBlock = some g→u.ownBlock ≠ some g:=fun g e e2=>by
 have e3:g8 = g:=by simpa [Value.ownBlock] using e
 rcases hat with h | h
 ·exact hne g8 h (by rw [e3];exact e2)
 ·have:=hu g e2;omega
theorem NL.lt {w:World} {F:Nat} {v:Value} {n:Nat} {X:Nat→Rat} (h:NL w F v n X):∀ g,v.ownBlock = some g→g < w.heap.size:=fun g e=>by
 obtain ⟨E,h1,_⟩:=h
 exact (h1.lt g e).2
theorem var1_put {w8 w9 U z2:World} {F j a b7:Nat} {P:Prob} {s:ByteArray} {R:Nat→List Rat} {r:Rat} {p:Bool} {a1:Option Addr} {na ca:Nat} {d:Option Addr} {nd cd:Nat} {xv yv zv:Value} {E:Nat→List Value} {f7:Bool} {c7:Option Addr} {n7 k7:Nat} {d7:Option Addr} {m7 l7:Nat} {g8 cap8:Nat} (hj:j < P.vn)
  (hL:Lns (lnsW 1 P.vn (vnm P) P.rn (unm P)) (lnsK 1 P.vn P.rn) s.data.toList R (2 + j) (s.data.toList.drop a))
  (GV:GR U F p a1 na ca d nd cd ((R 1).getD 0 0) 5000000)
  (SE:SL U F 27 3 xv j E) (EE:∀ q,q < j→∃ f c m k c' m' k',E q = [.bool f,.slice c m k,.slice c' m' k']∧GR U F f c m k c' m' k' (xR 1 R q) 5000000) (NY:NL U F yv 0 (yR 1 P.vn R)) (NZ:NL U F zv 0 (zR 1 R)) (dj:∀ g,(xv.ownBlock = some g→yv.ownBlock ≠ some g∧zv.ownBlock ≠ some g)∧(zv.ownBlock = some g→yv.ownBlock ≠ some g))
  (hc2:Kb F [58] U z2) (hFz:F≤z2.heap.size) (SN:SL w8 F 27 3 (.slice (some ⟨g8,0,none⟩) (j + 1) cap8) (j + 1) (fun q=>if q < j then E q else [.bool f7,.slice c7 n7 k7,.slice d7 m7 l7])) (hg:z2.grownBy w8 xv.ownBlock) (hat:xv.ownBlock = some g8∨g8 = z2.heap.size) (kS:Kb F [35] w8 w9)
  (hln:Ln (s.data.toList.drop a) (wVar (vnm P j)) [r] (s.data.toList.drop b7)) (hr:GR z2 F f7 c7 n7 k7 d7 m7 l7 r 5000000) :
  OkS w9 F 1 P s (putR R (2 + j) [r]) (2 + (j + 1)) b7 (j + 1) 0 0 #[.int .i64 ((1:Nat):Int),.bool p,.slice a1 na ca,.slice d nd cd,.slice (some ⟨g8,0,none⟩) (j + 1) cap8,yv,zv]:=by
 obtain ⟨w1,w2⟩:=var_W (v:=1) (vn:=P.vn) (rn:=P.rn) (V:=vnm P) (U:=unm P) (j:=j) hj
 have hR:∀ t,t < 2 + j→putR R (2 + j) [r] t = R t:=fun t ht=>putR_off _ _ ht
 have SZ:=SE.kb hc2 (by decide)
 have kG:=kb_grown SZ (Nat.le_refl _) hFz hg
 have hz:=hc2.size
 have YZ:=(NY.kb hc2 (by decide) (by decide)).grow SZ hFz (fun g e e2=>((dj g).1 e2).1 e) hg
 have ZZ:=(NZ.kb hc2 (by decide) (by decide)).grow SZ hFz (fun g e e2=>((dj g).1 e2).2 e) hg
 have XN:NL w8 F (.slice (some ⟨g8,0,none⟩) (j + 1) cap8) (j + 1) (xR 1 (putR R (2 + j) [r])):=by
  refine NL.app (w:=z2) SZ (fun q hq=>?_) hFz SN hg ?_
  ·obtain ⟨f,c,m,k,c',m',k',e,g⟩:=EE q hq
   exact ⟨f,c,m,k,c',m',k',e,by unfold xR at *;rw [show hdV 1 + q = 2 + q from rfl] at *;rw [hR _ (by omega)];exact g.kb hc2 (by decide)⟩
  ·unfold xR;rw [show hdV 1 + j = 2 + j from rfl,putR_at];exact hr
 have bY:=blk_fresh (n:=j + 1) (cap8:=cap8) hat (fun g e=>((dj g).1 e).1) (fun g e=>by have:=NY.lt g e;omega)
 have bZ:=blk_fresh (n:=j + 1) (cap8:=cap8) hat (fun g e=>((dj g).1 e).2) (fun g e=>by have:=NZ.lt g e;omega)
 refine ⟨hL.snoc w2.symm (by rw [show (2 + j) = hdV 1 + j from rfl,w1];exact hln),p,a1,na,ca,d,nd,cd,_,yv,zv,rfl,.inl ⟨rfl,?_⟩,XN.kb kS (by decide) (by decide),(YZ.kb kS (by decide) (by decide)).congr (fun q hq=>by omega),(ZZ.kb kS (by decide) (by decide)).congr (fun q hq=>by omega),fun g=>⟨fun e=>⟨bY g e,bZ g e⟩,(dj g).2⟩⟩
 rw [hR 1 (by omega)]
 exact ((GV.kb hc2 (by decide)).kb kG (by decide)).kb kS (by decide)
theorem line_step2 {G H:Rat→Prop} {l wt nm d3 d7 d17:List UInt8} {ok3 ok7 ok17:Bool} (hl:(ok3 = true∧l = wt ++ 32 :: (nm ++ 32 :: d3))∨(ok3 = false∧∀ m,¬ l = wt ++ 32 :: (nm ++ 32 :: m)))
  (hn:(ok7 = ok3∧∃ r,d3 = tq r ++ 32 :: d7∧G r)∨(ok7 = false∧∀ r m,¬ d3 = tq r ++ 32 :: m)) (hn2:(ok17 = ok7∧∃ r,d7 = tq r ++ 10 :: d17∧H r)∨(ok17 = false∧∀ r m,¬ d7 = tq r ++ 10 :: m)) :
  (ok17 = true∧∃ r q,Ln l (wt ++ 32 :: nm) [r,q] d17∧G r∧H q)∨(ok17 = false∧∀ rs b,rs.length = 2→¬ Ln l (wt ++ 32 :: nm) rs b):=by
 have key:∀ r q x,Ln l (wt ++ 32 :: nm) [r,q] x↔l = wt ++ 32 :: (nm ++ 32 :: (tq r ++ 32 :: (tq q ++ 10 :: x))):=fun r q x=>by rw [ln2];simp
 have end17:ok7 = false→ok17 = false:=fun e=>by
  rcases hn2 with ⟨h,_⟩ | ⟨h,_⟩
  ·rw [h,e]
  ·exact h
 rcases hl with ⟨rfl,e⟩ | ⟨rfl,h⟩
 ·have out:∀ r q x,Ln l (wt ++ 32 :: nm) [r,q] x→d3 = tq r ++ 32 :: (tq q ++ 10 :: x):=fun r q x h=>by
   have h5:=(key _ _ _).1 h
   rw [e] at h5
   have h6:=List.append_cancel_left h5
   simp only [List.cons.injEq,true_and] at h6
   have h7:=List.append_cancel_left h6
   simp only [List.cons.injEq,true_and] at h7
   exact h7
  rcases hn with ⟨rfl,r,h1,h2⟩ | ⟨h0,h1⟩
  ·rcases hn2 with ⟨rfl,q,h3,h4⟩ | ⟨rfl,h3⟩
   ·exact .inl ⟨rfl,r,q,(key _ _ _).2 (by rw [e,h1,h3]),h2,h4⟩
   ·refine .inr ⟨rfl,fun rs b h5 h6=>?_⟩
    obtain ⟨r',q',rfl⟩:=len2 h5
    have h7:=out _ _ _ h6
    rw [h1] at h7
    have h8:=nob_split (.inl rfl) (tq_nob r) (tq_nob r') (fun b t hbt=>by simp only [List.cons.injEq] at hbt;exact .inl hbt.1.symm) h7
    have h9:=h8.2
    simp only [List.cons.injEq,true_and] at h9
    exact h3 _ _ h9
  ·refine .inr ⟨end17 h0,fun rs b h5 h6=>?_⟩
   obtain ⟨r',q',rfl⟩:=len2 h5
   exact h1 _ _ (out _ _ _ h6)
 ·have h7:ok7 = false:=by
   rcases hn with ⟨h,_⟩ | ⟨h,_⟩
   ·exact h
   ·exact h
  refine .inr ⟨end17 h7,fun rs b h5 h6=>?_⟩
  obtain ⟨r',q',rfl⟩:=len2 h5
  exact h _ ((key _ _ _).1 h6)
theorem var3_put {U z2 w8 w9 z12 w18 w19:World} {F j a b17:Nat} {P:Prob} {s:ByteArray} {R:Nat→List Rat} {r q:Rat} {xv yv zv:Value} {E E':Nat→List Value} {f7:Bool} {c7:Option Addr} {n7 k7:Nat} {d7:Option Addr} {m7 l7:Nat} {g8 cap8:Nat} {f17:Bool} {c17:Option Addr} {n17 k17:Nat} {d17:Option Addr} {m17 l17:Nat} {g18 cap18:Nat} (hj:j < P.vn)
  (hL:Lns (lnsW 3 P.vn (vnm P) P.rn (unm P)) (lnsK 3 P.vn P.rn) s.data.toList R (1 + j) (s.data.toList.drop a))
  (SE:SL U F 27 3 xv j E) (EE:∀ q,q < j→∃ f c m k c' m' k',E q = [.bool f,.slice c m k,.slice c' m' k']∧GR U F f c m k c' m' k' (xR 3 R q) 5000000)
  (SE':SL U F 27 3 zv j E') (EE':∀ q,q < j→∃ f c m k c' m' k',E' q = [.bool f,.slice c m k,.slice c' m' k']∧GR U F f c m k c' m' k' (zR 3 R q) 5000000)
  (NY:NL U F yv 0 (yR 3 P.vn R)) (dj:∀ g,(xv.ownBlock = some g→yv.ownBlock ≠ some g∧zv.ownBlock ≠ some g)∧(zv.ownBlock = some g→yv.ownBlock ≠ some g))
  (hc2:Kb F [58] U z2) (hFz:F≤z2.heap.size) (SN:SL w8 F 27 3 (.slice (some ⟨g8,0,none⟩) (j + 1) cap8) (j + 1) (fun q=>if q < j then E q else [.bool f7,.slice c7 n7 k7,.slice d7 m7 l7])) (hg:z2.grownBy w8 xv.ownBlock) (hat:xv.ownBlock = some g8∨g8 = z2.heap.size) (kS:Kb F [35] w8 w9) (hr:GR z2 F f7 c7 n7 k7 d7 m7 l7 r 5000000)
  (hc12:Kb F [58] w9 z12) (hFz2:F≤z12.heap.size) (SN2:SL w18 F 27 3 (.slice (some ⟨g18,0,none⟩) (j + 1) cap18) (j + 1) (fun q=>if q < j then E' q else [.bool f17,.slice c17 n17 k17,.slice d17 m17 l17])) (hg2:z12.grownBy w18 zv.ownBlock) (hat2:zv.ownBlock = some g18∨g18 = z12.heap.size) (kS2:Kb F [35] w18 w19) (hr2:GR z12 F f17 c17 n17 k17 d17 m17 l17 q 5000000)
  (hln:Ln (s.data.toList.drop a) (wVar (vnm P j)) [r,q] (s.data.toList.drop b17)) :
  OkS w19 F 3 P s (putR R (1 + j) [r,q]) (1 + (j + 1)) b17 (j + 1) 0 (j + 1) #[.int .i64 ((3:Nat):Int),.bool false,.slice none 0 0,.slice none 0 0,.slice (some ⟨g8,0,none⟩) (j + 1) cap8,yv,.slice (some ⟨g18,0,none⟩) (j + 1) cap18]:=by
 obtain ⟨w1,w2⟩:=var_W (v:=3) (vn:=P.vn) (rn:=P.rn) (V:=vnm P) (U:=unm P) (j:=j) hj
 have hR:∀ t,t < 1 + j→putR R (1 + j) [r,q] t = R t:=fun t ht=>putR_off _ _ ht
 have e3:∀ t,hdV 3 + t = 1 + t:=fun _=>rfl
 have SZ:=SE.kb hc2 (by decide)
 have kG:=kb_grown SZ (Nat.le_refl _) hFz hg
 have h1:=hc2.size
 have h2:=hg.size
 have h3:=kS.size
 have h4:=hc12.size
 have YZ:=(NY.kb hc2 (by decide) (by decide)).grow SZ hFz (fun g e e2=>((dj g).1 e2).1 e) hg
 have SZ':=(((SE'.kb hc2 (by decide)).kept hg (fun g e e2=>((dj g).1 e2).2 e)).kb kS (by decide)).kb hc12 (by decide)
 have XN:NL w8 F (.slice (some ⟨g8,0,none⟩) (j + 1) cap8) (j + 1) (xR 3 (putR R (1 + j) [r,q])):=by
  refine NL.app (w:=z2) SZ (fun t ht=>?_) hFz SN hg ?_
  ·obtain ⟨f,c,m,k,c',m',k',e,g⟩:=EE t ht
   exact ⟨f,c,m,k,c',m',k',e,by unfold xR at *;rw [e3] at *;rw [hR _ (by omega)];exact g.kb hc2 (by decide)⟩
  ·unfold xR;rw [e3,putR_at];exact hr
 have g8l:g8 < w8.heap.size:=(SN.lt g8 rfl).2
 have xlt:∀ g,zv.ownBlock = some g→g < z2.heap.size:=fun g e=>by have:=(SE'.lt g e).2;omega
 have bY:=blk_fresh (n:=j + 1) (cap8:=cap8) hat (fun g e=>((dj g).1 e).1) (fun g e=>by have:=NY.lt g e;omega)
 have bX:=blk_fresh (n:=j + 1) (cap8:=cap8) hat (fun g e=>((dj g).1 e).2) xlt
 have bZ:=blk_fresh (n:=j + 1) (cap8:=cap18) hat2 (fun g e=>(dj g).2 e) (fun g e=>by have:=NY.lt g e;omega)
 have kG2:=kb_grown SZ' (Nat.le_refl _) hFz2 hg2
 have XF:=((XN.kb kS (by decide) (by decide)).kb hc12 (by decide) (by decide)).grow SZ' hFz2 bX hg2
 have YF:=((YZ.kb kS (by decide) (by decide)).kb hc12 (by decide) (by decide)).grow SZ' hFz2 (fun g e e2=>(dj g).2 e2 e) hg2
 have ZN:NL w18 F (.slice (some ⟨g18,0,none⟩) (j + 1) cap18) (j + 1) (zR 3 (putR R (1 + j) [r,q])):=by
  refine NL.app (w:=z12) SZ' (fun t ht=>?_) hFz2 SN2 hg2 ?_
  ·obtain ⟨f,c,m,k,c',m',k',e,g⟩:=EE' t ht
   exact ⟨f,c,m,k,c',m',k',e,by unfold zR at *;rw [e3] at *;rw [hR _ (by omega)];exact (((g.kb hc2 (by decide)).kb kG (by decide)).kb kS (by decide)).kb hc12 (by decide)⟩
  ·unfold zR;rw [e3,putR_at];exact hr2
 refine ⟨hL.snoc w2.symm (by rw [show (1 + j) = hdV 3 + j from rfl,w1];exact hln),false,none,0,0,none,0,0,_,yv,_,rfl,.inr ⟨by decide,rfl,rfl,rfl,rfl,rfl,rfl,rfl⟩,XF.kb kS2 (by decide) (by decide),(YF.kb kS2 (by decide) (by decide)).congr (fun t ht=>by omega),ZN.kb kS2 (by decide) (by decide),fun g=>⟨fun e=>⟨bY g e,fun e2=>?_⟩,bZ g⟩⟩
 have x1:g8 = g:=by simpa [Value.ownBlock] using e
 have x2:g18 = g:=by simpa [Value.ownBlock] using e2
 rcases hat2 with h | h
 ·exact bX g e (by rw [h,x2])
 ·omega
set_option maxRecDepth 100000 in
set_option maxHeartbeats 16000000 in
theorem readD0 (P:Prob) (s:ByteArray) (w:World) (hP:PQ w P) (hK:P.K≤1048576) (hs:s.size≤1048576) (hno:∀ v m,1≤v→v≤3→¬ s.data.toList = wdV v ++ 10 :: m) :
  Calls Tryz.prog 5 #[P.val,.string s] w fun en w'=>ReadR P s w en w':=by
 have hrn:P.rn≤1048576:=by have:=hP.all;have:=tot_len P.ZR P.rn;omega
 have S0:=st_new w P s
 have HNO:Hid (∀ v m,1≤v→v≤3→¬ s.data.toList = wdV v ++ 10 :: m):=hno
 have HPW:Hid (PQ w P):=hP
 clear hP hno
 go_enter Tryz.func5,Tryz.ntmps5
 go_wp2_with fail
 generalize (((w.alloc (.cells #[.bool P.mx,.string P.nm,.bool P.p,.slice P.a P.na P.ca,.slice P.d P.nd P.cd,.slice P.va P.vn P.vc,.slice P.ra P.rn P.rc] 31)).alloc (.cells #[.int .i64 0,.bool false,.slice none 0 0,.slice none 0 0,.slice none 0 0,.slice none 0 0,.slice none 0 0] 35)).alloc (.cells #[.string s,.int .i64 0,.bool true] 58)).alloc (.cells #[.int .i64 0,.bool false,.slice none 0 0,.slice none 0 0,.slice none 0 0,.slice none 0 0,.slice none 0 0] 35) = W0 at *
 obtain ⟨F,hFw⟩:∃ F,w.heap.size = F:=⟨_,rfl⟩
 rw [hFw] at S0 ⊢
 have HFW:Hid (w.heap.size = F):=hFw
 clear hFw
 refine (wholeR P W0 (S0.pq HPW.out) hK).mono ?_
 rintro e w1 ⟨bw,rfl,hbw,hx⟩
 have S1:=S0.below hx
 clear hx hbw S0
 go_wp2_with fail
 refine (rwordU (e:=10) (F:=F) w1 S1.rq (by omega) S1.ha (by omega) (.inr rfl)).mono ?_
 rintro en w2 ⟨t,b,ok2,rfl,k2,hq2,hb2,h⟩
 have S2:=S1.kbQ k2 hq2 hb2
 clear S1 k2 hq2
 have hne:∀ v,1≤v→v≤3→¬ t.data.toList = wdV v:=fun v h1 h2 e=>by
  rcases h with ⟨_,h3,h4⟩ | ⟨_,h3,_⟩
  ·rw [List.drop_zero,e] at h4
   exact HNO.out v _ h1 h2 h4
  ·rw [h3] at e
   rcases (by omega:v = 1∨v = 2∨v = 3) with rfl | rfl | rfl <;> exact absurd e (by decide)
 have t1:(t.toList == [111,112,116,105,109,97,108]) = false:=str_ne6 (fun e=>hne 1 (by decide) (by decide) (by rw [e];rfl))
 have t2:(t.toList == [105,110,102,101,97,115,105,98,108,101]) = false:=str_ne6 (fun e=>hne 2 (by decide) (by decide) (by rw [e];rfl))
 have t3:(t.toList == [117,110,98,111,117,110,100,101,100]) = false:=str_ne6 (fun e=>hne 3 (by decide) (by decide) (by rw [e];rfl))
 have HX:Hid (NoAns P.vn (vnm P) P.rn (unm P) s.data.toList):=fun v R h1 h2 h3=>by
  obtain ⟨m,e⟩:=h3.head
  exact HNO.out v m h1 h2 e
 clear h hne
 have q2:=(Rw.cell S2.rq 2).trans (show _ = some (Value.bool ok2) from rfl)
 have qf:=Rw.frozen S2.rq 2
 have S3:=S2.setQ
 go_wp2_with fail
 clear q2 qf S2
 generalize w2.setCell ⟨F + 2,2,none⟩ (.bool false) = w3 at *
 refine wp_loop_once ?_
 have p6:=(S3.bp.cell 6).trans (show _ = some (Value.slice P.ra P.rn P.rc) from rfl)
 have q2:=(Rw.cell S3.rq 2).trans (show _ = some (Value.bool false) from rfl)
 by_cases hrz:0 < P.rn
 ·have hrI:(0:Int) < (P.rn:Int):=by omega
  have z0:=(S3.r4.cell 0).trans (show _ = some (Value.int .i64 0) from rfl)
  have zf0:=S3.r4.frozen 0
  have z1:=(S3.r4.cell 1).trans (show _ = some (Value.bool false) from rfl)
  have zf1:=S3.r4.frozen 1
  have z2:=(S3.r4.cell 2).trans (show _ = some (Value.slice none 0 0) from rfl)
  have zf2:=S3.r4.frozen 2
  have z3:=(S3.r4.cell 3).trans (show _ = some (Value.slice none 0 0) from rfl)
  have zf3:=S3.r4.frozen 3
  have z4:=(S3.r4.cell 4).trans (show _ = some (Value.slice none 0 0) from rfl)
  have zf4:=S3.r4.frozen 4
  have z5:=(S3.r4.cell 5).trans (show _ = some (Value.slice none 0 0) from rfl)
  have zf5:=S3.r4.frozen 5
  have z6:=(S3.r4.cell 6).trans (show _ = some (Value.slice none 0 0) from rfl)
  have zf6:=S3.r4.frozen 6
  have E9:=Rw.sev (b0:=.int .i64 0) (b1:=.bool false) (b2:=.slice none 0 0) (b3:=.slice none 0 0) (b4:=.slice none 0 0) (b5:=.slice none 0 0) (b6:=.slice none 0 0) S3.r4
  go_wp2
  refine bodyPost_ret (E9.1.ret2 Tryz.results5 _ rfl Tryz.underlying35 certI) rfl ⟨by rw [HFW.out];exact S3.bel.trans (E9.2.below (by omega)),.inr ⟨.inr HX.out,rfl⟩⟩
 ·have hrI:¬ (0:Int) < (P.rn:Int):=by omega
  have z0:=(S3.r4.cell 0).trans (show _ = some (Value.int .i64 0) from rfl)
  have zf0:=S3.r4.frozen 0
  have z1:=(S3.r4.cell 1).trans (show _ = some (Value.bool false) from rfl)
  have zf1:=S3.r4.frozen 1
  have z2:=(S3.r4.cell 2).trans (show _ = some (Value.slice none 0 0) from rfl)
  have zf2:=S3.r4.frozen 2
  have z3:=(S3.r4.cell 3).trans (show _ = some (Value.slice none 0 0) from rfl)
  have zf3:=S3.r4.frozen 3
  have z4:=(S3.r4.cell 4).trans (show _ = some (Value.slice none 0 0) from rfl)
  have zf4:=S3.r4.frozen 4
  have z5:=(S3.r4.cell 5).trans (show _ = some (Value.slice none 0 0) from rfl)
  have zf5:=S3.r4.frozen 5
  have z6:=(S3.r4.cell 6).trans (show _ = some (Value.slice none 0 0) from rfl)
  have zf6:=S3.r4.frozen 6
  have E9:=Rw.sev (b0:=.int .i64 0) (b1:=.bool false) (b2:=.slice none 0 0) (b3:=.slice none 0 0) (b4:=.slice none 0 0) (b5:=.slice none 0 0) (b6:=.slice none 0 0) S3.r4
  go_wp2
  refine bodyPost_ret (E9.1.ret2 Tryz.results5 _ rfl Tryz.underlying35 certI) rfl ⟨by rw [HFW.out];exact S3.bel.trans (E9.2.below (by omega)),.inr ⟨.inr HX.out,rfl⟩⟩
end Go.Proofs.YtnkpbjmfdfjeiaaGreatDoor
