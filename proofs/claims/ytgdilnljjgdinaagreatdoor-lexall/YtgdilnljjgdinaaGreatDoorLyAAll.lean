import Derived.Test.YtgdilnljjgdinaaGreatDoorLxTAll
import Derived.Test.YtgdilnljjgdinaaGreatDoorDigAll
namespace Go.Proofs.YtgdilnljjgdinaaGreatDoor
open Go.RowKit Go.Shelf
attribute [local go_sem] Oper.semAt_some
structure Tok where
 k:Nat
 x:ByteArray
 wd:Nat
 l:Int
 c:Int
 q:Rat
def TkM (W:World) (B:Nat) (v:Array Value) (t:Tok):Prop:=∃ (f:Bool) (a1:Option Addr) (n1 k1:Nat) (a2:Option Addr) (n2 k2:Nat),v=tkC (t.k:Nat) t.x (.bool f) (.slice a1 n1 k1) (.slice a2 n2 k2) (t.wd:Nat) t.l t.c∧NumM W B t.k f a1 n1 k1 a2 n2 k2 t.q
theorem TkM.ku {W W':World} {B:Nat} {v:Array Value} {t:Tok} (h:TkM W B v t) (u:Ku W W'):TkM W' B v t:=by
 obtain ⟨f,a1,n1,k1,a2,n2,k2,h1,h2⟩:=h
 exact ⟨f,a1,n1,k1,a2,n2,k2,h1,h2.ku u⟩
def Chn (r:ByteArray) (l c:Int):List Tok→ByteArray→Int→Int→Prop
 | [],r',l',c'=>r'=r∧l'=l∧c'=c
 | t::ts,r',l',c'=>∃ (a r1 b r2 x:ByteArray) (l1 c1 l2 c2:Int) (k n wd g:Nat) (q:Rat),t=⟨k,x,wd,l,c,q⟩∧0<r.size∧r.size≤100000000∧n≤r.size∧r.extract 0 n=x∧ReadOk r k n wd q∧(0≤l∧l≤1000000000)∧(0≤c∧c≤1000000000)∧(0≤l1∧l1≤1000000000)∧(0≤c1∧c1≤1000000000) ∧
   r.extract 0 x.size=a∧r.extract x.size r.size=r1∧ovL a l=l1∧ovC a c=c1∧gpN r1.data.toList=g∧r1.extract 0 g=b∧r1.extract g r1.size=r2∧ovL b l1=l2∧ovC b c1=c2∧r2.size<r.size∧Chn r2 l2 c2 ts r' l' c'
theorem Chn.nil (r:ByteArray) (l c:Int):Chn r l c [] r l c:=⟨rfl,rfl,rfl⟩
theorem Chn.cons {r a r1 b r2 x:ByteArray} {l c l1 c1 l2 c2:Int} {k n wd g:Nat} {q:Rat} {ts:List Tok} {r':ByteArray} {l' c':Int} (h0:0<r.size) (hr:r.size≤100000000) (hn:n≤r.size) (hx:r.extract 0 n=x) (hR:ReadOk r k n wd q)
   (hl:0≤l∧l≤1000000000) (hc:0≤c∧c≤1000000000) (hl1:0≤l1∧l1≤1000000000) (hc1:0≤c1∧c1≤1000000000)
   (e1:r.extract 0 x.size=a) (e2:r.extract x.size r.size=r1) (e3:ovL a l=l1) (e4:ovC a c=c1) (e5:gpN r1.data.toList=g) (e6:r1.extract 0 g=b) (e7:r1.extract g r1.size=r2) (e8:ovL b l1=l2) (e9:ovC b c1=c2) (hlt:r2.size<r.size)
   (hC:Chn r2 l2 c2 ts r' l' c'):Chn r l c (⟨k,x,wd,l,c,q⟩::ts) r' l' c' :=
 ⟨a,r1,b,r2,x,l1,c1,l2,c2,k,n,wd,g,q,rfl,h0,hr,hn,hx,hR,hl,hc,hl1,hc1,e1,e2,e3,e4,e5,e6,e7,e8,e9,hlt,hC⟩
theorem Chn.inv {r:ByteArray} {l c:Int} {ts:List Tok} {r':ByteArray} {l' c':Int} (h:Chn r l c ts r' l' c') :
  (ts=[]∧r'=r∧l'=l∧c'=c)∨(∃ (a r1 b r2 x:ByteArray) (l1 c1 l2 c2:Int) (k n wd g:Nat) (q:Rat) (ts2:List Tok),ts=⟨k,x,wd,l,c,q⟩::ts2∧0<r.size∧r.size≤100000000∧n≤r.size∧r.extract 0 n=x∧ReadOk r k n wd q∧(0≤l∧l≤1000000000)∧(0≤c∧c≤1000000000)∧(0≤l1∧l1≤1000000000)∧(0≤c1∧c1≤1000000000) ∧
   r.extract 0 x.size=a∧r.extract x.size r.size=r1∧ovL a l=l1∧ovC a c=c1∧gpN r1.data.toList=g∧r1.extract 0 g=b∧r1.extract g r1.size=r2∧ovL b l1=l2∧ovC b c1=c2∧r2.size<r.size∧Chn r2 l2 c2 ts2 r' l' c'):=by
 cases ts with
 | nil=>exact .inl ⟨rfl,h.1,h.2.1,h.2.2⟩
 | cons t ts =>
  obtain ⟨a,r1,b,r2,x,l1,c1,l2,c2,k,n,wd,g,q,rfl,h⟩:=h
  exact .inr ⟨a,r1,b,r2,x,l1,c1,l2,c2,k,n,wd,g,q,ts,rfl,h⟩
def restW (h:Nat) (w:World):Nat:=match w.cell? ⟨h,0,none⟩ with|some (.string r)=>r.size|_=>0
theorem Rw.rest {t:TypeId} {w:World} {h:Nat} {r:ByteArray} {a b:Value} (k:Rw t w h #[.string r,a,b]):restW h w=r.size:=by
 unfold restW
 rw [show w.cell? ⟨h,0,none⟩=some (.string r) from k.cell 0]
theorem Rw.kept {t:TypeId} {w w':World} {R B b:Nat} {cs:Array Value} (h:Rw t w R cs) (k:KeptT B b w w') (hR:b≤R∨(B≤R∧t=56)):Rw t w' R cs:=k.same R _ (hR.imp id fun ⟨h1,h2⟩=>⟨h1,by simp [isPl,h2]⟩) h
set_option maxRecDepth 100000 in
set_option maxHeartbeats 400000 in
theorem all_seq (s r0 R':ByteArray) (g0:Nat) (l0 c0 L' C':Int) (ts:List Tok) (w0:World) (Bx:Nat) (hs:s.size≤100000000)
  (b1:gpN s.data.toList=g0) (b2:s.extract g0 s.size=r0) (b3:ovL (s.extract 0 g0) 1=l0) (b4:ovC (s.extract 0 g0) 1=c0) (hC:Chn r0 l0 c0 ts R' L' C') (hend:R'.size=0∨(0<R'.size∧∃ g ev,ReadNo R' g∧Errs w0 g ev)) (hT:Tabs w0) :
  SeqT Fence.wide Tryz.prog 18 #[.pointer (some ⟨Bx,0,none⟩)] (fun xs=>xs.length=ts.length) (fun _=>True) (fun pre b x W=>∃ t,ts[pre.length]? = some t∧TkM W b x t) (fun W=>W.cell? ⟨Bx,0,none⟩=some (.string s)) w0:=by
 intro N0 l J Jx W hW hbx hJ hJx hY h0
 have HBg:=fun u=>beginQ s r0 g0 l0 c0 u hs b1 b2 b3 b4
 clear b1 b2 b3 b4
 have HE:Hid (R'.size=0∨(0<R'.size∧∃ g ev,ReadNo R' g∧Errs w0 g ev)):=hend
 have HCh:Hid (Chn r0 l0 c0 ts R' L' C'):=hC
 clear hend hC
 refine callsIn_of_wp Tryz.func18 rfl trivial ?_ rfl
 simp only [Tryz.ntmps18,List.size_toArray,List.length_cons,List.length_nil,Nat.reduceAdd,Nat.reduceSub,Array.replicate_succ,Array.replicate_zero,List.push_toArray,List.append_toArray,List.nil_append,List.cons_append]
 gi_wp2
 refine ⟨trivial,fun h=>(by cases h),?_⟩
 refine (callsIn_wide.2 (HBg _)).mono ?_
 unfold plC
 rintro e W1 ⟨rfl,hb1⟩
 have P0:=Rw.new 56 W1 #[.string r0,.int .i64 l0,.int .i64 c0]
 have hb2:=hb1.alloc hb1.size (.cells #[.string r0,.int .i64 l0,.int .i64 c0] 56)
 replace h0:=hJ _ _ _ h0 (Turns.of_below hb2)
 have hW2:Below w0.heap.size w0 (W1.alloc (.cells #[.string r0,.int .i64 l0,.int .i64 c0] 56)):=hW.trans (hb2.mono hW.size)
 have hs1:=hb1.size
 clear HBg hbx hb1
 gi_wp2
 generalize W1.alloc (.cells #[.string r0,.int .i64 l0,.int .i64 c0] 56)=W2 at *
 obtain ⟨H,hH⟩:∃ H,W1.heap.size=H:=⟨_,rfl⟩
 rw [hH] at P0 hs1 ⊢
 clear hH W1
 have hs2:=hb2.size
 gi_loopw [4] (fun _ wr=>∃ (r:ByteArray) (lc cc:Int) (pre:List (Array Value)) (td ts2:List Tok) (b:Nat),Hid (ts=td++ts2∧td.length=pre.length∧Chn r lc cc ts2 R' L' C')∧Rw 56 wr H #[.string r,.int .i64 lc,.int .i64 cc]∧J (pre,b) wr∧W.heap.size≤b∧b≤wr.heap.size∧Below w0.heap.size w0 wr) (fun _ wr=>restW H wr)
 case atStart=>exact ⟨r0,l0,c0,[],[],ts,W.heap.size,⟨rfl,rfl,HCh.out⟩,P0,h0,Nat.le_refl _,hs2,hW2⟩
 case round =>
  clear HCh P0 h0 hW2 hs2 hb2 W2
  obtain ⟨r,lc,cc,pre,td,ts2,b,HX,P,hj,hWb,hbw,hbel⟩:=hrel
  have p0:wr.cell? ⟨H,0,none⟩=some (.string r):=P.cell 0
  have p1:wr.cell? ⟨H,1,none⟩=some (.int .i64 lc):=P.cell 1
  have p2:wr.cell? ⟨H,2,none⟩=some (.int .i64 cc):=P.cell 2
  by_cases hr0:0<r.size
  ·have hne:=str_nil hr0
   obtain ⟨x1,x2,x3⟩:=HX.out
   rcases x3.inv with ⟨rfl,hR',-,-⟩|⟨a,r1,b',r2,x,l1,c1,l2,c2,k,n,wd,g,q,ts3,rfl,q0,hr,hn,hx,hR,hl,hc,hl1,hc1,e1,e2,e3,e4,e5,e6,e7,e8,e9,hlt,hC⟩
   ·rw [hR'] at HE
    rcases HE.out with h|⟨-,g,ev,hRN,E⟩
    ·omega
    ·have HTE:=tokenE r lc cc g wr hRN (hT.below hbel) (E.below hbel)
     have hlen:pre.length=ts.length:=by rw [x1,List.append_nil];exact x2.symm
     have hHJ:Hid (J (pre,b) wr):=hj
     clear HX HE x1 x3 hRN E hY hJx hR'
     unfold plC at HTE
     gi_wp2
     refine ⟨trivial,fun h=>(by cases h),?_⟩
     refine (callsIn_wide.2 HTE).mono ?_
     rintro e w1 ⟨F,rfl,-,-,hbt⟩
     have hb3:=hbt.alloc hbt.size (.cells #[.int .i64 0,.string ⟨#[]⟩,.bool false,.slice none 0 0,.slice none 0 0,.int .i64 0,.int .i64 0,.int .i64 0] 46)
     have hj2:=hJ _ _ _ hHJ.out (Turns.of_below hb3)
     have hbel2:=hbel.trans (hb3.mono hbel.size)
     clear HTE hbt hb3 hHJ hJ hj
     gi_wp2
     refine ⟨fun f h=>(by cases h),?_⟩
     gi_wp2
     exact bodyPost_ret (results_none Tryz.results18 _ _ _) rfl ⟨⟨_,rfl⟩,.inl ⟨pre,b,hlen,hj2,hbel2⟩⟩
   ·clear x3
    have HTK:=tokenQ r lc cc k n wd wr hr hn hR (hT.below hbel)
    rw [hx] at HTK
    have hxs:x.size≤r.size:=by rw [← hx,size_extract _ _ _ (by omega)];omega
    have HBH:=fun u1 u2 u3 u=>behindQ r x a r1 b' r2 lc cc l1 c1 l2 c2 (k:Nat) (wd:Nat) lc cc g u1 u2 u3 u hr hxs hl hc hl1 hc1 e1 e2 e3 e4 e5 e6 e7 e8 e9
    have HN:Hid (ts=(td++[⟨k,x,wd,lc,cc,q⟩])++ts3∧(td++[(⟨k,x,wd,lc,cc,q⟩:Tok)]).length=pre.length+1∧Chn r2 l2 c2 ts3 R' L' C'):=⟨by rw [x1];simp,by simp [x2],hC⟩
    have HAT:Hid (ts[pre.length]? = some ⟨k,x,wd,lc,cc,q⟩):=by
     show _=_
     rw [x1,← x2,List.getElem?_append_right (Nat.le_refl _),Nat.sub_self];rfl
    have HLT:Hid (r2.size<restW H wr):=by show _<_;rw [P.rest];exact hlt
    clear HX x1 x2 hC e1 e2 e3 e4 e5 e6 e7 e8 e9 hR hx hlt hl hc hl1 hc1 HE q0
    unfold plC tkC at HTK HBH
    gi_wp2
    refine ⟨trivial,fun h=>(by cases h),?_⟩
    refine (callsIn_wide.2 HTK).mono ?_
    rintro e w1 ⟨f,a1,n1,k1,a2,n2,k2,rfl,hnm,hbt⟩
    clear HTK
    have T0:=Rw.new 46 w1 #[.int .i64 (k:Nat),.string x,.bool f,.slice a1 n1 k1,.slice a2 n2 k2,.int .i64 (wd:Nat),.int .i64 lc,.int .i64 cc]
    have hb3:=hbt.alloc hbt.size (.cells #[.int .i64 (k:Nat),.string x,.bool f,.slice a1 n1 k1,.slice a2 n2 k2,.int .i64 (wd:Nat),.int .i64 lc,.int .i64 cc] 46)
    have hj2:=hJ _ _ _ hj (Turns.of_below hb3)
    have hbel2:=hbel.trans (hb3.mono hbel.size)
    have P2:=P.below hb3
    have hsw:=hbt.size
    have hs3:=hb3.size
    have HNM:=(show Hid (NumM _ b k f a1 n1 k1 a2 n2 k2 q) from (hnm.mono hbw).ku (Ku.of_below (bel_d0 _ (.cells #[.int .i64 (k:Nat),.string x,.bool f,.slice a1 n1 k1,.slice a2 n2 k2,.int .i64 (wd:Nat),.int .i64 lc,.int .i64 cc] 46))))
    clear hnm
    obtain ⟨fn,tmps,assign,body,hy,hRd⟩:=hY (N0-1) pre b #[.int .i64 (k:Nat),.string x,.bool f,.slice a1 n1 k1,.slice a2 n2 k2,.int .i64 (wd:Nat),.int .i64 lc,.int .i64 cc] _ hj2 hWb (Nat.le_trans hbw hs3) hbel2 ⟨_,HAT.out,f,a1,n1,k1,a2,n2,k2,rfl,HNM.out⟩
    obtain ⟨T,hT0⟩:∃ T,w1.heap.size=T:=⟨_,rfl⟩
    rw [hT0] at T0 hsw
    clear hbt hb3 hj2 hj hbel P p0 p1 p2 HAT hbel2 hs3 HNM
    gi_wp2
    refine ⟨fun h=>(by cases h),?_⟩
    refine hRd.mono ?_
    rintro e W3 (⟨rfl,hJ3,hk3,hb3⟩|⟨rfl,hx3⟩)
    ·have P3:=P2.kept hk3 (.inr ⟨by omega,rfl⟩)
     have T3:=T0.kept hk3 (.inl (by omega))
     have p0:W3.cell? ⟨H,0,none⟩=some (.string r):=P3.cell 0
     have p1:W3.cell? ⟨H,1,none⟩=some (.int .i64 lc):=P3.cell 1
     have p2:W3.cell? ⟨H,2,none⟩=some (.int .i64 cc):=P3.cell 2
     have y0:W3.cell? ⟨T,0,none⟩=some (.int .i64 (k:Nat)):=T3.cell 0
     have y1:W3.cell? ⟨T,1,none⟩=some (.string x):=T3.cell 1
     have y2:W3.cell? ⟨T,2,none⟩=some (.bool f):=T3.cell 2
     have y3:W3.cell? ⟨T,3,none⟩=some (.slice a1 n1 k1):=T3.cell 3
     have y4:W3.cell? ⟨T,4,none⟩=some (.slice a2 n2 k2):=T3.cell 4
     have y5:W3.cell? ⟨T,5,none⟩=some (.int .i64 (wd:Nat)):=T3.cell 5
     have y6:W3.cell? ⟨T,6,none⟩=some (.int .i64 lc):=T3.cell 6
     have y7:W3.cell? ⟨T,7,none⟩=some (.int .i64 cc):=T3.cell 7
     have HJ3:Hid (J (pre++[#[.int .i64 (k:Nat),.string x,.bool f,.slice a1 n1 k1,.slice a2 n2 k2,.int .i64 (wd:Nat),.int .i64 lc,.int .i64 cc]],W3.heap.size) W3):=hJ3
     have hH3:=P3.lt
     clear hJ3 hk3 hRd P2 T0 hY hy T3
     gi_wp2
     refine ⟨trivial,fun h=>(by cases h),?_⟩
     refine (callsIn_wide.2 (HBH _ _ _ _)).mono ?_
     rintro e W4 ⟨rfl,hb4⟩
     have P4:=P3.below hb4
     obtain ⟨c0',c1',c2',d0,d1,d2⟩:=id P4.var3
     obtain ⟨V,O⟩:=P4.var3.set (.string r2) (.int .i64 l2) (.int .i64 c2)
     have P5:Rw 56 (((W4.setCell ⟨H,0,none⟩ (.string r2)).setCell ⟨H,1,none⟩ (.int .i64 l2)).setCell ⟨H,2,none⟩ (.int .i64 c2)) H #[.string r2,.int .i64 l2,.int .i64 c2]:=by
      have q1:Rw 56 (W4.setCell ⟨H,0,none⟩ (.string r2)) H #[.string r2,.int .i64 lc,.int .i64 cc]:=(P4.cellset 0 _).1
      have q2:Rw 56 ((W4.setCell ⟨H,0,none⟩ (.string r2)).setCell ⟨H,1,none⟩ (.int .i64 l2)) H #[.string r2,.int .i64 l2,.int .i64 cc]:=(q1.cellset 1 _).1
      exact (q2.cellset 2 _).1
     have j4:=hJ _ _ _ HJ3.out (Turns.of_below (p:=isPl) (B:=W.heap.size) hb4)
     have j5:=hJ _ _ _ j4 (Turns.of_off O (by omega) (fun o ho=>by rw [show W4.heap[H]? = _ from P4] at ho;cases ho;simp [isPl]))
     have hb5:=(hb3.trans (hb4.mono hb3.size)).trans (O.below (B:=w0.heap.size) (by have:=hW.size;omega))
     have hs5:=hb4.size
     have hs6:=O.size
     have HQ:Hid (restW H (((W4.setCell ⟨H,0,none⟩ (.string r2)).setCell ⟨H,1,none⟩ (.int .i64 l2)).setCell ⟨H,2,none⟩ (.int .i64 c2))<restW H wr):=by
      show _<_
      rw [P5.rest];exact HLT.out
     have HJ5:=(show Hid (J (pre++[#[.int .i64 (k:Nat),.string x,.bool f,.slice a1 n1 k1,.slice a2 n2 k2,.int .i64 (wd:Nat),.int .i64 lc,.int .i64 cc]],W3.heap.size) (((W4.setCell ⟨H,0,none⟩ (.string r2)).setCell ⟨H,1,none⟩ (.int .i64 l2)).setCell ⟨H,2,none⟩ (.int .i64 c2))) from j5)
     have HP5:=(show Hid (Rw 56 (((W4.setCell ⟨H,0,none⟩ (.string r2)).setCell ⟨H,1,none⟩ (.int .i64 l2)).setCell ⟨H,2,none⟩ (.int .i64 c2)) H #[.string r2,.int .i64 l2,.int .i64 c2]) from P5)
     have HB5:=(show Hid (Below w0.heap.size w0 (((W4.setCell ⟨H,0,none⟩ (.string r2)).setCell ⟨H,1,none⟩ (.int .i64 l2)).setCell ⟨H,2,none⟩ (.int .i64 c2))) from hb5)
     clear HBH HJ3 P3 P4 V O P5 j4 j5 hb5 hb3 hb4 p0 p1 p2 y0 y1 y2 y3 y4 y5 y6 y7 HLT hJ hJx
     gi_wp2
     go_roundw
     case rel=>exact ⟨r2,l2,c2,pre++[#[.int .i64 (k:Nat),.string x,.bool f,.slice a1 n1 k1,.slice a2 n2 k2,.int .i64 (wd:Nat),.int .i64 lc,.int .i64 cc]],td++[⟨k,x,wd,lc,cc,q⟩],ts3,W3.heap.size,by simpa using HN,HP5.out,HJ5.out,by omega,by omega,HB5.out⟩
     case measure=>exact HQ.out
    ·clear hRd P2 T0 hY hy HBH
     gi_wp2
     exact bodyPost_ret (results_none Tryz.results18 _ _ _) rfl ⟨⟨_,rfl⟩,.inr ⟨_,trivial,hx3⟩⟩
  ·obtain rfl:=eq_nil hr0
   have hlen:pre.length=ts.length:=by
    obtain ⟨x1,x2,x3⟩:=HX.out
    rcases x3.inv with ⟨rfl,-⟩|⟨_,_,_,_,_,_,_,_,_,_,_,_,_,_,_,_,h0,_⟩
    ·rw [x1,List.append_nil];exact x2.symm
    ·exact absurd h0 hr0
   clear HX HE hY hJx hJ hr0
   gi_wp2
   go_end0
   exact ⟨⟨_,rfl⟩,.inl ⟨pre,b,hlen,hj,hbel⟩⟩
end Go.Proofs.YtgdilnljjgdinaaGreatDoor
namespace Go.Proofs.YtgdilnljjgdinaaGreatDoor
open Go.RowKit Go.Shelf
attribute [local go_sem] Oper.semAt_some
theorem all_in (s:ByteArray) (k:Nat) (w:World) :
  CallsIn Fence.wide k Tryz.prog 7 #[.string s] w fun e w'=>e = .returned (.func (.func 18) #[] #[.pointer (some ⟨w.heap.size,0,none⟩)])∧w'=w.alloc (.cells #[.string s] 9):=by
 refine callsIn_of_wp Tryz.func7 rfl trivial ?_ rfl
 simp only [Tryz.ntmps7,List.size_toArray,List.length_cons,List.length_nil,Nat.reduceAdd,Nat.reduceSub,Array.replicate_succ,Array.replicate_zero,List.push_toArray,List.append_toArray,List.nil_append,List.cons_append]
 gi_wp2
 go_ret
 exact ⟨rfl,rfl⟩
theorem Tryz.infoTk:(Tryz.prog.info? 46).map (fun i=>(i.zero.map (fun z=>z.cells.size),i.size,i.bytes))=some (some 8,8,104):=by kernel_rfl
theorem infoTk8:∃ i z,Tryz.prog.info? 46=some i∧i.zero=some z∧i.size=8∧i.bytes=104∧z.cells.size=8:=by
 obtain ⟨i,hi,h⟩:=Option.map_eq_some_iff.1 Tryz.infoTk
 simp only [Prod.mk.injEq] at h
 obtain ⟨h1,h2,h3⟩:=h
 obtain ⟨z,hz,h4⟩:=Option.map_eq_some_iff.1 h1
 exact ⟨i,z,hi,hz,h2,h3,h4⟩
def TkAt (W:World) (B g i:Nat) (t:Tok):Prop:=W.cell? ⟨g,i*8,none⟩=some (.int .i64 (t.k:Nat))∧W.cell? ⟨g,i*8+1,none⟩=some (.string t.x)∧W.cell? ⟨g,i*8+5,none⟩=some (.int .i64 (t.wd:Nat))∧W.cell? ⟨g,i*8+6,none⟩=some (.int .i64 t.l)∧W.cell? ⟨g,i*8+7,none⟩=some (.int .i64 t.c) ∧
 ∃ (f:Bool) (a1:Option Addr) (n1 k1:Nat) (a2:Option Addr) (n2 k2:Nat),W.cell? ⟨g,i*8+2,none⟩=some (.bool f)∧W.cell? ⟨g,i*8+3,none⟩=some (.slice a1 n1 k1)∧W.cell? ⟨g,i*8+4,none⟩=some (.slice a2 n2 k2)∧NumM W B t.k f a1 n1 k1 a2 n2 k2 t.q
def ScI (h pp:Nat) (ts:List Tok) (R':ByteArray) (L' C':Int) (s:List (Array Value) × Nat) (W:World):Prop :=
 ∃ v vs r l c td ts2,Boxed W h 24 v∧W.ownsRow h 46 8 v s.1.length vs∧vs=s.1.flatMap (fun x:Array Value=>x.toList)∧(∀ k,v.ownBlock=some k→k<s.2∧h≤k)∧(v = .slice none 0 0↔s.1=[]) ∧
  Rw 56 W pp #[.string r,.int .i64 l,.int .i64 c]∧ts=td++ts2∧td.length=s.1.length∧Chn r l c ts2 R' L' C'∧(∀ (i:Nat) x t,s.1[i]? = some x→td[i]? = some t→TkM W h x t)
theorem ScI.own {h pp D:Nat} {ts:List Tok} {R':ByteArray} {L' C':Int} (hh:h<D) (hp:pp<D):OwnT D (ScI h pp ts R' L' C'):=by
 rintro s X Y ⟨v,vs,r,l,c,td,ts2,hv,hr,h1,h2,h3,hP,h4,h5,h6,h7⟩ ht
 refine ⟨v,vs,r,l,c,td,ts2,ht.block h _ hv (.inl hh),⟨hr.1,?_⟩,h1,h2,h3,ht.block pp _ hP (.inl hp),h4,h5,h6,fun i x t a b=>(h7 i x t a b).ku (Ku.of_turns ht (fun c=>by simp [isMineT,isPl,Obj.isCells]))⟩
 rcases hr.2 with hn|⟨g,cap,cur,e1,e2,hgb,rest⟩
 ·exact .inl hn
 ·exact .inr ⟨g,cap,cur,e1,e2,ht.block g _ hgb (.inr (by simp [isMineT,isPl,Obj.isCells])),rest⟩
theorem Rw.not_row {t e:TypeId} {W:World} {B:Nat} {cs:Array Value} (h:Rw t W B cs) (hte:t≠e) {base size k:Nat} {v:Value} {xs:List Value} (hr:W.ownsRow base e size v k xs):some B≠v.ownBlock:=by
 rcases hr.2 with ⟨rfl,_⟩|⟨g,cap,cur,rfl,_,hgb,_⟩
 ·simp [Value.ownBlock]
 ·intro e1
  simp [Value.ownBlock] at e1
  subst e1
  rw [show W.heap[B]? = _ from h] at hgb
  simp at hgb
  exact hte hgb.2
theorem sc_app {W w1:World} {h pp t6 b n:Nat} {v v':Value} {vs us:List Value} {cs ds:Array Value} {o:Obj} (hv:Boxed W h 24 v) (hrow:W.ownsRow h 46 8 v n vs) (hvb:∀ k,v.ownBlock=some k→k<b∧h≤k) (hP:Rw 56 W pp cs) (hT6:Rw 46 W t6 ds) (hbt:b≤t6)
  (hown':w1.ownsRow h 46 8 v' (n+1) us) (hgrow:(W.alloc o).grownBy w1 v.ownBlock) :
  ∃ g' cap',v' = .slice (some ⟨g',0,none⟩) (n+1) cap'∧Boxed w1 h 24 v∧Rw 56 w1 pp cs∧Rw 46 w1 t6 ds:=by
 obtain ⟨g',cap',rfl⟩:=ownsRow_succ hown'
 have e1:=hv.lt
 have e2:=hP.lt
 have e3:=hT6.lt
 refine ⟨g',cap',rfl,?_,?_,?_⟩
 ·exact (hgrow.block h (by rw [World.size_alloc];omega) ((hv.alloc o).not_row (by decide) (hrow.alloc o))).trans (hv.alloc o)
 ·exact (hgrow.block pp (by rw [World.size_alloc];omega) ((hP.alloc o).not_row (by decide) (hrow.alloc o))).trans (hP.alloc o)
 ·exact (hgrow.block t6 (by rw [World.size_alloc];omega) (fun e=>by have:=(hvb t6 e.symm).1;omega)).trans (hT6.alloc o)
theorem own_kept {W W':World} {base size k:Nat} {e:TypeId} {v:Value} {xs:List Value} (h:W.ownsRow base e size v k xs) (hb:∀ g,v.ownBlock=some g→W'.heap[g]? = W.heap[g]?):W'.ownsRow base e size v k xs:=by
 refine ⟨h.1,?_⟩
 rcases h.2 with hn|⟨g,cap,cur,e1,e2,hgb,rest⟩
 ·exact .inl hn
 ·exact .inr ⟨g,cap,cur,e1,e2,(hb g (by rw [e1];rfl)).trans hgb,rest⟩
theorem sc_step {w W w1 W5:World} {h pp b D:Nat} {pre:List (Array Value)} {v:Value} {vs:List Value} {g' cap':Nat} {x:Array Value} {o:Obj} {r r2:ByteArray} {lc cc l2 c2:Int} {ts td ts3:List Tok} {tk:Tok} {R':ByteArray} {L' C':Int} {A:Act}
  (hvs:vs=pre.flatMap (fun x:Array Value=>x.toList)) (hrow:W.ownsRow h 46 8 v pre.length vs) (hvb:∀ k,v.ownBlock=some k→k<b∧h≤k)
  (hown':w1.ownsRow h 46 8 (.slice (some ⟨g',0,none⟩) (pre.length+1) cap') (pre.length+1) (vs++x.toList)) (hgrow:(W.alloc o).grownBy w1 v.ownBlock) (hv1:Boxed w1 h 24 v) (hP1:Rw 56 w1 pp #[.string r,.int .i64 lc,.int .i64 cc])
  (hb5:Below (w1.setCell ⟨h,0,none⟩ (.slice (some ⟨g',0,none⟩) (pre.length+1) cap')).heap.size (w1.setCell ⟨h,0,none⟩ (.slice (some ⟨g',0,none⟩) (pre.length+1) cap')) W5) (hbel:Below w.heap.size w W) (hwh:w.heap.size≤h) (hhp:h<pp) (hpD:pp<D) (hDb:D+2≤b)
  (H:(∀ (i:Nat) y t,(pre++[x])[i]? = some y→(td++[tk])[i]? = some t→TkM W h y t)∧ts=(td++[tk])++ts3∧Chn r2 l2 c2 ts3 R' L' C') (h5:td.length=pre.length) :
  LeftT D (D+2) b w.heap.size w (ScI h pp ts R' L' C') (fun _ _ _=>False) (pre++[x]) W .normal A (((W5.setCell ⟨pp,0,none⟩ (.string r2)).setCell ⟨pp,1,none⟩ (.int .i64 l2)).setCell ⟨pp,2,none⟩ (.int .i64 c2)):=by
 have O1:Off h w1 (w1.setCell ⟨h,0,none⟩ (.slice (some ⟨g',0,none⟩) (pre.length+1) cap')):=(Off.refl _ _).set 0 _
 have hn1:some h≠(Value.slice (some ⟨g',0,none⟩) (pre.length+1) cap').ownBlock:=hv1.not_row (by decide) hown'
 have hn2:some pp≠(Value.slice (some ⟨g',0,none⟩) (pre.length+1) cap').ownBlock:=hP1.not_row (by decide) hown'
 have hv2:=hv1.set (.slice (some ⟨g',0,none⟩) (pre.length+1) cap')
 have hP2:=hP1.off O1 (by omega)
 have hg2:=hown'.lt
 have hown2:=own_kept hown' (W':=w1.setCell ⟨h,0,none⟩ (.slice (some ⟨g',0,none⟩) (pre.length+1) cap')) (fun g hg=>O1.block g (fun e=>hn1 (by rw [← e];exact hg.symm)))
 have hlt:∀ g,(Value.slice (some ⟨g',0,none⟩) (pre.length+1) cap').ownBlock=some g→g<w1.heap.size:=fun g hg=>(World.ownsRow.lt hown' g hg).2
 have hs1:=O1.size
 have hown5:=own_kept hown2 (W':=W5) (fun g hg=>hb5.block g (by rw [hs1];exact hlt g hg))
 have hv5:Boxed W5 h 24 (.slice (some ⟨g',0,none⟩) (pre.length+1) cap'):=(hb5.block h hv2.lt).trans hv2
 have hP5:=hP2.below hb5
 obtain ⟨V,O5⟩:=hP5.var3.set (.string r2) (.int .i64 l2) (.int .i64 c2)
 have hown6:=own_kept hown5 (W':=((W5.setCell ⟨pp,0,none⟩ (.string r2)).setCell ⟨pp,1,none⟩ (.int .i64 l2)).setCell ⟨pp,2,none⟩ (.int .i64 c2)) (fun g hg=>O5.block g (fun e=>hn2 (by rw [← e];exact hg.symm)))
 have hv6:Boxed (((W5.setCell ⟨pp,0,none⟩ (.string r2)).setCell ⟨pp,1,none⟩ (.int .i64 l2)).setCell ⟨pp,2,none⟩ (.int .i64 c2)) h 24 (.slice (some ⟨g',0,none⟩) (pre.length+1) cap'):=(O5.block h (by omega)).trans hv5
 have hP6:Rw 56 (((W5.setCell ⟨pp,0,none⟩ (.string r2)).setCell ⟨pp,1,none⟩ (.int .i64 l2)).setCell ⟨pp,2,none⟩ (.int .i64 c2)) pp #[.string r2,.int .i64 l2,.int .i64 c2]:=by
  have q1:Rw 56 (W5.setCell ⟨pp,0,none⟩ (.string r2)) pp #[.string r2,.int .i64 lc,.int .i64 cc]:=(hP5.cellset 0 _).1
  have q2:Rw 56 ((W5.setCell ⟨pp,0,none⟩ (.string r2)).setCell ⟨pp,1,none⟩ (.int .i64 l2)) pp #[.string r2,.int .i64 l2,.int .i64 cc]:=(q1.cellset 1 _).1
  exact (q2.cellset 2 _).1
 have hs5:=hb5.size
 have hs6:=O5.size
 have hsg:=hgrow.size
 rw [World.size_alloc] at hsg
 have cellsG:∀ (j:Nat) (ob:Obj),v.ownBlock=some j→(W.alloc o).heap[j]? = some ob→isPl ob=false∧ob.isCells=true:=fun j ob hj hob=>by
  rcases (hrow.alloc o).2 with ⟨rfl,_⟩|⟨g,cap,cur,rfl,_,hgb,_⟩
  ·simp [Value.ownBlock] at hj
  ·obtain rfl:g=j:=by simpa [Value.ownBlock] using hj
   rw [hgb] at hob;cases hob;exact ⟨by simp [isPl],rfl⟩
 have kG:KeptT (D+2) b (W.alloc o) w1:=⟨hgrow.size,fun k ob hk hob=>(hgrow.block k (Array.getElem?_eq_some_iff.1 hob).1 (fun e=>by
  rcases hk with hk|hk
  ·have:=(hvb k e.symm).1;omega
  ·rw [(cellsG k ob e.symm hob).1] at hk;cases hk.2)).trans hob⟩
 have fG:KeepsFrom D (W.alloc o) w1:=⟨hgrow.size,fun k ob _ hob hc=>(hgrow.block k (Array.getElem?_eq_some_iff.1 hob).1 (fun e=>by rw [(cellsG k ob e.symm hob).2] at hc;cases hc)).trans hob⟩
 have fB:∀ {X Y:World},Below X.heap.size X Y→KeepsFrom D X Y:=fun hb=>⟨hb.size,fun k _ _ hk _=>(hb.block k (Array.getElem?_eq_some_iff.1 hk).1).trans hk⟩
 have hku:Ku W (((W5.setCell ⟨pp,0,none⟩ (.string r2)).setCell ⟨pp,1,none⟩ (.int .i64 l2)).setCell ⟨pp,2,none⟩ (.int .i64 c2)) :=
  ((((Ku.of_below (bel_d0 W o)).trans (Ku.of_grown (hrow.alloc o) (by decide) hgrow)).trans (Ku.of_off O1 (fun c k=>by have:=(show w1.heap[h]? = _ from hv1).symm.trans k;simp at this))).trans (Ku.of_below hb5)).trans (Ku.of_off O5 (fun c k=>hP5.not64 (by decide) k))
 refine ⟨?_,?_,?_,?_⟩
 ·exact ((((((fB (bel_d0 W o)).trans fG).trans ((KeepsOthers.setCell _ _ _).from D)).trans (fB hb5)).trans ((KeepsOthers.setCell _ _ _).from D)).trans ((KeepsOthers.setCell _ _ _).from D)).trans ((KeepsOthers.setCell _ _ _).from D)
 ·exact ((((KeptT.of_below (bel_d0 W o)).trans kG).trans (KeptT.of_off O1 (.inl (by omega)) (by omega))).trans (KeptT.of_below hb5)).trans (KeptT.of_off O5 (.inl (by omega)) (by omega))
 ·have q1:Below w.heap.size w w1:=(hbel.alloc hbel.size o).grown hgrow (by rw [World.size_alloc];have:=hbel.size;omega) (fun k hk=>by have:=(hvb k hk).2;omega)
  exact ((q1.trans (O1.below (B:=w.heap.size) hwh)).trans (hb5.mono (by rw [hs1];exact q1.size))).trans (O5.below (B:=w.heap.size) (by omega))
 ·refine ⟨_,_,r2,l2,c2,td++[tk],ts3,hv6,by simpa using hown6,by rw [hvs];simp,fun k hk=>?_,by simp,hP6,H.2.1,by simp [h5],H.2.2,fun i y t a b=>(H.1 i y t a b).ku hku⟩
  have h1:=World.ownsRow.lt hown' k hk
  exact ⟨by show k<_;omega,h1.1⟩
theorem flat8:∀ {ys:List (Array Value)} (_:∀ (i:Nat) y,ys[i]? = some y→y.size=8) (i j:Nat) (y:Array Value),ys[i]? = some y→j<8→(ys.flatMap (fun x:Array Value=>x.toList))[i*8+j]? = y[j]?
 | [],_,i,_,_,h,_=>by simp at h
 | a::ys,hs,0,j,y,h,hj=>by
  obtain rfl:a=y:=by simpa using h
  have h8:=hs 0 a rfl
  rw [List.flatMap_cons,Nat.zero_mul,Nat.zero_add,List.getElem?_append_left (by simp;omega)]
  simp
 | a::ys,hs,i+1,j,y,h,hj=>by
  have h8:=hs 0 a rfl
  have ih:=flat8 (ys:=ys) (fun i y hi=>hs (i+1) y (by simpa using hi)) i j y (by simpa using h) hj
  rw [List.flatMap_cons,List.getElem?_append_right (by simp;omega),← ih]
  congr 1
  simp;omega
theorem row_at {W:World} {g h n cap:Nat} {vs:List Value} (hrow:W.ownsRow h 46 8 (.slice (some ⟨g,0,none⟩) n cap) n vs) (j:Nat) (u:Value) (hj:vs[j]? = some u):W.cell? ⟨g,j,none⟩=some u:=by
 rcases hrow.2 with ⟨e,_⟩|⟨g2,cap2,cur,e1,_,hgb,_,_,_,ht⟩
 ·cases e
 ·simp only [Value.slice.injEq,Option.some.injEq,Addr.mk.injEq] at e1
  obtain ⟨⟨rfl,_⟩,_⟩:=e1
  exact row_cell hgb ht hj
set_option maxRecDepth 100000 in
set_option maxHeartbeats 400000 in
theorem scanQ (s r0 R':ByteArray) (g0:Nat) (l0 c0 L' C':Int) (ts:List Tok) (w:World) (hs:s.size≤100000000)
  (b1:gpN s.data.toList=g0) (b2:s.extract g0 s.size=r0) (b3:ovL (s.extract 0 g0) 1=l0) (b4:ovC (s.extract 0 g0) 1=c0) (hC:Chn r0 l0 c0 ts R' L' C') (htl:ts.length≤100000000) (hend:R'.size=0) (hT:Tabs w) :
  Calls Tryz.prog 11 #[.string s] w fun e w'=>(∃ v,e = .returned (.tuple #[v,.nilIface])∧(ts=[]→v = .slice none 0 0)∧(ts≠[]→∃ g cap,v = .slice (some ⟨g,0,none⟩) ts.length cap∧w.heap.size≤g∧∀ i t,ts[i]? = some t→TkAt w' w.heap.size g i t))∧Below w.heap.size w w':=by
 refine (callsIn_wide (n:=3)).1 ?_
 obtain ⟨i0,z0,hi,hz0,hz1,hz2,hz3⟩:=infoTk8
 have HBg:=fun u=>beginQ s r0 g0 l0 c0 u hs b1 b2 b3 b4
 have B0:=Boxed.new w 24 (.slice none 0 0)
 have hb0:Below w.heap.size w (w.alloc (.cells #[.slice none 0 0] 24)):=(Below.refl _ _).alloc (Nat.le_refl _) _
 have hs0:(w.alloc (.cells #[.slice none 0 0] 24)).heap.size=w.heap.size+1:=by simp
 refine callsIn_of_wp_marks Tryz.func11 rfl trivial ?_ rfl
 simp only [Tryz.ntmps11,List.size_toArray,List.length_cons,List.length_nil,Nat.reduceAdd,Nat.reduceSub,Array.replicate_succ,Array.replicate_zero,List.push_toArray,List.append_toArray,List.nil_append,List.cons_append]
 gi_wp2
 generalize w.alloc (.cells #[.slice none 0 0] 24)=W0 at *
 refine ⟨trivial,?_⟩
 refine (callsIn_wide.2 (HBg _)).mono ?_
 unfold plC
 rintro e W1 ⟨rfl,hb1⟩
 have B1:Boxed W1 w.heap.size 24 (.slice none 0 0):=(hb1.block _ (by omega)).trans B0
 have P1:=Rw.new 56 W1 #[.string r0,.int .i64 l0,.int .i64 c0]
 have hs1:=hb1.size
 replace hb0:=bel_tr hb0 hb1
 clear HBg B0 hb1
 gi_wp2
 refine ⟨trivial,?_⟩
 refine (all_in s _ _).mono ?_
 rintro e w' ⟨rfl,rfl⟩
 rw [World.size_alloc]
 gi_wp2
 have hT1:Tabs w:=hT
 have hbox:∀ W,Below ((W1.alloc (.cells #[.string r0,.int .i64 l0,.int .i64 c0] 56)).alloc (.cells #[.string s] 9)).heap.size ((W1.alloc (.cells #[.string r0,.int .i64 l0,.int .i64 c0] 56)).alloc (.cells #[.string s] 9)) W→W.cell? ⟨W1.heap.size+1,0,none⟩=some (.string s):=fun W hW=>by
  have h:=Rw.new 9 (W1.alloc (.cells #[.string r0,.int .i64 l0,.int .i64 c0] 56)) #[.string s]
  rw [World.size_alloc] at h
  exact (h.below hW).cell 0
 have B2:Boxed ((W1.alloc (.cells #[.string r0,.int .i64 l0,.int .i64 c0] 56)).alloc (.cells #[.string s] 9)) w.heap.size 24 (.slice none 0 0):=(B1.alloc _).alloc _
 have P2:=P1.alloc (.cells #[.string s] 9)
 have hb2:Below w.heap.size w ((W1.alloc (.cells #[.string r0,.int .i64 l0,.int .i64 c0] 56)).alloc (.cells #[.string s] 9)):=(hb0.alloc (by omega) _).alloc (by rw [World.size_alloc];omega) _
 have hs2:((W1.alloc (.cells #[.string r0,.int .i64 l0,.int .i64 c0] 56)).alloc (.cells #[.string s] 9)).heap.size=W1.heap.size+2:=by simp
 generalize (W1.alloc (.cells #[.string r0,.int .i64 l0,.int .i64 c0] 56)).alloc (.cells #[.string s] 9)=W2 at *
 obtain ⟨pp,hpp⟩:∃ pp,W1.heap.size=pp:=⟨_,rfl⟩
 rw [hpp] at hs1 hs2 P2 hbox ⊢
 clear P1 B1 hb0 hpp
 have hseq:=all_seq s r0 R' g0 l0 c0 L' C' ts w (pp+1) hs b1 b2 b3 b4 hC (.inl hend) hT
 clear b1 b2 b3 b4
 have HCh:Hid (Chn r0 l0 c0 ts R' L' C'):=hC
 clear hC hT
 refine range_outT (gf:=18) (lb:=#[.pointer (some ⟨pp+1,0,none⟩)]) rfl rfl rfl trivial (enters_of Tryz.func18 (by kernel_rfl) rfl) hseq (fun pre b x B W W' t ⟨tk,h1,h2⟩=>⟨tk,h1,h2.ku (Ku.of_turns t (fun c=>by simp [isMineT,isPl,Obj.isCells]))⟩) hb2 hbox rfl
  (ScI w.heap.size pp ts R' L' C') (fun _ _ _=>False) ?own (fun _ _ _ _ h _=>h) ?start hb2.size
  (fun x t6=>{ tmps:=#[.string s,undef,.slice none 0 0,.nilIface,.pointer (some ⟨w.heap.size,0,none⟩),.pointer (some ⟨pp,0,none⟩),.pointer (some ⟨t6,0,none⟩),undef,undef,.string s,.agg #[.string r0,.int .i64 l0,.int .i64 c0],.string s,.func (.func 18) #[] #[.pointer (some ⟨pp+1,0,none⟩)],.agg x,undef,undef,undef,undef,undef,undef,undef,undef,undef,undef,undef,undef,undef,undef,undef,undef,undef],defers:=[] }) ?assign ?body ?done ?stop
 case own=>exact ScI.own (by omega) (by omega)
 case start=>exact ⟨.slice none 0 0,[],r0,l0,c0,[],ts,B2,World.ownsRow_nil _ _ _ _,rfl,fun k hk=>by simp [Value.ownBlock] at hk,by simp,P2,rfl,rfl,HCh.out,fun i x t h=>by simp at h⟩
 case assign =>
  rintro l m x W K ⟨pre,_,_,t,-,f,a1,n1,k1,a2,n2,k2,rfl,-⟩ hK
  unfold tkC at hK ⊢
  gi_wp2
  exact hK
 case stop =>
  rintro D c pre W _ _ h _
  exact h.elim
 case body =>
  rintro l m pre b x t6 W _ hlw hT6 hbt ⟨v,vs,r,lc,cc,td,ts2,hv,hrow,hvs,hvb,hnil,hP,h4,h5,h6,h7⟩ hb2' hbW hbel ⟨t,hat,f,a1,n1,k1,a2,n2,k2,rfl,hnm⟩
  replace hnm:=hnm.mono (B':=w.heap.size) (by have:=hb2.size;omega)
  simp only at hrow hvs hvb hnil h5 h7
  have hts2:ts2[0]? = some t:=by
   rw [h4,List.getElem?_append_right (by omega),h5,Nat.sub_self] at hat;exact hat
  rcases h6.inv with ⟨rfl,-⟩|⟨a,r1,b',r2,x,l1,c1,l2,c2,k,n,wd,g,q,ts3,rfl,q0,hr,hn,hx,hR,hl,hc,hl1,hc1,e1,e2,e3,e4,e5,e6,e7,e8,e9,hlt,hC⟩
  ·cases hts2
  obtain rfl:(⟨k,x,wd,lc,cc,q⟩:Tok)=t:=by simpa using hts2
  have hxs:x.size≤r.size:=by rw [← hx,size_extract _ _ _ (by omega)];omega
  have HBH:=fun u=>behindQ r x a r1 b' r2 lc cc l1 c1 l2 c2 (k:Nat) (wd:Nat) lc cc g (.bool f) (.slice a1 n1 k1) (.slice a2 n2 k2) u hr hxs hl hc hl1 hc1 e1 e2 e3 e4 e5 e6 e7 e8 e9
  have hpl:pre.length≤100000000:=by rw [← h5];have:=congrArg List.length h4;simp at this;omega
  unfold tkC at hT6
  unfold plC tkC at HBH
  have HF:Hid ((∀ (i:Nat) y t,(pre++[(#[.int .i64 (k:Nat),.string x,.bool f,.slice a1 n1 k1,.slice a2 n2 k2,.int .i64 (wd:Nat),.int .i64 lc,.int .i64 cc]:Array Value)])[i]? = some y→(td++[(⟨k,x,wd,lc,cc,q⟩:Tok)])[i]? = some t→TkM W w.heap.size y t)∧ts=(td++[(⟨k,x,wd,lc,cc,q⟩:Tok)])++ts3∧Chn r2 l2 c2 ts3 R' L' C'):=by
   refine ⟨fun i y t h1 h2=>?_,by rw [h4];simp,hC⟩
   rcases Nat.lt_trichotomy i pre.length with hi'|hi'|hi'
   ·rw [List.getElem?_append_left hi'] at h1
    rw [List.getElem?_append_left (by omega)] at h2
    exact h7 i y t h1 h2
   ·subst hi'
    rw [List.getElem?_append_right (Nat.le_refl _),Nat.sub_self] at h1
    rw [List.getElem?_append_right (by omega),h5,Nat.sub_self] at h2
    simp at h1 h2
    subst h1 h2
    exact ⟨f,a1,n1,k1,a2,n2,k2,rfl,hnm⟩
   ·rw [List.getElem?_eq_none (by simp;omega)] at h1;cases h1
  have hcv:=hv.cell
  have p0:W.cell? ⟨pp,0,none⟩=some (.string r):=hP.cell 0
  clear hnm h4 h6 h7 hat hts2 hx hR hl hc hl1 hc1 e1 e2 e3 e4 e5 e6 e7 e8 e9 hC hlt hn hseq hbox HCh p0
  have y0:W.cell? ⟨t6,0,none⟩=some (.int .i64 (k:Nat)):=hT6.cell 0
  have y1:W.cell? ⟨t6,1,none⟩=some (.string x):=hT6.cell 1
  have y2:W.cell? ⟨t6,2,none⟩=some (.bool f):=hT6.cell 2
  have y3:W.cell? ⟨t6,3,none⟩=some (.slice a1 n1 k1):=hT6.cell 3
  have y4:W.cell? ⟨t6,4,none⟩=some (.slice a2 n2 k2):=hT6.cell 4
  have y5:W.cell? ⟨t6,5,none⟩=some (.int .i64 (wd:Nat)):=hT6.cell 5
  have y6:W.cell? ⟨t6,6,none⟩=some (.int .i64 lc):=hT6.cell 6
  have y7:W.cell? ⟨t6,7,none⟩=some (.int .i64 cc):=hT6.cell 7
  have hNC:∀ (j:Nat) (u:Value),([.int .i64 (k:Nat),.string x,.bool f,.slice a1 n1 k1,.slice a2 n2 k2,.int .i64 (wd:Nat),.int .i64 lc,.int .i64 cc]:List Value)[j]? = some u→(W.alloc (.cells #[.int .i64 (k:Nat),.string x,.bool f,.slice a1 n1 k1,.slice a2 n2 k2,.int .i64 (wd:Nat),.int .i64 lc,.int .i64 cc] 46)).cell? ((⟨W.heap.size,0,none⟩:Addr).add j)=some u:=fun j u hj=>by
   have h:=(Rw.new 46 W #[.int .i64 (k:Nat),.string x,.bool f,.slice a1 n1 k1,.slice a2 n2 k2,.int .i64 (wd:Nat),.int .i64 lc,.int .i64 cc]).cell j
   rw [show (⟨W.heap.size,0,none⟩:Addr).add j=⟨W.heap.size,j,none⟩ from by unfold Addr.add;split <;> simp_all,h]
   simpa using hj
  have hN1:∀ u ∈ ([.int .i64 (k:Nat),.string x,.bool f,.slice a1 n1 k1,.slice a2 n2 k2,.int .i64 (wd:Nat),.int .i64 lc,.int .i64 cc]:List Value),u.oneCell'=true:=fun u hu=>by
   simp only [List.mem_cons,List.not_mem_nil,or_false] at hu
   rcases hu with rfl|rfl|rfl|rfl|rfl|rfl|rfl|rfl <;> rfl
  have hppw:pp<W.heap.size:=hP.lt
  have ht6w:t6<W.heap.size:=hT6.lt
  have hvw:w.heap.size<W.heap.size:=hv.lt
  have hml:pre.length+1≤maxLen:=by
   have:(200000000:Nat)≤maxLen:=by decide
   omega
  have hby:(pre.length+1)*104≤140737488355328:=by omega
  have hrow2:=hrow.alloc (.cells #[.int .i64 (k:Nat),.string x,.bool f,.slice a1 n1 k1,.slice a2 n2 k2,.int .i64 (wd:Nat),.int .i64 lc,.int .i64 cc] 46)
  have hbs:w.heap.size≤(W.alloc (.cells #[.int .i64 (k:Nat),.string x,.bool f,.slice a1 n1 k1,.slice a2 n2 k2,.int .i64 (wd:Nat),.int .i64 lc,.int .i64 cc] 46)).heap.size:=by rw [World.size_alloc];omega
  gi_wp2_with (gi_at_builtin;refine wpListIn_append_own _ rfl _ _ 24 rfl w.heap.size 46 i0 z0 8 104 Tryz.underlying24 hi hz0 hz1 hz2 hz3 (by decide) v pre.length vs rfl hrow2 ⟨W.heap.size,0,none⟩ 1 1 [.int .i64 (k:Nat),.string x,.bool f,.slice a1 n1 k1,.slice a2 n2 k2,.int .i64 (wd:Nat),.int .i64 lc,.int .i64 cc] rfl rfl hNC hN1 hml hby hbs ?_;intro v' w1 hown' hgrow hnn;obtain ⟨g',cap',rfl,hv1,hP1,hT1'⟩:=sc_app hv hrow hvb hP hT6 hbt hown' hgrow;have hc1:=hv1.cell;have hf1:=hv1.frozen;have O1:Off w.heap.size w1 (w1.setCell ⟨w.heap.size,0,none⟩ (.slice (some ⟨g',0,none⟩) (pre.length+1) cap')):=(Off.refl _ _).set 0 _;have hP2:=hP1.off O1 (by omega);have hT2:=hT1'.off O1 (by omega);have m0:(w1.setCell ⟨w.heap.size,0,none⟩ (.slice (some ⟨g',0,none⟩) (pre.length+1) cap')).cell? ⟨pp,0,none⟩=some (.string r):=hP2.cell 0;have m1:(w1.setCell ⟨w.heap.size,0,none⟩ (.slice (some ⟨g',0,none⟩) (pre.length+1) cap')).cell? ⟨pp,1,none⟩=some (.int .i64 lc):=hP2.cell 1;have m2:(w1.setCell ⟨w.heap.size,0,none⟩ (.slice (some ⟨g',0,none⟩) (pre.length+1) cap')).cell? ⟨pp,2,none⟩=some (.int .i64 cc):=hP2.cell 2;have z0:(w1.setCell ⟨w.heap.size,0,none⟩ (.slice (some ⟨g',0,none⟩) (pre.length+1) cap')).cell? ⟨t6,0,none⟩=some (.int .i64 (k:Nat)):=hT2.cell 0;have z1:(w1.setCell ⟨w.heap.size,0,none⟩ (.slice (some ⟨g',0,none⟩) (pre.length+1) cap')).cell? ⟨t6,1,none⟩=some (.string x):=hT2.cell 1;have z2:(w1.setCell ⟨w.heap.size,0,none⟩ (.slice (some ⟨g',0,none⟩) (pre.length+1) cap')).cell? ⟨t6,2,none⟩=some (.bool f):=hT2.cell 2;have z3:(w1.setCell ⟨w.heap.size,0,none⟩ (.slice (some ⟨g',0,none⟩) (pre.length+1) cap')).cell? ⟨t6,3,none⟩=some (.slice a1 n1 k1):=hT2.cell 3;have z4:(w1.setCell ⟨w.heap.size,0,none⟩ (.slice (some ⟨g',0,none⟩) (pre.length+1) cap')).cell? ⟨t6,4,none⟩=some (.slice a2 n2 k2):=hT2.cell 4;have z5:(w1.setCell ⟨w.heap.size,0,none⟩ (.slice (some ⟨g',0,none⟩) (pre.length+1) cap')).cell? ⟨t6,5,none⟩=some (.int .i64 (wd:Nat)):=hT2.cell 5;have z6:(w1.setCell ⟨w.heap.size,0,none⟩ (.slice (some ⟨g',0,none⟩) (pre.length+1) cap')).cell? ⟨t6,6,none⟩=some (.int .i64 lc):=hT2.cell 6;have z7:(w1.setCell ⟨w.heap.size,0,none⟩ (.slice (some ⟨g',0,none⟩) (pre.length+1) cap')).cell? ⟨t6,7,none⟩=some (.int .i64 cc):=hT2.cell 7;have mm0:w1.cell? ⟨pp,0,none⟩=some (.string r):=hP1.cell 0;have mm1:w1.cell? ⟨pp,1,none⟩=some (.int .i64 lc):=hP1.cell 1;have mm2:w1.cell? ⟨pp,2,none⟩=some (.int .i64 cc):=hP1.cell 2;have zz0:w1.cell? ⟨t6,0,none⟩=some (.int .i64 (k:Nat)):=hT1'.cell 0;have zz1:w1.cell? ⟨t6,1,none⟩=some (.string x):=hT1'.cell 1;have zz2:w1.cell? ⟨t6,2,none⟩=some (.bool f):=hT1'.cell 2;have zz3:w1.cell? ⟨t6,3,none⟩=some (.slice a1 n1 k1):=hT1'.cell 3;have zz4:w1.cell? ⟨t6,4,none⟩=some (.slice a2 n2 k2):=hT1'.cell 4;have zz5:w1.cell? ⟨t6,5,none⟩=some (.int .i64 (wd:Nat)):=hT1'.cell 5;have zz6:w1.cell? ⟨t6,6,none⟩=some (.int .i64 lc):=hT1'.cell 6;have zz7:w1.cell? ⟨t6,7,none⟩=some (.int .i64 cc):=hT1'.cell 7)
  refine ⟨trivial,fun h=>(by cases h),?_⟩
  refine (callsIn_wide.2 (HBH _)).mono ?_
  rintro e W5 ⟨rfl,hb5⟩
  have hP5:=hP2.below hb5
  obtain ⟨c0',c1',c2',d0,d1,d2⟩:=id hP5.var3
  have HS:=(show Hid (∀ A,LeftT (pp+2) (pp+2+2) b w.heap.size w (ScI w.heap.size pp ts R' L' C') (fun _ _ _=>False) (pre++[_]) W .normal A (((W5.setCell ⟨pp,0,none⟩ (.string r2)).setCell ⟨pp,1,none⟩ (.int .i64 l2)).setCell ⟨pp,2,none⟩ (.int .i64 c2))) from fun A=>sc_step hvs hrow hvb hown' hgrow hv1 hP1 hb5 hbel (Nat.le_refl _) (by omega) (by omega) (by omega) HF.out h5)
  clear HBH hgrow hown' hv1 hP1 hT1' hP2 hT2 O1 hc1 hf1 hP hT6 hv hrow hP5
  gi_wp2
  exact HS.out _
 case done =>
  rintro D ys W hD hlen ⟨b,v,vs,r,lc,cc,td,ts2,hv,hrow,hvs,hvb,hnil,hP,h4,h5,h6,h7⟩ hbel hK
  simp only at hlen hrow hvs hvb hnil h5 h7
  have hl2:ts2=[]:=by
   have:=congrArg List.length h4
   rw [List.length_append] at this
   exact List.eq_nil_of_length_eq_zero (by omega)
  subst hl2
  rcases h6.inv with ⟨-,hR',hL',hC'⟩|⟨_,_,_,_,_,_,_,_,_,_,_,_,_,_,_,e,_⟩
  ·rw [hR'] at hend
   obtain rfl:r=⟨#[]⟩:=eq_nil (by omega)
   rw [List.append_nil] at h4
   have hc:=hv.cell
   have p0:W.cell? ⟨pp,0,none⟩=some (.string ⟨#[]⟩):=hP.cell 0
   have hDg:∀ g,W.heap[D]? = some g→g.isCells=false:=fun g hg=>by rw [hK] at hg;cases hg;rfl
   have hfin:Hid ((ts=[]→v = .slice none 0 0)∧(ts≠[]→∃ g cap,v = .slice (some ⟨g,0,none⟩) ts.length cap∧w.heap.size≤g∧∀ (i:Nat) t,ts[i]? = some t→TkAt (W.putObj D (.deferred none)) w.heap.size g i t)∧Below w.heap.size w (W.putObj D (.deferred none))):=by
    refine ⟨fun he=>hnil.2 (List.eq_nil_of_length_eq_zero (by rw [hlen,he];rfl)),fun hne=>?_,hbel.trans (belowK_b (w:=w) (Nat.le_refl _) W D _ _ (by have:=hb2.size;omega) hK rfl rfl)⟩
    rcases hrow.2 with ⟨_,e2⟩|⟨g,cap,cur,e1,hg,hgb,hcap,hmx,hcs,htk⟩
    ·exact absurd (List.eq_nil_of_length_eq_zero (by omega)) hne
    ·refine ⟨g,cap,by rw [e1,hlen],hg,fun i t hi'=>?_⟩
     rw [e1] at hrow
     have hgD:g≠D:=fun e=>by rw [e,hK] at hgb;cases hgb
     have hil:i<ys.length:=by rw [hlen];exact (List.getElem?_eq_some_iff.1 hi').1
     have hall:∀ (i:Nat) y,ys[i]? = some y→y.size=8:=fun i y hy=>by
      have hit:i<td.length:=by rw [h5];exact (List.getElem?_eq_some_iff.1 hy).1
      obtain ⟨f,a1,n1,k1,a2,n2,k2,rfl,-⟩:=h7 i y _ hy (List.getElem?_eq_getElem hit)
      rfl
     obtain ⟨f,a1,n1,k1,a2,n2,k2,hy,hnm⟩:=h7 i ys[i] t (List.getElem?_eq_getElem hil) (by rw [← h4];exact hi')
     have at':∀ (j:Nat) (u:Value),j<8→(tkC (t.k:Nat) t.x (.bool f) (.slice a1 n1 k1) (.slice a2 n2 k2) (t.wd:Nat) t.l t.c)[j]? = some u→(W.putObj D (.deferred none)).cell? ⟨g,i*8+j,none⟩=some u:=fun j u hj hu=>by
      have h8:=flat8 hall i j ys[i] (List.getElem?_eq_getElem hil) hj
      rw [← hvs,hy,hu] at h8
      have h9:=row_at hrow (i*8+j) u h8
      rw [← h9]
      exact World.cell?_of_block (World.putObj_heap_other hgD)
     exact ⟨at' 0 _ (by decide) rfl,at' 1 _ (by decide) rfl,at' 5 _ (by decide) rfl,at' 6 _ (by decide) rfl,at' 7 _ (by decide) rfl,f,a1,n1,k1,a2,n2,k2,at' 2 _ (by decide) rfl,at' 3 _ (by decide) rfl,at' 4 _ (by decide) rfl,hnm.ku (Ku.put _ hK rfl)⟩
   clear hrow hvs hvb hnil hP h4 h5 h6 h7 hbel hlen hv hDg hseq hbox HCh hR' hL' hC'
   gi_wp2
   refine ⟨by simp,.inl ⟨_,_,rfl,run_takeDeferred hK,?_⟩⟩
   exact ⟨_,results_tmp2 rfl _ _ _,⟨v,rfl,hfin.out.1,hfin.out.2.1⟩,hfin.out.2.2⟩
  ·cases e
end Go.Proofs.YtgdilnljjgdinaaGreatDoor
namespace Go.Proofs.YtgdilnljjgdinaaGreatDoor
open Go.RowKit Go.Shelf
attribute [local go_sem] Oper.semAt_some
set_option maxRecDepth 100000 in
set_option maxHeartbeats 400000 in
theorem scanE (s r0 R':ByteArray) (g0:Nat) (l0 c0 L' C':Int) (ts:List Tok) (w:World) (hs:s.size≤100000000)
  (b1:gpN s.data.toList=g0) (b2:s.extract g0 s.size=r0) (b3:ovL (s.extract 0 g0) 1=l0) (b4:ovC (s.extract 0 g0) 1=c0) (hC:Chn r0 l0 c0 ts R' L' C') (htl:ts.length≤100000000) (hend:0<R'.size) {gE:Nat} {ev:Value} (HRN:ReadNo R' gE) (E:Errs w gE ev) (hT:Tabs w) :
  Calls Tryz.prog 11 #[.string s] w fun e w'=>(∃ F,e = .returned (.tuple #[.slice none 0 0,.iface 64 (.pointer (some ⟨F,0,none⟩))])∧Rw 68 w' F #[.int .i64 L',.int .i64 C',ev]∧w.heap.size≤F)∧Below w.heap.size w w':=by
 refine (callsIn_wide (n:=3)).1 ?_
 obtain ⟨i0,z0,hi,hz0,hz1,hz2,hz3⟩:=infoTk8
 have HBg:=fun u=>beginQ s r0 g0 l0 c0 u hs b1 b2 b3 b4
 have B0:=Boxed.new w 24 (.slice none 0 0)
 have hb0:Below w.heap.size w (w.alloc (.cells #[.slice none 0 0] 24)):=(Below.refl _ _).alloc (Nat.le_refl _) _
 have hs0:(w.alloc (.cells #[.slice none 0 0] 24)).heap.size=w.heap.size+1:=by simp
 refine callsIn_of_wp_marks Tryz.func11 rfl trivial ?_ rfl
 simp only [Tryz.ntmps11,List.size_toArray,List.length_cons,List.length_nil,Nat.reduceAdd,Nat.reduceSub,Array.replicate_succ,Array.replicate_zero,List.push_toArray,List.append_toArray,List.nil_append,List.cons_append]
 gi_wp2
 generalize w.alloc (.cells #[.slice none 0 0] 24)=W0 at *
 refine ⟨trivial,?_⟩
 refine (callsIn_wide.2 (HBg _)).mono ?_
 unfold plC
 rintro e W1 ⟨rfl,hb1⟩
 have B1:Boxed W1 w.heap.size 24 (.slice none 0 0):=(hb1.block _ (by omega)).trans B0
 have P1:=Rw.new 56 W1 #[.string r0,.int .i64 l0,.int .i64 c0]
 have hs1:=hb1.size
 replace hb0:=bel_tr hb0 hb1
 clear HBg B0 hb1
 gi_wp2
 refine ⟨trivial,?_⟩
 refine (all_in s _ _).mono ?_
 rintro e w' ⟨rfl,rfl⟩
 rw [World.size_alloc]
 gi_wp2
 have hT1:Tabs w:=hT
 have hbox:∀ W,Below ((W1.alloc (.cells #[.string r0,.int .i64 l0,.int .i64 c0] 56)).alloc (.cells #[.string s] 9)).heap.size ((W1.alloc (.cells #[.string r0,.int .i64 l0,.int .i64 c0] 56)).alloc (.cells #[.string s] 9)) W→W.cell? ⟨W1.heap.size+1,0,none⟩=some (.string s):=fun W hW=>by
  have h:=Rw.new 9 (W1.alloc (.cells #[.string r0,.int .i64 l0,.int .i64 c0] 56)) #[.string s]
  rw [World.size_alloc] at h
  exact (h.below hW).cell 0
 have B2:Boxed ((W1.alloc (.cells #[.string r0,.int .i64 l0,.int .i64 c0] 56)).alloc (.cells #[.string s] 9)) w.heap.size 24 (.slice none 0 0):=(B1.alloc _).alloc _
 have P2:=P1.alloc (.cells #[.string s] 9)
 have hb2:Below w.heap.size w ((W1.alloc (.cells #[.string r0,.int .i64 l0,.int .i64 c0] 56)).alloc (.cells #[.string s] 9)):=(hb0.alloc (by omega) _).alloc (by rw [World.size_alloc];omega) _
 have hs2:((W1.alloc (.cells #[.string r0,.int .i64 l0,.int .i64 c0] 56)).alloc (.cells #[.string s] 9)).heap.size=W1.heap.size+2:=by simp
 generalize (W1.alloc (.cells #[.string r0,.int .i64 l0,.int .i64 c0] 56)).alloc (.cells #[.string s] 9)=W2 at *
 obtain ⟨pp,hpp⟩:∃ pp,W1.heap.size=pp:=⟨_,rfl⟩
 rw [hpp] at hs1 hs2 P2 hbox ⊢
 clear P1 B1 hb0 hpp
 have hseq:=all_seq s r0 R' g0 l0 c0 L' C' ts w (pp+1) hs b1 b2 b3 b4 hC (.inr ⟨hend,gE,ev,HRN,E⟩) hT
 clear b1 b2 b3 b4
 have HCh:Hid (Chn r0 l0 c0 ts R' L' C'):=hC
 clear hC hT
 refine range_outT (gf:=18) (lb:=#[.pointer (some ⟨pp+1,0,none⟩)]) rfl rfl rfl trivial (enters_of Tryz.func18 (by kernel_rfl) rfl) hseq (fun pre b x B W W' t ⟨tk,h1,h2⟩=>⟨tk,h1,h2.ku (Ku.of_turns t (fun c=>by simp [isMineT,isPl,Obj.isCells]))⟩) hb2 hbox rfl
  (ScI w.heap.size pp ts R' L' C') (fun _ _ _=>False) ?own (fun _ _ _ _ h _=>h) ?start hb2.size
  (fun x t6=>{ tmps:=#[.string s,undef,.slice none 0 0,.nilIface,.pointer (some ⟨w.heap.size,0,none⟩),.pointer (some ⟨pp,0,none⟩),.pointer (some ⟨t6,0,none⟩),undef,undef,.string s,.agg #[.string r0,.int .i64 l0,.int .i64 c0],.string s,.func (.func 18) #[] #[.pointer (some ⟨pp+1,0,none⟩)],.agg x,undef,undef,undef,undef,undef,undef,undef,undef,undef,undef,undef,undef,undef,undef,undef,undef,undef],defers:=[] }) ?assign ?body ?done ?stop
 case own=>exact ScI.own (by omega) (by omega)
 case start=>exact ⟨.slice none 0 0,[],r0,l0,c0,[],ts,B2,World.ownsRow_nil _ _ _ _,rfl,fun k hk=>by simp [Value.ownBlock] at hk,by simp,P2,rfl,rfl,HCh.out,fun i x t h=>by simp at h⟩
 case assign =>
  rintro l m x W K ⟨pre,_,_,t,-,f,a1,n1,k1,a2,n2,k2,rfl,-⟩ hK
  unfold tkC at hK ⊢
  gi_wp2
  exact hK
 case stop =>
  rintro D c pre W _ _ h _
  exact h.elim
 case body =>
  rintro l m pre b x t6 W _ hlw hT6 hbt ⟨v,vs,r,lc,cc,td,ts2,hv,hrow,hvs,hvb,hnil,hP,h4,h5,h6,h7⟩ hb2' hbW hbel ⟨t,hat,f,a1,n1,k1,a2,n2,k2,rfl,hnm⟩
  replace hnm:=hnm.mono (B':=w.heap.size) (by have:=hb2.size;omega)
  simp only at hrow hvs hvb hnil h5 h7
  have hts2:ts2[0]? = some t:=by
   rw [h4,List.getElem?_append_right (by omega),h5,Nat.sub_self] at hat;exact hat
  rcases h6.inv with ⟨rfl,-⟩|⟨a,r1,b',r2,x,l1,c1,l2,c2,k,n,wd,g,q,ts3,rfl,q0,hr,hn,hx,hR,hl,hc,hl1,hc1,e1,e2,e3,e4,e5,e6,e7,e8,e9,hlt,hC⟩
  ·cases hts2
  obtain rfl:(⟨k,x,wd,lc,cc,q⟩:Tok)=t:=by simpa using hts2
  have hxs:x.size≤r.size:=by rw [← hx,size_extract _ _ _ (by omega)];omega
  have HBH:=fun u=>behindQ r x a r1 b' r2 lc cc l1 c1 l2 c2 (k:Nat) (wd:Nat) lc cc g (.bool f) (.slice a1 n1 k1) (.slice a2 n2 k2) u hr hxs hl hc hl1 hc1 e1 e2 e3 e4 e5 e6 e7 e8 e9
  have hpl:pre.length≤100000000:=by rw [← h5];have:=congrArg List.length h4;simp at this;omega
  unfold tkC at hT6
  unfold plC tkC at HBH
  have HF:Hid ((∀ (i:Nat) y t,(pre++[(#[.int .i64 (k:Nat),.string x,.bool f,.slice a1 n1 k1,.slice a2 n2 k2,.int .i64 (wd:Nat),.int .i64 lc,.int .i64 cc]:Array Value)])[i]? = some y→(td++[(⟨k,x,wd,lc,cc,q⟩:Tok)])[i]? = some t→TkM W w.heap.size y t)∧ts=(td++[(⟨k,x,wd,lc,cc,q⟩:Tok)])++ts3∧Chn r2 l2 c2 ts3 R' L' C'):=by
   refine ⟨fun i y t h1 h2=>?_,by rw [h4];simp,hC⟩
   rcases Nat.lt_trichotomy i pre.length with hi'|hi'|hi'
   ·rw [List.getElem?_append_left hi'] at h1
    rw [List.getElem?_append_left (by omega)] at h2
    exact h7 i y t h1 h2
   ·subst hi'
    rw [List.getElem?_append_right (Nat.le_refl _),Nat.sub_self] at h1
    rw [List.getElem?_append_right (by omega),h5,Nat.sub_self] at h2
    simp at h1 h2
    subst h1 h2
    exact ⟨f,a1,n1,k1,a2,n2,k2,rfl,hnm⟩
   ·rw [List.getElem?_eq_none (by simp;omega)] at h1;cases h1
  have hcv:=hv.cell
  have p0:W.cell? ⟨pp,0,none⟩=some (.string r):=hP.cell 0
  clear hnm h4 h6 h7 hat hts2 hx hR hl hc hl1 hc1 e1 e2 e3 e4 e5 e6 e7 e8 e9 hC hlt hn hseq hbox HCh p0
  have y0:W.cell? ⟨t6,0,none⟩=some (.int .i64 (k:Nat)):=hT6.cell 0
  have y1:W.cell? ⟨t6,1,none⟩=some (.string x):=hT6.cell 1
  have y2:W.cell? ⟨t6,2,none⟩=some (.bool f):=hT6.cell 2
  have y3:W.cell? ⟨t6,3,none⟩=some (.slice a1 n1 k1):=hT6.cell 3
  have y4:W.cell? ⟨t6,4,none⟩=some (.slice a2 n2 k2):=hT6.cell 4
  have y5:W.cell? ⟨t6,5,none⟩=some (.int .i64 (wd:Nat)):=hT6.cell 5
  have y6:W.cell? ⟨t6,6,none⟩=some (.int .i64 lc):=hT6.cell 6
  have y7:W.cell? ⟨t6,7,none⟩=some (.int .i64 cc):=hT6.cell 7
  have hNC:∀ (j:Nat) (u:Value),([.int .i64 (k:Nat),.string x,.bool f,.slice a1 n1 k1,.slice a2 n2 k2,.int .i64 (wd:Nat),.int .i64 lc,.int .i64 cc]:List Value)[j]? = some u→(W.alloc (.cells #[.int .i64 (k:Nat),.string x,.bool f,.slice a1 n1 k1,.slice a2 n2 k2,.int .i64 (wd:Nat),.int .i64 lc,.int .i64 cc] 46)).cell? ((⟨W.heap.size,0,none⟩:Addr).add j)=some u:=fun j u hj=>by
   have h:=(Rw.new 46 W #[.int .i64 (k:Nat),.string x,.bool f,.slice a1 n1 k1,.slice a2 n2 k2,.int .i64 (wd:Nat),.int .i64 lc,.int .i64 cc]).cell j
   rw [show (⟨W.heap.size,0,none⟩:Addr).add j=⟨W.heap.size,j,none⟩ from by unfold Addr.add;split <;> simp_all,h]
   simpa using hj
  have hN1:∀ u ∈ ([.int .i64 (k:Nat),.string x,.bool f,.slice a1 n1 k1,.slice a2 n2 k2,.int .i64 (wd:Nat),.int .i64 lc,.int .i64 cc]:List Value),u.oneCell'=true:=fun u hu=>by
   simp only [List.mem_cons,List.not_mem_nil,or_false] at hu
   rcases hu with rfl|rfl|rfl|rfl|rfl|rfl|rfl|rfl <;> rfl
  have hppw:pp<W.heap.size:=hP.lt
  have ht6w:t6<W.heap.size:=hT6.lt
  have hvw:w.heap.size<W.heap.size:=hv.lt
  have hml:pre.length+1≤maxLen:=by
   have:(200000000:Nat)≤maxLen:=by decide
   omega
  have hby:(pre.length+1)*104≤140737488355328:=by omega
  have hrow2:=hrow.alloc (.cells #[.int .i64 (k:Nat),.string x,.bool f,.slice a1 n1 k1,.slice a2 n2 k2,.int .i64 (wd:Nat),.int .i64 lc,.int .i64 cc] 46)
  have hbs:w.heap.size≤(W.alloc (.cells #[.int .i64 (k:Nat),.string x,.bool f,.slice a1 n1 k1,.slice a2 n2 k2,.int .i64 (wd:Nat),.int .i64 lc,.int .i64 cc] 46)).heap.size:=by rw [World.size_alloc];omega
  gi_wp2_with (gi_at_builtin;refine wpListIn_append_own _ rfl _ _ 24 rfl w.heap.size 46 i0 z0 8 104 Tryz.underlying24 hi hz0 hz1 hz2 hz3 (by decide) v pre.length vs rfl hrow2 ⟨W.heap.size,0,none⟩ 1 1 [.int .i64 (k:Nat),.string x,.bool f,.slice a1 n1 k1,.slice a2 n2 k2,.int .i64 (wd:Nat),.int .i64 lc,.int .i64 cc] rfl rfl hNC hN1 hml hby hbs ?_;intro v' w1 hown' hgrow hnn;obtain ⟨g',cap',rfl,hv1,hP1,hT1'⟩:=sc_app hv hrow hvb hP hT6 hbt hown' hgrow;have hc1:=hv1.cell;have hf1:=hv1.frozen;have O1:Off w.heap.size w1 (w1.setCell ⟨w.heap.size,0,none⟩ (.slice (some ⟨g',0,none⟩) (pre.length+1) cap')):=(Off.refl _ _).set 0 _;have hP2:=hP1.off O1 (by omega);have hT2:=hT1'.off O1 (by omega);have m0:(w1.setCell ⟨w.heap.size,0,none⟩ (.slice (some ⟨g',0,none⟩) (pre.length+1) cap')).cell? ⟨pp,0,none⟩=some (.string r):=hP2.cell 0;have m1:(w1.setCell ⟨w.heap.size,0,none⟩ (.slice (some ⟨g',0,none⟩) (pre.length+1) cap')).cell? ⟨pp,1,none⟩=some (.int .i64 lc):=hP2.cell 1;have m2:(w1.setCell ⟨w.heap.size,0,none⟩ (.slice (some ⟨g',0,none⟩) (pre.length+1) cap')).cell? ⟨pp,2,none⟩=some (.int .i64 cc):=hP2.cell 2;have z0:(w1.setCell ⟨w.heap.size,0,none⟩ (.slice (some ⟨g',0,none⟩) (pre.length+1) cap')).cell? ⟨t6,0,none⟩=some (.int .i64 (k:Nat)):=hT2.cell 0;have z1:(w1.setCell ⟨w.heap.size,0,none⟩ (.slice (some ⟨g',0,none⟩) (pre.length+1) cap')).cell? ⟨t6,1,none⟩=some (.string x):=hT2.cell 1;have z2:(w1.setCell ⟨w.heap.size,0,none⟩ (.slice (some ⟨g',0,none⟩) (pre.length+1) cap')).cell? ⟨t6,2,none⟩=some (.bool f):=hT2.cell 2;have z3:(w1.setCell ⟨w.heap.size,0,none⟩ (.slice (some ⟨g',0,none⟩) (pre.length+1) cap')).cell? ⟨t6,3,none⟩=some (.slice a1 n1 k1):=hT2.cell 3;have z4:(w1.setCell ⟨w.heap.size,0,none⟩ (.slice (some ⟨g',0,none⟩) (pre.length+1) cap')).cell? ⟨t6,4,none⟩=some (.slice a2 n2 k2):=hT2.cell 4;have z5:(w1.setCell ⟨w.heap.size,0,none⟩ (.slice (some ⟨g',0,none⟩) (pre.length+1) cap')).cell? ⟨t6,5,none⟩=some (.int .i64 (wd:Nat)):=hT2.cell 5;have z6:(w1.setCell ⟨w.heap.size,0,none⟩ (.slice (some ⟨g',0,none⟩) (pre.length+1) cap')).cell? ⟨t6,6,none⟩=some (.int .i64 lc):=hT2.cell 6;have z7:(w1.setCell ⟨w.heap.size,0,none⟩ (.slice (some ⟨g',0,none⟩) (pre.length+1) cap')).cell? ⟨t6,7,none⟩=some (.int .i64 cc):=hT2.cell 7;have mm0:w1.cell? ⟨pp,0,none⟩=some (.string r):=hP1.cell 0;have mm1:w1.cell? ⟨pp,1,none⟩=some (.int .i64 lc):=hP1.cell 1;have mm2:w1.cell? ⟨pp,2,none⟩=some (.int .i64 cc):=hP1.cell 2;have zz0:w1.cell? ⟨t6,0,none⟩=some (.int .i64 (k:Nat)):=hT1'.cell 0;have zz1:w1.cell? ⟨t6,1,none⟩=some (.string x):=hT1'.cell 1;have zz2:w1.cell? ⟨t6,2,none⟩=some (.bool f):=hT1'.cell 2;have zz3:w1.cell? ⟨t6,3,none⟩=some (.slice a1 n1 k1):=hT1'.cell 3;have zz4:w1.cell? ⟨t6,4,none⟩=some (.slice a2 n2 k2):=hT1'.cell 4;have zz5:w1.cell? ⟨t6,5,none⟩=some (.int .i64 (wd:Nat)):=hT1'.cell 5;have zz6:w1.cell? ⟨t6,6,none⟩=some (.int .i64 lc):=hT1'.cell 6;have zz7:w1.cell? ⟨t6,7,none⟩=some (.int .i64 cc):=hT1'.cell 7)
  refine ⟨trivial,fun h=>(by cases h),?_⟩
  refine (callsIn_wide.2 (HBH _)).mono ?_
  rintro e W5 ⟨rfl,hb5⟩
  have hP5:=hP2.below hb5
  obtain ⟨c0',c1',c2',d0,d1,d2⟩:=id hP5.var3
  have HS:=(show Hid (∀ A,LeftT (pp+2) (pp+2+2) b w.heap.size w (ScI w.heap.size pp ts R' L' C') (fun _ _ _=>False) (pre++[_]) W .normal A (((W5.setCell ⟨pp,0,none⟩ (.string r2)).setCell ⟨pp,1,none⟩ (.int .i64 l2)).setCell ⟨pp,2,none⟩ (.int .i64 c2))) from fun A=>sc_step hvs hrow hvb hown' hgrow hv1 hP1 hb5 hbel (Nat.le_refl _) (by omega) (by omega) (by omega) HF.out h5)
  clear HBH hgrow hown' hv1 hP1 hT1' hP2 hT2 O1 hc1 hf1 hP hT6 hv hrow hP5
  gi_wp2
  exact HS.out _
 case done =>
  rintro D ys W hD hlen ⟨b,v,vs,r,lc,cc,td,ts2,hv,hrow,hvs,hvb,hnil,hP,h4,h5,h6,h7⟩ hbel hK
  simp only at hlen hrow hvs hvb hnil h5 h7
  have hl2:ts2=[]:=by
   have:=congrArg List.length h4
   rw [List.length_append] at this
   exact List.eq_nil_of_length_eq_zero (by omega)
  subst hl2
  rcases h6.inv with ⟨-,hR',hL',hC'⟩|⟨_,_,_,_,_,_,_,_,_,_,_,_,_,_,_,e,_⟩
  ·subst hR' hL' hC'
   have hne:=str_nil hend
   have p0:W.cell? ⟨pp,0,none⟩=some (.string R'):=hP.cell 0
   have p1:W.cell? ⟨pp,1,none⟩=some (.int .i64 L'):=hP.cell 1
   have p2:W.cell? ⟨pp,2,none⟩=some (.int .i64 C'):=hP.cell 2
   have HTE:=tokenE R' L' C' gE W HRN (hT1.below hbel) (E.below hbel)
   unfold plC at HTE
   have hDW:D<W.heap.size:=(Array.getElem?_eq_some_iff.1 hK).1
   clear hrow hvs hvb hnil hP h4 h5 h6 h7 hlen hv hseq hbox HCh HRN E
   gi_wp2
   refine ⟨trivial,?_⟩
   refine (callsIn_wide.2 HTE).mono ?_
   rintro e W3 ⟨F,rfl,hF,hWF,hb3⟩
   have hK3:W3.heap[D]? = some (.deferred (some [])):=(hb3.block D hDW).trans hK
   have hK4:(W3.alloc (.cells #[.int .i64 0,.string ⟨#[]⟩,.bool false,.slice none 0 0,.slice none 0 0,.int .i64 0,.int .i64 0,.int .i64 0] 46)).heap[D]? = some (.deferred (some [])):=(Below.heap_alloc _ _ _ (Array.getElem?_eq_some_iff.1 hK3).1).trans hK3
   have hF4:=hF.alloc (.cells #[.int .i64 0,.string ⟨#[]⟩,.bool false,.slice none 0 0,.slice none 0 0,.int .i64 0,.int .i64 0,.int .i64 0] 46)
   have hb4:Below w.heap.size w (W3.alloc (.cells #[.int .i64 0,.string ⟨#[]⟩,.bool false,.slice none 0 0,.slice none 0 0,.int .i64 0,.int .i64 0,.int .i64 0] 46)):=(hbel.trans (hb3.mono hbel.size)).alloc (by have:=hbel.size;have:=hb3.size;omega) _
   have hsw:=hbel.size
   clear HTE hb3 hbel p0 p1 p2 hK hF
   gi_wp2
   generalize W3.alloc (.cells #[.int .i64 0,.string ⟨#[]⟩,.bool false,.slice none 0 0,.slice none 0 0,.int .i64 0,.int .i64 0,.int .i64 0] 46)=W4 at *
   have hFD:F≠D:=fun e=>by
    have h1:W4.heap[F]? = some (.cells #[.int .i64 L',.int .i64 C',ev] 68 (0,0)):=hF4
    rw [e,hK4] at h1;cases h1
   refine ⟨by simp,.inl ⟨_,_,rfl,run_takeDeferred hK4,?_⟩⟩
   exact ⟨_,results_tmp2 rfl _ _ _,⟨F,rfl,(World.putObj_heap_other hFD).trans hF4,by omega⟩,hb4.trans (belowK_b (w:=w) (Nat.le_refl _) W4 D _ _ (by have:=hb2.size;omega) hK4 rfl rfl)⟩
  ·cases e
end Go.Proofs.YtgdilnljjgdinaaGreatDoor
namespace Go.Proofs.YtgdilnljjgdinaaGreatDoor
open Go.RowKit Go.Shelf
theorem run3:Run ⟨#[51]⟩ 0 1:=by
 refine ⟨by decide,by decide,?_,fun h=>absurd h (by decide)⟩
 intro k h1 h2
 obtain rfl:k=0:=by omega
 exact ⟨by decide +kernel,by decide +kernel⟩
theorem shp3:Shp ⟨#[51]⟩ 0 1 1:=⟨by decide +kernel,run3,.inl ⟨rfl,fun h=>absurd h.1 (by decide)⟩,.inl rfl,by decide⟩
theorem parse3:∀ w,TB w→Parses ⟨#[51]⟩ (litV (litX ⟨#[51]⟩ 0 1 1) (exT ⟨#[51]⟩ 1) (ptB ⟨#[51]⟩ 1 1)) 3000000 w:=fun w hT=>by
 obtain ⟨S,s1,s2⟩:=shp3.read (by decide) (by decide +kernel) (by decide +kernel) w hT
 exact s2.mono fun _ _ ⟨f,c,n,k,c',n',k',g1,g2,g3⟩=>⟨f,c,n,k,c',n',k',g1,g2.le s1,g3⟩
theorem fails100:Fails ⟨#[49,47,48,48]⟩ 0:=fun w ev E =>
 parseSF (k:=1) w (by decide +kernel) (by decide) (by decide) E fun w E=>quoE (S:=1048576) w (by decide) (by decide) (by unfold Digs;decide +kernel) (by decide +kernel) (by unfold Digs;decide +kernel) (by decide +kernel) (by decide +kernel) (by decide) (by decide) (by decide) E
theorem chn1:Chn ⟨#[77,97,120,32,51,120,32,61,62,32,115,46,116,46]⟩ 1 1 [⟨9,⟨#[77,97,120]⟩,1,1,1,0⟩,⟨2,⟨#[51]⟩,0,1,5,litV (litX ⟨#[51]⟩ 0 1 1) (exT ⟨#[51]⟩ 1) (ptB ⟨#[51]⟩ 1 1)⟩,⟨1,⟨#[120]⟩,0,1,6,0⟩,⟨7,⟨#[61,62]⟩,0,1,8,0⟩,⟨9,⟨#[115,46,116,46]⟩,3,1,11,0⟩] ⟨#[]⟩ 1 15:=by
 refine Chn.cons (r:=⟨#[77,97,120,32,51,120,32,61,62,32,115,46,116,46]⟩) (a:=⟨#[77,97,120]⟩) (r1:=⟨#[32,51,120,32,61,62,32,115,46,116,46]⟩) (b:=⟨#[32]⟩) (r2:=⟨#[51,120,32,61,62,32,115,46,116,46]⟩) (x:=⟨#[77,97,120]⟩) (l1:=1) (c1:=4) (l2:=1) (c2:=5) (k:=9) (n:=3) (wd:=1) (g:=1) (by decide) (by decide) (by decide) (by decide +kernel) ?_ (by decide) (by decide) (by decide) (by decide) (by decide +kernel) (by decide +kernel) (by decide +kernel) (by decide +kernel) (by decide +kernel) (by decide +kernel) (by decide +kernel) (by decide +kernel) (by decide +kernel) (by decide) ?_
 ·exact read_name ⟨#[77,97,120,32,51,120,32,61,62,32,115,46,116,46]⟩ (by decide) (by decide) (by decide +kernel) (by decide +kernel) (by decide +kernel) (by decide)
 refine Chn.cons (r:=⟨#[51,120,32,61,62,32,115,46,116,46]⟩) (a:=⟨#[51]⟩) (r1:=⟨#[120,32,61,62,32,115,46,116,46]⟩) (b:=⟨#[]⟩) (r2:=⟨#[120,32,61,62,32,115,46,116,46]⟩) (x:=⟨#[51]⟩) (l1:=1) (c1:=6) (l2:=1) (c2:=6) (k:=2) (n:=1) (wd:=0) (g:=0) (by decide) (by decide) (by decide) (by decide +kernel) ?_ (by decide) (by decide) (by decide) (by decide) (by decide +kernel) (by decide +kernel) (by decide +kernel) (by decide +kernel) (by decide +kernel) (by decide +kernel) (by decide +kernel) (by decide +kernel) (by decide +kernel) (by decide) ?_
 ·have h:=read_num ⟨#[51,120,32,61,62,32,115,46,116,46]⟩ (by decide) (by decide) (by decide +kernel) (r:=litV (litX ⟨#[51]⟩ 0 1 1) (exT ⟨#[51]⟩ 1) (ptB ⟨#[51]⟩ 1 1)) (S:=3000000) (by rw [show (⟨#[51,120,32,61,62,32,115,46,116,46]⟩:ByteArray).extract 0 (litN (⟨#[51,120,32,61,62,32,115,46,116,46]⟩:ByteArray).data.toList)=⟨#[51]⟩ by decide +kernel];exact parse3) (by decide)
  rwa [show litN (⟨#[51,120,32,61,62,32,115,46,116,46]⟩:ByteArray).data.toList=1 by decide +kernel] at h
 refine Chn.cons (r:=⟨#[120,32,61,62,32,115,46,116,46]⟩) (a:=⟨#[120]⟩) (r1:=⟨#[32,61,62,32,115,46,116,46]⟩) (b:=⟨#[32]⟩) (r2:=⟨#[61,62,32,115,46,116,46]⟩) (x:=⟨#[120]⟩) (l1:=1) (c1:=7) (l2:=1) (c2:=8) (k:=1) (n:=1) (wd:=0) (g:=1) (by decide) (by decide) (by decide) (by decide +kernel) ?_ (by decide) (by decide) (by decide) (by decide) (by decide +kernel) (by decide +kernel) (by decide +kernel) (by decide +kernel) (by decide +kernel) (by decide +kernel) (by decide +kernel) (by decide +kernel) (by decide +kernel) (by decide) ?_
 ·exact read_name ⟨#[120,32,61,62,32,115,46,116,46]⟩ (by decide) (by decide) (by decide +kernel) (by decide +kernel) (by decide +kernel) (by decide)
 refine Chn.cons (r:=⟨#[61,62,32,115,46,116,46]⟩) (a:=⟨#[61,62]⟩) (r1:=⟨#[32,115,46,116,46]⟩) (b:=⟨#[32]⟩) (r2:=⟨#[115,46,116,46]⟩) (x:=⟨#[61,62]⟩) (l1:=1) (c1:=10) (l2:=1) (c2:=11) (k:=7) (n:=2) (wd:=0) (g:=1) (by decide) (by decide) (by decide) (by decide +kernel) ?_ (by decide) (by decide) (by decide) (by decide) (by decide +kernel) (by decide +kernel) (by decide +kernel) (by decide +kernel) (by decide +kernel) (by decide +kernel) (by decide +kernel) (by decide +kernel) (by decide +kernel) (by decide) ?_
 ·exact read_sign ⟨#[61,62,32,115,46,116,46]⟩ (by decide) (by decide) (by decide +kernel) (by decide +kernel) 3 (by decide) (by decide +kernel) (by decide +kernel)
 refine Chn.cons (r:=⟨#[115,46,116,46]⟩) (a:=⟨#[115,46,116,46]⟩) (r1:=⟨#[]⟩) (b:=⟨#[]⟩) (r2:=⟨#[]⟩) (x:=⟨#[115,46,116,46]⟩) (l1:=1) (c1:=15) (l2:=1) (c2:=15) (k:=9) (n:=4) (wd:=3) (g:=0) (by decide) (by decide) (by decide) (by decide +kernel) ?_ (by decide) (by decide) (by decide) (by decide) (by decide +kernel) (by decide +kernel) (by decide +kernel) (by decide +kernel) (by decide +kernel) (by decide +kernel) (by decide +kernel) (by decide +kernel) (by decide +kernel) (by decide) ?_
 ·exact read_name ⟨#[115,46,116,46]⟩ (by decide) (by decide) (by decide +kernel) (by decide +kernel) (by decide +kernel) (by decide)
 exact Chn.nil _ _ _
theorem chn2:Chn ⟨#[97,10,32,49,47,48,48]⟩ 1 1 [⟨1,⟨#[97]⟩,0,1,1,0⟩] ⟨#[49,47,48,48]⟩ 2 2:=by
 refine Chn.cons (r:=⟨#[97,10,32,49,47,48,48]⟩) (a:=⟨#[97]⟩) (r1:=⟨#[10,32,49,47,48,48]⟩) (b:=⟨#[10,32]⟩) (r2:=⟨#[49,47,48,48]⟩) (x:=⟨#[97]⟩) (l1:=1) (c1:=2) (l2:=2) (c2:=2) (k:=1) (n:=1) (wd:=0) (g:=2) (by decide) (by decide) (by decide) (by decide +kernel) ?_ (by decide) (by decide) (by decide) (by decide) (by decide +kernel) (by decide +kernel) (by decide +kernel) (by decide +kernel) (by decide +kernel) (by decide +kernel) (by decide +kernel) (by decide +kernel) (by decide +kernel) (by decide) ?_
 ·exact read_name ⟨#[97,10,32,49,47,48,48]⟩ (by decide) (by decide) (by decide +kernel) (by decide +kernel) (by decide +kernel) (by decide)
 exact Chn.nil _ _ _
theorem no100:ReadNo ⟨#[49,47,48,48]⟩ 0:=read_no ⟨#[49,47,48,48]⟩ (by decide) (by decide) (by decide +kernel) (by rw [show (⟨#[49,47,48,48]⟩:ByteArray).extract 0 (litN (⟨#[49,47,48,48]⟩:ByteArray).data.toList)=⟨#[49,47,48,48]⟩ by decide +kernel];exact fails100)
end Go.Proofs.YtgdilnljjgdinaaGreatDoor
