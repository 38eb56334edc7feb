/- Contract: a touch that does a load. -/
import Derived.Test.YtfipcdhodojodaaGreatKMeB
namespace Go.Proofs.YtfipcdhodojodaaGreat
open Go.RowKit
set_option maxHeartbeats 1000000
set_option linter.unusedVariables false
set_option linter.unusedSimpArgs false
theorem touch_load (A A':Option Addr) (c c':Nat) (m:Ar) (p:Int) (s:Nat) (w0 w:World) (hW0:Row w0 A m.W) (hG0:Row w0 A' m.G) (hb0:Below w0.heap.size w0 w) (h0:m.W.length≤1000000) (h1:m.G.length≤1000000) (h2:2≤m.G.length) (hp:-9223372036854775808≤p) (hq:p≤9223372036854775807)
  (hs:w.cell? ⟨s,0,none⟩ = some (.int .i64 0)) (hf:w.frozen? ⟨s,0,none⟩ = false) (hs0:w0.heap.size≤s) (hsw:s < w.heap.size) :
  Calls Tryz.prog 69 #[.agg #[.slice A m.W.length c,.slice A' m.G.length c',.bool m.bad],.int .i64 p,.func (.func 116) #[] #[.pointer (some ⟨s,0,none⟩)]] w (RetMemP s (CellIs s (.int .i64 (mVal m p))) w (mLoad m p)):=by
 have hW:=hW0.step hb0
 have hG:=hG0.step hb0
 by_cases q1:p < 0
 ·have I:=hid (mIn_no (W:=m.W) (.inl q1))
  have T:Hid ((mLoad m p).W = m.W∧(mLoad m p).G = m.G∧(mLoad m p).bad = true):=⟨rfl,rfl,mBad_no I.out⟩
  go_enter Tryz.func69,Tryz.ntmps69
  go_wp2_with (go_at_call 90;refine (mcopied_any _ _ _ _ m _ ((hW.alloc _).alloc _) ((hG.alloc _).alloc _) h0 h1).mono ?_;rintro e wk ⟨g,g',rfl,hgg,hg,hg',B1,B2,hk⟩;obtain ⟨gc,gf⟩:=bcell hk;have hz:w.heap.size+1 < wk.heap.size:=(by have:=hk.size;simp at this;omega);have hz0:w.heap.size < wk.heap.size:=(by omega))
  refine bodyPost_ret (v:=.agg #[.slice (some ⟨g,0,none⟩) m.W.length m.W.length,.slice (some ⟨g',0,none⟩) m.G.length m.G.length,.bool true]) (by simp [results,Tryz.results69,go_sem,gc,hz]) rfl ?_
  obtain ⟨t1,t2,t3⟩:=T.out
  have n1:g ≠ w.heap.size+1:=by simp at hg;omega
  have n2:g' ≠ w.heap.size+1:=by simp at hg';omega
  have hb:=bstep (keep3 (bstep (bstep (boxed _ _) (boxed _ _)) hk) (r:=w.heap.size+1) (by omega) (.slice (some ⟨g,0,none⟩) m.W.length m.W.length) (.slice (some ⟨g',0,none⟩) m.G.length m.G.length) (.bool true)) (boxed _ (.cells #[.slice (some ⟨g,0,none⟩) m.W.length m.W.length,.slice (some ⟨g',0,none⟩) m.G.length m.G.length,.bool true] 26))
  exact RetMemP.mk (by rw [t1]) (by rw [t2]) t3.symm (by rw [t1];exact ((B1.keep3 n1 _ _ _).alloc _).row) (by rw [t2];exact ((B2.keep3 n2 _ _ _).alloc _).row) (hb.mono (by omega)) (by show _ = _;rw [mVal_no (.inl q1)];exact (hb.cell hsw).trans hs) (Wh.new (by simp at hg;omega)) (Wh.new (by simp at hg';omega))
 ·have q2:0≤p:=by omega
  clear q1
  by_cases q3:(m.W.length:Int)≤p
  ·have I:=hid (mIn_no (W:=m.W) (.inr q3))
   have T:Hid ((mLoad m p).W = m.W∧(mLoad m p).G = m.G∧(mLoad m p).bad = true):=⟨rfl,rfl,mBad_no I.out⟩
   go_enter Tryz.func69,Tryz.ntmps69
   go_wp2_with (go_at_call 90;refine (mcopied_any _ _ _ _ m _ ((hW.alloc _).alloc _) ((hG.alloc _).alloc _) h0 h1).mono ?_;rintro e wk ⟨g,g',rfl,hgg,hg,hg',B1,B2,hk⟩;obtain ⟨gc,gf⟩:=bcell hk;have hz:w.heap.size+1 < wk.heap.size:=(by have:=hk.size;simp at this;omega);have hz0:w.heap.size < wk.heap.size:=(by omega))
   refine bodyPost_ret (v:=.agg #[.slice (some ⟨g,0,none⟩) m.W.length m.W.length,.slice (some ⟨g',0,none⟩) m.G.length m.G.length,.bool true]) (by simp [results,Tryz.results69,go_sem,gc,hz]) rfl ?_
   obtain ⟨t1,t2,t3⟩:=T.out
   have n1:g ≠ w.heap.size+1:=by simp at hg;omega
   have n2:g' ≠ w.heap.size+1:=by simp at hg';omega
   have hb:=bstep (keep3 (bstep (bstep (boxed _ _) (boxed _ _)) hk) (r:=w.heap.size+1) (by omega) (.slice (some ⟨g,0,none⟩) m.W.length m.W.length) (.slice (some ⟨g',0,none⟩) m.G.length m.G.length) (.bool true)) (boxed _ (.cells #[.slice (some ⟨g,0,none⟩) m.W.length m.W.length,.slice (some ⟨g',0,none⟩) m.G.length m.G.length,.bool true] 26))
   exact RetMemP.mk (by rw [t1]) (by rw [t2]) t3.symm (by rw [t1];exact ((B1.keep3 n1 _ _ _).alloc _).row) (by rw [t2];exact ((B2.keep3 n2 _ _ _).alloc _).row) (hb.mono (by omega)) (by show _ = _;rw [mVal_no (.inr q3)];exact (hb.cell hsw).trans hs) (Wh.new (by simp at hg;omega)) (Wh.new (by simp at hg';omega))
  ·obtain ⟨k,rfl⟩:∃ k:Nat,p = k:=⟨p.toNat,by omega⟩
   have q4:(k:Int) < (m.W.length:Int):=by omega
   have hkl:k < m.W.length:=by omega
   clear q3
   obtain ⟨b1,o1,x,rfl,hb10,X,hc0⟩:=hW0.atX k hkl
   have hb1:b1 < w.heap.size:=Nat.lt_of_lt_of_le hb10 hb0.size
   have hc:=hW.cellX k hkl X
   clear hc0
   have T:Hid ((mLoad m k).W = m.W.set k x∧(mLoad m k).G = m.G∧(mLoad m k).bad = mBad m k):=⟨mLoad_set hkl X.out,rfl,rfl⟩
   have hB:=mBad_yes (m:=m) (mIn_yes q2 q4)
   have hN:=mNode_cases m.G k
   obtain ⟨n,hn⟩:∃ n,mNode m.G k = n:=⟨_,rfl⟩
   rw [hn] at hB hN
   have HN:=hid hn
   clear hn
   by_cases q5:0 < n
   ·obtain ⟨j,rfl⟩:∃ j:Nat,n = j:=⟨n.toNat,by omega⟩
    have hjl:j < m.G.length:=by omega
    obtain ⟨b2,o2,x2,rfl,hb20,X2,hc2⟩:=hG0.atX j hjl
    rw [Int.toNat_natCast,X2.out,decide_eq_true q5,Bool.true_and] at hB
    have q6:(j:Int) < (m.G.length:Int):=by omega
    clear hN hc2
    cases t:(x2 == 0)
    ·rw [t,Bool.or_false] at hB
     have HB:=hid hB
     clear hB
     go_enter Tryz.func69,Tryz.ntmps69
     go_wp2_with (first
      | (go_at_call 90;refine (mcopied_any _ _ _ _ m _ ((hW.alloc _).alloc _) ((hG.alloc _).alloc _) h0 h1).mono ?_;rintro e wk ⟨g,g',rfl,hgg,hg,hg',B1,B2,hk⟩;obtain ⟨gc,gf⟩:=bcell hk;have hz:w.heap.size+1 < wk.heap.size:=(by have:=hk.size;simp at this;omega);have hz0:w.heap.size < wk.heap.size:=(by omega))
      | (go_at_call 91;refine (node_any _ _ _ _ m k _ (by omega) h2 hp hq).mono ?_;rintro e wl ⟨rfl,hl⟩;rw [HN.out];obtain ⟨lc,lf⟩:=bcell hl;have hy:wk.heap.size < wl.heap.size:=(by have:=hl.size;simp at this;omega);have hy0:w.heap.size < wk.heap.size+1:=(by omega);have hy1:w.heap.size+1 < wk.heap.size+1:=(by omega);have hy2:w.heap.size+1 < wl.heap.size:=(by omega);have hcl:=Row.cellX (((((hG.alloc _).alloc _).step hk).alloc _).step hl) j hjl X2))
     have l1:=B1.lt
     have l2:=B2.lt
     have C1:=(B1.alloc _).step hl (by simp;omega)
     have C2:=(B2.alloc _).step hl (by simp;omega)
     have hb:=bstep (bstep (bstep (bstep (boxed _ _) (boxed _ _)) hk) (boxed _ _)) hl
     have n1:g ≠ w.heap.size+1:=by simp at hg;omega
     have n2:g' ≠ w.heap.size+1:=by simp at hg';omega
     have n3:g ≠ w.heap.size:=by simp at hg;omega
     have n4:g ≠ wk.heap.size:=by omega
     have n5:g ≠ b1:=by simp at hg;omega
     have n6:s ≠ w.heap.size:=by omega
     have n7:s ≠ w.heap.size+1:=by omega
     have n8:s ≠ wk.heap.size:=by omega
     have n9:s ≠ b1:=by omega
     have n10:s ≠ g:=by simp at hg;omega
     have n11:s ≠ g':=by simp at hg';omega
     have n12:wk.heap.size ≠ w.heap.size+1:=by omega
     have n13:wk.heap.size ≠ w.heap.size:=by omega
     have n14:b1 ≠ wk.heap.size:=by omega
     have c0:wl.cell? ⟨w.heap.size,0,none⟩ = some (.slice (some ⟨b1,o1,none⟩) m.W.length c):=by simp [go_sem,n13,n13.symm,lc,hy0,gc,hz0]
     have a0:wl.cell? ⟨wk.heap.size,0,none⟩ = some (.slice (some ⟨g,0,none⟩) m.W.length m.W.length):=by simp [go_sem,lc]
     have a1:wl.cell? ⟨wk.heap.size,1,none⟩ = some (.slice (some ⟨g',0,none⟩) m.G.length m.G.length):=by simp [go_sem,lc]
     have a2:wl.cell? ⟨wk.heap.size,2,none⟩ = some (.bool (mBad m k)):=by rw [HB.out];simp [go_sem,lc]
     have r0:wl.cell? ⟨w.heap.size+1,0,none⟩ = some (.slice none 0 0):=by simp [go_sem,n12,n12.symm,lc,hy1,gc,hz]
     have r1:wl.cell? ⟨w.heap.size+1,1,none⟩ = some (.slice none 0 0):=by simp [go_sem,n12,n12.symm,lc,hy1,gc,hz]
     have r2:wl.cell? ⟨w.heap.size+1,2,none⟩ = some (.bool false):=by simp [go_sem,n12,n12.symm,lc,hy1,gc,hz]
     have f0:∀ o,wl.frozen? ⟨w.heap.size+1,o,none⟩ = false:=by intro o;simp [go_sem,n12,n12.symm,lf,hy1,gf,hz]
     have x0:wl.cell? ⟨b1,o1+k,none⟩ = some (.int .i64 x):=(hb.cell hb1).trans hc
     have s0:=(hb.cell (p:=⟨s,0,none⟩) hsw).trans hs
     have sf:=(hb.frozen (p:=⟨s,0,none⟩) hsw).trans hf
     have g0:=C1.cellD k hkl
     have g1:=C1.frozen k
     have z1:w.heap.size+1 < wl.heap.size:=by first | exact hy2 | simpa [World.setCell] using hy2
     clear gc gf lc lf
     generalize wl = w3 at *
     go_region_held3 (fun w'=>w'.cell? ⟨w.heap.size,0,none⟩ = some (.slice (some ⟨b1,o1,none⟩) m.W.length c)∧w'.cell? ⟨wk.heap.size,0,none⟩ = some (.slice (some ⟨g,0,none⟩) m.W.length m.W.length)∧w'.cell? ⟨b1,o1+k,none⟩ = some (.int .i64 x)) (go_keep)
      (first
       | (go_at_call 116;refine (load1 x 0 s _ (by simpa using s0) (by simpa using sf)).mono ?_;rintro e wm ⟨rfl,rfl⟩))
     all_goals go_wp2
     refine bodyPost_ret (v:=.agg #[.slice (some ⟨g,0,none⟩) m.W.length m.W.length,.slice (some ⟨g',0,none⟩) m.G.length m.G.length,.bool (mBad m k)]) (by simp [results,Tryz.results69,go_sem,r0,r1,r2,n1,n1.symm,n7,n7.symm]) rfl ?_
     obtain ⟨t1,t2,t3⟩:=T.out
     have hb3:=(keep3 (((hb.mono (B':=s) (by omega)).setCell (p:=⟨s,0,none⟩) (by simp) (.int .i64 x)).setCell (p:=⟨g,k,none⟩) (by simp at hg ⊢;omega) (.int .i64 x)) (r:=w.heap.size+1) (by omega) (.slice (some ⟨g,0,none⟩) m.W.length m.W.length) (.slice (some ⟨g',0,none⟩) m.G.length m.G.length) (.bool (mBad m k))).drew
     exact RetMemP.mk (by rw [t1,List.length_set]) (by rw [t2]) t3.symm (by rw [t1];exact (((C1.far (p:=⟨s,0,none⟩) n10.symm (.int .i64 x)).set k x).keep3 n1 _ _ _).row.drew) (by rw [t2];exact (((C2.far (p:=⟨s,0,none⟩) n11.symm (.int .i64 x)).far (p:=⟨g,k,none⟩) hgg.symm (.int .i64 x)).keep3 n2 _ _ _).row.drew) hb3 (by show World.cell? _ _ = some (.int .i64 (mVal m k));rw [mVal_yes q4,X.out];simp [go_sem,n10,n10.symm,n7,n7.symm,s0]) (Wh.new (by simp at hg;omega)) (Wh.new (by simp at hg';omega))
    ·rw [t,Bool.or_true] at hB
     have HB:=hid hB
     clear hB
     go_enter Tryz.func69,Tryz.ntmps69
     go_wp2_with (first
      | (go_at_call 90;refine (mcopied_any _ _ _ _ m _ ((hW.alloc _).alloc _) ((hG.alloc _).alloc _) h0 h1).mono ?_;rintro e wk ⟨g,g',rfl,hgg,hg,hg',B1,B2,hk⟩;obtain ⟨gc,gf⟩:=bcell hk;have hz:w.heap.size+1 < wk.heap.size:=(by have:=hk.size;simp at this;omega);have hz0:w.heap.size < wk.heap.size:=(by omega))
      | (go_at_call 91;refine (node_any _ _ _ _ m k _ (by omega) h2 hp hq).mono ?_;rintro e wl ⟨rfl,hl⟩;rw [HN.out];obtain ⟨lc,lf⟩:=bcell hl;have hy:wk.heap.size < wl.heap.size:=(by have:=hl.size;simp at this;omega);have hy0:w.heap.size < wk.heap.size+1:=(by omega);have hy1:w.heap.size+1 < wk.heap.size+1:=(by omega);have hy2:w.heap.size+1 < wl.heap.size:=(by omega);have hcl:=Row.cellX (((((hG.alloc _).alloc _).step hk).alloc _).step hl) j hjl X2))
     have l1:=B1.lt
     have l2:=B2.lt
     have C1:=(B1.alloc _).step hl (by simp;omega)
     have C2:=(B2.alloc _).step hl (by simp;omega)
     have hb:=bstep (bstep (bstep (bstep (boxed _ _) (boxed _ _)) hk) (boxed _ _)) hl
     have n1:g ≠ w.heap.size+1:=by simp at hg;omega
     have n2:g' ≠ w.heap.size+1:=by simp at hg';omega
     have n3:g ≠ w.heap.size:=by simp at hg;omega
     have n4:g ≠ wk.heap.size:=by omega
     have n5:g ≠ b1:=by simp at hg;omega
     have n6:s ≠ w.heap.size:=by omega
     have n7:s ≠ w.heap.size+1:=by omega
     have n8:s ≠ wk.heap.size:=by omega
     have n9:s ≠ b1:=by omega
     have n10:s ≠ g:=by simp at hg;omega
     have n11:s ≠ g':=by simp at hg';omega
     have n12:wk.heap.size ≠ w.heap.size+1:=by omega
     have n13:wk.heap.size ≠ w.heap.size:=by omega
     have n14:b1 ≠ wk.heap.size:=by omega
     replace C1:=C1.far (p:=⟨wk.heap.size,2,none⟩) (by simp;omega) (.bool true)
     replace C2:=C2.far (p:=⟨wk.heap.size,2,none⟩) (by simp;omega) (.bool true)
     replace hb:=hb.setCell (p:=⟨wk.heap.size,2,none⟩) (by simp;omega) (.bool true)
     have c0:(wl.setCell ⟨wk.heap.size,2,none⟩ (.bool true)).cell? ⟨w.heap.size,0,none⟩ = some (.slice (some ⟨b1,o1,none⟩) m.W.length c):=by simp [go_sem,n13,n13.symm,lc,hy0,gc,hz0]
     have a0:(wl.setCell ⟨wk.heap.size,2,none⟩ (.bool true)).cell? ⟨wk.heap.size,0,none⟩ = some (.slice (some ⟨g,0,none⟩) m.W.length m.W.length):=by simp [go_sem,lc]
     have a1:(wl.setCell ⟨wk.heap.size,2,none⟩ (.bool true)).cell? ⟨wk.heap.size,1,none⟩ = some (.slice (some ⟨g',0,none⟩) m.G.length m.G.length):=by simp [go_sem,lc]
     have a2:(wl.setCell ⟨wk.heap.size,2,none⟩ (.bool true)).cell? ⟨wk.heap.size,2,none⟩ = some (.bool (mBad m k)):=by rw [HB.out];simp [go_sem,lc]
     have r0:(wl.setCell ⟨wk.heap.size,2,none⟩ (.bool true)).cell? ⟨w.heap.size+1,0,none⟩ = some (.slice none 0 0):=by simp [go_sem,n12,n12.symm,lc,hy1,gc,hz]
     have r1:(wl.setCell ⟨wk.heap.size,2,none⟩ (.bool true)).cell? ⟨w.heap.size+1,1,none⟩ = some (.slice none 0 0):=by simp [go_sem,n12,n12.symm,lc,hy1,gc,hz]
     have r2:(wl.setCell ⟨wk.heap.size,2,none⟩ (.bool true)).cell? ⟨w.heap.size+1,2,none⟩ = some (.bool false):=by simp [go_sem,n12,n12.symm,lc,hy1,gc,hz]
     have f0:∀ o,(wl.setCell ⟨wk.heap.size,2,none⟩ (.bool true)).frozen? ⟨w.heap.size+1,o,none⟩ = false:=by intro o;simp [go_sem,n12,n12.symm,lf,hy1,gf,hz]
     have x0:(wl.setCell ⟨wk.heap.size,2,none⟩ (.bool true)).cell? ⟨b1,o1+k,none⟩ = some (.int .i64 x):=(hb.cell hb1).trans hc
     have s0:=(hb.cell (p:=⟨s,0,none⟩) hsw).trans hs
     have sf:=(hb.frozen (p:=⟨s,0,none⟩) hsw).trans hf
     have g0:=C1.cellD k hkl
     have g1:=C1.frozen k
     have z1:w.heap.size+1 < (wl.setCell ⟨wk.heap.size,2,none⟩ (.bool true)).heap.size:=by first | exact hy2 | simpa [World.setCell] using hy2
     clear gc gf lc lf
     generalize wl.setCell ⟨wk.heap.size,2,none⟩ (.bool true) = w3 at *
     go_region_held3 (fun w'=>w'.cell? ⟨w.heap.size,0,none⟩ = some (.slice (some ⟨b1,o1,none⟩) m.W.length c)∧w'.cell? ⟨wk.heap.size,0,none⟩ = some (.slice (some ⟨g,0,none⟩) m.W.length m.W.length)∧w'.cell? ⟨b1,o1+k,none⟩ = some (.int .i64 x)) (go_keep)
      (first
       | (go_at_call 116;refine (load1 x 0 s _ (by simpa using s0) (by simpa using sf)).mono ?_;rintro e wm ⟨rfl,rfl⟩))
     all_goals go_wp2
     refine bodyPost_ret (v:=.agg #[.slice (some ⟨g,0,none⟩) m.W.length m.W.length,.slice (some ⟨g',0,none⟩) m.G.length m.G.length,.bool (mBad m k)]) (by simp [results,Tryz.results69,go_sem,r0,r1,r2,n1,n1.symm,n7,n7.symm]) rfl ?_
     obtain ⟨t1,t2,t3⟩:=T.out
     have hb3:=(keep3 (((hb.mono (B':=s) (by omega)).setCell (p:=⟨s,0,none⟩) (by simp) (.int .i64 x)).setCell (p:=⟨g,k,none⟩) (by simp at hg ⊢;omega) (.int .i64 x)) (r:=w.heap.size+1) (by omega) (.slice (some ⟨g,0,none⟩) m.W.length m.W.length) (.slice (some ⟨g',0,none⟩) m.G.length m.G.length) (.bool (mBad m k))).drew
     exact RetMemP.mk (by rw [t1,List.length_set]) (by rw [t2]) t3.symm (by rw [t1];exact (((C1.far (p:=⟨s,0,none⟩) n10.symm (.int .i64 x)).set k x).keep3 n1 _ _ _).row.drew) (by rw [t2];exact (((C2.far (p:=⟨s,0,none⟩) n11.symm (.int .i64 x)).far (p:=⟨g,k,none⟩) hgg.symm (.int .i64 x)).keep3 n2 _ _ _).row.drew) hb3 (by show World.cell? _ _ = some (.int .i64 (mVal m k));rw [mVal_yes q4,X.out];simp [go_sem,n10,n10.symm,n7,n7.symm,s0]) (Wh.new (by simp at hg;omega)) (Wh.new (by simp at hg';omega))
   ·rw [decide_eq_false q5,Bool.false_and,Bool.or_false] at hB
    have q6:n≤0:=by omega
    have HB:=hid hB
    clear hB hN q5
    go_enter Tryz.func69,Tryz.ntmps69
    go_wp2_with (first
     | (go_at_call 90;refine (mcopied_any _ _ _ _ m _ ((hW.alloc _).alloc _) ((hG.alloc _).alloc _) h0 h1).mono ?_;rintro e wk ⟨g,g',rfl,hgg,hg,hg',B1,B2,hk⟩;obtain ⟨gc,gf⟩:=bcell hk;have hz:w.heap.size+1 < wk.heap.size:=(by have:=hk.size;simp at this;omega);have hz0:w.heap.size < wk.heap.size:=(by omega))
     | (go_at_call 91;refine (node_any _ _ _ _ m k _ (by omega) h2 hp hq).mono ?_;rintro e wl ⟨rfl,hl⟩;rw [HN.out];obtain ⟨lc,lf⟩:=bcell hl;have hy:wk.heap.size < wl.heap.size:=(by have:=hl.size;simp at this;omega);have hy0:w.heap.size < wk.heap.size+1:=(by omega);have hy1:w.heap.size+1 < wk.heap.size+1:=(by omega);have hy2:w.heap.size+1 < wl.heap.size:=(by omega)))
    have l1:=B1.lt
    have l2:=B2.lt
    have C1:=(B1.alloc _).step hl (by simp;omega)
    have C2:=(B2.alloc _).step hl (by simp;omega)
    have hb:=bstep (bstep (bstep (bstep (boxed _ _) (boxed _ _)) hk) (boxed _ _)) hl
    have n1:g ≠ w.heap.size+1:=by simp at hg;omega
    have n2:g' ≠ w.heap.size+1:=by simp at hg';omega
    have n3:g ≠ w.heap.size:=by simp at hg;omega
    have n4:g ≠ wk.heap.size:=by omega
    have n5:g ≠ b1:=by simp at hg;omega
    have n6:s ≠ w.heap.size:=by omega
    have n7:s ≠ w.heap.size+1:=by omega
    have n8:s ≠ wk.heap.size:=by omega
    have n9:s ≠ b1:=by omega
    have n10:s ≠ g:=by simp at hg;omega
    have n11:s ≠ g':=by simp at hg';omega
    have n12:wk.heap.size ≠ w.heap.size+1:=by omega
    have n13:wk.heap.size ≠ w.heap.size:=by omega
    have n14:b1 ≠ wk.heap.size:=by omega
    have c0:wl.cell? ⟨w.heap.size,0,none⟩ = some (.slice (some ⟨b1,o1,none⟩) m.W.length c):=by simp [go_sem,n13,n13.symm,lc,hy0,gc,hz0]
    have a0:wl.cell? ⟨wk.heap.size,0,none⟩ = some (.slice (some ⟨g,0,none⟩) m.W.length m.W.length):=by simp [go_sem,lc]
    have a1:wl.cell? ⟨wk.heap.size,1,none⟩ = some (.slice (some ⟨g',0,none⟩) m.G.length m.G.length):=by simp [go_sem,lc]
    have a2:wl.cell? ⟨wk.heap.size,2,none⟩ = some (.bool (mBad m k)):=by rw [HB.out];simp [go_sem,lc]
    have r0:wl.cell? ⟨w.heap.size+1,0,none⟩ = some (.slice none 0 0):=by simp [go_sem,n12,n12.symm,lc,hy1,gc,hz]
    have r1:wl.cell? ⟨w.heap.size+1,1,none⟩ = some (.slice none 0 0):=by simp [go_sem,n12,n12.symm,lc,hy1,gc,hz]
    have r2:wl.cell? ⟨w.heap.size+1,2,none⟩ = some (.bool false):=by simp [go_sem,n12,n12.symm,lc,hy1,gc,hz]
    have f0:∀ o,wl.frozen? ⟨w.heap.size+1,o,none⟩ = false:=by intro o;simp [go_sem,n12,n12.symm,lf,hy1,gf,hz]
    have x0:wl.cell? ⟨b1,o1+k,none⟩ = some (.int .i64 x):=(hb.cell hb1).trans hc
    have s0:=(hb.cell (p:=⟨s,0,none⟩) hsw).trans hs
    have sf:=(hb.frozen (p:=⟨s,0,none⟩) hsw).trans hf
    have g0:=C1.cellD k hkl
    have g1:=C1.frozen k
    have z1:w.heap.size+1 < wl.heap.size:=by first | exact hy2 | simpa [World.setCell] using hy2
    clear gc gf lc lf
    generalize wl = w3 at *
    go_region_held3 (fun w'=>w'.cell? ⟨w.heap.size,0,none⟩ = some (.slice (some ⟨b1,o1,none⟩) m.W.length c)∧w'.cell? ⟨wk.heap.size,0,none⟩ = some (.slice (some ⟨g,0,none⟩) m.W.length m.W.length)∧w'.cell? ⟨b1,o1+k,none⟩ = some (.int .i64 x)) (go_keep)
     (first
      | (go_at_call 116;refine (load1 x 0 s _ (by simpa using s0) (by simpa using sf)).mono ?_;rintro e wm ⟨rfl,rfl⟩))
    all_goals go_wp2
    refine bodyPost_ret (v:=.agg #[.slice (some ⟨g,0,none⟩) m.W.length m.W.length,.slice (some ⟨g',0,none⟩) m.G.length m.G.length,.bool (mBad m k)]) (by simp [results,Tryz.results69,go_sem,r0,r1,r2,n1,n1.symm,n7,n7.symm]) rfl ?_
    obtain ⟨t1,t2,t3⟩:=T.out
    have hb3:=(keep3 (((hb.mono (B':=s) (by omega)).setCell (p:=⟨s,0,none⟩) (by simp) (.int .i64 x)).setCell (p:=⟨g,k,none⟩) (by simp at hg ⊢;omega) (.int .i64 x)) (r:=w.heap.size+1) (by omega) (.slice (some ⟨g,0,none⟩) m.W.length m.W.length) (.slice (some ⟨g',0,none⟩) m.G.length m.G.length) (.bool (mBad m k))).drew
    exact RetMemP.mk (by rw [t1,List.length_set]) (by rw [t2]) t3.symm (by rw [t1];exact (((C1.far (p:=⟨s,0,none⟩) n10.symm (.int .i64 x)).set k x).keep3 n1 _ _ _).row.drew) (by rw [t2];exact (((C2.far (p:=⟨s,0,none⟩) n11.symm (.int .i64 x)).far (p:=⟨g,k,none⟩) hgg.symm (.int .i64 x)).keep3 n2 _ _ _).row.drew) hb3 (by show World.cell? _ _ = some (.int .i64 (mVal m k));rw [mVal_yes q4,X.out];simp [go_sem,n10,n10.symm,n7,n7.symm,s0]) (Wh.new (by simp at hg;omega)) (Wh.new (by simp at hg';omega))
theorem touch_store (A A':Option Addr) (c c':Nat) (m:Ar) (p:Int) (y:Int) (s:Nat) (w0 w:World) (hW0:Row w0 A m.W) (hG0:Row w0 A' m.G) (hb0:Below w0.heap.size w0 w) (h0:m.W.length≤1000000) (h1:m.G.length≤1000000) (h2:2≤m.G.length) (hp:-9223372036854775808≤p) (hq:p≤9223372036854775807)
  (hs:w.cell? ⟨s,0,none⟩ = some (.int .i64 y)) (hs0:w0.heap.size≤s) (hsw:s < w.heap.size) :
  Calls Tryz.prog 69 #[.agg #[.slice A m.W.length c,.slice A' m.G.length c',.bool m.bad],.int .i64 p,.func (.func 70) #[] #[.pointer (some ⟨s,0,none⟩)]] w (RetMemP w.heap.size (fun _=>True) w (mStore m p y)):=by
 have hW:=hW0.step hb0
 have hG:=hG0.step hb0
 by_cases q1:p < 0
 ·have I:=hid (mIn_no (W:=m.W) (.inl q1))
  have T:=hid (mStore_no (v:=y) I.out)
  go_enter Tryz.func69,Tryz.ntmps69
  go_wp2_with (go_at_call 90;refine (mcopied_any _ _ _ _ m _ ((hW.alloc _).alloc _) ((hG.alloc _).alloc _) h0 h1).mono ?_;rintro e wk ⟨g,g',rfl,hgg,hg,hg',B1,B2,hk⟩;obtain ⟨gc,gf⟩:=bcell hk;have hz:w.heap.size+1 < wk.heap.size:=(by have:=hk.size;simp at this;omega);have hz0:w.heap.size < wk.heap.size:=(by omega))
  refine bodyPost_ret (v:=.agg #[.slice (some ⟨g,0,none⟩) m.W.length m.W.length,.slice (some ⟨g',0,none⟩) m.G.length m.G.length,.bool true]) (by simp [results,Tryz.results69,go_sem,gc,hz]) rfl ?_
  obtain ⟨t1,t2,t3⟩:=T.out
  have n1:g ≠ w.heap.size+1:=by simp at hg;omega
  have n2:g' ≠ w.heap.size+1:=by simp at hg';omega
  have hb:=bstep (keep3 (bstep (bstep (boxed _ _) (boxed _ _)) hk) (r:=w.heap.size+1) (by omega) (.slice (some ⟨g,0,none⟩) m.W.length m.W.length) (.slice (some ⟨g',0,none⟩) m.G.length m.G.length) (.bool true)) (boxed _ (.cells #[.slice (some ⟨g,0,none⟩) m.W.length m.W.length,.slice (some ⟨g',0,none⟩) m.G.length m.G.length,.bool true] 26))
  exact RetMemP.mk (by rw [t1]) (by rw [t2]) t3.symm (by rw [t1];exact ((B1.keep3 n1 _ _ _).alloc _).row) (by rw [t2];exact ((B2.keep3 n2 _ _ _).alloc _).row) (hb.mono (by omega)) trivial (Wh.new (by simp at hg;omega)) (Wh.new (by simp at hg';omega))
 ·have q2:0≤p:=by omega
  clear q1
  by_cases q3:(m.W.length:Int)≤p
  ·have I:=hid (mIn_no (W:=m.W) (.inr q3))
   have T:=hid (mStore_no (v:=y) I.out)
   go_enter Tryz.func69,Tryz.ntmps69
   go_wp2_with (go_at_call 90;refine (mcopied_any _ _ _ _ m _ ((hW.alloc _).alloc _) ((hG.alloc _).alloc _) h0 h1).mono ?_;rintro e wk ⟨g,g',rfl,hgg,hg,hg',B1,B2,hk⟩;obtain ⟨gc,gf⟩:=bcell hk;have hz:w.heap.size+1 < wk.heap.size:=(by have:=hk.size;simp at this;omega);have hz0:w.heap.size < wk.heap.size:=(by omega))
   refine bodyPost_ret (v:=.agg #[.slice (some ⟨g,0,none⟩) m.W.length m.W.length,.slice (some ⟨g',0,none⟩) m.G.length m.G.length,.bool true]) (by simp [results,Tryz.results69,go_sem,gc,hz]) rfl ?_
   obtain ⟨t1,t2,t3⟩:=T.out
   have n1:g ≠ w.heap.size+1:=by simp at hg;omega
   have n2:g' ≠ w.heap.size+1:=by simp at hg';omega
   have hb:=bstep (keep3 (bstep (bstep (boxed _ _) (boxed _ _)) hk) (r:=w.heap.size+1) (by omega) (.slice (some ⟨g,0,none⟩) m.W.length m.W.length) (.slice (some ⟨g',0,none⟩) m.G.length m.G.length) (.bool true)) (boxed _ (.cells #[.slice (some ⟨g,0,none⟩) m.W.length m.W.length,.slice (some ⟨g',0,none⟩) m.G.length m.G.length,.bool true] 26))
   exact RetMemP.mk (by rw [t1]) (by rw [t2]) t3.symm (by rw [t1];exact ((B1.keep3 n1 _ _ _).alloc _).row) (by rw [t2];exact ((B2.keep3 n2 _ _ _).alloc _).row) (hb.mono (by omega)) trivial (Wh.new (by simp at hg;omega)) (Wh.new (by simp at hg';omega))
  ·obtain ⟨k,rfl⟩:∃ k:Nat,p = k:=⟨p.toNat,by omega⟩
   have q4:(k:Int) < (m.W.length:Int):=by omega
   have hkl:k < m.W.length:=by omega
   clear q3
   obtain ⟨b1,o1,x,rfl,hb10,X,hc0⟩:=hW0.atX k hkl
   have hb1:b1 < w.heap.size:=Nat.lt_of_lt_of_le hb10 hb0.size
   have hc:=hW.cellX k hkl X
   clear hc0
   have T:=hid (mStore_yes (m:=m) (v:=y) (mIn_yes q2 q4))
   have hB:=mBad_yes (m:=m) (mIn_yes q2 q4)
   have hN:=mNode_cases m.G k
   obtain ⟨n,hn⟩:∃ n,mNode m.G k = n:=⟨_,rfl⟩
   rw [hn] at hB hN
   have HN:=hid hn
   clear hn
   by_cases q5:0 < n
   ·obtain ⟨j,rfl⟩:∃ j:Nat,n = j:=⟨n.toNat,by omega⟩
    have hjl:j < m.G.length:=by omega
    obtain ⟨b2,o2,x2,rfl,hb20,X2,hc2⟩:=hG0.atX j hjl
    rw [Int.toNat_natCast,X2.out,decide_eq_true q5,Bool.true_and] at hB
    have q6:(j:Int) < (m.G.length:Int):=by omega
    clear hN hc2
    cases t:(x2 == 0)
    ·rw [t,Bool.or_false] at hB
     have HB:=hid hB
     clear hB
     go_enter Tryz.func69,Tryz.ntmps69
     go_wp2_with (first
      | (go_at_call 90;refine (mcopied_any _ _ _ _ m _ ((hW.alloc _).alloc _) ((hG.alloc _).alloc _) h0 h1).mono ?_;rintro e wk ⟨g,g',rfl,hgg,hg,hg',B1,B2,hk⟩;obtain ⟨gc,gf⟩:=bcell hk;have hz:w.heap.size+1 < wk.heap.size:=(by have:=hk.size;simp at this;omega);have hz0:w.heap.size < wk.heap.size:=(by omega))
      | (go_at_call 91;refine (node_any _ _ _ _ m k _ (by omega) h2 hp hq).mono ?_;rintro e wl ⟨rfl,hl⟩;rw [HN.out];obtain ⟨lc,lf⟩:=bcell hl;have hy:wk.heap.size < wl.heap.size:=(by have:=hl.size;simp at this;omega);have hy0:w.heap.size < wk.heap.size+1:=(by omega);have hy1:w.heap.size+1 < wk.heap.size+1:=(by omega);have hy2:w.heap.size+1 < wl.heap.size:=(by omega);have hcl:=Row.cellX (((((hG.alloc _).alloc _).step hk).alloc _).step hl) j hjl X2))
     have l1:=B1.lt
     have l2:=B2.lt
     have C1:=(B1.alloc _).step hl (by simp;omega)
     have C2:=(B2.alloc _).step hl (by simp;omega)
     have hb:=bstep (bstep (bstep (bstep (boxed _ _) (boxed _ _)) hk) (boxed _ _)) hl
     have n1:g ≠ w.heap.size+1:=by simp at hg;omega
     have n2:g' ≠ w.heap.size+1:=by simp at hg';omega
     have n3:g ≠ w.heap.size:=by simp at hg;omega
     have n4:g ≠ wk.heap.size:=by omega
     have n5:g ≠ b1:=by simp at hg;omega
     have n6:s ≠ w.heap.size:=by omega
     have n7:s ≠ w.heap.size+1:=by omega
     have n8:s ≠ wk.heap.size:=by omega
     have n9:s ≠ b1:=by omega
     have n10:s ≠ g:=by simp at hg;omega
     have n11:s ≠ g':=by simp at hg';omega
     have n12:wk.heap.size ≠ w.heap.size+1:=by omega
     have n13:wk.heap.size ≠ w.heap.size:=by omega
     have n14:b1 ≠ wk.heap.size:=by omega
     have c0:wl.cell? ⟨w.heap.size,0,none⟩ = some (.slice (some ⟨b1,o1,none⟩) m.W.length c):=by simp [go_sem,n13,n13.symm,lc,hy0,gc,hz0]
     have a0:wl.cell? ⟨wk.heap.size,0,none⟩ = some (.slice (some ⟨g,0,none⟩) m.W.length m.W.length):=by simp [go_sem,lc]
     have a1:wl.cell? ⟨wk.heap.size,1,none⟩ = some (.slice (some ⟨g',0,none⟩) m.G.length m.G.length):=by simp [go_sem,lc]
     have a2:wl.cell? ⟨wk.heap.size,2,none⟩ = some (.bool (mBad m k)):=by rw [HB.out];simp [go_sem,lc]
     have r0:wl.cell? ⟨w.heap.size+1,0,none⟩ = some (.slice none 0 0):=by simp [go_sem,n12,n12.symm,lc,hy1,gc,hz]
     have r1:wl.cell? ⟨w.heap.size+1,1,none⟩ = some (.slice none 0 0):=by simp [go_sem,n12,n12.symm,lc,hy1,gc,hz]
     have r2:wl.cell? ⟨w.heap.size+1,2,none⟩ = some (.bool false):=by simp [go_sem,n12,n12.symm,lc,hy1,gc,hz]
     have f0:∀ o,wl.frozen? ⟨w.heap.size+1,o,none⟩ = false:=by intro o;simp [go_sem,n12,n12.symm,lf,hy1,gf,hz]
     have x0:wl.cell? ⟨b1,o1+k,none⟩ = some (.int .i64 x):=(hb.cell hb1).trans hc
     have s0:=(hb.cell (p:=⟨s,0,none⟩) hsw).trans hs
     have g0:=C1.cellD k hkl
     have g1:=C1.frozen k
     have z1:w.heap.size+1 < wl.heap.size:=by first | exact hy2 | simpa [World.setCell] using hy2
     clear gc gf lc lf
     generalize wl = w3 at *
     go_region_held3 (fun w'=>w'.cell? ⟨w.heap.size,0,none⟩ = some (.slice (some ⟨b1,o1,none⟩) m.W.length c)∧w'.cell? ⟨wk.heap.size,0,none⟩ = some (.slice (some ⟨g,0,none⟩) m.W.length m.W.length)∧w'.cell? ⟨b1,o1+k,none⟩ = some (.int .i64 x)) (go_keep)
      (first
       | (go_at_call 70;refine (store1 x y s _ (by simpa using s0)).mono ?_;rintro e wm ⟨rfl,rfl⟩))
     all_goals go_wp2
     refine bodyPost_ret (v:=.agg #[.slice (some ⟨g,0,none⟩) m.W.length m.W.length,.slice (some ⟨g',0,none⟩) m.G.length m.G.length,.bool (mBad m k)]) (by simp [results,Tryz.results69,go_sem,r0,r1,r2,n1,n1.symm,n7,n7.symm]) rfl ?_
     obtain ⟨t1,t2,t3⟩:=T.out
     have hb3:=(keep3 (hb.setCell (p:=⟨g,k,none⟩) (by simp at hg ⊢;omega) (.int .i64 y)) (r:=w.heap.size+1) (by omega) (.slice (some ⟨g,0,none⟩) m.W.length m.W.length) (.slice (some ⟨g',0,none⟩) m.G.length m.G.length) (.bool (mBad m k))).drew
     exact RetMemP.mk (by rw [t1,List.length_set]) (by rw [t2]) t3.symm (by rw [t1];exact ((C1.set k y).keep3 n1 _ _ _).row.drew) (by rw [t2];exact ((C2.far (p:=⟨g,k,none⟩) hgg.symm (.int .i64 y)).keep3 n2 _ _ _).row.drew) hb3 trivial (Wh.new (by simp at hg;omega)) (Wh.new (by simp at hg';omega))
    ·rw [t,Bool.or_true] at hB
     have HB:=hid hB
     clear hB
     go_enter Tryz.func69,Tryz.ntmps69
     go_wp2_with (first
      | (go_at_call 90;refine (mcopied_any _ _ _ _ m _ ((hW.alloc _).alloc _) ((hG.alloc _).alloc _) h0 h1).mono ?_;rintro e wk ⟨g,g',rfl,hgg,hg,hg',B1,B2,hk⟩;obtain ⟨gc,gf⟩:=bcell hk;have hz:w.heap.size+1 < wk.heap.size:=(by have:=hk.size;simp at this;omega);have hz0:w.heap.size < wk.heap.size:=(by omega))
      | (go_at_call 91;refine (node_any _ _ _ _ m k _ (by omega) h2 hp hq).mono ?_;rintro e wl ⟨rfl,hl⟩;rw [HN.out];obtain ⟨lc,lf⟩:=bcell hl;have hy:wk.heap.size < wl.heap.size:=(by have:=hl.size;simp at this;omega);have hy0:w.heap.size < wk.heap.size+1:=(by omega);have hy1:w.heap.size+1 < wk.heap.size+1:=(by omega);have hy2:w.heap.size+1 < wl.heap.size:=(by omega);have hcl:=Row.cellX (((((hG.alloc _).alloc _).step hk).alloc _).step hl) j hjl X2))
     have l1:=B1.lt
     have l2:=B2.lt
     have C1:=(B1.alloc _).step hl (by simp;omega)
     have C2:=(B2.alloc _).step hl (by simp;omega)
     have hb:=bstep (bstep (bstep (bstep (boxed _ _) (boxed _ _)) hk) (boxed _ _)) hl
     have n1:g ≠ w.heap.size+1:=by simp at hg;omega
     have n2:g' ≠ w.heap.size+1:=by simp at hg';omega
     have n3:g ≠ w.heap.size:=by simp at hg;omega
     have n4:g ≠ wk.heap.size:=by omega
     have n5:g ≠ b1:=by simp at hg;omega
     have n6:s ≠ w.heap.size:=by omega
     have n7:s ≠ w.heap.size+1:=by omega
     have n8:s ≠ wk.heap.size:=by omega
     have n9:s ≠ b1:=by omega
     have n10:s ≠ g:=by simp at hg;omega
     have n11:s ≠ g':=by simp at hg';omega
     have n12:wk.heap.size ≠ w.heap.size+1:=by omega
     have n13:wk.heap.size ≠ w.heap.size:=by omega
     have n14:b1 ≠ wk.heap.size:=by omega
     replace C1:=C1.far (p:=⟨wk.heap.size,2,none⟩) (by simp;omega) (.bool true)
     replace C2:=C2.far (p:=⟨wk.heap.size,2,none⟩) (by simp;omega) (.bool true)
     replace hb:=hb.setCell (p:=⟨wk.heap.size,2,none⟩) (by simp;omega) (.bool true)
     have c0:(wl.setCell ⟨wk.heap.size,2,none⟩ (.bool true)).cell? ⟨w.heap.size,0,none⟩ = some (.slice (some ⟨b1,o1,none⟩) m.W.length c):=by simp [go_sem,n13,n13.symm,lc,hy0,gc,hz0]
     have a0:(wl.setCell ⟨wk.heap.size,2,none⟩ (.bool true)).cell? ⟨wk.heap.size,0,none⟩ = some (.slice (some ⟨g,0,none⟩) m.W.length m.W.length):=by simp [go_sem,lc]
     have a1:(wl.setCell ⟨wk.heap.size,2,none⟩ (.bool true)).cell? ⟨wk.heap.size,1,none⟩ = some (.slice (some ⟨g',0,none⟩) m.G.length m.G.length):=by simp [go_sem,lc]
     have a2:(wl.setCell ⟨wk.heap.size,2,none⟩ (.bool true)).cell? ⟨wk.heap.size,2,none⟩ = some (.bool (mBad m k)):=by rw [HB.out];simp [go_sem,lc]
     have r0:(wl.setCell ⟨wk.heap.size,2,none⟩ (.bool true)).cell? ⟨w.heap.size+1,0,none⟩ = some (.slice none 0 0):=by simp [go_sem,n12,n12.symm,lc,hy1,gc,hz]
     have r1:(wl.setCell ⟨wk.heap.size,2,none⟩ (.bool true)).cell? ⟨w.heap.size+1,1,none⟩ = some (.slice none 0 0):=by simp [go_sem,n12,n12.symm,lc,hy1,gc,hz]
     have r2:(wl.setCell ⟨wk.heap.size,2,none⟩ (.bool true)).cell? ⟨w.heap.size+1,2,none⟩ = some (.bool false):=by simp [go_sem,n12,n12.symm,lc,hy1,gc,hz]
     have f0:∀ o,(wl.setCell ⟨wk.heap.size,2,none⟩ (.bool true)).frozen? ⟨w.heap.size+1,o,none⟩ = false:=by intro o;simp [go_sem,n12,n12.symm,lf,hy1,gf,hz]
     have x0:(wl.setCell ⟨wk.heap.size,2,none⟩ (.bool true)).cell? ⟨b1,o1+k,none⟩ = some (.int .i64 x):=(hb.cell hb1).trans hc
     have s0:=(hb.cell (p:=⟨s,0,none⟩) hsw).trans hs
     have g0:=C1.cellD k hkl
     have g1:=C1.frozen k
     have z1:w.heap.size+1 < (wl.setCell ⟨wk.heap.size,2,none⟩ (.bool true)).heap.size:=by first | exact hy2 | simpa [World.setCell] using hy2
     clear gc gf lc lf
     generalize wl.setCell ⟨wk.heap.size,2,none⟩ (.bool true) = w3 at *
     go_region_held3 (fun w'=>w'.cell? ⟨w.heap.size,0,none⟩ = some (.slice (some ⟨b1,o1,none⟩) m.W.length c)∧w'.cell? ⟨wk.heap.size,0,none⟩ = some (.slice (some ⟨g,0,none⟩) m.W.length m.W.length)∧w'.cell? ⟨b1,o1+k,none⟩ = some (.int .i64 x)) (go_keep)
      (first
       | (go_at_call 70;refine (store1 x y s _ (by simpa using s0)).mono ?_;rintro e wm ⟨rfl,rfl⟩))
     all_goals go_wp2
     refine bodyPost_ret (v:=.agg #[.slice (some ⟨g,0,none⟩) m.W.length m.W.length,.slice (some ⟨g',0,none⟩) m.G.length m.G.length,.bool (mBad m k)]) (by simp [results,Tryz.results69,go_sem,r0,r1,r2,n1,n1.symm,n7,n7.symm]) rfl ?_
     obtain ⟨t1,t2,t3⟩:=T.out
     have hb3:=(keep3 (hb.setCell (p:=⟨g,k,none⟩) (by simp at hg ⊢;omega) (.int .i64 y)) (r:=w.heap.size+1) (by omega) (.slice (some ⟨g,0,none⟩) m.W.length m.W.length) (.slice (some ⟨g',0,none⟩) m.G.length m.G.length) (.bool (mBad m k))).drew
     exact RetMemP.mk (by rw [t1,List.length_set]) (by rw [t2]) t3.symm (by rw [t1];exact ((C1.set k y).keep3 n1 _ _ _).row.drew) (by rw [t2];exact ((C2.far (p:=⟨g,k,none⟩) hgg.symm (.int .i64 y)).keep3 n2 _ _ _).row.drew) hb3 trivial (Wh.new (by simp at hg;omega)) (Wh.new (by simp at hg';omega))
   ·rw [decide_eq_false q5,Bool.false_and,Bool.or_false] at hB
    have q6:n≤0:=by omega
    have HB:=hid hB
    clear hB hN q5
    go_enter Tryz.func69,Tryz.ntmps69
    go_wp2_with (first
     | (go_at_call 90;refine (mcopied_any _ _ _ _ m _ ((hW.alloc _).alloc _) ((hG.alloc _).alloc _) h0 h1).mono ?_;rintro e wk ⟨g,g',rfl,hgg,hg,hg',B1,B2,hk⟩;obtain ⟨gc,gf⟩:=bcell hk;have hz:w.heap.size+1 < wk.heap.size:=(by have:=hk.size;simp at this;omega);have hz0:w.heap.size < wk.heap.size:=(by omega))
     | (go_at_call 91;refine (node_any _ _ _ _ m k _ (by omega) h2 hp hq).mono ?_;rintro e wl ⟨rfl,hl⟩;rw [HN.out];obtain ⟨lc,lf⟩:=bcell hl;have hy:wk.heap.size < wl.heap.size:=(by have:=hl.size;simp at this;omega);have hy0:w.heap.size < wk.heap.size+1:=(by omega);have hy1:w.heap.size+1 < wk.heap.size+1:=(by omega);have hy2:w.heap.size+1 < wl.heap.size:=(by omega)))
    have l1:=B1.lt
    have l2:=B2.lt
    have C1:=(B1.alloc _).step hl (by simp;omega)
    have C2:=(B2.alloc _).step hl (by simp;omega)
    have hb:=bstep (bstep (bstep (bstep (boxed _ _) (boxed _ _)) hk) (boxed _ _)) hl
    have n1:g ≠ w.heap.size+1:=by simp at hg;omega
    have n2:g' ≠ w.heap.size+1:=by simp at hg';omega
    have n3:g ≠ w.heap.size:=by simp at hg;omega
    have n4:g ≠ wk.heap.size:=by omega
    have n5:g ≠ b1:=by simp at hg;omega
    have n6:s ≠ w.heap.size:=by omega
    have n7:s ≠ w.heap.size+1:=by omega
    have n8:s ≠ wk.heap.size:=by omega
    have n9:s ≠ b1:=by omega
    have n10:s ≠ g:=by simp at hg;omega
    have n11:s ≠ g':=by simp at hg';omega
    have n12:wk.heap.size ≠ w.heap.size+1:=by omega
    have n13:wk.heap.size ≠ w.heap.size:=by omega
    have n14:b1 ≠ wk.heap.size:=by omega
    have c0:wl.cell? ⟨w.heap.size,0,none⟩ = some (.slice (some ⟨b1,o1,none⟩) m.W.length c):=by simp [go_sem,n13,n13.symm,lc,hy0,gc,hz0]
    have a0:wl.cell? ⟨wk.heap.size,0,none⟩ = some (.slice (some ⟨g,0,none⟩) m.W.length m.W.length):=by simp [go_sem,lc]
    have a1:wl.cell? ⟨wk.heap.size,1,none⟩ = some (.slice (some ⟨g',0,none⟩) m.G.length m.G.length):=by simp [go_sem,lc]
    have a2:wl.cell? ⟨wk.heap.size,2,none⟩ = some (.bool (mBad m k)):=by rw [HB.out];simp [go_sem,lc]
    have r0:wl.cell? ⟨w.heap.size+1,0,none⟩ = some (.slice none 0 0):=by simp [go_sem,n12,n12.symm,lc,hy1,gc,hz]
    have r1:wl.cell? ⟨w.heap.size+1,1,none⟩ = some (.slice none 0 0):=by simp [go_sem,n12,n12.symm,lc,hy1,gc,hz]
    have r2:wl.cell? ⟨w.heap.size+1,2,none⟩ = some (.bool false):=by simp [go_sem,n12,n12.symm,lc,hy1,gc,hz]
    have f0:∀ o,wl.frozen? ⟨w.heap.size+1,o,none⟩ = false:=by intro o;simp [go_sem,n12,n12.symm,lf,hy1,gf,hz]
    have x0:wl.cell? ⟨b1,o1+k,none⟩ = some (.int .i64 x):=(hb.cell hb1).trans hc
    have s0:=(hb.cell (p:=⟨s,0,none⟩) hsw).trans hs
    have g0:=C1.cellD k hkl
    have g1:=C1.frozen k
    have z1:w.heap.size+1 < wl.heap.size:=by first | exact hy2 | simpa [World.setCell] using hy2
    clear gc gf lc lf
    generalize wl = w3 at *
    go_region_held3 (fun w'=>w'.cell? ⟨w.heap.size,0,none⟩ = some (.slice (some ⟨b1,o1,none⟩) m.W.length c)∧w'.cell? ⟨wk.heap.size,0,none⟩ = some (.slice (some ⟨g,0,none⟩) m.W.length m.W.length)∧w'.cell? ⟨b1,o1+k,none⟩ = some (.int .i64 x)) (go_keep)
     (first
      | (go_at_call 70;refine (store1 x y s _ (by simpa using s0)).mono ?_;rintro e wm ⟨rfl,rfl⟩))
    all_goals go_wp2
    refine bodyPost_ret (v:=.agg #[.slice (some ⟨g,0,none⟩) m.W.length m.W.length,.slice (some ⟨g',0,none⟩) m.G.length m.G.length,.bool (mBad m k)]) (by simp [results,Tryz.results69,go_sem,r0,r1,r2,n1,n1.symm,n7,n7.symm]) rfl ?_
    obtain ⟨t1,t2,t3⟩:=T.out
    have hb3:=(keep3 (hb.setCell (p:=⟨g,k,none⟩) (by simp at hg ⊢;omega) (.int .i64 y)) (r:=w.heap.size+1) (by omega) (.slice (some ⟨g,0,none⟩) m.W.length m.W.length) (.slice (some ⟨g',0,none⟩) m.G.length m.G.length) (.bool (mBad m k))).drew
    exact RetMemP.mk (by rw [t1,List.length_set]) (by rw [t2]) t3.symm (by rw [t1];exact ((C1.set k y).keep3 n1 _ _ _).row.drew) (by rw [t2];exact ((C2.far (p:=⟨g,k,none⟩) hgg.symm (.int .i64 y)).keep3 n2 _ _ _).row.drew) hb3 trivial (Wh.new (by simp at hg;omega)) (Wh.new (by simp at hg';omega))
theorem touch_cas (A A':Option Addr) (c c':Nat) (m:Ar) (p:Int) (old now:Int) (s s1 s3:Nat) (w0 w:World) (hW0:Row w0 A m.W) (hG0:Row w0 A' m.G) (hb0:Below w0.heap.size w0 w) (h0:m.W.length≤1000000) (h1:m.G.length≤1000000) (h2:2≤m.G.length) (hp:-9223372036854775808≤p) (hq:p≤9223372036854775807)
  (hs:w.cell? ⟨s,0,none⟩ = some (.bool false)) (hf:w.frozen? ⟨s,0,none⟩ = false) (hs1:w.cell? ⟨s1,0,none⟩ = some (.int .i64 old)) (hs3:w.cell? ⟨s3,0,none⟩ = some (.int .i64 now)) (hs0:w0.heap.size≤s) (hsw:s < w.heap.size) (l1:s1 < s) (l3:s3 < s) :
  Calls Tryz.prog 69 #[.agg #[.slice A m.W.length c,.slice A' m.G.length c',.bool m.bad],.int .i64 p,.func (.func 125) #[] #[.pointer (some ⟨s1,0,none⟩),.pointer (some ⟨s,0,none⟩),.pointer (some ⟨s3,0,none⟩)]] w (RetMemP s (CellIs s (.bool (mIs m p old))) w (mCas m p old now)):=by
 have hW:=hW0.step hb0
 have hG:=hG0.step hb0
 by_cases q1:p < 0
 ·have I:=hid (mIn_no (W:=m.W) (.inl q1))
  have T:Hid ((mCas m p old now).W = m.W∧(mCas m p old now).G = m.G∧(mCas m p old now).bad = true):=by rw [mCas_no (mIs_no I.out)];exact ⟨rfl,rfl,mBad_no I.out⟩
  go_enter Tryz.func69,Tryz.ntmps69
  go_wp2_with (go_at_call 90;refine (mcopied_any _ _ _ _ m _ ((hW.alloc _).alloc _) ((hG.alloc _).alloc _) h0 h1).mono ?_;rintro e wk ⟨g,g',rfl,hgg,hg,hg',B1,B2,hk⟩;obtain ⟨gc,gf⟩:=bcell hk;have hz:w.heap.size+1 < wk.heap.size:=(by have:=hk.size;simp at this;omega);have hz0:w.heap.size < wk.heap.size:=(by omega))
  refine bodyPost_ret (v:=.agg #[.slice (some ⟨g,0,none⟩) m.W.length m.W.length,.slice (some ⟨g',0,none⟩) m.G.length m.G.length,.bool true]) (by simp [results,Tryz.results69,go_sem,gc,hz]) rfl ?_
  obtain ⟨t1,t2,t3⟩:=T.out
  have n1:g ≠ w.heap.size+1:=by simp at hg;omega
  have n2:g' ≠ w.heap.size+1:=by simp at hg';omega
  have hb:=bstep (keep3 (bstep (bstep (boxed _ _) (boxed _ _)) hk) (r:=w.heap.size+1) (by omega) (.slice (some ⟨g,0,none⟩) m.W.length m.W.length) (.slice (some ⟨g',0,none⟩) m.G.length m.G.length) (.bool true)) (boxed _ (.cells #[.slice (some ⟨g,0,none⟩) m.W.length m.W.length,.slice (some ⟨g',0,none⟩) m.G.length m.G.length,.bool true] 26))
  exact RetMemP.mk (by rw [t1]) (by rw [t2]) t3.symm (by rw [t1];exact ((B1.keep3 n1 _ _ _).alloc _).row) (by rw [t2];exact ((B2.keep3 n2 _ _ _).alloc _).row) (hb.mono (by omega)) (by show _ = _;rw [mIs_no I.out];exact (hb.cell hsw).trans hs) (Wh.new (by simp at hg;omega)) (Wh.new (by simp at hg';omega))
 ·have q2:0≤p:=by omega
  clear q1
  by_cases q3:(m.W.length:Int)≤p
  ·have I:=hid (mIn_no (W:=m.W) (.inr q3))
   have T:Hid ((mCas m p old now).W = m.W∧(mCas m p old now).G = m.G∧(mCas m p old now).bad = true):=by rw [mCas_no (mIs_no I.out)];exact ⟨rfl,rfl,mBad_no I.out⟩
   go_enter Tryz.func69,Tryz.ntmps69
   go_wp2_with (go_at_call 90;refine (mcopied_any _ _ _ _ m _ ((hW.alloc _).alloc _) ((hG.alloc _).alloc _) h0 h1).mono ?_;rintro e wk ⟨g,g',rfl,hgg,hg,hg',B1,B2,hk⟩;obtain ⟨gc,gf⟩:=bcell hk;have hz:w.heap.size+1 < wk.heap.size:=(by have:=hk.size;simp at this;omega);have hz0:w.heap.size < wk.heap.size:=(by omega))
   refine bodyPost_ret (v:=.agg #[.slice (some ⟨g,0,none⟩) m.W.length m.W.length,.slice (some ⟨g',0,none⟩) m.G.length m.G.length,.bool true]) (by simp [results,Tryz.results69,go_sem,gc,hz]) rfl ?_
   obtain ⟨t1,t2,t3⟩:=T.out
   have n1:g ≠ w.heap.size+1:=by simp at hg;omega
   have n2:g' ≠ w.heap.size+1:=by simp at hg';omega
   have hb:=bstep (keep3 (bstep (bstep (boxed _ _) (boxed _ _)) hk) (r:=w.heap.size+1) (by omega) (.slice (some ⟨g,0,none⟩) m.W.length m.W.length) (.slice (some ⟨g',0,none⟩) m.G.length m.G.length) (.bool true)) (boxed _ (.cells #[.slice (some ⟨g,0,none⟩) m.W.length m.W.length,.slice (some ⟨g',0,none⟩) m.G.length m.G.length,.bool true] 26))
   exact RetMemP.mk (by rw [t1]) (by rw [t2]) t3.symm (by rw [t1];exact ((B1.keep3 n1 _ _ _).alloc _).row) (by rw [t2];exact ((B2.keep3 n2 _ _ _).alloc _).row) (hb.mono (by omega)) (by show _ = _;rw [mIs_no I.out];exact (hb.cell hsw).trans hs) (Wh.new (by simp at hg;omega)) (Wh.new (by simp at hg';omega))
  ·obtain ⟨k,rfl⟩:∃ k:Nat,p = k:=⟨p.toNat,by omega⟩
   have q4:(k:Int) < (m.W.length:Int):=by omega
   have hkl:k < m.W.length:=by omega
   clear q3
   obtain ⟨b1,o1,x,rfl,hb10,X,hc0⟩:=hW0.atX k hkl
   have hb1:b1 < w.heap.size:=Nat.lt_of_lt_of_le hb10 hb0.size
   have hc:=hW.cellX k hkl X
   clear hc0
   have T:Hid ((mCas m k old now).W = m.W.set k (casV x old now)∧(mCas m k old now).G = m.G∧(mCas m k old now).bad = mBad m k):=⟨mCas_set hkl X.out,rfl,rfl⟩
   have hB:=mBad_yes (m:=m) (mIn_yes q2 q4)
   have hN:=mNode_cases m.G k
   obtain ⟨n,hn⟩:∃ n,mNode m.G k = n:=⟨_,rfl⟩
   rw [hn] at hB hN
   have HN:=hid hn
   clear hn
   by_cases q5:0 < n
   ·obtain ⟨j,rfl⟩:∃ j:Nat,n = j:=⟨n.toNat,by omega⟩
    have hjl:j < m.G.length:=by omega
    obtain ⟨b2,o2,x2,rfl,hb20,X2,hc2⟩:=hG0.atX j hjl
    rw [Int.toNat_natCast,X2.out,decide_eq_true q5,Bool.true_and] at hB
    have q6:(j:Int) < (m.G.length:Int):=by omega
    clear hN hc2
    cases t:(x2 == 0)
    ·rw [t,Bool.or_false] at hB
     have HB:=hid hB
     clear hB
     go_enter Tryz.func69,Tryz.ntmps69
     go_wp2_with (first
      | (go_at_call 90;refine (mcopied_any _ _ _ _ m _ ((hW.alloc _).alloc _) ((hG.alloc _).alloc _) h0 h1).mono ?_;rintro e wk ⟨g,g',rfl,hgg,hg,hg',B1,B2,hk⟩;obtain ⟨gc,gf⟩:=bcell hk;have hz:w.heap.size+1 < wk.heap.size:=(by have:=hk.size;simp at this;omega);have hz0:w.heap.size < wk.heap.size:=(by omega))
      | (go_at_call 91;refine (node_any _ _ _ _ m k _ (by omega) h2 hp hq).mono ?_;rintro e wl ⟨rfl,hl⟩;rw [HN.out];obtain ⟨lc,lf⟩:=bcell hl;have hy:wk.heap.size < wl.heap.size:=(by have:=hl.size;simp at this;omega);have hy0:w.heap.size < wk.heap.size+1:=(by omega);have hy1:w.heap.size+1 < wk.heap.size+1:=(by omega);have hy2:w.heap.size+1 < wl.heap.size:=(by omega);have hcl:=Row.cellX (((((hG.alloc _).alloc _).step hk).alloc _).step hl) j hjl X2))
     have l1:=B1.lt
     have l2:=B2.lt
     have C1:=(B1.alloc _).step hl (by simp;omega)
     have C2:=(B2.alloc _).step hl (by simp;omega)
     have hb:=bstep (bstep (bstep (bstep (boxed _ _) (boxed _ _)) hk) (boxed _ _)) hl
     have n1:g ≠ w.heap.size+1:=by simp at hg;omega
     have n2:g' ≠ w.heap.size+1:=by simp at hg';omega
     have n3:g ≠ w.heap.size:=by simp at hg;omega
     have n4:g ≠ wk.heap.size:=by omega
     have n5:g ≠ b1:=by simp at hg;omega
     have n6:s ≠ w.heap.size:=by omega
     have n7:s ≠ w.heap.size+1:=by omega
     have n8:s ≠ wk.heap.size:=by omega
     have n9:s ≠ b1:=by omega
     have n10:s ≠ g:=by simp at hg;omega
     have n11:s ≠ g':=by simp at hg';omega
     have n12:wk.heap.size ≠ w.heap.size+1:=by omega
     have n13:wk.heap.size ≠ w.heap.size:=by omega
     have n14:b1 ≠ wk.heap.size:=by omega
     have c0:wl.cell? ⟨w.heap.size,0,none⟩ = some (.slice (some ⟨b1,o1,none⟩) m.W.length c):=by simp [go_sem,n13,n13.symm,lc,hy0,gc,hz0]
     have a0:wl.cell? ⟨wk.heap.size,0,none⟩ = some (.slice (some ⟨g,0,none⟩) m.W.length m.W.length):=by simp [go_sem,lc]
     have a1:wl.cell? ⟨wk.heap.size,1,none⟩ = some (.slice (some ⟨g',0,none⟩) m.G.length m.G.length):=by simp [go_sem,lc]
     have a2:wl.cell? ⟨wk.heap.size,2,none⟩ = some (.bool (mBad m k)):=by rw [HB.out];simp [go_sem,lc]
     have r0:wl.cell? ⟨w.heap.size+1,0,none⟩ = some (.slice none 0 0):=by simp [go_sem,n12,n12.symm,lc,hy1,gc,hz]
     have r1:wl.cell? ⟨w.heap.size+1,1,none⟩ = some (.slice none 0 0):=by simp [go_sem,n12,n12.symm,lc,hy1,gc,hz]
     have r2:wl.cell? ⟨w.heap.size+1,2,none⟩ = some (.bool false):=by simp [go_sem,n12,n12.symm,lc,hy1,gc,hz]
     have f0:∀ o,wl.frozen? ⟨w.heap.size+1,o,none⟩ = false:=by intro o;simp [go_sem,n12,n12.symm,lf,hy1,gf,hz]
     have x0:wl.cell? ⟨b1,o1+k,none⟩ = some (.int .i64 x):=(hb.cell hb1).trans hc
     have s0:=(hb.cell (p:=⟨s,0,none⟩) hsw).trans hs
     have sf:=(hb.frozen (p:=⟨s,0,none⟩) hsw).trans hf
     have s4:=(hb.cell (p:=⟨s1,0,none⟩) (by simp;omega)).trans hs1
     have s5:=(hb.cell (p:=⟨s3,0,none⟩) (by simp;omega)).trans hs3
     have g0:=C1.cellD k hkl
     have g1:=C1.frozen k
     have z1:w.heap.size+1 < wl.heap.size:=by first | exact hy2 | simpa [World.setCell] using hy2
     clear gc gf lc lf
     generalize wl = w3 at *
     go_region_held3 (fun w'=>w'.cell? ⟨w.heap.size,0,none⟩ = some (.slice (some ⟨b1,o1,none⟩) m.W.length c)∧w'.cell? ⟨wk.heap.size,0,none⟩ = some (.slice (some ⟨g,0,none⟩) m.W.length m.W.length)∧w'.cell? ⟨b1,o1+k,none⟩ = some (.int .i64 x)) (go_keep)
      (first
       | (go_at_call 125;refine (cas1 x old now false s1 s s3 _ (by simpa using s4) (by simpa using s0) (by simpa using s5) (by simpa using sf) (by omega) (by omega)).mono ?_;rintro e wm ⟨rfl,rfl⟩))
     all_goals go_wp2
     refine bodyPost_ret (v:=.agg #[.slice (some ⟨g,0,none⟩) m.W.length m.W.length,.slice (some ⟨g',0,none⟩) m.G.length m.G.length,.bool (mBad m k)]) (by simp [results,Tryz.results69,go_sem,r0,r1,r2,n1,n1.symm,n7,n7.symm]) rfl ?_
     obtain ⟨t1,t2,t3⟩:=T.out
     have hb3:=(keep3 (((hb.mono (B':=s) (by omega)).setCell (p:=⟨s,0,none⟩) (by simp) (.bool (x == old))).setCell (p:=⟨g,k,none⟩) (by simp at hg ⊢;omega) (.int .i64 (casV x old now))) (r:=w.heap.size+1) (by omega) (.slice (some ⟨g,0,none⟩) m.W.length m.W.length) (.slice (some ⟨g',0,none⟩) m.G.length m.G.length) (.bool (mBad m k))).drew
     exact RetMemP.mk (by rw [t1,List.length_set]) (by rw [t2]) t3.symm (by rw [t1];exact (((C1.far (p:=⟨s,0,none⟩) n10.symm (.bool (x == old))).set k (casV x old now)).keep3 n1 _ _ _).row.drew) (by rw [t2];exact (((C2.far (p:=⟨s,0,none⟩) n11.symm (.bool (x == old))).far (p:=⟨g,k,none⟩) hgg.symm (.int .i64 (casV x old now))).keep3 n2 _ _ _).row.drew) hb3 (by show World.cell? _ _ = some (.bool (mIs m k old));rw [mIs_yes (mIn_yes q2 q4),X.out];simp [go_sem,n10,n10.symm,n7,n7.symm,s0]) (Wh.new (by simp at hg;omega)) (Wh.new (by simp at hg';omega))
    ·rw [t,Bool.or_true] at hB
     have HB:=hid hB
     clear hB
     go_enter Tryz.func69,Tryz.ntmps69
     go_wp2_with (first
      | (go_at_call 90;refine (mcopied_any _ _ _ _ m _ ((hW.alloc _).alloc _) ((hG.alloc _).alloc _) h0 h1).mono ?_;rintro e wk ⟨g,g',rfl,hgg,hg,hg',B1,B2,hk⟩;obtain ⟨gc,gf⟩:=bcell hk;have hz:w.heap.size+1 < wk.heap.size:=(by have:=hk.size;simp at this;omega);have hz0:w.heap.size < wk.heap.size:=(by omega))
      | (go_at_call 91;refine (node_any _ _ _ _ m k _ (by omega) h2 hp hq).mono ?_;rintro e wl ⟨rfl,hl⟩;rw [HN.out];obtain ⟨lc,lf⟩:=bcell hl;have hy:wk.heap.size < wl.heap.size:=(by have:=hl.size;simp at this;omega);have hy0:w.heap.size < wk.heap.size+1:=(by omega);have hy1:w.heap.size+1 < wk.heap.size+1:=(by omega);have hy2:w.heap.size+1 < wl.heap.size:=(by omega);have hcl:=Row.cellX (((((hG.alloc _).alloc _).step hk).alloc _).step hl) j hjl X2))
     have l1:=B1.lt
     have l2:=B2.lt
     have C1:=(B1.alloc _).step hl (by simp;omega)
     have C2:=(B2.alloc _).step hl (by simp;omega)
     have hb:=bstep (bstep (bstep (bstep (boxed _ _) (boxed _ _)) hk) (boxed _ _)) hl
     have n1:g ≠ w.heap.size+1:=by simp at hg;omega
     have n2:g' ≠ w.heap.size+1:=by simp at hg';omega
     have n3:g ≠ w.heap.size:=by simp at hg;omega
     have n4:g ≠ wk.heap.size:=by omega
     have n5:g ≠ b1:=by simp at hg;omega
     have n6:s ≠ w.heap.size:=by omega
     have n7:s ≠ w.heap.size+1:=by omega
     have n8:s ≠ wk.heap.size:=by omega
     have n9:s ≠ b1:=by omega
     have n10:s ≠ g:=by simp at hg;omega
     have n11:s ≠ g':=by simp at hg';omega
     have n12:wk.heap.size ≠ w.heap.size+1:=by omega
     have n13:wk.heap.size ≠ w.heap.size:=by omega
     have n14:b1 ≠ wk.heap.size:=by omega
     replace C1:=C1.far (p:=⟨wk.heap.size,2,none⟩) (by simp;omega) (.bool true)
     replace C2:=C2.far (p:=⟨wk.heap.size,2,none⟩) (by simp;omega) (.bool true)
     replace hb:=hb.setCell (p:=⟨wk.heap.size,2,none⟩) (by simp;omega) (.bool true)
     have c0:(wl.setCell ⟨wk.heap.size,2,none⟩ (.bool true)).cell? ⟨w.heap.size,0,none⟩ = some (.slice (some ⟨b1,o1,none⟩) m.W.length c):=by simp [go_sem,n13,n13.symm,lc,hy0,gc,hz0]
     have a0:(wl.setCell ⟨wk.heap.size,2,none⟩ (.bool true)).cell? ⟨wk.heap.size,0,none⟩ = some (.slice (some ⟨g,0,none⟩) m.W.length m.W.length):=by simp [go_sem,lc]
     have a1:(wl.setCell ⟨wk.heap.size,2,none⟩ (.bool true)).cell? ⟨wk.heap.size,1,none⟩ = some (.slice (some ⟨g',0,none⟩) m.G.length m.G.length):=by simp [go_sem,lc]
     have a2:(wl.setCell ⟨wk.heap.size,2,none⟩ (.bool true)).cell? ⟨wk.heap.size,2,none⟩ = some (.bool (mBad m k)):=by rw [HB.out];simp [go_sem,lc]
     have r0:(wl.setCell ⟨wk.heap.size,2,none⟩ (.bool true)).cell? ⟨w.heap.size+1,0,none⟩ = some (.slice none 0 0):=by simp [go_sem,n12,n12.symm,lc,hy1,gc,hz]
     have r1:(wl.setCell ⟨wk.heap.size,2,none⟩ (.bool true)).cell? ⟨w.heap.size+1,1,none⟩ = some (.slice none 0 0):=by simp [go_sem,n12,n12.symm,lc,hy1,gc,hz]
     have r2:(wl.setCell ⟨wk.heap.size,2,none⟩ (.bool true)).cell? ⟨w.heap.size+1,2,none⟩ = some (.bool false):=by simp [go_sem,n12,n12.symm,lc,hy1,gc,hz]
     have f0:∀ o,(wl.setCell ⟨wk.heap.size,2,none⟩ (.bool true)).frozen? ⟨w.heap.size+1,o,none⟩ = false:=by intro o;simp [go_sem,n12,n12.symm,lf,hy1,gf,hz]
     have x0:(wl.setCell ⟨wk.heap.size,2,none⟩ (.bool true)).cell? ⟨b1,o1+k,none⟩ = some (.int .i64 x):=(hb.cell hb1).trans hc
     have s0:=(hb.cell (p:=⟨s,0,none⟩) hsw).trans hs
     have sf:=(hb.frozen (p:=⟨s,0,none⟩) hsw).trans hf
     have s4:=(hb.cell (p:=⟨s1,0,none⟩) (by simp;omega)).trans hs1
     have s5:=(hb.cell (p:=⟨s3,0,none⟩) (by simp;omega)).trans hs3
     have g0:=C1.cellD k hkl
     have g1:=C1.frozen k
     have z1:w.heap.size+1 < (wl.setCell ⟨wk.heap.size,2,none⟩ (.bool true)).heap.size:=by first | exact hy2 | simpa [World.setCell] using hy2
     clear gc gf lc lf
     generalize wl.setCell ⟨wk.heap.size,2,none⟩ (.bool true) = w3 at *
     go_region_held3 (fun w'=>w'.cell? ⟨w.heap.size,0,none⟩ = some (.slice (some ⟨b1,o1,none⟩) m.W.length c)∧w'.cell? ⟨wk.heap.size,0,none⟩ = some (.slice (some ⟨g,0,none⟩) m.W.length m.W.length)∧w'.cell? ⟨b1,o1+k,none⟩ = some (.int .i64 x)) (go_keep)
      (first
       | (go_at_call 125;refine (cas1 x old now false s1 s s3 _ (by simpa using s4) (by simpa using s0) (by simpa using s5) (by simpa using sf) (by omega) (by omega)).mono ?_;rintro e wm ⟨rfl,rfl⟩))
     all_goals go_wp2
     refine bodyPost_ret (v:=.agg #[.slice (some ⟨g,0,none⟩) m.W.length m.W.length,.slice (some ⟨g',0,none⟩) m.G.length m.G.length,.bool (mBad m k)]) (by simp [results,Tryz.results69,go_sem,r0,r1,r2,n1,n1.symm,n7,n7.symm]) rfl ?_
     obtain ⟨t1,t2,t3⟩:=T.out
     have hb3:=(keep3 (((hb.mono (B':=s) (by omega)).setCell (p:=⟨s,0,none⟩) (by simp) (.bool (x == old))).setCell (p:=⟨g,k,none⟩) (by simp at hg ⊢;omega) (.int .i64 (casV x old now))) (r:=w.heap.size+1) (by omega) (.slice (some ⟨g,0,none⟩) m.W.length m.W.length) (.slice (some ⟨g',0,none⟩) m.G.length m.G.length) (.bool (mBad m k))).drew
     exact RetMemP.mk (by rw [t1,List.length_set]) (by rw [t2]) t3.symm (by rw [t1];exact (((C1.far (p:=⟨s,0,none⟩) n10.symm (.bool (x == old))).set k (casV x old now)).keep3 n1 _ _ _).row.drew) (by rw [t2];exact (((C2.far (p:=⟨s,0,none⟩) n11.symm (.bool (x == old))).far (p:=⟨g,k,none⟩) hgg.symm (.int .i64 (casV x old now))).keep3 n2 _ _ _).row.drew) hb3 (by show World.cell? _ _ = some (.bool (mIs m k old));rw [mIs_yes (mIn_yes q2 q4),X.out];simp [go_sem,n10,n10.symm,n7,n7.symm,s0]) (Wh.new (by simp at hg;omega)) (Wh.new (by simp at hg';omega))
   ·rw [decide_eq_false q5,Bool.false_and,Bool.or_false] at hB
    have q6:n≤0:=by omega
    have HB:=hid hB
    clear hB hN q5
    go_enter Tryz.func69,Tryz.ntmps69
    go_wp2_with (first
     | (go_at_call 90;refine (mcopied_any _ _ _ _ m _ ((hW.alloc _).alloc _) ((hG.alloc _).alloc _) h0 h1).mono ?_;rintro e wk ⟨g,g',rfl,hgg,hg,hg',B1,B2,hk⟩;obtain ⟨gc,gf⟩:=bcell hk;have hz:w.heap.size+1 < wk.heap.size:=(by have:=hk.size;simp at this;omega);have hz0:w.heap.size < wk.heap.size:=(by omega))
     | (go_at_call 91;refine (node_any _ _ _ _ m k _ (by omega) h2 hp hq).mono ?_;rintro e wl ⟨rfl,hl⟩;rw [HN.out];obtain ⟨lc,lf⟩:=bcell hl;have hy:wk.heap.size < wl.heap.size:=(by have:=hl.size;simp at this;omega);have hy0:w.heap.size < wk.heap.size+1:=(by omega);have hy1:w.heap.size+1 < wk.heap.size+1:=(by omega);have hy2:w.heap.size+1 < wl.heap.size:=(by omega)))
    have l1:=B1.lt
    have l2:=B2.lt
    have C1:=(B1.alloc _).step hl (by simp;omega)
    have C2:=(B2.alloc _).step hl (by simp;omega)
    have hb:=bstep (bstep (bstep (bstep (boxed _ _) (boxed _ _)) hk) (boxed _ _)) hl
    have n1:g ≠ w.heap.size+1:=by simp at hg;omega
    have n2:g' ≠ w.heap.size+1:=by simp at hg';omega
    have n3:g ≠ w.heap.size:=by simp at hg;omega
    have n4:g ≠ wk.heap.size:=by omega
    have n5:g ≠ b1:=by simp at hg;omega
    have n6:s ≠ w.heap.size:=by omega
    have n7:s ≠ w.heap.size+1:=by omega
    have n8:s ≠ wk.heap.size:=by omega
    have n9:s ≠ b1:=by omega
    have n10:s ≠ g:=by simp at hg;omega
    have n11:s ≠ g':=by simp at hg';omega
    have n12:wk.heap.size ≠ w.heap.size+1:=by omega
    have n13:wk.heap.size ≠ w.heap.size:=by omega
    have n14:b1 ≠ wk.heap.size:=by omega
    have c0:wl.cell? ⟨w.heap.size,0,none⟩ = some (.slice (some ⟨b1,o1,none⟩) m.W.length c):=by simp [go_sem,n13,n13.symm,lc,hy0,gc,hz0]
    have a0:wl.cell? ⟨wk.heap.size,0,none⟩ = some (.slice (some ⟨g,0,none⟩) m.W.length m.W.length):=by simp [go_sem,lc]
    have a1:wl.cell? ⟨wk.heap.size,1,none⟩ = some (.slice (some ⟨g',0,none⟩) m.G.length m.G.length):=by simp [go_sem,lc]
    have a2:wl.cell? ⟨wk.heap.size,2,none⟩ = some (.bool (mBad m k)):=by rw [HB.out];simp [go_sem,lc]
    have r0:wl.cell? ⟨w.heap.size+1,0,none⟩ = some (.slice none 0 0):=by simp [go_sem,n12,n12.symm,lc,hy1,gc,hz]
    have r1:wl.cell? ⟨w.heap.size+1,1,none⟩ = some (.slice none 0 0):=by simp [go_sem,n12,n12.symm,lc,hy1,gc,hz]
    have r2:wl.cell? ⟨w.heap.size+1,2,none⟩ = some (.bool false):=by simp [go_sem,n12,n12.symm,lc,hy1,gc,hz]
    have f0:∀ o,wl.frozen? ⟨w.heap.size+1,o,none⟩ = false:=by intro o;simp [go_sem,n12,n12.symm,lf,hy1,gf,hz]
    have x0:wl.cell? ⟨b1,o1+k,none⟩ = some (.int .i64 x):=(hb.cell hb1).trans hc
    have s0:=(hb.cell (p:=⟨s,0,none⟩) hsw).trans hs
    have sf:=(hb.frozen (p:=⟨s,0,none⟩) hsw).trans hf
    have s4:=(hb.cell (p:=⟨s1,0,none⟩) (by simp;omega)).trans hs1
    have s5:=(hb.cell (p:=⟨s3,0,none⟩) (by simp;omega)).trans hs3
    have g0:=C1.cellD k hkl
    have g1:=C1.frozen k
    have z1:w.heap.size+1 < wl.heap.size:=by first | exact hy2 | simpa [World.setCell] using hy2
    clear gc gf lc lf
    generalize wl = w3 at *
    go_region_held3 (fun w'=>w'.cell? ⟨w.heap.size,0,none⟩ = some (.slice (some ⟨b1,o1,none⟩) m.W.length c)∧w'.cell? ⟨wk.heap.size,0,none⟩ = some (.slice (some ⟨g,0,none⟩) m.W.length m.W.length)∧w'.cell? ⟨b1,o1+k,none⟩ = some (.int .i64 x)) (go_keep)
     (first
      | (go_at_call 125;refine (cas1 x old now false s1 s s3 _ (by simpa using s4) (by simpa using s0) (by simpa using s5) (by simpa using sf) (by omega) (by omega)).mono ?_;rintro e wm ⟨rfl,rfl⟩))
    all_goals go_wp2
    refine bodyPost_ret (v:=.agg #[.slice (some ⟨g,0,none⟩) m.W.length m.W.length,.slice (some ⟨g',0,none⟩) m.G.length m.G.length,.bool (mBad m k)]) (by simp [results,Tryz.results69,go_sem,r0,r1,r2,n1,n1.symm,n7,n7.symm]) rfl ?_
    obtain ⟨t1,t2,t3⟩:=T.out
    have hb3:=(keep3 (((hb.mono (B':=s) (by omega)).setCell (p:=⟨s,0,none⟩) (by simp) (.bool (x == old))).setCell (p:=⟨g,k,none⟩) (by simp at hg ⊢;omega) (.int .i64 (casV x old now))) (r:=w.heap.size+1) (by omega) (.slice (some ⟨g,0,none⟩) m.W.length m.W.length) (.slice (some ⟨g',0,none⟩) m.G.length m.G.length) (.bool (mBad m k))).drew
    exact RetMemP.mk (by rw [t1,List.length_set]) (by rw [t2]) t3.symm (by rw [t1];exact (((C1.far (p:=⟨s,0,none⟩) n10.symm (.bool (x == old))).set k (casV x old now)).keep3 n1 _ _ _).row.drew) (by rw [t2];exact (((C2.far (p:=⟨s,0,none⟩) n11.symm (.bool (x == old))).far (p:=⟨g,k,none⟩) hgg.symm (.int .i64 (casV x old now))).keep3 n2 _ _ _).row.drew) hb3 (by show World.cell? _ _ = some (.bool (mIs m k old));rw [mIs_yes (mIn_yes q2 q4),X.out];simp [go_sem,n10,n10.symm,n7,n7.symm,s0]) (Wh.new (by simp at hg;omega)) (Wh.new (by simp at hg';omega))
end Go.Proofs.YtfipcdhodojodaaGreat
