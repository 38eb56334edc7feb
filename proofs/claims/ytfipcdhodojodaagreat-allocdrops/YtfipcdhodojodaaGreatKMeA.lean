/- Contracts: arenas that are copied. -/
import Derived.Test.YtfipcdhodojodaaGreatKRef
import Derived.Deep.CutRange
namespace Go.Proofs.YtfipcdhodojodaaGreat
open Go.RowKit
set_option maxHeartbeats 2000000
set_option linter.unusedVariables false
def Wh (w:World) (A0 A:Option Addr):Prop:=A = A0 ∨ ∀ a,A = some a→w.heap.size≤a.block
theorem Wh.new {w:World} {A0:Option Addr} {g o:Nat} (h:w.heap.size≤g):Wh w A0 (some ⟨g,o,none⟩):=Or.inr (fun a e=>by injection e with e;subst e;exact h)
theorem Wh.old {w:World} {A:Option Addr}:Wh w A A:=Or.inl rfl
theorem Wh.up {w w1:World} {A0 A:Option Addr} (h:Wh w1 A0 A) (hs:w.heap.size≤w1.heap.size):Wh w A0 A:=h.imp id (fun h a e=>Nat.le_trans hs (h a e))
theorem Wh.any {w:World} {A0 A:Option Addr} (h:Wh w none A):Wh w A0 A:=h.elim (fun e=>Or.inr (fun a e'=>by rw [e] at e';cases e')) Or.inr
def RetMemO (w:World) (A0 B0:Option Addr) (m:Ar) (e:Ending) (w':World):Prop :=
 ∃ (A A':Option Addr) (c c':Nat),e = .returned (.agg #[.slice A m.W.length c,.slice A' m.G.length c',.bool m.bad])∧Row w' A m.W∧Row w' A' m.G∧Below w.heap.size w w'∧Wh w A0 A∧Wh w B0 A'
def RetMem2O (w:World) (A0 B0:Option Addr) (m:Ar) (x:Value) (e:Ending) (w':World):Prop :=
 ∃ (A A':Option Addr) (c c':Nat),e = .returned (.tuple #[.agg #[.slice A m.W.length c,.slice A' m.G.length c',.bool m.bad],x])∧Row w' A m.W∧Row w' A' m.G∧Below w.heap.size w w'∧Wh w A0 A∧Wh w B0 A'
theorem RetMemO.mk {w w':World} {A0 B0:Option Addr} {m:Ar} {A A':Option Addr} {c c' n n':Nat} {b:Bool} (h1:n = m.W.length) (h2:n' = m.G.length) (h3:b = m.bad) (r1:Row w' A m.W) (r2:Row w' A' m.G) (hb:Below w.heap.size w w') (f1:Wh w A0 A) (f2:Wh w B0 A') :
  RetMemO w A0 B0 m (.returned (.agg #[.slice A n c,.slice A' n' c',.bool b])) w':=by
 subst h1 h2 h3
 exact ⟨_,_,_,_,rfl,r1,r2,hb,f1,f2⟩
theorem RetMem2O.mk {w w':World} {A0 B0:Option Addr} {m:Ar} {x:Value} {A A':Option Addr} {c c' n n':Nat} {b:Bool} (h1:n = m.W.length) (h2:n' = m.G.length) (h3:b = m.bad) (r1:Row w' A m.W) (r2:Row w' A' m.G) (hb:Below w.heap.size w w') (f1:Wh w A0 A) (f2:Wh w B0 A') :
  RetMem2O w A0 B0 m x (.returned (.tuple #[.agg #[.slice A n c,.slice A' n' c',.bool b],x])) w':=by
 subst h1 h2 h3
 exact ⟨_,_,_,_,rfl,r1,r2,hb,f1,f2⟩
theorem RetMemO.weak {w w':World} {A0 B0:Option Addr} {m:Ar} {e:Ending} (h:RetMemO w A0 B0 m e w'):RetMem w m e w':=by
 obtain ⟨A,A',c,c',h1,h2,h3,h4,_⟩:=h
 exact ⟨A,A',c,c',h1,h2,h3,h4⟩
theorem RetMem2O.weak {w w':World} {A0 B0:Option Addr} {m:Ar} {x:Value} {e:Ending} (h:RetMem2O w A0 B0 m x e w'):RetMem2 w m x e w':=by
 obtain ⟨A,A',c,c',h1,h2,h3,h4,_⟩:=h
 exact ⟨A,A',c,c',h1,h2,h3,h4⟩
def RetOwn (w:World) (m:Ar) (e:Ending) (w':World):Prop :=
 ∃ g g':Nat,e = .returned (.agg #[.slice (some ⟨g,0,none⟩) m.W.length m.W.length,.slice (some ⟨g',0,none⟩) m.G.length m.G.length,.bool m.bad])∧g ≠ g'∧w.heap.size≤g∧w.heap.size≤g'∧Blk w' g m.W∧Blk w' g' m.G∧Below w.heap.size w w'
structure Laid (w0:World) (m:Ar) (g g' v:Nat) (wx:World):Prop where
 gg:g ≠ g'
 gv:v ≠ g
 gv':v ≠ g'
 lg:w0.heap.size≤g
 lg':w0.heap.size≤g'
 lv:w0.heap.size≤v
 lw:v < wx.heap.size
 bx:wx.heap[v]? = some (.cells #[.slice (some ⟨g,0,none⟩) m.W.length m.W.length,.slice (some ⟨g',0,none⟩) m.G.length m.G.length,.bool m.bad] 26 (0,0))
 bg:Blk wx g (List.replicate m.W.length 0)
 bg':Blk wx g' (List.replicate m.G.length 0)
 be:Below w0.heap.size w0 wx
theorem madeBlk {w:World} {g n:Nat} (h:w.heap[g]? = some (.cells (madeCells #[.int .i64 0] n) 3)):Blk w g (List.replicate n 0):=by
 unfold Blk
 rw [h]
 congr 2
 apply Array.ext
 ·simp [madeCells]
 ·intro i h1 h2
  simp [madeCells,Nat.mod_one]
theorem heap3 (w0:World) (a b c:Obj) (n:Nat) (hn:w0.heap.size = n) :
  (((w0.alloc a).alloc b).alloc c).drew.heap[n]? = some a∧(((w0.alloc a).alloc b).alloc c).drew.heap[n+1]? = some b∧(((w0.alloc a).alloc b).alloc c).drew.heap[n+1+1]? = some c ∧
   n+1+1 < (((w0.alloc a).alloc b).alloc c).drew.heap.size∧Below w0.heap.size w0 (((w0.alloc a).alloc b).alloc c).drew:=by
 subst hn
 refine ⟨?_,?_,?_,?_,(bstep (bstep (boxed _ _) (boxed _ _)) (boxed _ _)).drew⟩
 ·rw [heap_drew,heap_alloc_old _ _ (by simp;omega),heap_alloc_old _ _ (by simp),heap_alloc_new]
 ·rw [heap_drew,heap_alloc_old _ _ (by simp),show w0.heap.size+1 = (w0.alloc a).heap.size by simp,heap_alloc_new]
 ·rw [heap_drew,show w0.heap.size+1+1 = ((w0.alloc a).alloc b).heap.size by simp,heap_alloc_new]
 ·rw [heap_drew];simp
theorem mcopied_any (A A':Option Addr) (c c':Nat) (m:Ar) (w:World) (hW:Row w A m.W) (hG:Row w A' m.G) (h0:m.W.length≤1000000) (h1:m.G.length≤1000000) :
  Calls Tryz.prog 90 #[.agg #[.slice A m.W.length c,.slice A' m.G.length c',.bool m.bad]] w (RetOwn w m):=by
 have k1:=make_ints m.W.length h0
 have k2:=make_ints m.G.length h1
 go_enter Tryz.func90,Tryz.ntmps90
 go_upto_region 1 with (fail)
 go_cut [3] from 4 (fun t wx=>∃ g g' v:Nat,t = .pointer (some ⟨v,0,none⟩)∧Laid ((w.alloc (.cells #[.slice A m.W.length c,.slice A' m.G.length c',.bool m.bad] 26)).alloc (.cells #[.slice none 0 0,.slice none 0 0,.bool false] 26)) m g g' v wx)
 case first =>
  go_region
  all_goals go_wp2_with fail
  all_goals go_meet
  all_goals
   obtain ⟨p,q,r,s,t⟩:=heap3 ((w.alloc (.cells #[.slice A m.W.length c,.slice A' m.G.length c',.bool m.bad] 26)).alloc (.cells #[.slice none 0 0,.slice none 0 0,.bool false] 26)) _ _ _ (w.heap.size+1+1) (by simp)
   first
   | exact ⟨_,_,_,rfl,⟨by omega,by omega,by omega,by simp <;> omega,by simp <;> omega,by simp <;> omega,by omega,p,madeBlk q,madeBlk r,t⟩⟩
   | exact ⟨_,_,_,rfl,⟨by omega,by omega,by omega,by simp <;> omega,by simp <;> omega,by simp <;> omega,by omega,p,madeBlk r,madeBlk q,t⟩⟩
   | exact ⟨_,_,_,rfl,⟨by omega,by omega,by omega,by simp <;> omega,by simp <;> omega,by simp <;> omega,by omega,q,madeBlk p,madeBlk r,t⟩⟩
   | exact ⟨_,_,_,rfl,⟨by omega,by omega,by omega,by simp <;> omega,by simp <;> omega,by simp <;> omega,by omega,q,madeBlk r,madeBlk p,t⟩⟩
   | exact ⟨_,_,_,rfl,⟨by omega,by omega,by omega,by simp <;> omega,by simp <;> omega,by simp <;> omega,by omega,r,madeBlk p,madeBlk q,t⟩⟩
   | exact ⟨_,_,_,rfl,⟨by omega,by omega,by omega,by simp <;> omega,by simp <;> omega,by simp <;> omega,by omega,r,madeBlk q,madeBlk p,t⟩⟩
 case rest =>
  obtain ⟨g,g',v,rfl,L⟩:=hcut
  have v0:wc.cell? ⟨v,0,none⟩ = some (.slice (some ⟨g,0,none⟩) m.W.length m.W.length):=cell_of_row wc v 0 _ _ _ L.bx
  have v1:wc.cell? ⟨v,1,none⟩ = some (.slice (some ⟨g',0,none⟩) m.G.length m.G.length):=cell_of_row wc v 1 _ _ _ L.bx
  have v2:wc.cell? ⟨v,2,none⟩ = some (.bool m.bad):=cell_of_row wc v 2 _ _ _ L.bx
  obtain ⟨lc,lf⟩:=bcell L.be
  have lg:=L.lg
  have lg':=L.lg'
  have lw:=L.lw
  have e0:=L.gv
  have e1:=L.gv'
  have e2:w.heap.size ≠ g:=by simp at lg;omega
  have e3:w.heap.size+1 ≠ g:=by simp at lg;omega
  have e4:w.heap.size ≠ g':=by simp at lg';omega
  have e5:w.heap.size+1 ≠ g':=by simp at lg';omega
  have rW:=((hW.alloc (.cells #[.slice A m.W.length c,.slice A' m.G.length c',.bool m.bad] 26)).alloc (.cells #[.slice none 0 0,.slice none 0 0,.bool false] 26)).step L.be
  have rG:=(hG.alloc (.cells #[.slice A m.W.length c,.slice A' m.G.length c',.bool m.bad] 26)).alloc (.cells #[.slice none 0 0,.slice none 0 0,.bool false] 26)
  clear lg lg' k1 k2
  go_wp2_with (first
   | ((with_reducible refine wpList_copy_mine rfl (.tmp 16) (.tmp 18) 24 24 rfl 3 Tryz.underlying24 (by kernel_rfl) g _ _ A m.W _ rfl rfl L.bg (by simp) rW ?_);intro w2 B2 O2;obtain ⟨oc,of⟩:=O2.cells)
   | ((with_reducible refine wpList_copy_mine rfl (.tmp 21) (.tmp 23) 24 24 rfl 3 Tryz.underlying24 (by kernel_rfl) g' _ _ A' m.G _ rfl rfl (O2.blk L.gg.symm L.bg') (by simp) (rG.step (O2.below L.be L.lg)) ?_);intro w3 B3 O3;obtain ⟨pc,pf⟩:=O3.cells))
  refine bodyPost_ret (v:=.agg #[.slice (some ⟨g,0,none⟩) m.W.length m.W.length,.slice (some ⟨g',0,none⟩) m.G.length m.G.length,.bool m.bad]) (by simp [results,Tryz.results90,go_sem,pc,oc,lc,e3,e5]) rfl ?_
  refine ⟨g,g',rfl,L.gg,?_,?_,?_,?_,?_⟩
  ·have:=L.lg;simp at this;omega
  ·have:=L.lg';simp at this;omega
  ·exact (((O3.blk L.gg B2).far e3.symm _).far e3.symm _).far e3.symm _
  ·exact ((B3.far e5.symm _).far e5.symm _).far e5.symm _
  ·have hb:Below w.heap.size w w3:=(bstep (boxed _ _) (boxed _ _)).trans ((O3.below (O2.below L.be L.lg) L.lg').mono (by simp;omega))
   exact ((hb.setCell (by simp) _).setCell (by simp) _).setCell (by simp) _
set_option linter.unusedSimpArgs false
theorem keep3 {B r:Nat} {a w:World} (h:Below B a w) (hr:B≤r) (x y z:Value):Below B a (((w.setCell ⟨r,0,none⟩ x).setCell ⟨r,1,none⟩ y).setCell ⟨r,2,none⟩ z) :=
 ((h.setCell (p:=⟨r,0,none⟩) hr x).setCell (p:=⟨r,1,none⟩) hr y).setCell (p:=⟨r,2,none⟩) hr z
theorem Blk.keep3 {g r:Nat} {w:World} {xs:List Int} (h:Blk w g xs) (hr:g ≠ r) (x y z:Value):Blk (((w.setCell ⟨r,0,none⟩ x).setCell ⟨r,1,none⟩ y).setCell ⟨r,2,none⟩ z) g xs :=
 ((h.far (p:=⟨r,0,none⟩) hr x).far (p:=⟨r,1,none⟩) hr y).far (p:=⟨r,2,none⟩) hr z
theorem turn_o (A A':Option Addr) (c c':Nat) (m:Ar) (i z:Int) (w:World) (hW:Row w A m.W) (hG:Row w A' m.G) (h0:m.W.length≤1000000) (h1:m.G.length≤1000000) :
  Calls Tryz.prog 119 #[.agg #[.slice A m.W.length c,.slice A' m.G.length c',.bool m.bad],.int .i64 i,.int .i64 z] w (RetMemO w A A' (mTurn m i z)):=by
 by_cases q1:i < 1
 ·have T:=hid (mTurn_no (mTurns_out (m:=m) (i:=i) (z:=z) (.inl q1)))
  go_enter Tryz.func119,Tryz.ntmps119
  go_wp2_with (go_at_call 90;refine (mcopied_any _ _ _ _ m _ ((hW.alloc _).alloc _) ((hG.alloc _).alloc _) h0 h1).mono ?_;rintro e wk ⟨g,g',rfl,hgg,hg,hg',B1,B2,hk⟩;obtain ⟨gc,gf⟩:=bcell hk;have hz:w.heap.size+1 < wk.heap.size:=(by have:=hk.size;simp at this;omega);have hz0:w.heap.size < wk.heap.size:=(by omega))
  refine bodyPost_ret (v:=.agg #[.slice (some ⟨g,0,none⟩) m.W.length m.W.length,.slice (some ⟨g',0,none⟩) m.G.length m.G.length,.bool true]) (by simp [results,Tryz.results119,go_sem,gc,hz]) rfl ?_
  obtain ⟨t1,t2,t3⟩:=T.out
  have n1:g ≠ w.heap.size+1:=by simp at hg;omega
  have n2:g' ≠ w.heap.size+1:=by simp at hg';omega
  exact RetMemO.mk (by rw [t1]) (by rw [t2]) t3.symm (by rw [t1];exact ((B1.keep3 n1 _ _ _).alloc _).row) (by rw [t2];exact ((B2.keep3 n2 _ _ _).alloc _).row) (bstep (keep3 (bstep (bstep (boxed _ _) (boxed _ _)) hk) (by omega) _ _ _) (boxed _ _)) (Wh.new (by simp at hg;omega)) (Wh.new (by simp at hg';omega))
 ·have q2:1≤i:=by omega
  clear q1
  by_cases q3:(m.G.length:Int)≤i
  ·have T:=hid (mTurn_no (mTurns_out (m:=m) (i:=i) (z:=z) (.inr q3)))
   have q4:(m.G.length:Int) - 1 < i:=by omega
   go_enter Tryz.func119,Tryz.ntmps119
   go_wp2_with (first
    | (go_at_call 90;refine (mcopied_any _ _ _ _ m _ ((hW.alloc _).alloc _) ((hG.alloc _).alloc _) h0 h1).mono ?_;rintro e wk ⟨g,g',rfl,hgg,hg,hg',B1,B2,hk⟩;obtain ⟨gc,gf⟩:=bcell hk;have hz:w.heap.size+1 < wk.heap.size:=(by have:=hk.size;simp at this;omega);have hz0:w.heap.size < wk.heap.size:=(by omega))
    | (go_at_call 102;refine (nodes_any _ _ _ _ _ _ _ _ (by omega)).mono ?_;rintro e wl ⟨rfl,hl⟩;obtain ⟨lc,lf⟩:=bcell hl;have hy:wk.heap.size < wl.heap.size:=(by have:=hl.size;simp at this;omega);have hy0:w.heap.size < wk.heap.size+1:=(by omega);have hy1:w.heap.size+1 < wk.heap.size+1:=(by omega);have hy2:w.heap.size+1 < wl.heap.size:=(by omega)))
   refine bodyPost_ret (v:=.agg #[.slice (some ⟨g,0,none⟩) m.W.length m.W.length,.slice (some ⟨g',0,none⟩) m.G.length m.G.length,.bool true]) (by simp [results,Tryz.results119,go_sem,gc,lc,hz,hy1]) rfl ?_
   obtain ⟨t1,t2,t3⟩:=T.out
   have n1:g ≠ w.heap.size+1:=by simp at hg;omega
   have n2:g' ≠ w.heap.size+1:=by simp at hg';omega
   have l1:=B1.lt
   have l2:=B2.lt
   have C1:=(B1.alloc _).step hl (by simp;omega)
   have C2:=(B2.alloc _).step hl (by simp;omega)
   have hb:=bstep (bstep (bstep (bstep (boxed _ _) (boxed _ _)) hk) (boxed _ _)) hl
   exact RetMemO.mk (by rw [t1]) (by rw [t2]) t3.symm (by rw [t1];exact ((C1.far (p:=⟨wk.heap.size,2,none⟩) (by simp;omega) _).keep3 n1 _ _ _).row) (by rw [t2];exact ((C2.far (p:=⟨wk.heap.size,2,none⟩) (by simp;omega) _).keep3 n2 _ _ _).row) (keep3 (hb.setCell (p:=⟨wk.heap.size,2,none⟩) (by simp;omega) _) (by omega) _ _ _) (Wh.new (by simp at hg;omega)) (Wh.new (by simp at hg';omega))
  ·obtain ⟨k,rfl⟩:∃ k:Nat,i = k:=⟨i.toNat,by omega⟩
   have hkl:k < m.G.length:=by omega
   have q4:(k:Int)≤(m.G.length:Int) - 1:=by omega
   have hT:=mTurns_in (m:=m) (z:=z) q2 (by omega)
   rw [Int.toNat_natCast] at hT
   clear q3
   obtain ⟨b1,o1,x,rfl,hb1,X,hc⟩:=hG.atX k hkl
   rw [X.out] at hT
   cases t:mMay x z
   ·rw [t] at hT
    have T:=hid (mTurn_no hT)
    clear hT
    go_enter Tryz.func119,Tryz.ntmps119
    go_wp2_with (first
     | (go_at_call 90;refine (mcopied_any _ _ _ _ m _ ((hW.alloc _).alloc _) ((hG.alloc _).alloc _) h0 h1).mono ?_;rintro e wk ⟨g,g',rfl,hgg,hg,hg',B1,B2,hk⟩;obtain ⟨gc,gf⟩:=bcell hk;have hz:w.heap.size+1 < wk.heap.size:=(by have:=hk.size;simp at this;omega);have hz0:w.heap.size < wk.heap.size:=(by omega))
     | (go_at_call 102;refine (nodes_any _ _ _ _ _ _ _ _ (by omega)).mono ?_;rintro e wl ⟨rfl,hl⟩;obtain ⟨lc,lf⟩:=bcell hl;have hy:wk.heap.size < wl.heap.size:=(by have:=hl.size;simp at this;omega);have hy0:w.heap.size < wk.heap.size+1:=(by omega);have hy1:w.heap.size+1 < wk.heap.size+1:=(by omega);have hy2:w.heap.size+1 < wl.heap.size:=(by omega);have hcl:=Row.cellX (((((hG.alloc _).alloc _).step hk).alloc _).step hl) k hkl X)
     | (go_at_call 127;refine (mayTurn_any _ _ _).mono ?_;rintro e w' ⟨rfl,rfl⟩))
    refine bodyPost_ret (v:=.agg #[.slice (some ⟨g,0,none⟩) m.W.length m.W.length,.slice (some ⟨g',0,none⟩) m.G.length m.G.length,.bool true]) (by simp [results,Tryz.results119,go_sem,gc,lc,hz,hy1]) rfl ?_
    obtain ⟨t1,t2,t3⟩:=T.out
    have n1:g ≠ w.heap.size+1:=by simp at hg;omega
    have n2:g' ≠ w.heap.size+1:=by simp at hg';omega
    have l1:=B1.lt
    have l2:=B2.lt
    have C1:=(B1.alloc _).step hl (by simp;omega)
    have C2:=(B2.alloc _).step hl (by simp;omega)
    have hb:=bstep (bstep (bstep (bstep (boxed _ _) (boxed _ _)) hk) (boxed _ _)) hl
    exact RetMemO.mk (by rw [t1]) (by rw [t2]) t3.symm (by rw [t1];exact ((C1.far (p:=⟨wk.heap.size,2,none⟩) (by simp;omega) _).keep3 n1 _ _ _).row) (by rw [t2];exact ((C2.far (p:=⟨wk.heap.size,2,none⟩) (by simp;omega) _).keep3 n2 _ _ _).row) (keep3 (hb.setCell (p:=⟨wk.heap.size,2,none⟩) (by simp;omega) _) (by omega) _ _ _) (Wh.new (by simp at hg;omega)) (Wh.new (by simp at hg';omega))
   ·rw [t] at hT
    have T:=hid (mTurn_yes hT)
    clear hT
    go_enter Tryz.func119,Tryz.ntmps119
    go_wp2_with (first
     | (go_at_call 90;refine (mcopied_any _ _ _ _ m _ ((hW.alloc _).alloc _) ((hG.alloc _).alloc _) h0 h1).mono ?_;rintro e wk ⟨g,g',rfl,hgg,hg,hg',B1,B2,hk⟩;obtain ⟨gc,gf⟩:=bcell hk;have hz:w.heap.size+1 < wk.heap.size:=(by have:=hk.size;simp at this;omega);have hz0:w.heap.size < wk.heap.size:=(by omega))
     | (go_at_call 102;refine (nodes_any _ _ _ _ _ _ _ _ (by omega)).mono ?_;rintro e wl ⟨rfl,hl⟩;obtain ⟨lc,lf⟩:=bcell hl;have hy:wk.heap.size < wl.heap.size:=(by have:=hl.size;simp at this;omega);have hy0:w.heap.size < wk.heap.size+1:=(by omega);have hy1:w.heap.size+1 < wk.heap.size+1:=(by omega);have hy2:w.heap.size+1 < wl.heap.size:=(by omega);have hcl:=Row.cellX (((((hG.alloc _).alloc _).step hk).alloc _).step hl) k hkl X;have l1:=B1.lt;have l2:=B2.lt;have C1:=(B1.alloc _).step hl (by simp;omega);have C2:=(B2.alloc _).step hl (by simp;omega);have d1:=C2.cellD k hkl;have d2:=C2.frozen k;have d3:=B2.cellD k hkl;have d4:=B2.frozen k;have n1:g ≠ w.heap.size+1:=(by simp at hg;omega);have n2:g' ≠ w.heap.size+1:=(by simp at hg';omega);have n3:=n2.symm;have n4:g' ≠ wk.heap.size:=(by omega);have n5:=n4.symm)
     | (go_at_call 127;refine (mayTurn_any _ _ _).mono ?_;rintro e w' ⟨rfl,rfl⟩))
    refine bodyPost_ret (v:=.agg #[.slice (some ⟨g,0,none⟩) m.W.length m.W.length,.slice (some ⟨g',0,none⟩) m.G.length m.G.length,.bool m.bad]) (by simp [results,Tryz.results119,go_sem,gc,lc,hz,hy1,n2,n3]) rfl ?_
    obtain ⟨t1,t2,t3⟩:=T.out
    rw [Int.toNat_natCast] at t2
    have hb:=bstep (bstep (bstep (bstep (boxed _ _) (boxed _ _)) hk) (boxed _ _)) hl
    exact RetMemO.mk (by rw [t1]) (by rw [t2,List.length_set]) t3.symm (by rw [t1];exact ((C1.far (p:=⟨g',k,none⟩) hgg _).keep3 n1 _ _ _).row) (by rw [t2];exact ((C2.set k z).keep3 n2 _ _ _).row) (keep3 (hb.setCell (p:=⟨g',k,none⟩) (by simp at hg' ⊢;omega) _) (by omega) _ _ _) (Wh.new (by simp at hg;omega)) (Wh.new (by simp at hg';omega))
theorem Own.keep3 {g r:Nat} {w:World} {xs:List Int} (h:Own w g xs) (hr:g ≠ r) (x y z:Value):Own (((w.setCell ⟨r,0,none⟩ x).setCell ⟨r,1,none⟩ y).setCell ⟨r,2,none⟩ z) g xs :=
 ((h.far (p:=⟨r,0,none⟩) hr x).far (p:=⟨r,1,none⟩) hr y).far (p:=⟨r,2,none⟩) hr z
theorem rturn_o (A A':Option Addr) (c c':Nat) (m:Ar) (i z:Int) (w:World) (hW:Row w A m.W) (hG:Row w A' m.G) (h0:m.W.length≤1000000) (h1:m.G.length≤1000000) :
  Calls Tryz.prog 9 #[.agg #[.slice A m.W.length c,.slice A' m.G.length c',.bool m.bad],.int .i64 i,.int .i64 z] w (RetMemO w A A' (mTurn m i z)):=by
 by_cases q1:i < 1
 ·have T:=hid (mTurn_no (mTurns_out (m:=m) (i:=i) (z:=z) (.inl q1)))
  go_enter Tryz.func9,Tryz.ntmps9
  go_wp2
  refine bodyPost_ret (v:=.agg #[.slice A m.W.length c,.slice A' m.G.length c',.bool true]) (by simp [results,Tryz.results9,go_sem]) rfl ?_
  obtain ⟨t1,t2,t3⟩:=T.out
  exact RetMemO.mk (by rw [t1]) (by rw [t2]) t3.symm (by rw [t1];exact (hW.alloc _).alloc _) (by rw [t2];exact (hG.alloc _).alloc _) (bstep (boxed _ _) (boxed _ _)) Wh.old Wh.old
 ·have q2:1≤i:=by omega
  clear q1
  by_cases q3:(m.G.length:Int)≤i
  ·have T:=hid (mTurn_no (mTurns_out (m:=m) (i:=i) (z:=z) (.inr q3)))
   go_enter Tryz.func9,Tryz.ntmps9
   go_wp2
   refine bodyPost_ret (v:=.agg #[.slice A m.W.length c,.slice A' m.G.length c',.bool true]) (by simp [results,Tryz.results9,go_sem]) rfl ?_
   obtain ⟨t1,t2,t3⟩:=T.out
   exact RetMemO.mk (by rw [t1]) (by rw [t2]) t3.symm (by rw [t1];exact (hW.alloc _).alloc _) (by rw [t2];exact (hG.alloc _).alloc _) (bstep (boxed _ _) (boxed _ _)) Wh.old Wh.old
  ·obtain ⟨k,rfl⟩:∃ k:Nat,i = k:=⟨i.toNat,by omega⟩
   have hkl:k < m.G.length:=by omega
   have q4:(k:Int) < (m.G.length:Int):=by omega
   have hT:=mTurns_in (m:=m) (z:=z) q2 (by omega)
   rw [Int.toNat_natCast] at hT
   clear q3
   obtain ⟨b1,o1,x,rfl,hb1,X,hc⟩:=hG.atX k hkl
   rw [X.out] at hT
   have HT:=hid hT
   clear hT
   go_enter Tryz.func9,Tryz.ntmps9
   go_upto_region 4 with (fail)
   go_cut [8] from 29 (fun s wx=>s = .bool (mMay x z)∧wx = (w.alloc (.cells #[.slice A m.W.length c,.slice (some ⟨b1,o1,none⟩) m.G.length c',.bool m.bad] 26)).alloc (.cells #[.slice none 0 0,.slice none 0 0,.bool false] 26))
   case first =>
    rcases three x with ⟨x0,x1,x2⟩ | ⟨x0,x1,x2⟩ | ⟨x0,x1,x2⟩ | ⟨x0,x1,x2⟩
    all_goals rcases three z with ⟨z0,z1,z2⟩ | ⟨z0,z1,z2⟩ | ⟨z0,z1,z2⟩ | ⟨z0,z1,z2⟩
    all_goals
     have M:mMay x z = ((x == 0 && z == 1) || (x == 1 && z == 2) || (x == 1 && z == 0) || (x == 2 && z == 0)):=rfl
     rw [x0,x1,x2,z0,z1,z2] at M
     have HM:=hid M
     clear M
     go_wp2
     go_meet
     exact ⟨by rw [HM.out];rfl,rfl⟩
   case rest =>
    obtain ⟨rfl,rfl⟩:=hcut
    cases t:mMay x z
    ·have T:=hid (mTurn_no (HT.out.trans t))
     go_wp2
     refine bodyPost_ret (v:=.agg #[.slice A m.W.length c,.slice (some ⟨b1,o1,none⟩) m.G.length c',.bool true]) (by simp [results,Tryz.results9,go_sem]) rfl ?_
     obtain ⟨t1,t2,t3⟩:=T.out
     exact RetMemO.mk (by rw [t1]) (by rw [t2]) t3.symm (by rw [t1];exact (hW.alloc _).alloc _) (by rw [t2];exact (hG.alloc _).alloc _) (bstep (boxed _ _) (boxed _ _)) Wh.old Wh.old
    ·have T:=hid (mTurn_yes (HT.out.trans t))
     go_wp2_with (at_builtin;refine wpList_append_new rfl (.tmp 66) (.tmp 68) _ rfl int_info Tryz.underlying24 (w.heap.size+1+1) rfl ?_ _ m.G c' rfl (((hG.alloc _).alloc _).alloc _) (by omega) h1 ?_;(rw [show w.heap.size+1+1 = ((w.alloc (.cells #[.slice A m.W.length c,.slice (some ⟨b1,o1,none⟩) m.G.length c',.bool m.bad] 26)).alloc (.cells #[.slice none 0 0,.slice none 0 0,.bool false] 26)).heap.size by simp];exact heap_alloc_new _ _);intro g cap w2 O2 hg2 hb2;have d1:=O2.cellD k hkl;have d2:=O2.frozen k;obtain ⟨gc,gf⟩:=bcellB hb2;have n1:g ≠ w.heap.size:=(by omega);have n2:g ≠ w.heap.size+1:=(by omega);have n3:=n1.symm;have n4:=n2.symm;have n5:w.heap.size < w.heap.size+1+1:=(by omega);have n6:w.heap.size+1 < w.heap.size+1+1:=(by omega);have n7:=O2.lt;have n8:w.heap.size+1 < w2.heap.size:=(by omega);have n9:w.heap.size < w2.heap.size:=(by omega))
     refine bodyPost_ret (v:=.agg #[.slice A m.W.length c,.slice (some ⟨g,0,none⟩) m.G.length cap,.bool m.bad]) (by simp [results,Tryz.results9,go_sem,gc,n2,n4,n6]) rfl ?_
     obtain ⟨t1,t2,t3⟩:=T.out
     rw [Int.toNat_natCast] at t2
     have hb:Below w.heap.size w w2:=(bstep (bstep (boxed _ _) (boxed _ _)) (boxed _ _)).trans (hb2.mono (by omega))
     have hb':=hb.setCell (p:=⟨g,k,none⟩) (by simp;omega) (.int .i64 z)
     have hb3:=keep3 hb' (r:=w.heap.size+1) (by omega) (.slice A m.W.length c) (.slice (some ⟨g,0,none⟩) m.G.length cap) (.bool m.bad)
     exact RetMemO.mk (by rw [t1]) (by rw [t2,List.length_set]) t3.symm (by rw [t1];exact hW.step hb3) (by rw [t2];exact ((O2.set k z).keep3 n2 _ _ _).row) hb3 Wh.old (Wh.new (by omega))
theorem rturn_any (A A':Option Addr) (c c':Nat) (m:Ar) (i z:Int) (w:World) (hW:Row w A m.W) (hG:Row w A' m.G) (h0:m.W.length≤1000000) (h1:m.G.length≤1000000) :
  Calls Tryz.prog 9 #[.agg #[.slice A m.W.length c,.slice A' m.G.length c',.bool m.bad],.int .i64 i,.int .i64 z] w (RetMem w (mTurn m i z)):=(rturn_o A A' c c' m i z w hW hG h0 h1).mono fun _ _ h=>h.weak
end Go.Proofs.YtfipcdhodojodaaGreat
