/- Contracts of the document's layer 4: a frame at a step, in a system with an arena; the arena's variable. -/
import Derived.Test.YtfipcdhodojodaaGreatStk9
import Derived.Deep.RegionHeld3
namespace Go.Proofs.YtfipcdhodojodaaGreat
open Go.RowKit
set_option maxRecDepth 100000
set_option maxHeartbeats 4000000
set_option linter.unusedVariables false
set_option linter.unusedSimpArgs false
theorem heap4b (w:World) (a b c d:Obj):((((w.alloc a).alloc b).alloc c).alloc d).heap[w.heap.size]? = some a∧((((w.alloc a).alloc b).alloc c).alloc d).heap[w.heap.size+1]? = some b∧((((w.alloc a).alloc b).alloc c).alloc d).heap[w.heap.size+1+1]? = some c∧((((w.alloc a).alloc b).alloc c).alloc d).heap[w.heap.size+1+1+1]? = some d∧((((w.alloc a).alloc b).alloc c).alloc d).heap.size = w.heap.size+4:=by
 obtain ⟨h1,h2,h3,h4⟩:=heap3b w a b c
 refine ⟨?_,?_,?_,?_,by simp⟩
 ·rw [Below.heap_alloc _ _ _ (by omega),h1]
 ·rw [Below.heap_alloc _ _ _ (by omega),h2]
 ·rw [Below.heap_alloc _ _ _ (by omega),h3]
 ·have:=heap_alloc_new (((w.alloc a).alloc b).alloc c) d
  rw [h4] at this
  exact this
theorem on_any (A B C L A2 B2:Option Addr) (a b c d a2 b2:Nat) (s:Sy) (m:Ar) (i:Int) (AS:Option Addr) (cS:Nat) (op pc r0 r1 r2 r3 r4 r5 r6 r7:Int) (xs:List Int) (np:Int) (w:World) (hm:SyFew (syMem s m)) (hF:∀ x ∈ s.C,x.F.length≤999999) (h:RS w s A B C L) (hW:Row w A2 m.W) (hG:Row w B2 m.G) (hS:Row w AS xs) :
  Calls Tryz.prog 78 #[.agg (uS A B C L a b c d s),.int .i64 i,.agg #[.slice A2 m.W.length a2,.slice B2 m.G.length b2,.bool m.bad],.agg (uF op pc r0 r1 r2 r3 r4 r5 r6 r7 AS xs cS),.int .i64 np] w (RetSys w (pSet (syMem s m) i ⟨op,np,[r0,r1,r2,r3,r4,r5,r6,r7],xs⟩)):=by
 obtain ⟨k1,k2,k3,k4,bs⟩:=heap4b w (.cells (uS A B C L a b c d s) 30) (.cells #[.slice A2 m.W.length a2,.slice B2 m.G.length b2,.bool m.bad] 26) (.cells (uF op pc r0 r1 r2 r3 r4 r5 r6 r7 AS xs cS) 60) (.cells uZ 30)
 have hb:Below w.heap.size w ((((w.alloc (.cells (uS A B C L a b c d s) 30)).alloc (.cells #[.slice A2 m.W.length a2,.slice B2 m.G.length b2,.bool m.bad] 26)).alloc (.cells (uF op pc r0 r1 r2 r3 r4 r5 r6 r7 AS xs cS) 60)).alloc (.cells uZ 30)):=bstep (bstep (bstep (boxed _ _) (boxed _ _)) (boxed _ _)) (boxed _ _)
 have z3:w.heap.size+1+1+1 < ((((w.alloc (.cells (uS A B C L a b c d s) 30)).alloc (.cells #[.slice A2 m.W.length a2,.slice B2 m.G.length b2,.bool m.bad] 26)).alloc (.cells (uF op pc r0 r1 r2 r3 r4 r5 r6 r7 AS xs cS) 60)).alloc (.cells uZ 30)).heap.size:=by rw [bs];omega
 clear bs
 obtain ⟨t2,ht2⟩:∃ t,t = syMem s m:=⟨_,rfl⟩
 have HT2:=hid ht2
 have HM:=hid (show ∀ w',RS w' s A B C L→Row w' A2 m.W→Row w' B2 m.G→Calls Tryz.prog 37 #[.agg (uS A B C L a b c d s),.agg #[.slice A2 m.W.length a2,.slice B2 m.G.length b2,.bool m.bad]] w' fun e w''=>e = .returned (.agg (uS A2 B2 C L a2 b2 c d t2))∧RS w'' t2 A2 B2 C L∧Below w'.heap.size w' w'' from fun w' k1 k2 k3=>by rw [ht2];exact rmem3_any A B C L A2 B2 a b c d a2 b2 s m w' k1 k2 k3)
 have HS:=hid (show ∀ w',RS w' t2 A2 B2 C L→Row w' AS xs→Calls Tryz.prog 63 #[.agg (uS A2 B2 C L a2 b2 c d t2),.int .i64 i,.agg (uF op np r0 r1 r2 r3 r4 r5 r6 r7 AS xs cS)] w' (RetSys w' (pSet t2 i ⟨op,np,[r0,r1,r2,r3,r4,r5,r6,r7],xs⟩)) from fun w' k1 k2=>rset_u A2 B2 C L a2 b2 c d t2 i AS cS op np r0 r1 r2 r3 r4 r5 r6 r7 xs w' (by rw [ht2];exact hm) k1 k2 (by rw [ht2];exact hF))
 rw [← ht2]
 obtain ⟨t9,ht9⟩:∃ t,t = pSet t2 i ⟨op,np,[r0,r1,r2,r3,r4,r5,r6,r7],xs⟩:=⟨_,rfl⟩
 rw [← ht9] at HS ⊢
 clear ht9 ht2
 go_enter Tryz.func78,Tryz.ntmps78
 go_upto_region 1 with (fail)
 generalize ((((w.alloc (.cells (uS A B C L a b c d s) 30)).alloc (.cells #[.slice A2 m.W.length a2,.slice B2 m.G.length b2,.bool m.bad] 26)).alloc (.cells (uF op pc r0 r1 r2 r3 r4 r5 r6 r7 AS xs cS) 60)).alloc (.cells uZ 30)) = w1 at *
 obtain ⟨f0,f1,f2,f3,f4,f5,f6,f7,f8,f9,f10,ff0,ff1,ff2,ff3,ff4,ff5,ff6,ff7,ff8,ff9,ff10⟩:=cf11 k3
 go_upto_region 2 with (fail)
 have tt:Turn (fun b=>b = w.heap.size+1+1) w1 (w1.setCell ⟨w.heap.size+1+1,1,none⟩ (.int .i64 np)):=Turn.set (p:=fun b=>b = w.heap.size+1+1) (Turn.refl _ _) rfl _ _
 replace k1:=(tt.block (w.heap.size) (by omega) (by omega)).trans k1
 replace k2:=(tt.block (w.heap.size+1) (by omega) (by omega)).trans k2
 replace k4:=(tt.block (w.heap.size+1+1+1) z3 (by omega)).trans k4
 replace k3:(w1.setCell ⟨w.heap.size+1+1,1,none⟩ (.int .i64 np)).heap[w.heap.size+1+1]? = some (.cells (uF op np r0 r1 r2 r3 r4 r5 r6 r7 AS xs cS) 60 (0,0)):=heap_setCell_same w1 _ 1 _ _ _ k3
 replace hb:=hb.trans (tt.to_below hb.size (fun g hg=>by omega))
 replace z3:=Nat.lt_of_lt_of_le z3 tt.size
 clear tt f0 ff0 f1 ff1 f2 ff2 f3 ff3 f4 ff4 f5 ff5 f6 ff6 f7 ff7 f8 ff8 f9 ff9 f10 ff10
 generalize w1.setCell ⟨w.heap.size+1+1,1,none⟩ (.int .i64 np) = w2 at *
 obtain ⟨p0,p1,p2,p3,p4⟩:=cells5 k1
 obtain ⟨m0,m1,m2⟩:=cells3 k2
 obtain ⟨f0,f1,f2,f3,f4,f5,f6,f7,f8,f9,f10⟩:=cells11 k3
 go_region_with (first | (go_at_call 37;(with_reducible refine (HM.out _ (h.step hb.drew) (hW.step hb.drew) (hG.step hb.drew)).mono ?_);rintro e w3 ⟨rfl,S3,hk3⟩;have j3:=(hk3.block (w.heap.size+1+1) (by simp;omega)).trans k3;have j4:=(hk3.block (w.heap.size+1+1+1) (by simp;omega)).trans k4;have hb3:Below w.heap.size w w3:=bstep hb.drew hk3;have z4:=Nat.lt_of_lt_of_le z3 hk3.size;obtain ⟨g0,g1,g2,g3,g4,g5,g6,g7,g8,g9,g10⟩:=cells11 j3) | (go_at_call 63;(with_reducible refine (HS.out _ S3 (hS.step hb3)).mono ?_);rintro e wz ⟨A9,B9,C9,L9,a9,b9,c9,d9,rfl,rW,rG,rC,rL,hz⟩;have kR:=(hz.block (w.heap.size+1+1+1) z4).trans j4;have kb:=bstep hb3 hz;obtain ⟨q0,q1,q2,q3,q4,qf0,qf1,qf2,qf3,qf4⟩:=cf5 kR))
 all_goals go_wp2_with fail
 all_goals
  refine bodyPost_ret (v:=.agg (uS A9 B9 C9 L9 a9 b9 c9 d9 t9)) (by simp [uS,results,Tryz.results78,go_sem,q0,q1,q2,q3,q4]) rfl ?_
  exact ret_resV (by omega) kR kb rW rG rC rL
structure MVar (w:World) (m:Ar) (A B:Option Addr) (a b vM:Nat) (wx:World):Prop where
 bM:wx.heap[vM]? = some (.cells #[.slice A m.W.length a,.slice B m.G.length b,.bool m.bad] 26 (0,0))
 rW:Row wx A m.W
 rG:Row wx B m.G
 nW:0 < m.W.length→∀ q,A = some q→q.block ≠ w.heap.size+1
 nG:0 < m.G.length→∀ q,B = some q→q.block ≠ w.heap.size+1
 ne:w.heap.size+1+1 < vM
theorem MVar.lt {w:World} {m:Ar} {A B:Option Addr} {a b vM:Nat} {wx:World} (h:MVar w m A B a b vM wx):vM < wx.heap.size:=(Array.getElem?_eq_some_iff.1 h.bM).1
theorem MVar.step {w:World} {m:Ar} {A B:Option Addr} {a b vM:Nat} {wx wy:World} (h:MVar w m A B a b vM wx) (hk:Below wx.heap.size wx wy):MVar w m A B a b vM wy :=
 ⟨(hk.block _ h.lt).trans h.bM,h.rW.step hk,h.rG.step hk,h.nW,h.nG,h.ne⟩
theorem MVar.putF {w:World} {m:Ar} {A B:Option Addr} {a b vM:Nat} {wk:World} (h:MVar w m A B a b vM wk) (j:Nat) (u:Value):MVar w m A B a b vM (wk.setCell ⟨w.heap.size+1,j,none⟩ u):=by
 have t:Turn (fun x=>x = w.heap.size+1) wk (wk.setCell ⟨w.heap.size+1,j,none⟩ u):=Turn.set (p:=fun x=>x = w.heap.size+1) (Turn.refl _ _) rfl _ _
 have hn:=h.ne
 exact ⟨(t.block _ h.lt (by omega)).trans h.bM,h.rW.turnV t h.nW,h.rG.turnV t h.nG,h.nW,h.nG,h.ne⟩
theorem MVar.new {w:World} {m:Ar} {A B:Option Addr} {a b:Nat} {wk:World} (rW:Row wk A m.W) (rG:Row wk B m.G) (nW:0 < m.W.length→∀ q,A = some q→q.block ≠ w.heap.size+1) (nG:0 < m.G.length→∀ q,B = some q→q.block ≠ w.heap.size+1) (hl:w.heap.size+1+1 < wk.heap.size) :
  MVar w m A B a b wk.heap.size (wk.alloc (.cells #[.slice A m.W.length a,.slice B m.G.length b,.bool m.bad] 26)):=⟨heap_alloc_new _ _,rW.alloc _,rG.alloc _,nW,nG,hl⟩
theorem MVar.set {w:World} {m:Ar} {A B:Option Addr} {a b v:Nat} {wk:World} (hv:wk.heap[v]? = some (.cells #[.slice none 0 0,.slice none 0 0,.bool false] 26 (0,0))) (rW:Row wk A m.W) (rG:Row wk B m.G) (nW:0 < m.W.length→∀ q,A = some q→q.block ≠ w.heap.size+1) (nG:0 < m.G.length→∀ q,B = some q→q.block ≠ w.heap.size+1) (hl:w.heap.size+1+1 < v) :
  MVar w m A B a b v (((wk.setCell ⟨v,0,none⟩ (.slice A m.W.length a)).setCell ⟨v,1,none⟩ (.slice B m.G.length b)).setCell ⟨v,2,none⟩ (.bool m.bad)) :=
 ⟨set3 hv,rW.far3 hv _ _ _,rG.far3 hv _ _ _,nW,nG,hl⟩
theorem SF.set3 {w:World} {s:Sy} {A B C L:Option Addr} {a b c d v:Nat} {fc:Array Value} {wk:World} (h:SF w s A B C L a b c d fc wk) (hv:wk.heap[v]? = some (.cells #[.slice none 0 0,.slice none 0 0,.bool false] 26 (0,0))) (hl:w.heap.size+1+1 < v) (x y z:Value):SF w s A B C L a b c d fc (((wk.setCell ⟨v,0,none⟩ x).setCell ⟨v,1,none⟩ y).setCell ⟨v,2,none⟩ z):=by
 have t:Turn (fun g=>g = v) wk (((wk.setCell ⟨v,0,none⟩ x).setCell ⟨v,1,none⟩ y).setCell ⟨v,2,none⟩ z):=Turn.set (p:=fun g=>g = v) (Turn.set (p:=fun g=>g = v) (Turn.set (p:=fun g=>g = v) (Turn.refl _ _) rfl _ _) rfl _ _) rfl _ _
 have hz:=h.lt
 exact ⟨(t.block _ (by omega) (by omega)).trans h.bS,(t.block _ (by omega) (by omega)).trans h.bF,(t.block _ hz (by omega)).trans h.bR,h.rW.far3 hv _ _ _,h.rG.far3 hv _ _ _,h.rC,h.rL,h.nW,h.nG,h.be.trans (t.to_below h.be.size (fun g hg=>by omega))⟩
end Go.Proofs.YtfipcdhodojodaaGreat
