/- Contract: a system of so many cores on a filled arena, by the document. -/
import Derived.Test.YtfipcdhodojodaaGreatKSho
import Derived.Test.YtfipcdhodojodaaGreatKFil
import Derived.Test.YtfipcdhodojodaaGreatKStA
import Derived.Deep.CutBlock
import Derived.Deep.RegionHeld3
namespace Go.Proofs.YtfipcdhodojodaaGreat
open Go.RowKit
set_option maxRecDepth 100000
set_option maxHeartbeats 4000000
set_option linter.unusedVariables false
set_option linter.unusedSimpArgs false
def syFill (k n:Nat):Sy:=syMem (syNew k n) (pFill (syNew k n).M)
theorem rnew4_any (k n:Nat) (w:World) (h1:1≤n) (h2:n≤200) (h3:1≤k) (h4:k≤8):Calls Tryz.prog 22 #[.int .i64 (k:Int),.int .i64 (n:Int)] w (RetSys w (syFill k n)):=by
 obtain ⟨s0,hs0⟩:∃ s,s = syNew k n:=⟨_,rfl⟩
 obtain ⟨s1,hs1⟩:∃ s,s = syFill k n:=⟨_,rfl⟩
 have HN:=hid (show ∀ w,Calls Tryz.prog 21 #[.int .i64 (k:Int),.int .i64 (n:Int)] w (RetSys2 w s0 (.int .i64 0)) from fun w=>by rw [hs0];exact rsnew_yes k n w h1 h2 h3 h4)
 have HF:=hid (show ∀ (A B:Option Addr) (a b:Nat) (w:World),Row w A s0.M.W→Row w B s0.M.G→Calls Tryz.prog 38 #[.agg #[.slice A s0.M.W.length a,.slice B s0.M.G.length b,.bool s0.M.bad]] w (RetMem w s1.M) from fun A B a b w k1 k2=>by have h9:=rfill_any A B a b s0.M w k1 k2 (by rw [hs0];simp [syNew,mNew];omega) (by rw [hs0];simp [syNew,mNew];omega) (by rw [hs0];simp [syNew,mNew];omega);rw [hs1];rw [hs0] at h9 ⊢;exact h9)
 have HM:=hid (show ∀ (A B C L A2 B2:Option Addr) (a b c d a2 b2:Nat) (w:World),RS w s0 A B C L→Row w A2 s1.M.W→Row w B2 s1.M.G→Calls Tryz.prog 37 #[.agg (uS A B C L a b c d s0),.agg #[.slice A2 s1.M.W.length a2,.slice B2 s1.M.G.length b2,.bool s1.M.bad]] w fun e w'=>e = .returned (.agg (uS A2 B2 C L a2 b2 c d s1))∧RS w' s1 A2 B2 C L∧Below w.heap.size w w' from fun A B C L A2 B2 a b c d a2 b2 w k1 k2 k3=>by have h9:=rmem3_any A B C L A2 B2 a b c d a2 b2 s0 s1.M w k1 k2 k3;have e9:syMem s0 s1.M = s1:=(by rw [hs0,hs1];rfl);rw [e9] at h9;have e8:s0.C = s1.C:=(by rw [hs0,hs1];rfl);have e7:s0.L = s1.L:=(by rw [hs0,hs1];rfl);dsimp only [uS] at h9 ⊢;rw [e8,e7] at h9 ⊢;exact h9)
 rw [← hs1]
 clear hs0 hs1
 have bR:=heap_alloc_new w (.cells uZ 30)
 have hb:Below w.heap.size w (w.alloc (.cells uZ 30)):=boxed _ _
 have z0:w.heap.size < (w.alloc (.cells uZ 30)).heap.size:=by simp
 go_enter Tryz.func22,Tryz.ntmps22
 go_upto_region 1 with (fail)
 generalize w.alloc (.cells uZ 30) = w1 at *
 go_upto_region 2 with (go_at_call 21;(with_reducible refine (HN.out _).mono ?_);rintro e w2 ⟨A0,B0,C0,L0,a0,b0,c0,d0,rfl,rW,rG,rC,rL,hk⟩)
 have S0:RS w2 s0 A0 B0 C0 L0:=⟨rW,rG,rC,rL⟩
 have hj:Below w1.heap.size w1 (w2.alloc (.cells (uS A0 B0 C0 L0 a0 b0 c0 d0 s0) 30)):=bstep hk (boxed _ _)
 have Bk:=heap_alloc_new w2 (.cells (uS A0 B0 C0 L0 a0 b0 c0 d0 s0) 30)
 replace S0:=S0.step (boxed w2 (.cells (uS A0 B0 C0 L0 a0 b0 c0 d0 s0) 30))
 replace bR:=(hj.block w.heap.size z0).trans bR
 replace hb:=bstep hb hj
 replace z0:=Nat.lt_of_lt_of_le z0 hj.size
 have lt0:w2.heap.size < (w2.alloc (.cells (uS A0 B0 C0 L0 a0 b0 c0 d0 s0) 30)).heap.size:=by simp
 clear hj hk rW rG rC rL
 obtain ⟨v0,hv⟩:∃ v,w2.heap.size = v:=⟨_,rfl⟩
 rw [hv] at Bk lt0 ⊢
 clear hv
 generalize w2.alloc (.cells (uS A0 B0 C0 L0 a0 b0 c0 d0 s0) 30) = w3 at *
 obtain ⟨m0,m1,m2,m3,m4⟩:=cells5 Bk
 go_upto_region 4 with (fail)
 go_region_with (first | (go_at_call 38;(with_reducible refine (HF.out A0 B0 a0 b0 _ (S0.W.step ((Below.refl _ _).drew)) (S0.G.step ((Below.refl _ _).drew))).mono ?_);rintro e w4 ⟨A1,B1,a1,b1,rfl,r1,r2,hk4⟩;have hj4:Below w3.heap.size w3 w4:=bstep ((Below.refl _ _).drew) hk4;have K4:=(hj4.block v0 lt0).trans Bk;obtain ⟨u0,u1,u2,u3,u4⟩:=cells5 K4) | (go_at_call 37;(with_reducible refine (HM.out A0 B0 C0 L0 A1 B1 a0 b0 c0 d0 a1 b1 _ (S0.step hj4) r1 r2).mono ?_);rintro e w5 ⟨rfl,S5,hk5⟩;have kR:=(hk5.block w.heap.size (Nat.lt_of_lt_of_le z0 hj4.size)).trans ((hj4.block w.heap.size z0).trans bR);have kb:=bstep hb (bstep hj4 hk5);obtain ⟨q0,q1,q2,q3,q4,qf0,qf1,qf2,qf3,qf4⟩:=cf5 kR))
 all_goals go_wp2_with fail
 all_goals
  refine bodyPost_ret (v:=.agg (uS A1 B1 C0 L0 a1 b1 c0 d0 s1)) (by simp [uS,results,Tryz.results22,go_sem,q0,q1,q2,q3,q4]) rfl ?_
  exact ret_resV (Nat.le_refl _) kR kb S5.W S5.G S5.C S5.L
def Away (A:Option Addr) (g:Nat):Prop:=∀ a,A = some a→a.block ≠ g
theorem Away.at {b o g:Nat} (h:b ≠ g):Away (some ⟨b,o,none⟩) g:=fun a e=>by injection e with e;subst e;exact h
def NewPin (w:World) (m:Ar) (x:Value) (e:Ending) (w':World):Prop :=
 ∃ (A:Option Addr) (g c d:Nat),e = .returned (.tuple #[.agg #[.slice A m.W.length c,.slice (some ⟨g,0,none⟩) m.G.length d,.bool m.bad],x])∧Row w' A m.W∧Blk w' g m.G∧Away A g∧w.heap.size≤g∧Below w.heap.size w w'
theorem NewPin.mk {w w':World} {m:Ar} {x:Value} {A:Option Addr} {g c d n n':Nat} {b:Bool} (h1:n = m.W.length) (h2:n' = m.G.length) (h3:b = m.bad) (r1:Row w' A m.W) (r2:Blk w' g m.G) (hb:Below w.heap.size w w') (ha:Away A g) (hg:w.heap.size≤g) :
  NewPin w m x (.returned (.tuple #[.agg #[.slice A n c,.slice (some ⟨g,0,none⟩) n' d,.bool b],x])) w':=by
 subst h1 h2 h3
 exact ⟨_,_,_,_,rfl,r1,r2,ha,hg,hb⟩
def RetMemG (w:World) (A0 B:Option Addr) (m:Ar) (e:Ending) (w':World):Prop :=
 ∃ (A:Option Addr) (c c':Nat),e = .returned (.agg #[.slice A m.W.length c,.slice B m.G.length c',.bool m.bad])∧Row w' A m.W∧Row w' B m.G∧Below w.heap.size w w'∧Wh w A0 A
theorem RetMemG.mk {w w':World} {A0 B:Option Addr} {m:Ar} {A:Option Addr} {c c' n n':Nat} {b:Bool} (h1:n = m.W.length) (h2:n' = m.G.length) (h3:b = m.bad) (r1:Row w' A m.W) (r2:Row w' B m.G) (hb:Below w.heap.size w w') (f1:Wh w A0 A) (f2:Wh w B B) :
  RetMemG w A0 B m (.returned (.agg #[.slice A n c,.slice B n' c',.bool b])) w':=by
 subst h1 h2 h3
 exact ⟨_,_,_,rfl,r1,r2,hb,f1⟩
structure MVG (w0:World) (A0 B:Option Addr) (v:Nat) (t:Ar) (wx:World):Prop where
 ex:∃ (A:Option Addr) (a b:Nat),wx.heap[v]? = some (.cells #[.slice A t.W.length a,.slice B t.G.length b,.bool t.bad] 26 (0,0))∧Row wx A t.W∧Row wx B t.G∧Wh w0 A0 A
 rs:wx.heap[v+1]? = some (.cells #[.slice none 0 0,.slice none 0 0,.bool false] 26 (0,0))
 be:Below w0.heap.size w0 wx
theorem MVG.put {w0:World} {A0:Option Addr} {v:Nat} {t t2:Ar} {wk:World} {A B A2:Option Addr} {a b a2 b2:Nat} (hk:wk.heap[v]? = some (.cells #[.slice A t.W.length a,.slice B t.G.length b,.bool t.bad] 26 (0,0))) (hr:wk.heap[v+1]? = some (.cells #[.slice none 0 0,.slice none 0 0,.bool false] 26 (0,0)))
  (hb:Below w0.heap.size w0 wk) (hv:w0.heap.size≤v) (r1:Row wk A2 t2.W) (r2:Row wk B t2.G) (f:Wh w0 A0 A2) :
  MVG w0 A0 B v t2 (((wk.setCell ⟨v,0,none⟩ (.slice A2 t2.W.length a2)).setCell ⟨v,1,none⟩ (.slice B t2.G.length b2)).setCell ⟨v,2,none⟩ (.bool t2.bad)) :=
 ⟨⟨A2,a2,b2,set3 hk,r1.far3 hk _ _ _,r2.far3 hk _ _ _,f⟩,by
  rw [heap_setCell_other _ _ _ _ (by simp),heap_setCell_other _ _ _ _ (by simp),heap_setCell_other _ _ _ _ (by simp)]
  exact hr,keep3 hb hv _ _ _⟩
theorem MVG.mk0 (w:World) (A B:Option Addr) (a b:Nat) (t:Ar) (h1:Row w A t.W) (h2:Row w B t.G):MVG w A B w.heap.size t ((w.alloc (.cells #[.slice A t.W.length a,.slice B t.G.length b,.bool t.bad] 26)).alloc (.cells #[.slice none 0 0,.slice none 0 0,.bool false] 26)):=by
 refine ⟨⟨A,a,b,?_,(h1.alloc _).alloc _,(h2.alloc _).alloc _,Wh.old⟩,heap_alloc2_new w _ _,bstep (boxed _ _) (boxed _ _)⟩
 rw [heap_alloc_old _ _ (by simp)]
 exact heap_alloc_new w _
end Go.Proofs.YtfipcdhodojodaaGreat
