/- What a function over a system and a frame goes on with when the cores' row is new. Contract: scan.retire, by the program. -/
import Derived.Test.YtfipcdhodojodaaGreatMS2
import Derived.Test.YtfipcdhodojodaaGreatScn4
import Derived.Test.YtfipcdhodojodaaGreatUniN
import Derived.Test.YtfipcdhodojodaaGreatStk8
namespace Go.Proofs.YtfipcdhodojodaaGreat
open Go.RowKit
set_option linter.unusedVariables false
set_option linter.unusedSimpArgs false
def V3 (w:World) (b:Nat):Prop:=b = w.heap.size ∨ b = w.heap.size+1 ∨ b = w.heap.size+1+1
structure SG (w:World) (s:Sy) (A B C L:Option Addr) (a b c d:Nat) (fc:Array Value) (wx:World):Prop where
 bS:wx.heap[w.heap.size]? = some (.cells #[.slice A s.M.W.length a,.slice B s.M.G.length b,.bool s.M.bad,.slice C s.C.length c,.slice L s.L.length d] 30 (0,0))
 bF:wx.heap[w.heap.size+1]? = some (.cells fc 60 (0,0))
 bR:wx.heap[w.heap.size+1+1]? = some (.cells #[.slice none 0 0,.slice none 0 0,.bool false,.slice none 0 0,.slice none 0 0] 30 (0,0))
 rW:Row wx A s.M.W
 rG:Row wx B s.M.G
 rC:RowCV (V3 w) wx C s.C
 rL:RowE w L s.L
 nW:0 < s.M.W.length→∀ q,A = some q→q.block ≠ w.heap.size+1
 nG:0 < s.M.G.length→∀ q,B = some q→q.block ≠ w.heap.size+1
 be:Below w.heap.size w wx
variable {w:World} {s:Sy} {A B C L:Option Addr} {a b c d:Nat} {fc:Array Value} {wx:World}
theorem v3_ge {w:World} {b:Nat} (h:V3 w b):w.heap.size≤b:=by rcases h with h | h | h <;> omega
theorem v3_bd {w:World} {b:Nat} (h:V3 w b):w.heap.size≤b∧b≤w.heap.size+2:=by rcases h with h | h | h <;> omega
theorem SF.sg (h:SF w s A B C L a b c d fc wx):SG w s A B C L a b c d fc wx:=⟨h.bS,h.bF,h.bR,h.rW,h.rG,RowCV.old h.rC h.be (fun _ h=>v3_ge h),h.rL,h.nW,h.nG,h.be⟩
theorem SG.rs (h:SG w s A B C L a b c d fc wx):RS wx s A B C L:=⟨h.rW,h.rG,h.rC.row,h.rL.step h.be⟩
theorem SG.lt (h:SG w s A B C L a b c d fc wx):w.heap.size+1+1 < wx.heap.size:=(Array.getElem?_eq_some_iff.1 h.bR).1
theorem SG.zs (h:SG w s A B C L a b c d fc wx):w.heap.size < wx.heap.size∧w.heap.size+1 < wx.heap.size∧w.heap.size+1+1 < wx.heap.size:=by have z2:=h.lt;exact ⟨by omega,by omega,z2⟩
theorem SG.step {wy:World} (h:SG w s A B C L a b c d fc wx) (hk:Below wx.heap.size wx wy):SG w s A B C L a b c d fc wy:=by
 have hl:=h.lt
 exact ⟨(hk.block _ (by omega)).trans h.bS,(hk.block _ (by omega)).trans h.bF,(hk.block _ hl).trans h.bR,h.rW.step hk,h.rG.step hk,h.rC.step hk,h.rL,h.nW,h.nG,bstep h.be hk⟩
theorem SG.whG {B2:Option Addr} {n:Nat} (h:SG w s A B C L a b c d fc wx) (hw:Wh wx B B2) (hn:n = s.M.G.length):0 < n→∀ q,B2 = some q→q.block ≠ w.heap.size+1:=fun hp q e=>by
 subst hn
 rcases hw with rfl | hw
 ·exact h.nG hp q e
 ·have h1:=hw q e
  have h2:=h.lt
  omega
theorem SG.whW {A2:Option Addr} {n:Nat} (h:SG w s A B C L a b c d fc wx) (hw:Wh wx A A2) (hn:n = s.M.W.length):0 < n→∀ q,A2 = some q→q.block ≠ w.heap.size+1:=fun hp q e=>by
 subst hn
 rcases hw with rfl | hw
 ·exact h.nW hp q e
 ·have h1:=hw q e
  have h2:=h.lt
  omega
theorem SG.putM {A2 B2:Option Addr} {a2 b2:Nat} {wk:World} {m:Ar} (h:SG w s A B C L a b c d fc wk) (r1:Row wk A2 m.W) (r2:Row wk B2 m.G) (n1:0 < m.W.length→∀ q,A2 = some q→q.block ≠ w.heap.size+1) (n2:0 < m.G.length→∀ q,B2 = some q→q.block ≠ w.heap.size+1) :
  SG w (syMem s m) A2 B2 C L a2 b2 c d fc (((wk.setCell ⟨w.heap.size,0,none⟩ (.slice A2 m.W.length a2)).setCell ⟨w.heap.size,1,none⟩ (.slice B2 m.G.length b2)).setCell ⟨w.heap.size,2,none⟩ (.bool m.bad)):=by
 have t:Turn (fun x=>x = w.heap.size) wk (((wk.setCell ⟨w.heap.size,0,none⟩ (.slice A2 m.W.length a2)).setCell ⟨w.heap.size,1,none⟩ (.slice B2 m.G.length b2)).setCell ⟨w.heap.size,2,none⟩ (.bool m.bad)):=Turn.set (p:=fun x=>x = w.heap.size) (Turn.set (p:=fun x=>x = w.heap.size) (Turn.set (p:=fun x=>x = w.heap.size) (Turn.refl _ _) rfl _ _) rfl _ _) rfl _ _
 have hl:=h.lt
 have ni:=noInt_sys h.bS
 refine ⟨?_,(t.block _ (by omega) (by omega)).trans h.bF,(t.block _ hl (by omega)).trans h.bR,r1.turnN t ni,r2.turnN t ni,h.rC.turn (t.mono (fun _ _ h=>.inl h)),h.rL,n1,n2,h.be.trans (t.to_below h.be.size (fun g hg=>by omega))⟩
 have e1:=heap_setCell_same wk w.heap.size 0 _ _ (.slice A2 m.W.length a2) h.bS
 have e2:=heap_setCell_same _ w.heap.size 1 _ _ (.slice B2 m.G.length b2) e1
 have e3:=heap_setCell_same _ w.heap.size 2 _ _ (.bool m.bad) e2
 exact e3
theorem SG.putF {wk:World} (h:SG w s A B C L a b c d fc wk) (j:Nat) (u:Value):SG w s A B C L a b c d (fc.setIfInBounds j u) (wk.setCell ⟨w.heap.size+1,j,none⟩ u):=by
 have t:Turn (fun x=>x = w.heap.size+1) wk (wk.setCell ⟨w.heap.size+1,j,none⟩ u):=Turn.set (p:=fun x=>x = w.heap.size+1) (Turn.refl _ _) rfl _ _
 have hl:=h.lt
 exact ⟨(t.block _ (by omega) (by omega)).trans h.bS,heap_setCell_same wk _ j _ _ _ h.bF,(t.block _ hl (by omega)).trans h.bR,h.rW.turnV t h.nW,h.rG.turnV t h.nG,h.rC.turn (t.mono (fun _ _ h=>.inr (.inl h))),h.rL,h.nW,h.nG,h.be.trans (t.to_below h.be.size (fun g hg=>by omega))⟩
theorem SG.putC {wk:World} {C2:Option Addr} {c2:Nat} {cs:List Co} (h:SG w s A B C L a b c d fc wk) (hn:cs.length = s.C.length) (hC:RowCV (V3 w) wk C2 cs) :
  SG w ⟨s.M,cs,s.L⟩ A B C2 L a b c2 d fc (((((wk.setCell ⟨w.heap.size,0,none⟩ (.slice A s.M.W.length a)).setCell ⟨w.heap.size,1,none⟩ (.slice B s.M.G.length b)).setCell ⟨w.heap.size,2,none⟩ (.bool s.M.bad)).setCell ⟨w.heap.size,3,none⟩ (.slice C2 s.C.length c2)).setCell ⟨w.heap.size,4,none⟩ (.slice L s.L.length d)):=by
 have t:=turn5 wk w.heap.size (.slice A s.M.W.length a) (.slice B s.M.G.length b) (.bool s.M.bad) (.slice C2 s.C.length c2) (.slice L s.L.length d)
 have hl:=h.lt
 have ni:=noInt_sys h.bS
 refine ⟨?_,(t.block _ (by omega) (by omega)).trans h.bF,(t.block _ hl (by omega)).trans h.bR,h.rW.turnN t ni,h.rG.turnN t ni,hC.turn (t.mono (fun _ _ h=>.inl h)),h.rL,h.nW,h.nG,h.be.trans (t.to_below h.be.size (fun g hg=>by omega))⟩
 have e1:=heap_setCell_same wk w.heap.size 0 _ _ (.slice A s.M.W.length a) h.bS
 have e2:=heap_setCell_same _ w.heap.size 1 _ _ (.slice B s.M.G.length b) e1
 have e3:=heap_setCell_same _ w.heap.size 2 _ _ (.bool s.M.bad) e2
 have e4:=heap_setCell_same _ w.heap.size 3 _ _ (.slice C2 s.C.length c2) e3
 have e5:=heap_setCell_same _ w.heap.size 4 _ _ (.slice L s.L.length d) e4
 dsimp only
 rw [hn]
 exact e5
end Go.Proofs.YtfipcdhodojodaaGreat
