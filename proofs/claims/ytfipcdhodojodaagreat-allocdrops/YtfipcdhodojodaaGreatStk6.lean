/- What a function over a system and a frame begins with: three variables. Contract: the last step of a pop and of a push, by the program. -/
import Derived.Test.YtfipcdhodojodaaGreatKStA
import Derived.Deep.CutBlock
namespace Go.Proofs.YtfipcdhodojodaaGreat
open Go.RowKit
set_option maxRecDepth 100000
set_option maxHeartbeats 4000000
set_option linter.unusedVariables false
set_option linter.unusedSimpArgs false
theorem Row.turnV {w w':World} {A:Option Addr} {xs:List Int} {v:Nat} (h:Row w A xs) (t:Turn (fun x=>x = v) w w') (hn:0 < xs.length→∀ q,A = some q→q.block ≠ v):Row w' A xs:=fun hp=>by
 obtain ⟨g,o,e,hl,hc⟩:=h hp
 have hg:g ≠ v:=hn hp _ e
 exact ⟨g,o,e,Nat.lt_of_lt_of_le hl t.size,fun j x hx=>(t.cell hl hg).trans (hc j x hx)⟩
structure SF (w:World) (s:Sy) (A B C L:Option Addr) (a b c d:Nat) (fc:Array Value) (wx:World):Prop where
 bS:wx.heap[w.heap.size]? = some (.cells (uS A B C L a b c d s) 30 (0,0))
 bF:wx.heap[w.heap.size+1]? = some (.cells fc 60 (0,0))
 bR:wx.heap[w.heap.size+1+1]? = some (.cells uZ 30 (0,0))
 rW:Row wx A s.M.W
 rG:Row wx B s.M.G
 rC:RowC w C s.C
 rL:RowE w L s.L
 nW:0 < s.M.W.length→∀ q,A = some q→q.block ≠ w.heap.size+1
 nG:0 < s.M.G.length→∀ q,B = some q→q.block ≠ w.heap.size+1
 be:Below w.heap.size w wx
theorem SF.rs {w:World} {s:Sy} {A B C L:Option Addr} {a b c d:Nat} {fc:Array Value} {wx:World} (h:SF w s A B C L a b c d fc wx):RS wx s A B C L:=⟨h.rW,h.rG,h.rC.step h.be,h.rL.step h.be⟩
theorem SF.lt {w:World} {s:Sy} {A B C L:Option Addr} {a b c d:Nat} {fc:Array Value} {wx:World} (h:SF w s A B C L a b c d fc wx):w.heap.size+1+1 < wx.heap.size:=(Array.getElem?_eq_some_iff.1 h.bR).1
theorem SF.zs {w:World} {s:Sy} {A B C L:Option Addr} {a b c d:Nat} {fc:Array Value} {wx:World} (h:SF w s A B C L a b c d fc wx):w.heap.size < wx.heap.size∧w.heap.size+1 < wx.heap.size∧w.heap.size+1+1 < wx.heap.size:=by have z2:=h.lt;exact ⟨by omega,by omega,z2⟩
theorem SF.step {w:World} {s:Sy} {A B C L:Option Addr} {a b c d:Nat} {fc:Array Value} {wx wy:World} (h:SF w s A B C L a b c d fc wx) (hk:Below wx.heap.size wx wy):SF w s A B C L a b c d fc wy:=by
 have hl:=h.lt
 exact ⟨(hk.block _ (by omega)).trans h.bS,(hk.block _ (by omega)).trans h.bF,(hk.block _ hl).trans h.bR,h.rW.step hk,h.rG.step hk,h.rC,h.rL,h.nW,h.nG,bstep h.be hk⟩
theorem SF.whW {w:World} {s:Sy} {A B C L A2:Option Addr} {a b c d n:Nat} {fc:Array Value} {wx:World} (h:SF w s A B C L a b c d fc wx) (hw:Wh wx A A2) (hn:n = s.M.W.length):0 < n→∀ q,A2 = some q→q.block ≠ w.heap.size+1:=fun hp q e=>by
 subst hn
 rcases hw with rfl | hw
 ·exact h.nW hp q e
 ·have h1:=hw q e
  have h2:=h.lt
  omega
theorem SF.whG {w:World} {s:Sy} {A B C L B2:Option Addr} {a b c d n:Nat} {fc:Array Value} {wx:World} (h:SF w s A B C L a b c d fc wx) (hw:Wh wx B B2) (hn:n = s.M.G.length):0 < n→∀ q,B2 = some q→q.block ≠ w.heap.size+1:=fun hp q e=>by
 subst hn
 rcases hw with rfl | hw
 ·exact h.nG hp q e
 ·have h1:=hw q e
  have h2:=h.lt
  omega
theorem SF.putM {w:World} {s:Sy} {A B C L A2 B2:Option Addr} {a b c d a2 b2:Nat} {fc:Array Value} {wk:World} {m:Ar} (h:SF w s A B C L a b c d fc wk) (r1:Row wk A2 m.W) (r2:Row wk B2 m.G) (n1:0 < m.W.length→∀ q,A2 = some q→q.block ≠ w.heap.size+1) (n2:0 < m.G.length→∀ q,B2 = some q→q.block ≠ w.heap.size+1) :
  SF w (syMem s m) A2 B2 C L a2 b2 c d fc (((wk.setCell ⟨w.heap.size,0,none⟩ (.slice A2 m.W.length a2)).setCell ⟨w.heap.size,1,none⟩ (.slice B2 m.G.length b2)).setCell ⟨w.heap.size,2,none⟩ (.bool m.bad)):=by
 have t:Turn (fun x=>x = w.heap.size) wk (((wk.setCell ⟨w.heap.size,0,none⟩ (.slice A2 m.W.length a2)).setCell ⟨w.heap.size,1,none⟩ (.slice B2 m.G.length b2)).setCell ⟨w.heap.size,2,none⟩ (.bool m.bad)):=Turn.set (p:=fun x=>x = w.heap.size) (Turn.set (p:=fun x=>x = w.heap.size) (Turn.set (p:=fun x=>x = w.heap.size) (Turn.refl _ _) rfl _ _) rfl _ _) rfl _ _
 have hl:=h.lt
 have ni:=noInt_sys h.bS
 refine ⟨?_,(t.block _ (by omega) (by omega)).trans h.bF,(t.block _ hl (by omega)).trans h.bR,r1.turnN t ni,r2.turnN t ni,h.rC,h.rL,n1,n2,h.be.trans (t.to_below h.be.size (fun g hg=>by omega))⟩
 have e1:=heap_setCell_same wk w.heap.size 0 _ _ (.slice A2 m.W.length a2) h.bS
 have e2:=heap_setCell_same _ w.heap.size 1 _ _ (.slice B2 m.G.length b2) e1
 have e3:=heap_setCell_same _ w.heap.size 2 _ _ (.bool m.bad) e2
 exact e3
theorem SF.putF {w:World} {s:Sy} {A B C L:Option Addr} {a b c d:Nat} {fc:Array Value} {wk:World} (h:SF w s A B C L a b c d fc wk) (j:Nat) (u:Value):SF w s A B C L a b c d (fc.setIfInBounds j u) (wk.setCell ⟨w.heap.size+1,j,none⟩ u):=by
 have t:Turn (fun x=>x = w.heap.size+1) wk (wk.setCell ⟨w.heap.size+1,j,none⟩ u):=Turn.set (p:=fun x=>x = w.heap.size+1) (Turn.refl _ _) rfl _ _
 have hl:=h.lt
 exact ⟨(t.block _ (by omega) (by omega)).trans h.bS,heap_setCell_same wk _ j _ _ _ h.bF,(t.block _ hl (by omega)).trans h.bR,h.rW.turnV t h.nW,h.rG.turnV t h.nG,h.rC,h.rL,h.nW,h.nG,h.be.trans (t.to_below h.be.size (fun g hg=>by omega))⟩
theorem SF.start (w:World) (s:Sy) (A B C L:Option Addr) (a b c d:Nat) (fc:Array Value) (h:RS w s A B C L):SF w s A B C L a b c d fc (((w.alloc (.cells (uS A B C L a b c d s) 30)).alloc (.cells fc 60)).alloc (.cells uZ 30)):=by
 obtain ⟨b1,b2,b3,_⟩:=heap3b w (.cells (uS A B C L a b c d s) 30) (.cells fc 60) (.cells uZ 30)
 have hb:Below w.heap.size w (((w.alloc (.cells (uS A B C L a b c d s) 30)).alloc (.cells fc 60)).alloc (.cells uZ 30)):=bstep (bstep (boxed _ _) (boxed _ _)) (boxed _ _)
 refine ⟨b1,b2,b3,h.W.step hb,h.G.step hb,h.C,h.L,fun hp q e=>?_,fun hp q e=>?_,hb⟩
 ·obtain ⟨g,o,e',hl,_⟩:=h.W hp
  rw [e'] at e;injection e with e;subst e
  simp;omega
 ·obtain ⟨g,o,e',hl,_⟩:=h.G hp
  rw [e'] at e;injection e with e;subst e
  simp;omega
theorem ret_resN {w wj wk:World} {t:Sy} {e:Ending} {v:Nat} (x0 x1 x2 x3 x4:Value) (hN:RetSysN wj t e wk) (hv:v < wj.heap.size) (hw:w.heap.size≤v) (hb:Below w.heap.size w wk) :
  RetSysN w t e (((((wk.setCell ⟨v,0,none⟩ x0).setCell ⟨v,1,none⟩ x1).setCell ⟨v,2,none⟩ x2).setCell ⟨v,3,none⟩ x3).setCell ⟨v,4,none⟩ x4) :=
 ⟨fun w'' t2=>hN.1 w'' (((turn5 wk v x0 x1 x2 x3 x4).mono (fun b _ h=>by omega)).trans (t2.mono (fun b _ h=>by omega))),hb.trans ((turn5 wk v x0 x1 x2 x3 x4).to_below hb.size (fun g hg=>by omega))⟩
theorem ret_res {w wk:World} {t:Sy} {A B C L:Option Addr} {a b c d:Nat} (hR:wk.heap[w.heap.size+1+1]? = some (.cells uZ 30 (0,0))) (hb:Below w.heap.size w wk) (rW:Row wk A t.M.W) (rG:Row wk B t.M.G) (rC:RowC wk C t.C) (rL:RowE wk L t.L) :
  RetSys w t (.returned (.agg (uS A B C L a b c d t))) (((((wk.setCell ⟨w.heap.size+1+1,0,none⟩ (.slice A t.M.W.length a)).setCell ⟨w.heap.size+1+1,1,none⟩ (.slice B t.M.G.length b)).setCell ⟨w.heap.size+1+1,2,none⟩ (.bool t.M.bad)).setCell ⟨w.heap.size+1+1,3,none⟩ (.slice C t.C.length c)).setCell ⟨w.heap.size+1+1,4,none⟩ (.slice L t.L.length d)) :=
 ret_store rW rG rC rL (turn5 _ _ _ _ _ _ _) (noInt_sys hR) (hb.trans ((turn5 _ _ _ _ _ _ _).to_below hb.size (fun g hg=>by omega)))
theorem swap_yes (A B C L:Option Addr) (a b c d:Nat) (s:Sy) (i:Int) (AS:Option Addr) (cS:Nat) (op pc r0 r1 r2 r3 r4 r5 r6 r7:Int) (xs:List Int) (seen first node nw:Int) (w:World) (hs:SyFew s) (hg:2≤s.M.G.length) (h:RS w s A B C L) (hS:Row w AS xs) (h6:xs.length≤1000000) (q:mIs s.M 0 seen = true) :
  Calls Tryz.prog 107 #[.agg (uS A B C L a b c d s),.int .i64 i,.agg (uF op pc r0 r1 r2 r3 r4 r5 r6 r7 AS xs cS),.int .i64 seen,.int .i64 first,.int .i64 node,.int .i64 nw] w (RetSysN w (pSwap s i ⟨op,pc,[r0,r1,r2,r3,r4,r5,r6,r7],xs⟩ seen first node nw)):=by
 obtain ⟨m2,hm2⟩:∃ m,m = mCas s.M 0 seen (pNext seen first 0):=⟨_,rfl⟩
 have HM:=hid hm2
 have lW2:m2.W.length = s.M.W.length:=by rw [hm2];unfold mCas;dsimp only;split <;> simp
 have lG2:m2.G.length = s.M.G.length:=by rw [hm2];rfl
 have HW2:=hid lW2
 have HG2:=hid lG2
 clear lW2 lG2
 have HC:=hid (show ∀ w',Row w' A s.M.W→Row w' B s.M.G→Calls Tryz.prog 117 #[.agg #[.slice A s.M.W.length a,.slice B s.M.G.length b,.bool s.M.bad],.int .i64 0,.int .i64 seen,.int .i64 (pNext seen first 0)] w' (RetMem2O w' A B m2 (.bool true)) from fun w' k1 k2=>by have h9:=cas_o A B a b s.M 0 seen (pNext seen first 0) w' k1 k2 hs.1 hs.2.1 hg (by omega) (by omega);rw [← hm2,q] at h9;exact h9)
 clear hm2
 have fw:SyFew (syMem s m2):=few_mem hs HW2.out HG2.out
 obtain ⟨s2,hs2⟩:∃ t,t = syMem s m2:=⟨_,rfl⟩
 have hM2:s2.M = m2:=by rw [hs2];rfl
 have HS2:=hid hs2
 rw [← hs2] at fw
 have hg2:2≤s2.M.G.length:=by rw [hM2,HG2.out];exact hg
 have HM2:=hid hM2
 clear hs2 hM2
 obtain ⟨t3,ht3⟩:∃ t,t = syMem s2 (mTurn s2.M node nw):=⟨_,rfl⟩
 have hl3:(mTurn s2.M node nw).G.length = s2.M.G.length:=by unfold mTurn;dsimp only;split <;> simp
 have ft:SyFew t3:=by rw [ht3];exact few_mem fw rfl hl3
 have HL3:=hid hl3
 have HT3:=hid ht3
 clear ht3 hl3
 have hres:pSwap s i ⟨op,pc,[r0,r1,r2,r3,r4,r5,r6,r7],xs⟩ seen first node nw = pBack t3 i node 0:=by unfold pSwap;rw [if_pos (by rw [q]),HT3.out,HM2.out,HM.out,HS2.out,HM.out];rfl
 rw [hres]
 clear hres q
 have h0:=hs.1
 have h1:=hs.2.1
 have H:=SF.start w s A B C L a b c d (uF op pc r0 r1 r2 r3 r4 r5 r6 r7 AS xs cS) h
 clear h
 go_enter Tryz.func107,Tryz.ntmps107
 go_upto_region 2 with (fail)
 generalize (((w.alloc (.cells (uS A B C L a b c d s) 30)).alloc (.cells (uF op pc r0 r1 r2 r3 r4 r5 r6 r7 AS xs cS) 60)).alloc (.cells uZ 30)) = w1 at *
 obtain ⟨z0,z1,z2⟩:=H.zs
 obtain ⟨p0,p1,p2⟩:=cells3 H.bS
 obtain ⟨pf0,pf1,pf2⟩:=frz3 H.bS
 go_cut [15] from 16 (fun s0 wx=>s0 = .bool true∧∃ (A2 B2:Option Addr) (a2 b2:Nat),SF w (syMem s m2) A2 B2 C L a2 b2 c d (uF op pc r0 r1 r2 r3 r4 r5 r6 r7 AS xs cS) wx)
 case first =>
  go_region_with (first | (go_at_call 118;(with_reducible refine (Pk.next_any _ _ _ _).mono ?_);rintro e w2 ⟨rfl,hk2⟩;have hj2:Below w1.heap.size w1 w2:=bstep ((Below.refl _ _).drew) hk2;have K2:=H.step hj2;obtain ⟨u0,u1,u2⟩:=cells3 K2.bS) | (go_at_call 117;(with_reducible refine (HC.out _ K2.rW K2.rG).mono ?_);rintro e w3 ⟨A2,B2,a2,b2,rfl,s1,s2,hk3,F1,F2⟩;have K3:=K2.step hk3;obtain ⟨v0,v1,v2⟩:=cells3 K3.bS;obtain ⟨vf0,vf1,vf2⟩:=frz3 K3.bS))
  all_goals go_wp2_with fail
  all_goals go_meet
  all_goals exact ⟨rfl,A2,B2,a2,b2,K3.putM s1 s2 (K2.whW F1 HW2.out) (K2.whG F2 HG2.out)⟩
 case rest =>
  obtain ⟨rfl,A2,B2,a2,b2,H2⟩:=hcut
  clear H p0 p1 p2 pf0 pf1 pf2 z0 z1 z2 HC
  rw [← HS2.out] at H2
  have H:=H2
  clear H2
  obtain ⟨z0,z1,z2⟩:=H.zs
  have fw1:s2.M.W.length≤1000000:=fw.1
  have fw2:s2.M.G.length≤1000000:=fw.2.1
  obtain ⟨p0,p1,p2,p3,p4,pf0,pf1,pf2,pf3,pf4⟩:=cf5 H.bS
  go_upto_region 5 with (go_at_call 119;(with_reducible refine (turn_o A2 B2 a2 b2 s2.M node nw _ H.rW H.rG fw1 fw2).mono ?_);rintro e w5 ⟨A3,B3,a3,b3,rfl,s1,s2',hk5,F1,F2⟩;have K5:=H.step hk5;obtain ⟨v0,v1,v2,v3,v4,vf0,vf1,vf2,vf3,vf4⟩:=cf5 K5.bS)
  have K6:=K5.putM (a2:=a3) (b2:=b3) s1 s2' (H.whW F1 rfl) (H.whG F2 HL3.out)
  clear H K5 F1 F2 s1 s2' hk5 z0 z1 z2 v0 vf0 v1 vf1 v2 vf2 v3 vf3 v4 vf4
  clear p0 p1 p2 p3 p4 pf0 pf1 pf2 pf3 pf4
  generalize ((w5.setCell ⟨w.heap.size,0,none⟩ (.slice A3 (mTurn s2.M node nw).W.length a3)).setCell ⟨w.heap.size,1,none⟩ (.slice B3 (mTurn s2.M node nw).G.length b3)).setCell ⟨w.heap.size,2,none⟩ (.bool (mTurn s2.M node nw).bad) = w6 at *
  rw [← HT3.out] at K6
  have H:=K6
  clear K6
  obtain ⟨z0,z1,z2⟩:=H.zs
  obtain ⟨p0,p1,p2,p3,p4⟩:=cells5 H.bS
  go_wp2_with (go_at_call 49;(with_reducible refine (back_uN A3 B3 C L a3 b3 c d t3 i node 0 _ ft H.rs).mono ?_);rintro e wz hN;have hz:=hN.2;obtain ⟨A9,B9,C9,L9,a9,b9,c9,d9,he,_,_,_,_,_⟩:=hN.1 wz (Turn.refl _ _);subst he;have HN:=hid hN;clear hN;have kR:=(hz.block (w.heap.size+1+1) z2).trans H.bR;have kb:=bstep H.be hz;obtain ⟨q0,q1,q2,q3,q4,qf0,qf1,qf2,qf3,qf4⟩:=cf5 kR)
  refine bodyPost_ret (v:=.agg (uS A9 B9 C9 L9 a9 b9 c9 d9 (pBack t3 i node 0))) (by simp [uS,results,Tryz.results107,go_sem,q0,q1,q2,q3,q4]) rfl ?_
  exact ret_resN _ _ _ _ _ HN.out z2 (by omega) kb
theorem swap_no (A B C L:Option Addr) (a b c d:Nat) (s:Sy) (i:Int) (AS:Option Addr) (cS:Nat) (op pc r0 r1 r2 r3 r4 r5 r6 r7:Int) (xs:List Int) (seen first node nw:Int) (w:World) (hs:SyFew s) (hg:2≤s.M.G.length) (h:RS w s A B C L) (hS:Row w AS xs) (h6:xs.length≤1000000) (q:mIs s.M 0 seen = false) :
  Calls Tryz.prog 107 #[.agg (uS A B C L a b c d s),.int .i64 i,.agg (uF op pc r0 r1 r2 r3 r4 r5 r6 r7 AS xs cS),.int .i64 seen,.int .i64 first,.int .i64 node,.int .i64 nw] w (RetSysN w (pSwap s i ⟨op,pc,[r0,r1,r2,r3,r4,r5,r6,r7],xs⟩ seen first node nw)):=by
 obtain ⟨m2,hm2⟩:∃ m,m = mCas s.M 0 seen (pNext seen first 0):=⟨_,rfl⟩
 have HM:=hid hm2
 have lW2:m2.W.length = s.M.W.length:=by rw [hm2];unfold mCas;dsimp only;split <;> simp
 have lG2:m2.G.length = s.M.G.length:=by rw [hm2];rfl
 have HW2:=hid lW2
 have HG2:=hid lG2
 clear lW2 lG2
 have HC:=hid (show ∀ w',Row w' A s.M.W→Row w' B s.M.G→Calls Tryz.prog 117 #[.agg #[.slice A s.M.W.length a,.slice B s.M.G.length b,.bool s.M.bad],.int .i64 0,.int .i64 seen,.int .i64 (pNext seen first 0)] w' (RetMem2O w' A B m2 (.bool false)) from fun w' k1 k2=>by have h9:=cas_o A B a b s.M 0 seen (pNext seen first 0) w' k1 k2 hs.1 hs.2.1 hg (by omega) (by omega);rw [← hm2,q] at h9;exact h9)
 clear hm2
 have fw:SyFew (syMem s m2):=few_mem hs HW2.out HG2.out
 obtain ⟨s2,hs2⟩:∃ t,t = syMem s m2:=⟨_,rfl⟩
 have hM2:s2.M = m2:=by rw [hs2];rfl
 have HS2:=hid hs2
 rw [← hs2] at fw
 have hg2:2≤s2.M.G.length:=by rw [hM2,HG2.out];exact hg
 have HM2:=hid hM2
 clear hs2 hM2
 have hres:pSwap s i ⟨op,pc,[r0,r1,r2,r3,r4,r5,r6,r7],xs⟩ seen first node nw = pSet s2 i ⟨op,0,[r0,r1,r2,r3,r4,r5,r6,r7],xs⟩:=by unfold pSwap;rw [if_neg (by rw [q];simp),HS2.out,HM.out]
 rw [hres]
 clear hres q
 have h0:=hs.1
 have h1:=hs.2.1
 have H:=SF.start w s A B C L a b c d (uF op pc r0 r1 r2 r3 r4 r5 r6 r7 AS xs cS) h
 clear h
 go_enter Tryz.func107,Tryz.ntmps107
 go_upto_region 2 with (fail)
 generalize (((w.alloc (.cells (uS A B C L a b c d s) 30)).alloc (.cells (uF op pc r0 r1 r2 r3 r4 r5 r6 r7 AS xs cS) 60)).alloc (.cells uZ 30)) = w1 at *
 obtain ⟨z0,z1,z2⟩:=H.zs
 obtain ⟨p0,p1,p2⟩:=cells3 H.bS
 obtain ⟨pf0,pf1,pf2⟩:=frz3 H.bS
 go_cut [15] from 16 (fun s0 wx=>s0 = .bool false∧∃ (A2 B2:Option Addr) (a2 b2:Nat),SF w (syMem s m2) A2 B2 C L a2 b2 c d (uF op pc r0 r1 r2 r3 r4 r5 r6 r7 AS xs cS) wx)
 case first =>
  go_region_with (first | (go_at_call 118;(with_reducible refine (Pk.next_any _ _ _ _).mono ?_);rintro e w2 ⟨rfl,hk2⟩;have hj2:Below w1.heap.size w1 w2:=bstep ((Below.refl _ _).drew) hk2;have K2:=H.step hj2;obtain ⟨u0,u1,u2⟩:=cells3 K2.bS) | (go_at_call 117;(with_reducible refine (HC.out _ K2.rW K2.rG).mono ?_);rintro e w3 ⟨A2,B2,a2,b2,rfl,s1,s2,hk3,F1,F2⟩;have K3:=K2.step hk3;obtain ⟨v0,v1,v2⟩:=cells3 K3.bS;obtain ⟨vf0,vf1,vf2⟩:=frz3 K3.bS))
  all_goals go_wp2_with fail
  all_goals go_meet
  all_goals exact ⟨rfl,A2,B2,a2,b2,K3.putM s1 s2 (K2.whW F1 HW2.out) (K2.whG F2 HG2.out)⟩
 case rest =>
  obtain ⟨rfl,A2,B2,a2,b2,H2⟩:=hcut
  clear H p0 p1 p2 pf0 pf1 pf2 z0 z1 z2 HC
  rw [← HS2.out] at H2
  have H:=H2
  clear H2
  obtain ⟨z0,z1,z2⟩:=H.zs
  obtain ⟨f0,f1,f2,f3,f4,f5,f6,f7,f8,f9,f10,ff0,ff1,ff2,ff3,ff4,ff5,ff6,ff7,ff8,ff9,ff10⟩:=cf11 H.bF
  go_upto_region 7 with (fail)
  have K6:=H.putF 1 (.int .i64 0)
  clear H z0 z1 z2
  clear f0 f1 f2 f3 f4 f5 f6 f7 f8 f9 f10 ff0 ff1 ff2 ff3 ff4 ff5 ff6 ff7 ff8 ff9 ff10
  generalize wc.setCell ⟨w.heap.size+1,1,none⟩ (.int .i64 0) = w6 at *
  have H:SF w s2 A2 B2 C L a2 b2 c d (uF op 0 r0 r1 r2 r3 r4 r5 r6 r7 AS xs cS) w6:=K6
  clear K6
  obtain ⟨z0,z1,z2⟩:=H.zs
  obtain ⟨p0,p1,p2,p3,p4⟩:=cells5 H.bS
  obtain ⟨f0,f1,f2,f3,f4,f5,f6,f7,f8,f9,f10⟩:=cells11 H.bF
  go_wp2_with (go_at_call 50;(with_reducible refine (set_uN A2 B2 C L a2 b2 c d s2 i AS cS op 0 r0 r1 r2 r3 r4 r5 r6 r7 xs _ fw H.rs (hS.step H.be) h6).mono ?_);rintro e wz hN;have hz:=hN.2;obtain ⟨A9,B9,C9,L9,a9,b9,c9,d9,he,_,_,_,_,_⟩:=hN.1 wz (Turn.refl _ _);subst he;have HN:=hid hN;clear hN;have kR:=(hz.block (w.heap.size+1+1) z2).trans H.bR;have kb:=bstep H.be hz;obtain ⟨q0,q1,q2,q3,q4,qf0,qf1,qf2,qf3,qf4⟩:=cf5 kR)
  refine bodyPost_ret (v:=.agg (uS A9 B9 C9 L9 a9 b9 c9 d9 (pSet s2 i ⟨op,0,[r0,r1,r2,r3,r4,r5,r6,r7],xs⟩))) (by simp [uS,results,Tryz.results107,go_sem,q0,q1,q2,q3,q4]) rfl ?_
  exact ret_resN _ _ _ _ _ HN.out z2 (by omega) kb
theorem swap_any (A B C L:Option Addr) (a b c d:Nat) (s:Sy) (i:Int) (AS:Option Addr) (cS:Nat) (op pc r0 r1 r2 r3 r4 r5 r6 r7:Int) (xs:List Int) (seen first node nw:Int) (w:World) (hs:SyFew s) (hg:2≤s.M.G.length) (h:RS w s A B C L) (hS:Row w AS xs) (h6:xs.length≤1000000) :
  Calls Tryz.prog 107 #[.agg (uS A B C L a b c d s),.int .i64 i,.agg (uF op pc r0 r1 r2 r3 r4 r5 r6 r7 AS xs cS),.int .i64 seen,.int .i64 first,.int .i64 node,.int .i64 nw] w (RetSysN w (pSwap s i ⟨op,pc,[r0,r1,r2,r3,r4,r5,r6,r7],xs⟩ seen first node nw)):=by
 rcases Bool.eq_false_or_eq_true (mIs s.M 0 seen) with q | q
 ·exact swap_yes A B C L a b c d s i AS cS op pc r0 r1 r2 r3 r4 r5 r6 r7 xs seen first node nw w hs hg h hS h6 q
 ·exact swap_no A B C L a b c d s i AS cS op pc r0 r1 r2 r3 r4 r5 r6 r7 xs seen first node nw w hs hg h hS h6 q
end Go.Proofs.YtfipcdhodojodaaGreat
