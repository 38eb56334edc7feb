/- Contract: a system of so many cores on a filled arena, by the document. -/
import Derived.Test.YthpflcknommpdaaGreatKSho
import Derived.Test.YthpflcknommpdaaGreatKFil
import Derived.Test.YthpflcknommpdaaGreatKStA
import Derived.Deep.CutBlock
import Derived.Deep.RegionHeld3
namespace Go.Proofs.YthpflcknommpdaaGreat
open Go.RowKit
set_option maxRecDepth 100000
set_option maxHeartbeats 4000000
set_option linter.unusedVariables false
set_option linter.unusedSimpArgs false
def syFill (k n:Nat):Sy:=syMem (syNew k n) (pFill (syNew k n).M)
theorem rnew4_any (k n:Nat) (w:World) (h1:1≤n) (h2:n≤200) (h3:1≤k) (h4:k≤8):Calls Tryz.prog 61 #[.int .i64 (k:Int),.int .i64 (n:Int)] w (RetSys w (syFill k n)):=by
 obtain ⟨s0,hs0⟩:∃ s,s = syNew k n:=⟨_,rfl⟩
 obtain ⟨s1,hs1⟩:∃ s,s = syFill k n:=⟨_,rfl⟩
 have HN:=hid (show ∀ w,Calls Tryz.prog 78 #[.int .i64 (k:Int),.int .i64 (n:Int)] w (RetSys2 w s0 (.int .i64 0)) from fun w=>by rw [hs0];exact rsnew_yes k n w h1 h2 h3 h4)
 have HF:=hid (show ∀ (A B:Option Addr) (a b:Nat) (w:World),Row w A s0.M.W→Row w B s0.M.G→Calls Tryz.prog 109 #[.agg #[.slice A s0.M.W.length a,.slice B s0.M.G.length b,.bool s0.M.bad]] w (RetMem w s1.M) from fun A B a b w k1 k2=>by have h9:=rfill_any A B a b s0.M w k1 k2 (by rw [hs0];simp [syNew,mNew];omega) (by rw [hs0];simp [syNew,mNew];omega) (by rw [hs0];simp [syNew,mNew];omega);rw [hs1];rw [hs0] at h9 ⊢;exact h9)
 have HM:=hid (show ∀ (A B C L A2 B2:Option Addr) (a b c d a2 b2:Nat) (w:World),RS w s0 A B C L→Row w A2 s1.M.W→Row w B2 s1.M.G→Calls Tryz.prog 98 #[.agg (uS A B C L a b c d s0),.agg #[.slice A2 s1.M.W.length a2,.slice B2 s1.M.G.length b2,.bool s1.M.bad]] w fun e w'=>e = .returned (.agg (uS A2 B2 C L a2 b2 c d s1))∧RS w' s1 A2 B2 C L∧Below w.heap.size w w' from fun A B C L A2 B2 a b c d a2 b2 w k1 k2 k3=>by have h9:=rmem3_any A B C L A2 B2 a b c d a2 b2 s0 s1.M w k1 k2 k3;have e9:syMem s0 s1.M = s1:=(by rw [hs0,hs1];rfl);rw [e9] at h9;have e8:s0.C = s1.C:=(by rw [hs0,hs1];rfl);have e7:s0.L = s1.L:=(by rw [hs0,hs1];rfl);dsimp only [uS] at h9 ⊢;rw [e8,e7] at h9 ⊢;exact h9)
 rw [← hs1]
 clear hs0 hs1
 have bR:=heap_alloc_new w (.cells uZ 28)
 have hb:Below w.heap.size w (w.alloc (.cells uZ 28)):=boxed _ _
 have z0:w.heap.size < (w.alloc (.cells uZ 28)).heap.size:=by simp
 go_enter Tryz.func61,Tryz.ntmps61
 go_upto_region 1 with (fail)
 generalize w.alloc (.cells uZ 28) = w1 at *
 go_upto_region 2 with (go_at_call 78;(with_reducible refine (HN.out _).mono ?_);rintro e w2 ⟨A0,B0,C0,L0,a0,b0,c0,d0,rfl,rW,rG,rC,rL,hk⟩)
 have S0:RS w2 s0 A0 B0 C0 L0:=⟨rW,rG,rC,rL⟩
 have hj:Below w1.heap.size w1 (w2.alloc (.cells (uS A0 B0 C0 L0 a0 b0 c0 d0 s0) 28)):=bstep hk (boxed _ _)
 have Bk:=heap_alloc_new w2 (.cells (uS A0 B0 C0 L0 a0 b0 c0 d0 s0) 28)
 replace S0:=S0.step (boxed w2 (.cells (uS A0 B0 C0 L0 a0 b0 c0 d0 s0) 28))
 replace bR:=(hj.block w.heap.size z0).trans bR
 replace hb:=bstep hb hj
 replace z0:=Nat.lt_of_lt_of_le z0 hj.size
 have lt0:w2.heap.size < (w2.alloc (.cells (uS A0 B0 C0 L0 a0 b0 c0 d0 s0) 28)).heap.size:=by simp
 clear hj hk rW rG rC rL
 obtain ⟨v0,hv⟩:∃ v,w2.heap.size = v:=⟨_,rfl⟩
 rw [hv] at Bk lt0 ⊢
 clear hv
 generalize w2.alloc (.cells (uS A0 B0 C0 L0 a0 b0 c0 d0 s0) 28) = w3 at *
 obtain ⟨m0,m1,m2,m3,m4⟩:=cells5 Bk
 go_upto_region 4 with (fail)
 go_region_with (first | (go_at_call 109;(with_reducible refine (HF.out A0 B0 a0 b0 _ (S0.W.step ((Below.refl _ _).drew)) (S0.G.step ((Below.refl _ _).drew))).mono ?_);rintro e w4 ⟨A1,B1,a1,b1,rfl,r1,r2,hk4⟩;have hj4:Below w3.heap.size w3 w4:=bstep ((Below.refl _ _).drew) hk4;have K4:=(hj4.block v0 lt0).trans Bk;obtain ⟨u0,u1,u2,u3,u4⟩:=cells5 K4) | (go_at_call 98;(with_reducible refine (HM.out A0 B0 C0 L0 A1 B1 a0 b0 c0 d0 a1 b1 _ (S0.step hj4) r1 r2).mono ?_);rintro e w5 ⟨rfl,S5,hk5⟩;have kR:=(hk5.block w.heap.size (Nat.lt_of_lt_of_le z0 hj4.size)).trans ((hj4.block w.heap.size z0).trans bR);have kb:=bstep hb (bstep hj4 hk5);obtain ⟨q0,q1,q2,q3,q4,qf0,qf1,qf2,qf3,qf4⟩:=cf5 kR))
 all_goals go_wp2_with fail
 all_goals
  refine bodyPost_ret (v:=.agg (uS A1 B1 C0 L0 a1 b1 c0 d0 s1)) (by simp [uS,results,Tryz.results61,go_sem,q0,q1,q2,q3,q4]) rfl ?_
  exact ret_resV (Nat.le_refl _) kR kb S5.W S5.G S5.C S5.L
def Away (A:Option Addr) (g:Nat):Prop:=∀ a,A = some a→a.block ≠ g
theorem Away.at {b o g:Nat} (h:b ≠ g):Away (some ⟨b,o,none⟩) g:=fun a e=>by injection e with e;subst e;exact h
theorem Away.wh {w:World} {A A1:Option Addr} {g:Nat} (h:Away A g) (k:Wh w A A1) (hg:g < w.heap.size):Away A1 g:=fun a e=>by
 rcases k with k | k
 ·exact h a (k ▸ e)
 ·have:=k a e;omega
theorem Wh.comp {w w1:World} {A0 A1 A2:Option Addr} (h:Wh w A0 A1) (k:Wh w1 A1 A2) (hs:w.heap.size≤w1.heap.size):Wh w A0 A2:=by
 rcases k with k | k
 ·rw [k];exact h
 ·exact Or.inr (fun a e=>Nat.le_trans hs (k a e))
def NewPin (w:World) (m:Ar) (x:Value) (e:Ending) (w':World):Prop :=
 ∃ (A:Option Addr) (g c d:Nat),e = .returned (.tuple #[.agg #[.slice A m.W.length c,.slice (some ⟨g,0,none⟩) m.G.length d,.bool m.bad],x])∧Row w' A m.W∧Blk w' g m.G∧Away A g∧w.heap.size≤g∧Below w.heap.size w w'
theorem NewPin.mk {w w':World} {m:Ar} {x:Value} {A:Option Addr} {g c d n n':Nat} {b:Bool} (h1:n = m.W.length) (h2:n' = m.G.length) (h3:b = m.bad) (r1:Row w' A m.W) (r2:Blk w' g m.G) (hb:Below w.heap.size w w') (ha:Away A g) (hg:w.heap.size≤g) :
  NewPin w m x (.returned (.tuple #[.agg #[.slice A n c,.slice (some ⟨g,0,none⟩) n' d,.bool b],x])) w':=by
 subst h1 h2 h3
 exact ⟨_,_,_,_,rfl,r1,r2,ha,hg,hb⟩
def RetMemG (w:World) (A0 B:Option Addr) (m:Ar) (e:Ending) (w':World):Prop :=
 ∃ (A:Option Addr) (c c':Nat),e = .returned (.agg #[.slice A m.W.length c,.slice B m.G.length c',.bool m.bad])∧Row w' A m.W∧Row w' B m.G∧Below w.heap.size w w'∧Wh w A0 A
theorem RetMemG.mk {w w':World} {A0 B:Option Addr} {m:Ar} {A:Option Addr} {c c' n n':Nat} {b:Bool} (h1:n = m.W.length) (h2:n' = m.G.length) (h3:b = m.bad) (r1:Row w' A m.W) (r2:Row w' B m.G) (hb:Below w.heap.size w w') (f1:Wh w A0 A) (f2:Wh w B B) :
  RetMemG w A0 B m (.returned (.agg #[.slice A n c,.slice B n' c',.bool b])) w':=by
 subst h1 h2 h3
 exact ⟨_,_,_,rfl,r1,r2,hb,f1⟩
structure MVG (w0:World) (A0 B:Option Addr) (v:Nat) (t:Ar) (wx:World):Prop where
 ex:∃ (A:Option Addr) (a b:Nat),wx.heap[v]? = some (.cells #[.slice A t.W.length a,.slice B t.G.length b,.bool t.bad] 24 (0,0))∧Row wx A t.W∧Row wx B t.G∧Wh w0 A0 A
 rs:wx.heap[v+1]? = some (.cells #[.slice none 0 0,.slice none 0 0,.bool false] 24 (0,0))
 be:Below w0.heap.size w0 wx
theorem MVG.put {w0:World} {A0:Option Addr} {v:Nat} {t t2:Ar} {wk:World} {A B A2:Option Addr} {a b a2 b2:Nat} (hk:wk.heap[v]? = some (.cells #[.slice A t.W.length a,.slice B t.G.length b,.bool t.bad] 24 (0,0))) (hr:wk.heap[v+1]? = some (.cells #[.slice none 0 0,.slice none 0 0,.bool false] 24 (0,0)))
  (hb:Below w0.heap.size w0 wk) (hv:w0.heap.size≤v) (r1:Row wk A2 t2.W) (r2:Row wk B t2.G) (f:Wh w0 A0 A2) :
  MVG w0 A0 B v t2 (((wk.setCell ⟨v,0,none⟩ (.slice A2 t2.W.length a2)).setCell ⟨v,1,none⟩ (.slice B t2.G.length b2)).setCell ⟨v,2,none⟩ (.bool t2.bad)) :=
 ⟨⟨A2,a2,b2,set3 hk,r1.far3 hk _ _ _,r2.far3 hk _ _ _,f⟩,by
  rw [heap_setCell_other _ _ _ _ (by simp),heap_setCell_other _ _ _ _ (by simp),heap_setCell_other _ _ _ _ (by simp)]
  exact hr,keep3 hb hv _ _ _⟩
theorem MVG.mk0 (w:World) (A B:Option Addr) (a b:Nat) (t:Ar) (h1:Row w A t.W) (h2:Row w B t.G):MVG w A B w.heap.size t ((w.alloc (.cells #[.slice A t.W.length a,.slice B t.G.length b,.bool t.bad] 24)).alloc (.cells #[.slice none 0 0,.slice none 0 0,.bool false] 24)):=by
 refine ⟨⟨A,a,b,?_,(h1.alloc _).alloc _,(h2.alloc _).alloc _,Wh.old⟩,heap_alloc2_new w _ _,bstep (boxed _ _) (boxed _ _)⟩
 rw [heap_alloc_old _ _ (by simp)]
 exact heap_alloc_new w _
theorem rnew_p (n:Nat) (w:World) (h1:1≤n) (h2:n≤200) :
  Calls Tryz.prog 128 #[.int .i64 (n:Int)] w (NewPin w (mNew n) (.int .i64 0)):=by
 have k1:=make_ints (128+4 * n) (by omega)
 have k2:=make_ints (n+1) (by omega)
 have e1:((128+4 * n:Nat):Int) = 128+4 * (n:Int):=by omega
 have e2:((n+1:Nat):Int) = (n:Int)+1:=by omega
 rw [e1] at k1
 rw [e2] at k2
 clear e1 e2
 go_enter Tryz.func128,Tryz.ntmps128
 go_wp2
 go_region
 all_goals go_wp2
 ·refine bodyPost_ret (v:=.tuple #[.agg #[.slice (some ⟨w.heap.size+1,0,none⟩) (128+4 * n) (128+4 * n),.slice (some ⟨w.heap.size+1+1,0,none⟩) (n+1) (n+1),.bool false],.int .i64 0]) (by simp [results,Tryz.results128,go_sem]) rfl ?_
  obtain ⟨q1,q2⟩:=made2 (w.alloc (.cells #[.slice (some ⟨w.heap.size+1,0,none⟩) (128+4 * n) (128+4 * n),.slice (some ⟨w.heap.size+1+1,0,none⟩) (n+1) (n+1),.bool false] 24)) (w.heap.size+1) (128+4 * n) (n+1) (by simp)
  exact NewPin.mk (by simp [mNew]) (by simp [mNew] <;> omega) rfl (by rw [mNew_w];exact q1.row) (by rw [mNew_g];first | exact q2 | (rw [Nat.add_comm 1 n];exact q2)) ((bstep (bstep (boxed _ _) (boxed _ _)) (boxed _ _)).drew) (Away.at (by omega)) (by omega)
 ·refine bodyPost_ret (v:=.tuple #[.agg #[.slice (some ⟨w.heap.size+1+1,0,none⟩) (128+4 * n) (128+4 * n),.slice (some ⟨w.heap.size+1,0,none⟩) (n+1) (n+1),.bool false],.int .i64 0]) (by simp [results,Tryz.results128,go_sem]) rfl ?_
  obtain ⟨q1,q2⟩:=made2 (w.alloc (.cells #[.slice (some ⟨w.heap.size+1+1,0,none⟩) (128+4 * n) (128+4 * n),.slice (some ⟨w.heap.size+1,0,none⟩) (n+1) (n+1),.bool false] 24)) (w.heap.size+1) (n+1) (128+4 * n) (by simp)
  exact NewPin.mk (by simp [mNew]) (by simp [mNew] <;> omega) rfl (by rw [mNew_w];exact q2.row) (by rw [mNew_g];first | exact q1 | (rw [Nat.add_comm 1 n];exact q1)) ((bstep (bstep (boxed _ _) (boxed _ _)) (boxed _ _)).drew) (Away.at (by omega)) (by omega)
theorem rstore_p (A A':Option Addr) (c c':Nat) (m:Ar) (p v:Int) (w:World) (hW:Row w A m.W) (hG:Row w A' m.G) (h0:m.W.length≤1000000) (h1:m.G.length≤1000000) (h2:1≤m.G.length) :
  Calls Tryz.prog 38 #[.agg #[.slice A m.W.length c,.slice A' m.G.length c',.bool m.bad],.int .i64 p,.int .i64 v] w (RetMemG w A A' (mStore m p v)):=by
 by_cases q1:p < 0
 ·have T:=hid (mStore_no (m:=m) (v:=v) (mIn_no (.inl q1)))
  go_enter Tryz.func38,Tryz.ntmps38
  go_wp2
  refine bodyPost_ret (v:=.agg #[.slice A m.W.length c,.slice A' m.G.length c',.bool true]) (by simp [results,Tryz.results38,go_sem]) rfl ?_
  obtain ⟨t1,t2,t3⟩:=T.out
  exact RetMemG.mk (by rw [t1]) (by rw [t2]) t3.symm (by rw [t1];exact (hW.alloc _).alloc _) (by rw [t2];exact (hG.alloc _).alloc _) (bstep (boxed _ _) (boxed _ _)) Wh.old Wh.old
 ·have q2:0≤p:=by omega
  clear q1
  by_cases q3:(m.W.length:Int)≤p
  ·have T:=hid (mStore_no (m:=m) (v:=v) (mIn_no (.inr q3)))
   go_enter Tryz.func38,Tryz.ntmps38
   go_wp2
   refine bodyPost_ret (v:=.agg #[.slice A m.W.length c,.slice A' m.G.length c',.bool true]) (by simp [results,Tryz.results38,go_sem]) rfl ?_
   obtain ⟨t1,t2,t3⟩:=T.out
   exact RetMemG.mk (by rw [t1]) (by rw [t2]) t3.symm (by rw [t1];exact (hW.alloc _).alloc _) (by rw [t2];exact (hG.alloc _).alloc _) (bstep (boxed _ _) (boxed _ _)) Wh.old Wh.old
  ·obtain ⟨k,rfl⟩:∃ k:Nat,p = k:=⟨p.toNat,by omega⟩
   have q4:(k:Int) < (m.W.length:Int):=by omega
   have hkl:k < m.W.length:=by omega
   have T:=hid (mStore_yes (m:=m) (v:=v) (mIn_yes q2 q4))
   clear q3
   go_enter Tryz.func38,Tryz.ntmps38
   go_wp2_with (at_builtin;refine wpList_append_new rfl (.tmp 22) (.tmp 24) _ rfl int_info Tryz.underlying22 (w.heap.size+1+1) rfl ?_ _ m.W c rfl (((hW.alloc _).alloc _).alloc _) (by omega) h0 ?_;(rw [show w.heap.size+1+1 = ((w.alloc (.cells #[.slice A m.W.length c,.slice A' m.G.length c',.bool m.bad] 24)).alloc (.cells #[.slice none 0 0,.slice none 0 0,.bool false] 24)).heap.size by simp];exact heap_alloc_new _ _);intro g cap w2 O2 hg2 hb2;have d1:=O2.cellD k hkl;have d2:=O2.frozen k;obtain ⟨gc,gf⟩:=bcellB hb2;have n1:g ≠ w.heap.size:=(by omega);have n2:g ≠ w.heap.size+1:=(by omega);have n3:=n1.symm;have n4:=n2.symm;have n5:w.heap.size < w.heap.size+1+1:=(by omega);have n6:w.heap.size+1 < w.heap.size+1+1:=(by omega);have n7:=O2.lt;have n8:w.heap.size+1 < w2.heap.size:=(by omega);have n9:w.heap.size < w2.heap.size:=(by omega))
   have hb:Below w.heap.size w w2:=(bstep (bstep (boxed _ _) (boxed _ _)) (boxed _ _)).trans (hb2.mono (by omega))
   have hb':=hb.setCell (p:=⟨g,k,none⟩) (by simp;omega) (.int .i64 v)
   have c0:(w2.setCell ⟨g,k,none⟩ (.int .i64 v)).cell? ⟨w.heap.size,0,none⟩ = some (.slice A m.W.length c):=by simp [go_sem,n1,n3,gc,n5]
   have c1:(w2.setCell ⟨g,k,none⟩ (.int .i64 v)).cell? ⟨w.heap.size,1,none⟩ = some (.slice A' m.G.length c'):=by simp [go_sem,n1,n3,gc,n5]
   have c2:(w2.setCell ⟨g,k,none⟩ (.int .i64 v)).cell? ⟨w.heap.size,2,none⟩ = some (.bool m.bad):=by simp [go_sem,n1,n3,gc,n5]
   have r0:(w2.setCell ⟨g,k,none⟩ (.int .i64 v)).cell? ⟨w.heap.size+1,0,none⟩ = some (.slice none 0 0):=by simp [go_sem,n2,n4,gc,n6]
   have r1:(w2.setCell ⟨g,k,none⟩ (.int .i64 v)).cell? ⟨w.heap.size+1,1,none⟩ = some (.slice none 0 0):=by simp [go_sem,n2,n4,gc,n6]
   have r2:(w2.setCell ⟨g,k,none⟩ (.int .i64 v)).cell? ⟨w.heap.size+1,2,none⟩ = some (.bool false):=by simp [go_sem,n2,n4,gc,n6]
   have f0:∀ o,(w2.setCell ⟨g,k,none⟩ (.int .i64 v)).frozen? ⟨w.heap.size+1,o,none⟩ = false:=by intro o;simp [go_sem,n2,n4,gf,n6]
   have O3:=O2.set k v
   have s1:w.heap.size+1 < (w2.setCell ⟨g,k,none⟩ (.int .i64 v)).heap.size:=by simpa [World.setCell] using n8
   have s0:w.heap.size < (w2.setCell ⟨g,k,none⟩ (.int .i64 v)).heap.size:=by simpa [World.setCell] using n9
   clear d1 d2 gc gf hb2 O2 n5 n6 n7 n8 n9 hb
   generalize w2.setCell ⟨g,k,none⟩ (.int .i64 v) = w3 at *
   go_region_held3 (fun w'=>w'.cell? ⟨w.heap.size,0,none⟩ = some (.slice A m.W.length c)∧w'.cell? ⟨w.heap.size,1,none⟩ = some (.slice A' m.G.length c')∧w'.cell? ⟨w.heap.size,2,none⟩ = some (.bool m.bad)) (first | go_keep | (refine keepS hk ?_;exact ⟨c0,c1,c2⟩) | exact keepT (by omega) (keepS hk ⟨c0,c1,c2⟩))
    (first
     | (go_at_call 84;refine (bad_any _ _ _ _ m k _ (hG.step hb'.drew) h0 h1 h2).mono ?_;rintro e wk ⟨rfl,hk⟩;replace hk:=undrew0 hk;obtain ⟨gc,gf⟩:=bcell hk))
   all_goals go_wp2
   refine bodyPost_ret (v:=.agg #[.slice (some ⟨g,0,none⟩) m.W.length cap,.slice A' m.G.length c',.bool (mBad m k)]) (by simp [results,Tryz.results38,go_sem,gc,s1,r0,r1,r2]) rfl ?_
   obtain ⟨t1,t2,t3⟩:=T.out
   have hb3:=keep3 (bstep hb' hk) (r:=w.heap.size+1) (by omega) (.slice (some ⟨g,0,none⟩) m.W.length cap) (.slice A' m.G.length c') (.bool (mBad m k))
   exact RetMemG.mk (by rw [t1,List.length_set]) (by rw [t2]) t3.symm (by rw [t1];exact ((O3.step hk O3.lt).keep3 n2 _ _ _).row) (by rw [t2];exact hG.step hb3) hb3 (Wh.new (by omega)) Wh.old
theorem rfill_p (A A':Option Addr) (c c':Nat) (m:Ar) (w:World) (hW:Row w A m.W) (hG:Row w A' m.G) (h0:m.W.length≤1000000) (h1:m.G.length≤1000000) (h2:2≤m.G.length) :
  Calls Tryz.prog 109 #[.agg #[.slice A m.W.length c,.slice A' m.G.length c',.bool m.bad]] w (RetMemG w A A' (pFill m)):=by
 have V0:=MVG.mk0 w A A' c c' m hW hG
 have hlt:w.heap.size+1 < ((w.alloc (.cells #[.slice A m.W.length c,.slice A' m.G.length c',.bool m.bad] 24)).alloc (.cells #[.slice none 0 0,.slice none 0 0,.bool false] 24)).heap.size:=by simp
 go_enter Tryz.func109,Tryz.ntmps109
 go_upto_region 1 with (fail)
 have b0:((w.alloc (.cells #[.slice A m.W.length c,.slice A' m.G.length c',.bool m.bad] 24)).alloc (.cells #[.slice none 0 0,.slice none 0 0,.bool false] 24)).heap[w.heap.size]? = some (.cells #[.slice A m.W.length c,.slice A' m.G.length c',.bool m.bad] 24 (0,0)):=by rw [heap_alloc_old _ _ (by simp)];exact heap_alloc_new w _
 generalize (w.alloc (.cells #[.slice A m.W.length c,.slice A' m.G.length c',.bool m.bad] 24)).alloc (.cells #[.slice none 0 0,.slice none 0 0,.bool false] 24) = w1 at *
 obtain ⟨p0,p1,p2⟩:=cells3 b0
 have V1:MVG w A A' w.heap.size (rF m 0) w1:=by unfold rF;rw [if_pos (by omega)];exact V0
 go_wp2_with fail
 clear V0 p0 p1 p2 b0 hlt
 go_loopw [4] (fun i wr=>∃ k:Nat,k+1≤m.G.length∧i = .int .i64 ((k:Int)+1)∧MVG w A A' w.heap.size (rF m k) wr) (fun i _=>m.G.length+1 - (intOf i).toNat)
 case atStart=>exact ⟨0,by omega,by go_num,V1⟩
 case round =>
  obtain ⟨k,hk2,rfl,VV⟩:=hrel
  obtain ⟨⟨A1,a1,b1,k1,r1,r2,fA⟩,k2,k3⟩:=VV
  have hl:=rF_len m k
  have l0:(rF m k).W.length≤1000000:=by omega
  have l1:(rF m k).G.length = m.G.length:=by rw [hl.2]
  have L1:=hid l1
  clear hl l1
  have hz:w.heap.size+1 < wr.heap.size:=(Array.getElem?_eq_some_iff.1 k2).1
  rcases (by omega:k+2 < m.G.length ∨ k+2 = m.G.length ∨ k+1 = m.G.length) with hlt | hlt | hlt
  ·have kl:(k:Int)+1≤(m.G.length:Int) - 1:=by omega
   have kn:((k:Int)+1 == (m.G.length:Int) - 1) = false:=by rw [beq_eq_false_iff_ne];omega
   have HS:=hid (show ∀ (A1 A':Option Addr) (a1 b1:Nat) (w:World),Row w A1 (rF m k).W→Row w A' (rF m k).G→Calls Tryz.prog 38 #[.agg #[.slice A1 (rF m k).W.length a1,.slice A' (rF m k).G.length b1,.bool (rF m k).bad],.int .i64 (pLink ((k:Int)+1)),.int .i64 ((k:Int)+1+1)] w (RetMemG w A1 A' (rF m (k+1))) from fun A1 A' a1 b1 w h h'=>by have:=rstore_p A1 A' a1 b1 (rF m k) (pLink ((k:Int)+1)) ((k:Int)+1+1) w h h' l0 (by have:=L1.out;omega) (by have:=L1.out;omega);rw [rF_next h1 hlt] at this;exact this)
   obtain ⟨tt,htt⟩:∃ tt,rF m k = tt:=⟨_,rfl⟩
   rw [htt] at HS k1 r1 r2
   clear htt l0 L1
   obtain ⟨p0,p1,p2⟩:=cells3 k1
   obtain ⟨pf0,pf1,pf2⟩:=frz3 k1
   go_upto_region 8 with (fail)
   go_region_with (first
     | (go_at_call 60;(with_reducible refine (rlink_any _ _).mono ?_);rintro e w3 ⟨rfl,rfl⟩)
     | (go_at_call 38;(with_reducible refine (HS.out A1 A' a1 b1 _ (r1.step ((Below.refl _ _).drew)) (r2.step ((Below.refl _ _).drew))).mono ?_);rintro e w4 ⟨A2,a2,b2,rfl,s1,s2,hk4,f4⟩;have hj:Below wr.heap.size wr w4:=bstep ((Below.refl _ _).drew) hk4;have kk:=(hj.block w.heap.size (by omega)).trans k1;have kk2:=(hj.block (w.heap.size+1) hz).trans k2;obtain ⟨y0,y1,y2⟩:=cells3 kk;obtain ⟨yf0,yf1,yf2⟩:=frz3 kk))
   all_goals go_wp2_with fail
   all_goals exact ⟨⟨k+1,by omega,by go_num,MVG.put kk kk2 (bstep k3 hj) (Nat.le_refl _) s1 s2 (fA.comp f4 k3.size)⟩,by simp [intOf];omega⟩
  ·have kl:(k:Int)+1≤(m.G.length:Int) - 1:=by omega
   have kn:((k:Int)+1 == (m.G.length:Int) - 1) = true:=by rw [beq_iff_eq];omega
   have HL:=hid hlt
   clear hlt
   have HS:=hid (show ∀ (A1 A':Option Addr) (a1 b1:Nat) (w:World),Row w A1 (rF m k).W→Row w A' (rF m k).G→Calls Tryz.prog 38 #[.agg #[.slice A1 (rF m k).W.length a1,.slice A' (rF m k).G.length b1,.bool (rF m k).bad],.int .i64 (pLink ((k:Int)+1)),.int .i64 0] w (RetMemG w A1 A' (rF m (k+1))) from fun A1 A' a1 b1 w h h'=>by have:=rstore_p A1 A' a1 b1 (rF m k) (pLink ((k:Int)+1)) 0 w h h' l0 (by have:=L1.out;omega) (by have:=L1.out;omega);rw [rF_last h1 HL.out] at this;exact this)
   obtain ⟨tt,htt⟩:∃ tt,rF m k = tt:=⟨_,rfl⟩
   rw [htt] at HS k1 r1 r2
   clear htt l0 L1
   obtain ⟨p0,p1,p2⟩:=cells3 k1
   obtain ⟨pf0,pf1,pf2⟩:=frz3 k1
   go_upto_region 8 with (fail)
   go_region_with (first
     | (go_at_call 60;(with_reducible refine (rlink_any _ _).mono ?_);rintro e w3 ⟨rfl,rfl⟩)
     | (go_at_call 38;(with_reducible refine (HS.out A1 A' a1 b1 _ (r1.step ((Below.refl _ _).drew)) (r2.step ((Below.refl _ _).drew))).mono ?_);rintro e w4 ⟨A2,a2,b2,rfl,s1,s2,hk4,f4⟩;have hj:Below wr.heap.size wr w4:=bstep ((Below.refl _ _).drew) hk4;have kk:=(hj.block w.heap.size (by omega)).trans k1;have kk2:=(hj.block (w.heap.size+1) hz).trans k2;obtain ⟨y0,y1,y2⟩:=cells3 kk;obtain ⟨yf0,yf1,yf2⟩:=frz3 kk))
   all_goals go_wp2_with fail
   all_goals exact ⟨⟨k+1,by omega,by go_num,MVG.put kk kk2 (bstep k3 hj) (Nat.le_refl _) s1 s2 (fA.comp f4 k3.size)⟩,by simp [intOf];omega⟩
  ·have kl:(m.G.length:Int) - 1 < (k:Int)+1:=by omega
   have HL:=hid hlt
   clear hlt
   have HS:=hid (show ∀ (A1 A':Option Addr) (a1 b1:Nat) (w:World),Row w A1 (rF m k).W→Row w A' (rF m k).G→Calls Tryz.prog 38 #[.agg #[.slice A1 (rF m k).W.length a1,.slice A' (rF m k).G.length b1,.bool (rF m k).bad],.int .i64 0,.int .i64 2] w (RetMemG w A1 A' (pFill m)) from fun A1 A' a1 b1 w h h'=>by have:=rstore_p A1 A' a1 b1 (rF m k) 0 2 w h h' l0 (by have:=L1.out;omega) (by have:=L1.out;omega);rw [rF_end HL.out] at this;exact this)
   obtain ⟨tt,htt⟩:∃ tt,rF m k = tt:=⟨_,rfl⟩
   rw [htt] at HS k1 r1 r2
   clear htt l0 L1
   obtain ⟨p0,p1,p2⟩:=cells3 k1
   obtain ⟨pf0,pf1,pf2⟩:=frz3 k1
   go_wp2_with (go_at_call 38;(with_reducible refine (HS.out A1 A' a1 b1 _ r1 r2).mono ?_);rintro e w7 ⟨A4,a4,b4,rfl,s3,s4,hk7,f7⟩;have kk3:=(hk7.block (w.heap.size+1) hz).trans k2;obtain ⟨z0,z1,z2⟩:=cells3 kk3;obtain ⟨zf0,zf1,zf2⟩:=frz3 kk3)
   refine bodyPost_ret (v:=.agg #[.slice A4 (pFill m).W.length a4,.slice A' (pFill m).G.length b4,.bool (pFill m).bad]) (by simp [results,Tryz.results109,go_sem,z0,z1,z2]) rfl ?_
   exact RetMemG.mk rfl rfl rfl (s3.far3 kk3 _ _ _) (s4.far3 kk3 _ _ _) (keep3 (bstep k3 hk7) (by omega) _ _ _) (fA.comp f7 k3.size) Wh.old
def SysPin (w:World) (s:Sy) (g:Nat) (A C L:Option Addr) (w':World):Prop:=Row w' A s.M.W∧Blk w' g s.M.G∧RowC w' C s.C∧RowE w' L s.L∧Away A g∧Away C g∧w.heap.size≤g∧Below w.heap.size w w'
def RetPin2 (w:World) (s:Sy) (x:Value) (e:Ending) (w':World):Prop :=
 ∃ (A C L:Option Addr) (g c d cC cL:Nat),e = .returned (.tuple #[.agg (uS A (some ⟨g,0,none⟩) C L c d cC cL s),x])∧SysPin w s g A C L w'
def RetPin (w:World) (s:Sy) (e:Ending) (w':World):Prop :=
 ∃ (A C L:Option Addr) (g c d cC cL:Nat),e = .returned (.agg (uS A (some ⟨g,0,none⟩) C L c d cC cL s))∧SysPin w s g A C L w'
theorem rsnew_p (k n:Nat) (w:World) (hn1:1≤n) (hn2:n≤200) (hk1:1≤k) (hk2:k≤8):Calls Tryz.prog 78 #[.int .i64 k,.int .i64 n] w (RetPin2 w (syNew k n) (.int .i64 0)):=by
 have hmk:=make_cores k (by omega)
 have kk1:¬ ((k:Int) < 1):=by omega
 have kk2:¬ ((8:Int) < k):=by omega
 have b1:=heap_alloc_new w (.cells uZ 28)
 have hb:Below w.heap.size w (w.alloc (.cells uZ 28)):=boxed _ _
 have s1:w.heap.size < (w.alloc (.cells uZ 28)).heap.size:=by simp
 go_enter Tryz.func78,Tryz.ntmps78
 go_wp2_with fail
 generalize (w.alloc (.cells uZ 28)) = w1 at *
 refine (rnew_p n _ hn1 hn2).mono ?_
 rintro e w2 ⟨A1,g1,c1,d1,rfl,rW,rB,hA,hg,hk⟩
 have hgw:w.heap.size < g1:=by omega
 replace b1:=(hk.block w.heap.size s1).trans b1
 replace hb:=bstep hb hk
 replace s1:=Nat.lt_of_lt_of_le s1 hk.size
 have rG:=rB.row
 clear hk
 go_upto_region 2 with (fail)
 replace b1:=(Below.heap_alloc w2 (.cells #[.slice A1 (mNew n).W.length c1,.slice (some ⟨g1,0,none⟩) (mNew n).G.length d1,.bool (mNew n).bad] 24) _ s1).trans b1
 have s2:w2.heap.size < (w2.alloc (.cells #[.slice A1 (mNew n).W.length c1,.slice (some ⟨g1,0,none⟩) (mNew n).G.length d1,.bool (mNew n).bad] 24)).heap.size:=by simp
 have bm:=heap_alloc_new w2 (.cells #[.slice A1 (mNew n).W.length c1,.slice (some ⟨g1,0,none⟩) (mNew n).G.length d1,.bool (mNew n).bad] 24)
 replace hb:=bstep hb (boxed w2 (.cells #[.slice A1 (mNew n).W.length c1,.slice (some ⟨g1,0,none⟩) (mNew n).G.length d1,.bool (mNew n).bad] 24))
 replace rW:=rW.step (boxed w2 (.cells #[.slice A1 (mNew n).W.length c1,.slice (some ⟨g1,0,none⟩) (mNew n).G.length d1,.bool (mNew n).bad] 24))
 replace rB:=rB.alloc (.cells #[.slice A1 (mNew n).W.length c1,.slice (some ⟨g1,0,none⟩) (mNew n).G.length d1,.bool (mNew n).bad] 24)
 replace rG:=rG.step (boxed w2 (.cells #[.slice A1 (mNew n).W.length c1,.slice (some ⟨g1,0,none⟩) (mNew n).G.length d1,.bool (mNew n).bad] 24))
 obtain ⟨y,hy⟩:∃ y,w2.heap.size = y:=⟨_,rfl⟩
 generalize (w2.alloc (.cells #[.slice A1 (mNew n).W.length c1,.slice (some ⟨g1,0,none⟩) (mNew n).G.length d1,.bool (mNew n).bad] 24)) = w3 at *
 rw [hy] at bm s2 s1 ⊢
 clear hy
 obtain ⟨q0,q1,q2,q3,q4,qf0,qf1,qf2,qf3,qf4⟩:=cf5 b1
 obtain ⟨m0,m1,m2⟩:=cells3 bm
 have NI:=hid (noInt_sys b1)
 have s3:w.heap.size < w3.heap.size:=by omega
 have hne:w.heap.size ≠ w3.heap.size:=by omega
 clear b1 bm
 go_wp2
 go_region
 all_goals go_wp2_with fail
 all_goals refine bodyPost_ret (v:=.tuple #[.agg #[.slice A1 (mNew n).W.length c1,.slice (some ⟨g1,0,none⟩) (mNew n).G.length d1,.bool (mNew n).bad,.slice (some ⟨w3.heap.size,0,none⟩) k k,.slice none 0 0],.int .i64 0]) (by simp [results,Tryz.results78,go_sem,hne,s3,q0,q1,q2,q3,q4]) rfl ?_
 all_goals
  have t5:=turn5 w3 w.heap.size (.slice A1 (mNew n).W.length c1) (.slice (some ⟨g1,0,none⟩) (mNew n).G.length d1) (.bool (mNew n).bad) (.slice (some ⟨w3.heap.size,0,none⟩) k k) (.slice none 0 0)
  have e5:(((((w3.setCell ⟨w.heap.size,0,none⟩ (.slice A1 (mNew n).W.length c1)).setCell ⟨w.heap.size,1,none⟩ (.slice (some ⟨g1,0,none⟩) (mNew n).G.length d1)).setCell ⟨w.heap.size,2,none⟩ (.bool (mNew n).bad)).setCell ⟨w.heap.size,3,none⟩ (.slice (some ⟨w3.heap.size,0,none⟩) k k)).setCell ⟨w.heap.size,4,none⟩ (.slice none 0 0)).heap.size = w3.heap.size:=by simp [World.setCell]
  have rC:=made_rowC (((((w3.setCell ⟨w.heap.size,0,none⟩ (.slice A1 (mNew n).W.length c1)).setCell ⟨w.heap.size,1,none⟩ (.slice (some ⟨g1,0,none⟩) (mNew n).G.length d1)).setCell ⟨w.heap.size,2,none⟩ (.bool (mNew n).bad)).setCell ⟨w.heap.size,3,none⟩ (.slice (some ⟨w3.heap.size,0,none⟩) k k)).setCell ⟨w.heap.size,4,none⟩ (.slice none 0 0)) k
  rw [e5] at rC
  have hb5:Below w.heap.size w (((((w3.setCell ⟨w.heap.size,0,none⟩ (.slice A1 (mNew n).W.length c1)).setCell ⟨w.heap.size,1,none⟩ (.slice (some ⟨g1,0,none⟩) (mNew n).G.length d1)).setCell ⟨w.heap.size,2,none⟩ (.bool (mNew n).bad)).setCell ⟨w.heap.size,3,none⟩ (.slice (some ⟨w3.heap.size,0,none⟩) k k)).setCell ⟨w.heap.size,4,none⟩ (.slice none 0 0)):=hb.trans (t5.to_below hb.size (fun g hg=>by omega))
  have bA:=(boxed (((((w3.setCell ⟨w.heap.size,0,none⟩ (.slice A1 (mNew n).W.length c1)).setCell ⟨w.heap.size,1,none⟩ (.slice (some ⟨g1,0,none⟩) (mNew n).G.length d1)).setCell ⟨w.heap.size,2,none⟩ (.bool (mNew n).bad)).setCell ⟨w.heap.size,3,none⟩ (.slice (some ⟨w3.heap.size,0,none⟩) k k)).setCell ⟨w.heap.size,4,none⟩ (.slice none 0 0)) (.cells (madeCells #[.slice none 0 0,.int .i64 0,.int .i64 0,.int .i64 0,.int .i64 0,.int .i64 0,.slice none 0 0] (k * 7)) 56)).drew
  have rBf:=(bA.block g1 (by rw [e5];exact rB.lt)).trans ((t5.block g1 rB.lt (by omega)).trans rB)
  refine ⟨A1,some ⟨w3.heap.size,0,none⟩,none,g1,c1,d1,k,0,?_,(rW.turnN t5 NI.out).step bA,rBf,rC.step ((Below.refl _ _).drew),fun h=>absurd h (by simp [syNew]),hA,Away.at (by have:=rB.lt;omega),by omega,bstep hb5 bA⟩
  simp [syNew]
theorem rnew4_p (k n:Nat) (w:World) (h1:1≤n) (h2:n≤200) (h3:1≤k) (h4:k≤8):Calls Tryz.prog 61 #[.int .i64 (k:Int),.int .i64 (n:Int)] w (RetPin w (syFill k n)):=by
 obtain ⟨s0,hs0⟩:∃ s,s = syNew k n:=⟨_,rfl⟩
 obtain ⟨s1,hs1⟩:∃ s,s = syFill k n:=⟨_,rfl⟩
 have HN:=hid (show ∀ w,Calls Tryz.prog 78 #[.int .i64 (k:Int),.int .i64 (n:Int)] w (RetPin2 w s0 (.int .i64 0)) from fun w=>by rw [hs0];exact rsnew_p k n w h1 h2 h3 h4)
 have HF:=hid (show ∀ (A B:Option Addr) (a b:Nat) (w:World),Row w A s0.M.W→Row w B s0.M.G→Calls Tryz.prog 109 #[.agg #[.slice A s0.M.W.length a,.slice B s0.M.G.length b,.bool s0.M.bad]] w (RetMemG w A B s1.M) from fun A B a b w k1 k2=>by have h9:=rfill_p A B a b s0.M w k1 k2 (by rw [hs0];simp [syNew,mNew];omega) (by rw [hs0];simp [syNew,mNew];omega) (by rw [hs0];simp [syNew,mNew];omega);rw [hs1];rw [hs0] at h9 ⊢;exact h9)
 have HM:=hid (show ∀ (A B C L A2 B2:Option Addr) (a b c d a2 b2:Nat) (w:World),RS w s0 A B C L→Row w A2 s1.M.W→Row w B2 s1.M.G→Calls Tryz.prog 98 #[.agg (uS A B C L a b c d s0),.agg #[.slice A2 s1.M.W.length a2,.slice B2 s1.M.G.length b2,.bool s1.M.bad]] w fun e w'=>e = .returned (.agg (uS A2 B2 C L a2 b2 c d s1))∧RS w' s1 A2 B2 C L∧Below w.heap.size w w' from fun A B C L A2 B2 a b c d a2 b2 w k1 k2 k3=>by have h9:=rmem3_any A B C L A2 B2 a b c d a2 b2 s0 s1.M w k1 k2 k3;have e9:syMem s0 s1.M = s1:=(by rw [hs0,hs1];rfl);rw [e9] at h9;have e8:s0.C = s1.C:=(by rw [hs0,hs1];rfl);have e7:s0.L = s1.L:=(by rw [hs0,hs1];rfl);dsimp only [uS] at h9 ⊢;rw [e8,e7] at h9 ⊢;exact h9)
 have hGG:=hid (show s0.M.G = s1.M.G by rw [hs0,hs1];simp only [syFill,syMem];exact (pFill_len _).2.symm)
 rw [← hs1]
 clear hs0 hs1
 have bR:=heap_alloc_new w (.cells uZ 28)
 have hb:Below w.heap.size w (w.alloc (.cells uZ 28)):=boxed _ _
 have z0:w.heap.size < (w.alloc (.cells uZ 28)).heap.size:=by simp
 go_enter Tryz.func61,Tryz.ntmps61
 go_upto_region 1 with (fail)
 generalize w.alloc (.cells uZ 28) = w1 at *
 go_upto_region 2 with (go_at_call 78;(with_reducible refine (HN.out _).mono ?_);rintro e w2 ⟨A0,C0,L0,g1,a0,b0,c0,d0,rfl,rW,rB,rC,rL,hA,hC,hg,hk⟩)
 have hgw:w.heap.size < g1:=by omega
 have S0:RS w2 s0 A0 (some ⟨g1,0,none⟩) C0 L0:=⟨rW,rB.row,rC,rL⟩
 have hj:Below w1.heap.size w1 (w2.alloc (.cells (uS A0 (some ⟨g1,0,none⟩) C0 L0 a0 b0 c0 d0 s0) 28)):=bstep hk (boxed _ _)
 have Bk:=heap_alloc_new w2 (.cells (uS A0 (some ⟨g1,0,none⟩) C0 L0 a0 b0 c0 d0 s0) 28)
 replace S0:=S0.step (boxed w2 (.cells (uS A0 (some ⟨g1,0,none⟩) C0 L0 a0 b0 c0 d0 s0) 28))
 replace bR:=(hj.block w.heap.size z0).trans bR
 replace hb:=bstep hb hj
 replace z0:=Nat.lt_of_lt_of_le z0 hj.size
 have lt0:w2.heap.size < (w2.alloc (.cells (uS A0 (some ⟨g1,0,none⟩) C0 L0 a0 b0 c0 d0 s0) 28)).heap.size:=by simp
 replace rB:=rB.alloc (.cells (uS A0 (some ⟨g1,0,none⟩) C0 L0 a0 b0 c0 d0 s0) 28)
 clear hj hk rW rC rL
 obtain ⟨v0,hv⟩:∃ v,w2.heap.size = v:=⟨_,rfl⟩
 rw [hv] at Bk lt0 ⊢
 clear hv
 generalize w2.alloc (.cells (uS A0 (some ⟨g1,0,none⟩) C0 L0 a0 b0 c0 d0 s0) 28) = w3 at *
 obtain ⟨m0,m1,m2,m3,m4⟩:=cells5 Bk
 go_upto_region 4 with (fail)
 go_region_with (first | (go_at_call 109;(with_reducible refine (HF.out A0 (some ⟨g1,0,none⟩) a0 b0 _ (S0.W.step ((Below.refl _ _).drew)) (S0.G.step ((Below.refl _ _).drew))).mono ?_);rintro e w4 ⟨A1,a1,b1,rfl,r1,r2,hk4,f4⟩;have hj4:Below w3.heap.size w3 w4:=bstep ((Below.refl _ _).drew) hk4;have K4:=(hj4.block v0 lt0).trans Bk;obtain ⟨u0,u1,u2,u3,u4⟩:=cells5 K4) | (go_at_call 98;(with_reducible refine (HM.out A0 (some ⟨g1,0,none⟩) C0 L0 A1 (some ⟨g1,0,none⟩) a0 b0 c0 d0 a1 b1 _ (S0.step hj4) r1 r2).mono ?_);rintro e w5 ⟨rfl,S5,hk5⟩;have kR:=(hk5.block w.heap.size (Nat.lt_of_lt_of_le z0 hj4.size)).trans ((hj4.block w.heap.size z0).trans bR);have kb:=bstep hb (bstep hj4 hk5);obtain ⟨q0,q1,q2,q3,q4,qf0,qf1,qf2,qf3,qf4⟩:=cf5 kR))
 all_goals go_wp2_with fail
 all_goals
  refine bodyPost_ret (v:=.agg (uS A1 (some ⟨g1,0,none⟩) C0 L0 a1 b1 c0 d0 s1)) (by simp [uS,results,Tryz.results61,go_sem,q0,q1,q2,q3,q4]) rfl ?_
  have t5:=turn5 w5 w.heap.size (.slice A1 s1.M.W.length a1) (.slice (some ⟨g1,0,none⟩) s1.M.G.length b1) (.bool s1.M.bad) (.slice C0 s1.C.length c0) (.slice L0 s1.L.length d0)
  have rB5:=(hk5.block g1 (Nat.lt_of_lt_of_le rB.lt hj4.size)).trans ((hj4.block g1 rB.lt).trans rB)
  have rBf:=(t5.block g1 (Nat.lt_of_lt_of_le rB.lt (Nat.le_trans hj4.size hk5.size)) (by omega)).trans rB5
  rw [hGG.out] at rBf
  obtain ⟨A9,B9,C9,L9,a9,b9,c9,d9,e9,r1,r2,r3,r4,r5⟩:=ret_resV (Nat.le_refl _) kR kb S5.W S5.G S5.C S5.L
  simp at e9
  obtain ⟨⟨e91,e92⟩,⟨e93,e94⟩,⟨e95,e96⟩,e97,e98⟩:=e9
  subst e91 e92 e93 e94 e95 e96 e97 e98
  exact ⟨_,_,_,_,_,_,_,_,rfl,r1,rBf,r3,r4,hA.wh f4 rB.lt,hC,by omega,r5⟩
end Go.Proofs.YthpflcknommpdaaGreat
