/- Contracts: alloc.call, allocate, drop, by the program. -/
import Derived.Test.YtfipcdhodojodaaGreatMPl
import Derived.Test.YtfipcdhodojodaaGreatUniN
import Derived.Test.YtfipcdhodojodaaGreatStk8
import Derived.Test.YtfipcdhodojodaaGreatKSho
import Derived.Test.YtfipcdhodojodaaGreatKScD
namespace Go.Proofs.YtfipcdhodojodaaGreat
open Go.RowKit
set_option maxRecDepth 100000
set_option maxHeartbeats 8000000
set_option linter.unusedVariables false
set_option linter.unusedSimpArgs false
theorem acall_0 (A B C L:Option Addr) (a b c d:Nat) (s:Sy) (i:Int) (AS:Option Addr) (cS:Nat) (op pc r0 r1 r2 r3 r4 r5 r6 r7:Int) (xs:List Int) (np o2:Int) (w:World) (hs:SyFew s) (hg:2≤s.M.G.length) (h:RS w s A B C L) (hS:Row w AS xs) (h6:xs.length≤1000000) (hp2:wrap64 (pc+1) = np) :
  Calls Tryz.prog 48 #[.agg (uS A B C L a b c d s),.int .i64 i,.agg (uF op pc r0 r1 r2 r3 r4 r5 r6 r7 AS xs cS),.int .i64 o2,.slice none 0 0] w (RetSysN w (pCall (pSet s i ⟨op,np,[r0,r1,r2,r3,r4,r5,r6,r7],xs⟩) i ⟨o2,0,[0,0,0,0,0,0,0,0],[]⟩)):=by
 obtain ⟨t8,ht8⟩:∃ t,t = pSet s i ⟨op,np,[r0,r1,r2,r3,r4,r5,r6,r7],xs⟩:=⟨_,rfl⟩
 have f8:SyFew t8:=by rw [ht8];exact few_set hs h6 _
 have HSet:=hid (show ∀ w',RS w' s A B C L→Row w' AS xs→Calls Tryz.prog 50 #[.agg (uS A B C L a b c d s),.int .i64 i,.agg (uF op np r0 r1 r2 r3 r4 r5 r6 r7 AS xs cS)] w' (RetSysN w' t8) from fun w' k1 k2=>by rw [ht8];exact set_uN A B C L a b c d s i AS cS op np r0 r1 r2 r3 r4 r5 r6 r7 xs w' hs k1 k2 h6)
 have HCall:=hid (show ∀ (A8 B8 C8 L8:Option Addr) (a8 b8 c8 d8:Nat) w',RS w' t8 A8 B8 C8 L8→Calls Tryz.prog 66 #[.agg (uS A8 B8 C8 L8 a8 b8 c8 d8 t8),.int .i64 i,.int .i64 o2,.slice none 0 0] w' (RetSysN w' (pCall t8 i ⟨o2,0,[0,0,0,0,0,0,0,0],[]⟩)) from fun A8 B8 C8 L8 a8 b8 c8 d8 w' k1=>call_uN A8 B8 C8 L8 a8 b8 c8 d8 t8 i o2 [] none 0 0 0 0 0 0 0 0 0 rfl (by simp) w' f8 k1 (Row.nil _ _))
 rw [← ht8]
 clear ht8
 have h0:=hs.1
 have h1:=hs.2.1
 have H:=SF.start w s A B C L a b c d (uF op pc r0 r1 r2 r3 r4 r5 r6 r7 AS xs cS) h
 clear h
 go_enter Tryz.func48,Tryz.ntmps48
 go_upto_region 1 with (fail)
 generalize (((w.alloc (.cells (uS A B C L a b c d s) 30)).alloc (.cells (uF op pc r0 r1 r2 r3 r4 r5 r6 r7 AS xs cS) 60)).alloc (.cells uZ 30)) = w1 at *
 obtain ⟨z0,z1,z2⟩:=H.zs
 obtain ⟨f0,f1,f2,f3,f4,f5,f6,f7,f8,f9,f10,ff0,ff1,ff2,ff3,ff4,ff5,ff6,ff7,ff8,ff9,ff10⟩:=cf11 H.bF
 go_upto_region 2 with (fail)
 have K7:=H.putF 1 (.int .i64 np)
 clear H z0 z1 z2
 clear f0 f1 f2 f3 f4 f5 f6 f7 f8 f9 f10 ff0 ff1 ff2 ff3 ff4 ff5 ff6 ff7 ff8 ff9 ff10
 generalize w1.setCell ⟨w.heap.size+1,1,none⟩ (.int .i64 np) = wS at *
 have H:SF w s A B C L a b c d (uF op np r0 r1 r2 r3 r4 r5 r6 r7 AS xs cS) wS:=K7
 clear K7
 obtain ⟨z0,z1,z2⟩:=H.zs
 obtain ⟨p0,p1,p2,p3,p4⟩:=cells5 H.bS
 obtain ⟨f0,f1,f2,f3,f4,f5,f6,f7,f8,f9,f10⟩:=cells11 H.bF
 go_wp2_with (go_at_call 50;(with_reducible refine (HSet.out _ H.rs (hS.step H.be)).mono ?_);rintro e w8 hN8;obtain ⟨A8,B8,C8,L8,a8,b8,c8,d8,rfl,x1,x2,x3,x4,hk8⟩:=hN8.weak;clear hN8)
 clear p0 p1 p2 p3 p4 f0 f1 f2 f3 f4 f5 f6 f7 f8 f9 f10
 replace H:=H.step hk8
 clear hk8 z0 z1 z2
 obtain ⟨z0,z1,z2⟩:=H.zs
 refine (HCall.out A8 B8 C8 L8 a8 b8 c8 d8 _ ⟨x1,x2,x3,x4⟩).mono ?_
 rintro e wz hN
 have hz:=hN.2
 obtain ⟨A9,B9,C9,L9,a9,b9,c9,d9,he,_,_,_,_,_⟩:=hN.1 wz (Turn.refl _ _)
 subst he
 have HN:=hid hN
 clear hN
 have kR:=(hz.block (w.heap.size+1+1) z2).trans H.bR
 have kb:=bstep H.be hz
 obtain ⟨q0,q1,q2,q3,q4,qf0,qf1,qf2,qf3,qf4⟩:=cf5 kR
 go_wp2_with fail
 refine bodyPost_ret (v:=.agg (uS A9 B9 C9 L9 a9 b9 c9 d9 (pCall t8 i ⟨o2,0,[0,0,0,0,0,0,0,0],[]⟩))) (by simp [uS,results,Tryz.results48,go_sem,q0,q1,q2,q3,q4]) rfl ?_
 exact ret_resN _ _ _ _ _ HN.out z2 (by omega) kb
theorem acall_1 (A B C L:Option Addr) (a b c d:Nat) (s:Sy) (i:Int) (AS:Option Addr) (cS:Nat) (op pc r0 r1 r2 r3 r4 r5 r6 r7:Int) (xs:List Int) (np o2 z:Int) (A7:Option Addr) (c7:Nat) (w:World) (hs:SyFew s) (hg:2≤s.M.G.length) (h:RS w s A B C L) (hS:Row w AS xs) (h6:xs.length≤1000000) (hp2:wrap64 (pc+1) = np) (hU:Row w A7 [z]) :
  Calls Tryz.prog 48 #[.agg (uS A B C L a b c d s),.int .i64 i,.agg (uF op pc r0 r1 r2 r3 r4 r5 r6 r7 AS xs cS),.int .i64 o2,.slice A7 1 c7] w (RetSysN w (pCall (pSet s i ⟨op,np,[r0,r1,r2,r3,r4,r5,r6,r7],xs⟩) i ⟨o2,0,[z,0,0,0,0,0,0,0],[]⟩)):=by
 obtain ⟨t8,ht8⟩:∃ t,t = pSet s i ⟨op,np,[r0,r1,r2,r3,r4,r5,r6,r7],xs⟩:=⟨_,rfl⟩
 have f8:SyFew t8:=by rw [ht8];exact few_set hs h6 _
 have HSet:=hid (show ∀ w',RS w' s A B C L→Row w' AS xs→Calls Tryz.prog 50 #[.agg (uS A B C L a b c d s),.int .i64 i,.agg (uF op np r0 r1 r2 r3 r4 r5 r6 r7 AS xs cS)] w' (RetSysN w' t8) from fun w' k1 k2=>by rw [ht8];exact set_uN A B C L a b c d s i AS cS op np r0 r1 r2 r3 r4 r5 r6 r7 xs w' hs k1 k2 h6)
 have HCall:=hid (show ∀ (A8 B8 C8 L8:Option Addr) (a8 b8 c8 d8:Nat) w',RS w' t8 A8 B8 C8 L8→Row w' A7 [z]→Calls Tryz.prog 66 #[.agg (uS A8 B8 C8 L8 a8 b8 c8 d8 t8),.int .i64 i,.int .i64 o2,.slice A7 1 c7] w' (RetSysN w' (pCall t8 i ⟨o2,0,[z,0,0,0,0,0,0,0],[]⟩)) from fun A8 B8 C8 L8 a8 b8 c8 d8 w' k1 k2=>call_uN A8 B8 C8 L8 a8 b8 c8 d8 t8 i o2 [z] A7 c7 z 0 0 0 0 0 0 0 rfl (by simp) w' f8 k1 k2)
 rw [← ht8]
 clear ht8
 have h0:=hs.1
 have h1:=hs.2.1
 have H:=SF.start w s A B C L a b c d (uF op pc r0 r1 r2 r3 r4 r5 r6 r7 AS xs cS) h
 clear h
 go_enter Tryz.func48,Tryz.ntmps48
 go_upto_region 1 with (fail)
 generalize (((w.alloc (.cells (uS A B C L a b c d s) 30)).alloc (.cells (uF op pc r0 r1 r2 r3 r4 r5 r6 r7 AS xs cS) 60)).alloc (.cells uZ 30)) = w1 at *
 obtain ⟨z0,z1,z2⟩:=H.zs
 obtain ⟨f0,f1,f2,f3,f4,f5,f6,f7,f8,f9,f10,ff0,ff1,ff2,ff3,ff4,ff5,ff6,ff7,ff8,ff9,ff10⟩:=cf11 H.bF
 go_upto_region 2 with (fail)
 have K7:=H.putF 1 (.int .i64 np)
 clear H z0 z1 z2
 clear f0 f1 f2 f3 f4 f5 f6 f7 f8 f9 f10 ff0 ff1 ff2 ff3 ff4 ff5 ff6 ff7 ff8 ff9 ff10
 generalize w1.setCell ⟨w.heap.size+1,1,none⟩ (.int .i64 np) = wS at *
 have H:SF w s A B C L a b c d (uF op np r0 r1 r2 r3 r4 r5 r6 r7 AS xs cS) wS:=K7
 clear K7
 obtain ⟨z0,z1,z2⟩:=H.zs
 obtain ⟨p0,p1,p2,p3,p4⟩:=cells5 H.bS
 obtain ⟨f0,f1,f2,f3,f4,f5,f6,f7,f8,f9,f10⟩:=cells11 H.bF
 go_wp2_with (go_at_call 50;(with_reducible refine (HSet.out _ H.rs (hS.step H.be)).mono ?_);rintro e w8 hN8;obtain ⟨A8,B8,C8,L8,a8,b8,c8,d8,rfl,x1,x2,x3,x4,hk8⟩:=hN8.weak;clear hN8)
 clear p0 p1 p2 p3 p4 f0 f1 f2 f3 f4 f5 f6 f7 f8 f9 f10
 replace H:=H.step hk8
 clear hk8 z0 z1 z2
 obtain ⟨z0,z1,z2⟩:=H.zs
 refine (HCall.out A8 B8 C8 L8 a8 b8 c8 d8 _ ⟨x1,x2,x3,x4⟩ (hU.step H.be)).mono ?_
 rintro e wz hN
 have hz:=hN.2
 obtain ⟨A9,B9,C9,L9,a9,b9,c9,d9,he,_,_,_,_,_⟩:=hN.1 wz (Turn.refl _ _)
 subst he
 have HN:=hid hN
 clear hN
 have kR:=(hz.block (w.heap.size+1+1) z2).trans H.bR
 have kb:=bstep H.be hz
 obtain ⟨q0,q1,q2,q3,q4,qf0,qf1,qf2,qf3,qf4⟩:=cf5 kR
 go_wp2_with fail
 refine bodyPost_ret (v:=.agg (uS A9 B9 C9 L9 a9 b9 c9 d9 (pCall t8 i ⟨o2,0,[z,0,0,0,0,0,0,0],[]⟩))) (by simp [uS,results,Tryz.results48,go_sem,q0,q1,q2,q3,q4]) rfl ?_
 exact ret_resN _ _ _ _ _ HN.out z2 (by omega) kb
theorem adrop_0 (A B C L:Option Addr) (a b c d:Nat) (s:Sy) (i:Int) (AS:Option Addr) (cS:Nat) (op r0 r1 r2 r3 r4 r5 r6 r7:Int) (xs:List Int) (w:World) (hs:SyFew s) (hg:2≤s.M.G.length) (h:RS w s A B C L) (hS:Row w AS xs) (h6:xs.length≤1000000)  :
  Calls Tryz.prog 27 #[.agg (uS A B C L a b c d s),.int .i64 i,.agg (uF op 0 r0 r1 r2 r3 r4 r5 r6 r7 AS xs cS)] w (RetSysN w (pThen s i ⟨op,0,[r0,r1,r2,r3,r4,r5,r6,r7],xs⟩ 1 2 r0)):=by
 have h0:=hs.1
 have h1:=hs.2.1
 have H:=SF.start w s A B C L a b c d (uF op 0 r0 r1 r2 r3 r4 r5 r6 r7 AS xs cS) h
 clear h
 go_enter Tryz.func27,Tryz.ntmps27
 go_upto_region 1 with (fail)
 generalize (((w.alloc (.cells (uS A B C L a b c d s) 30)).alloc (.cells (uF op 0 r0 r1 r2 r3 r4 r5 r6 r7 AS xs cS) 60)).alloc (.cells uZ 30)) = w1 at *
 obtain ⟨z0,z1,z2⟩:=H.zs
 obtain ⟨p0,p1,p2,p3,p4⟩:=cells5 H.bS
 obtain ⟨f0,f1,f2,f3,f4,f5,f6,f7,f8,f9,f10⟩:=cells11 H.bF
 have HA:=hid (show ∀ (A7:Option Addr) (c7:Nat) w',RS w' s A B C L→Row w' AS xs→Row w' A7 [r0]→Calls Tryz.prog 48 #[.agg (uS A B C L a b c d s),.int .i64 i,.agg (uF op 0 r0 r1 r2 r3 r4 r5 r6 r7 AS xs cS),.int .i64 2,.slice A7 1 c7] w' (RetSysN w' (pThen s i ⟨op,0,[r0,r1,r2,r3,r4,r5,r6,r7],xs⟩ 1 2 r0)) from fun A7 c7 w' k1 k2 k3=>acall_1 A B C L a b c d s i AS cS op 0 r0 r1 r2 r3 r4 r5 r6 r7 xs 1 2 r0 A7 c7 w' hs hg k1 k2 h6 (by unfold wrap64;rfl) k3)
 go_wp2_with (go_at_call 48;(with_reducible refine (HA.out _ _ _ (H.rs.step (boxed w1 _)) ((hS.step H.be).step (boxed w1 _)) (by exact row_of_blk (xs:=[r0]) (heap_alloc_new w1 _))).mono ?_);rintro e wz hN;have hz:=hN.2;obtain ⟨A9,B9,C9,L9,a9,b9,c9,d9,he,_,_,_,_,_⟩:=hN.1 wz (Turn.refl _ _);subst he;have HN:=hid hN;clear hN;have kR:=(hz.block (w.heap.size+1+1) (Nat.lt_of_lt_of_le z2 (by simp))).trans ((boxed w1 _).block _ z2 |>.trans H.bR);have kb:=bstep (bstep H.be (boxed w1 _)) hz;obtain ⟨q0,q1,q2,q3,q4,qf0,qf1,qf2,qf3,qf4⟩:=cf5 kR)
 have zz:=Nat.lt_of_lt_of_le z2 (boxed w1 (.cells #[.int .i64 r0] 3)).size
 refine bodyPost_ret (v:=.agg (uS A9 B9 C9 L9 a9 b9 c9 d9 (pThen s i ⟨op,0,[r0,r1,r2,r3,r4,r5,r6,r7],xs⟩ 1 2 r0))) (by simp [uS,results,Tryz.results27,go_sem,q0,q1,q2,q3,q4]) rfl ?_
 exact ret_resN _ _ _ _ _ HN.out (by simp;omega) (by omega) kb
theorem adrop_1 (A B C L:Option Addr) (a b c d:Nat) (s:Sy) (i:Int) (AS:Option Addr) (cS:Nat) (op r0 r1 r2 r3 r4 r5 r6 r7:Int) (xs:List Int) (w:World) (hs:SyFew s) (hg:2≤s.M.G.length) (h:RS w s A B C L) (hS:Row w AS xs) (h6:xs.length≤1000000)  :
  Calls Tryz.prog 27 #[.agg (uS A B C L a b c d s),.int .i64 i,.agg (uF op 1 r0 r1 r2 r3 r4 r5 r6 r7 AS xs cS)] w (RetSysN w (pBack s i r0 0)):=by
 have h0:=hs.1
 have h1:=hs.2.1
 have H:=SF.start w s A B C L a b c d (uF op 1 r0 r1 r2 r3 r4 r5 r6 r7 AS xs cS) h
 clear h
 go_enter Tryz.func27,Tryz.ntmps27
 go_upto_region 1 with (fail)
 generalize (((w.alloc (.cells (uS A B C L a b c d s) 30)).alloc (.cells (uF op 1 r0 r1 r2 r3 r4 r5 r6 r7 AS xs cS) 60)).alloc (.cells uZ 30)) = w1 at *
 obtain ⟨z0,z1,z2⟩:=H.zs
 obtain ⟨p0,p1,p2,p3,p4⟩:=cells5 H.bS
 obtain ⟨f0,f1,f2,f3,f4,f5,f6,f7,f8,f9,f10⟩:=cells11 H.bF
 go_wp2_with (go_at_call 49;(with_reducible refine (back_uN A B C L a b c d s i r0 0 _ hs H.rs).mono ?_);rintro e wz hN;have hz:=hN.2;obtain ⟨A9,B9,C9,L9,a9,b9,c9,d9,he,_,_,_,_,_⟩:=hN.1 wz (Turn.refl _ _);subst he;have HN:=hid hN;clear hN;have kR:=(hz.block (w.heap.size+1+1) z2).trans H.bR;have kb:=bstep H.be hz;obtain ⟨q0,q1,q2,q3,q4,qf0,qf1,qf2,qf3,qf4⟩:=cf5 kR)
 refine bodyPost_ret (v:=.agg (uS A9 B9 C9 L9 a9 b9 c9 d9 (pBack s i r0 0))) (by simp [uS,results,Tryz.results27,go_sem,q0,q1,q2,q3,q4]) rfl ?_
 exact ret_resN _ _ _ _ _ HN.out z2 (by omega) kb
theorem adrop_x (A B C L:Option Addr) (a b c d:Nat) (s:Sy) (i:Int) (AS:Option Addr) (cS:Nat) (op pc r0 r1 r2 r3 r4 r5 r6 r7:Int) (xs:List Int) (w:World) (hs:SyFew s) (hg:2≤s.M.G.length) (h:RS w s A B C L) (hS:Row w AS xs) (h6:xs.length≤1000000) (hp:pTop s i = some ⟨op,pc,[r0,r1,r2,r3,r4,r5,r6,r7],xs⟩) (q0:¬ pc = 0) (q1:¬ pc = 1) :
  Calls Tryz.prog 27 #[.agg (uS A B C L a b c d s),.int .i64 i,.agg (uF op pc r0 r1 r2 r3 r4 r5 r6 r7 AS xs cS)] w (RetSysN w (s)):=by
 have e0:(pc == 0) = false:=by simpa using q0
 have e1:(pc == 1) = false:=by simpa using q1
 clear q0 q1
 have h0:=hs.1
 have h1:=hs.2.1
 have H:=SF.start w s A B C L a b c d (uF op pc r0 r1 r2 r3 r4 r5 r6 r7 AS xs cS) h
 clear h
 go_enter Tryz.func27,Tryz.ntmps27
 go_upto_region 1 with (fail)
 generalize (((w.alloc (.cells (uS A B C L a b c d s) 30)).alloc (.cells (uF op pc r0 r1 r2 r3 r4 r5 r6 r7 AS xs cS) 60)).alloc (.cells uZ 30)) = w1 at *
 obtain ⟨z0,z1,z2⟩:=H.zs
 obtain ⟨p0,p1,p2,p3,p4⟩:=cells5 H.bS
 obtain ⟨f0,f1,f2,f3,f4,f5,f6,f7,f8,f9,f10⟩:=cells11 H.bF
 have HSet:=hid (show ∀ w',RS w' s A B C L→Row w' AS xs→Calls Tryz.prog 50 #[.agg (uS A B C L a b c d s),.int .i64 i,.agg (uF op pc r0 r1 r2 r3 r4 r5 r6 r7 AS xs cS)] w' (RetSysN w' s) from fun w' k1 k2=>by have h9:=set_uN A B C L a b c d s i AS cS op pc r0 r1 r2 r3 r4 r5 r6 r7 xs w' hs k1 k2 h6;rw [pSet_top hp] at h9;exact h9)
 go_wp2_with (go_at_call 50;(with_reducible refine (HSet.out _ H.rs (hS.step H.be)).mono ?_);rintro e wz hN;have hz:=hN.2;obtain ⟨A9,B9,C9,L9,a9,b9,c9,d9,he,_,_,_,_,_⟩:=hN.1 wz (Turn.refl _ _);subst he;have HN:=hid hN;clear hN;have kR:=(hz.block (w.heap.size+1+1) z2).trans H.bR;have kb:=bstep H.be hz;obtain ⟨q0,q1,q2,q3,q4,qf0,qf1,qf2,qf3,qf4⟩:=cf5 kR)
 refine bodyPost_ret (v:=.agg (uS A9 B9 C9 L9 a9 b9 c9 d9 s)) (by simp [uS,results,Tryz.results27,go_sem,q0,q1,q2,q3,q4]) rfl ?_
 exact ret_resN _ _ _ _ _ HN.out z2 (by omega) kb
theorem aall_any (A B C L:Option Addr) (a b c d:Nat) (s:Sy) (k:Nat) (x:Co) (AS:Option Addr) (cS:Nat) (op pc r0 r1 r2 r3 r4 r5 r6 r7:Int) (xs:List Int) (w:World) (hs:SyFew s) (hg:2≤s.M.G.length) (h:RS w s A B C L) (hS:Row w AS xs) (h6:xs.length≤1000000) (hx:s.C[k]? = some x) (hp:pTop s k = some ⟨op,pc,[r0,r1,r2,r3,r4,r5,r6,r7],xs⟩) :
  Calls Tryz.prog 26 #[.agg (uS A B C L a b c d s),.int .i64 k,.agg (uF op pc r0 r1 r2 r3 r4 r5 r6 r7 AS xs cS)] w (RetSysN w (pAlloc s k ⟨op,pc,[r0,r1,r2,r3,r4,r5,r6,r7],xs⟩ s)):=by
 have hkl:k < s.C.length:=(List.getElem?_eq_some_iff.1 hx).1
 have kl:(k:Int) < (s.C.length:Int):=by omega
 have k0:(0:Int)≤(k:Int):=by omega
 obtain ⟨b0,o0,rfl,hbl,hat⟩:=h.C (by omega)
 obtain ⟨AF,AR,cF,cR,hcs,rF,rR,hcF,hcR⟩:=(hat k x hx).cs4
 have u0:w.cell? ⟨b0,o0+k * 7,none⟩ = some (.slice AF x.F.length cF):=hcs 0 _ rfl
 have u1:w.cell? ⟨b0,o0+k * 7+1,none⟩ = some (.int .i64 x.v):=hcs 1 _ rfl
 have u2:w.cell? ⟨b0,o0+k * 7+2,none⟩ = some (.int .i64 x.e):=hcs 2 _ rfl
 have u3:w.cell? ⟨b0,o0+k * 7+3,none⟩ = some (.int .i64 x.x0):=hcs 3 _ rfl
 have u4:w.cell? ⟨b0,o0+k * 7+4,none⟩ = some (.int .i64 x.x1):=hcs 4 _ rfl
 have u5:w.cell? ⟨b0,o0+k * 7+5,none⟩ = some (.int .i64 x.x2):=hcs 5 _ rfl
 have u6:w.cell? ⟨b0,o0+k * 7+6,none⟩ = some (.slice AR x.ret.length cR):=hcs 6 _ rfl
 have HX:=hid hx
 clear hat hcs hx rF hcF
 have h0:=hs.1
 have h1:=hs.2.1
 have H:=SF.start w s A B (some ⟨b0,o0,none⟩) L a b c d (uF op pc r0 r1 r2 r3 r4 r5 r6 r7 AS xs cS) h
 clear h
 go_enter Tryz.func26,Tryz.ntmps26
 go_upto_region 1 with (fail)
 generalize (((w.alloc (.cells (uS A B (some ⟨b0,o0,none⟩) L a b c d s) 30)).alloc (.cells (uF op pc r0 r1 r2 r3 r4 r5 r6 r7 AS xs cS) 60)).alloc (.cells uZ 30)) = w1 at *
 obtain ⟨z0,z1,z2⟩:=H.zs
 have d0:=(H.be.cell hbl).trans u0
 have d1:=(H.be.cell hbl).trans u1
 have d2:=(H.be.cell hbl).trans u2
 have d3:=(H.be.cell hbl).trans u3
 have d4:=(H.be.cell hbl).trans u4
 have d5:=(H.be.cell hbl).trans u5
 have d6:=(H.be.cell hbl).trans u6
 obtain ⟨p0,p1,p2,p3,p4⟩:=cells5 H.bS
 obtain ⟨f0,f1,f2,f3,f4,f5,f6,f7,f8,f9,f10⟩:=cells11 H.bF
 go_upto_region 2 with (fail)
 have hbx:Below w1.heap.size w1 (w1.alloc (.cells #[.slice AF x.F.length cF,.int .i64 x.v,.int .i64 x.e,.int .i64 x.x0,.int .i64 x.x1,.int .i64 x.x2,.slice AR x.ret.length cR] 39)):=boxed _ _
 have K:=H.step hbx
 have bC:=heap_alloc_new w1 (.cells #[.slice AF x.F.length cF,.int .i64 x.v,.int .i64 x.e,.int .i64 x.x0,.int .i64 x.x1,.int .i64 x.x2,.slice AR x.ret.length cR] 39)
 clear H hbx z0 z1 z2 d0 u0 d1 u1 d2 u2 d3 u3 d4 u4 d5 u5 d6 u6
 obtain ⟨vC,hv⟩:∃ v,w1.heap.size = v:=⟨_,rfl⟩
 rw [hv] at bC ⊢
 clear hv
 generalize (w1.alloc (.cells #[.slice AF x.F.length cF,.int .i64 x.v,.int .i64 x.e,.int .i64 x.x0,.int .i64 x.x1,.int .i64 x.x2,.slice AR x.ret.length cR] 39)) = w2 at *
 have H:=K
 clear K
 clear p0 p1 p2 p3 p4 f0 f1 f2 f3 f4 f5 f6 f7 f8 f9 f10
 obtain ⟨z0,z1,z2⟩:=H.zs
 obtain ⟨g0,g1,g2,g3,g4,g5,g6⟩:=cells7 bC
 obtain ⟨p0,p1,p2,p3,p4⟩:=cells5 H.bS
 obtain ⟨f0,f1,f2,f3,f4,f5,f6,f7,f8,f9,f10⟩:=cells11 H.bF
 by_cases q0:pc = 0
 ·subst q0
  have hres:pAlloc s k ⟨op,0,[r0,r1,r2,r3,r4,r5,r6,r7],xs⟩ s = pThen s k ⟨op,0,[r0,r1,r2,r3,r4,r5,r6,r7],xs⟩ 1 1 0:=by unfold pAlloc;rw [if_pos rfl]
  have HRS:=hid hres
  rw [hres]
  clear hres
  have HA:=hid (show ∀ w',RS w' s A B (some ⟨b0,o0,none⟩) L→Row w' AS xs→Calls Tryz.prog 48 #[.agg (uS A B (some ⟨b0,o0,none⟩) L a b c d s),.int .i64 k,.agg (uF op 0 r0 r1 r2 r3 r4 r5 r6 r7 AS xs cS),.int .i64 1,.slice none 0 0] w' (RetSysN w' (pThen s k ⟨op,0,[r0,r1,r2,r3,r4,r5,r6,r7],xs⟩ 1 1 0)) from fun w' k1 k2=>acall_0 A B (some ⟨b0,o0,none⟩) L a b c d s k AS cS op 0 r0 r1 r2 r3 r4 r5 r6 r7 xs 1 1 w' hs hg k1 k2 h6 (by unfold wrap64;rfl))
  go_wp2_with (go_at_call 48;(with_reducible refine (HA.out _ H.rs (hS.step H.be)).mono ?_);rintro e wz hN;have hz:=hN.2;obtain ⟨A9,B9,C9,L9,a9,b9,c9,d9,he,_,_,_,_,_⟩:=hN.1 wz (Turn.refl _ _);subst he;have HN:=hid hN;clear hN;have kR:=(hz.block (w.heap.size+1+1) z2).trans H.bR;have kb:=bstep H.be hz;obtain ⟨q0,q1,q2,q3,q4,qf0,qf1,qf2,qf3,qf4⟩:=cf5 kR)
  refine bodyPost_ret (v:=.agg (uS A9 B9 C9 L9 a9 b9 c9 d9 (pThen s k ⟨op,0,[r0,r1,r2,r3,r4,r5,r6,r7],xs⟩ 1 1 0))) (by simp [uS,results,Tryz.results26,go_sem,q0,q1,q2,q3,q4]) rfl ?_
  first | exact ret_resN _ _ _ _ _ HN.out z2 (by omega) kb | (rw [HRS.out];exact ret_resN _ _ _ _ _ HN.out z2 (by omega) kb)
 by_cases q1:pc = 1
 ·subst q1
  by_cases q:x.e = 0
  ·have qe:(x.e == 0) = true:=by simpa using q
   have hres:pAlloc s k ⟨op,1,[r0,r1,r2,r3,r4,r5,r6,r7],xs⟩ s = pBack s k x.v 0:=by unfold pAlloc;rw [if_neg (by simp),if_pos rfl,pE_nat HX.out,if_pos q,pV_nat HX.out]
   have HRS:=hid hres
   rw [hres]
   clear hres
   go_wp2_with (go_at_call 49;(with_reducible refine (back_uN A B (some ⟨b0,o0,none⟩) L a b c d s k x.v 0 _ hs H.rs).mono ?_);rintro e wz hN;have hz:=hN.2;obtain ⟨A9,B9,C9,L9,a9,b9,c9,d9,he,_,_,_,_,_⟩:=hN.1 wz (Turn.refl _ _);subst he;have HN:=hid hN;clear hN;have kR:=(hz.block (w.heap.size+1+1) z2).trans H.bR;have kb:=bstep H.be hz;obtain ⟨q0,q1,q2,q3,q4,qf0,qf1,qf2,qf3,qf4⟩:=cf5 kR)
   refine bodyPost_ret (v:=.agg (uS A9 B9 C9 L9 a9 b9 c9 d9 (pBack s k x.v 0))) (by simp [uS,results,Tryz.results26,go_sem,q0,q1,q2,q3,q4]) rfl ?_
   first | exact ret_resN _ _ _ _ _ HN.out z2 (by omega) kb | (rw [HRS.out];exact ret_resN _ _ _ _ _ HN.out z2 (by omega) kb)
  have qe:(x.e == 0) = false:=by simpa using q
  by_cases hn:x.ret.length = 0
  ·have qn:((x.ret.length:Int) == 0) = true:=by rw [hn];rfl
   have hres:pAlloc s k ⟨op,1,[r0,r1,r2,r3,r4,r5,r6,r7],xs⟩ s = pBack s k 0 2:=by unfold pAlloc;rw [if_neg (by simp),if_pos rfl,pE_nat HX.out,if_neg q,pRet_nat HX.out,if_pos hn]
   have HRS:=hid hres
   rw [hres]
   clear hres
   go_wp2_with (go_at_call 49;(with_reducible refine (back_uN A B (some ⟨b0,o0,none⟩) L a b c d s k 0 2 _ hs H.rs).mono ?_);rintro e wz hN;have hz:=hN.2;obtain ⟨A9,B9,C9,L9,a9,b9,c9,d9,he,_,_,_,_,_⟩:=hN.1 wz (Turn.refl _ _);subst he;have HN:=hid hN;clear hN;have kR:=(hz.block (w.heap.size+1+1) z2).trans H.bR;have kb:=bstep H.be hz;obtain ⟨q0,q1,q2,q3,q4,qf0,qf1,qf2,qf3,qf4⟩:=cf5 kR)
   refine bodyPost_ret (v:=.agg (uS A9 B9 C9 L9 a9 b9 c9 d9 (pBack s k 0 2))) (by simp [uS,results,Tryz.results26,go_sem,q0,q1,q2,q3,q4]) rfl ?_
   first | exact ret_resN _ _ _ _ _ HN.out z2 (by omega) kb | (rw [HRS.out];exact ret_resN _ _ _ _ _ HN.out z2 (by omega) kb)
  ·have qn:((x.ret.length:Int) == 0) = false:=by rw [beq_eq_false_iff_ne];omega
   have hres:pAlloc s k ⟨op,1,[r0,r1,r2,r3,r4,r5,r6,r7],xs⟩ s = pThen s k ⟨op,1,[r0,r1,r2,r3,r4,r5,r6,r7],xs⟩ 2 6 0:=by unfold pAlloc;rw [if_neg (by simp),if_pos rfl,pE_nat HX.out,if_neg q,pRet_nat HX.out,if_neg hn]
   have HRS:=hid hres
   rw [hres]
   clear hres
   have HA:=hid (show ∀ w',RS w' s A B (some ⟨b0,o0,none⟩) L→Row w' AS xs→Calls Tryz.prog 48 #[.agg (uS A B (some ⟨b0,o0,none⟩) L a b c d s),.int .i64 k,.agg (uF op 1 r0 r1 r2 r3 r4 r5 r6 r7 AS xs cS),.int .i64 6,.slice none 0 0] w' (RetSysN w' (pThen s k ⟨op,1,[r0,r1,r2,r3,r4,r5,r6,r7],xs⟩ 2 6 0)) from fun w' k1 k2=>acall_0 A B (some ⟨b0,o0,none⟩) L a b c d s k AS cS op 1 r0 r1 r2 r3 r4 r5 r6 r7 xs 2 6 w' hs hg k1 k2 h6 (by unfold wrap64;rfl))
   go_wp2_with (go_at_call 48;(with_reducible refine (HA.out _ H.rs (hS.step H.be)).mono ?_);rintro e wz hN;have hz:=hN.2;obtain ⟨A9,B9,C9,L9,a9,b9,c9,d9,he,_,_,_,_,_⟩:=hN.1 wz (Turn.refl _ _);subst he;have HN:=hid hN;clear hN;have kR:=(hz.block (w.heap.size+1+1) z2).trans H.bR;have kb:=bstep H.be hz;obtain ⟨q0,q1,q2,q3,q4,qf0,qf1,qf2,qf3,qf4⟩:=cf5 kR)
   refine bodyPost_ret (v:=.agg (uS A9 B9 C9 L9 a9 b9 c9 d9 (pThen s k ⟨op,1,[r0,r1,r2,r3,r4,r5,r6,r7],xs⟩ 2 6 0))) (by simp [uS,results,Tryz.results26,go_sem,q0,q1,q2,q3,q4]) rfl ?_
   first | exact ret_resN _ _ _ _ _ HN.out z2 (by omega) kb | (rw [HRS.out];exact ret_resN _ _ _ _ _ HN.out z2 (by omega) kb)
 by_cases q2:pc = 2
 ·subst q2
  have hres:pAlloc s k ⟨op,2,[r0,r1,r2,r3,r4,r5,r6,r7],xs⟩ s = pThen s k ⟨op,2,[r0,r1,r2,r3,r4,r5,r6,r7],xs⟩ 3 1 0:=by unfold pAlloc;rw [if_neg (by simp),if_neg (by simp),if_pos rfl]
  have HRS:=hid hres
  rw [hres]
  clear hres
  have HA:=hid (show ∀ w',RS w' s A B (some ⟨b0,o0,none⟩) L→Row w' AS xs→Calls Tryz.prog 48 #[.agg (uS A B (some ⟨b0,o0,none⟩) L a b c d s),.int .i64 k,.agg (uF op 2 r0 r1 r2 r3 r4 r5 r6 r7 AS xs cS),.int .i64 1,.slice none 0 0] w' (RetSysN w' (pThen s k ⟨op,2,[r0,r1,r2,r3,r4,r5,r6,r7],xs⟩ 3 1 0)) from fun w' k1 k2=>acall_0 A B (some ⟨b0,o0,none⟩) L a b c d s k AS cS op 2 r0 r1 r2 r3 r4 r5 r6 r7 xs 3 1 w' hs hg k1 k2 h6 (by unfold wrap64;rfl))
  go_wp2_with (go_at_call 48;(with_reducible refine (HA.out _ H.rs (hS.step H.be)).mono ?_);rintro e wz hN;have hz:=hN.2;obtain ⟨A9,B9,C9,L9,a9,b9,c9,d9,he,_,_,_,_,_⟩:=hN.1 wz (Turn.refl _ _);subst he;have HN:=hid hN;clear hN;have kR:=(hz.block (w.heap.size+1+1) z2).trans H.bR;have kb:=bstep H.be hz;obtain ⟨q0,q1,q2,q3,q4,qf0,qf1,qf2,qf3,qf4⟩:=cf5 kR)
  refine bodyPost_ret (v:=.agg (uS A9 B9 C9 L9 a9 b9 c9 d9 (pThen s k ⟨op,2,[r0,r1,r2,r3,r4,r5,r6,r7],xs⟩ 3 1 0))) (by simp [uS,results,Tryz.results26,go_sem,q0,q1,q2,q3,q4]) rfl ?_
  first | exact ret_resN _ _ _ _ _ HN.out z2 (by omega) kb | (rw [HRS.out];exact ret_resN _ _ _ _ _ HN.out z2 (by omega) kb)
 by_cases q3:pc = 3
 ·subst q3
  have hres:pAlloc s k ⟨op,3,[r0,r1,r2,r3,r4,r5,r6,r7],xs⟩ s = pBack s k x.v x.e:=by unfold pAlloc;rw [if_neg (by simp),if_neg (by simp),if_neg (by simp),if_pos rfl,pV_nat HX.out,pE_nat HX.out]
  have HRS:=hid hres
  rw [hres]
  clear hres
  go_wp2_with (go_at_call 49;(with_reducible refine (back_uN A B (some ⟨b0,o0,none⟩) L a b c d s k x.v x.e _ hs H.rs).mono ?_);rintro e wz hN;have hz:=hN.2;obtain ⟨A9,B9,C9,L9,a9,b9,c9,d9,he,_,_,_,_,_⟩:=hN.1 wz (Turn.refl _ _);subst he;have HN:=hid hN;clear hN;have kR:=(hz.block (w.heap.size+1+1) z2).trans H.bR;have kb:=bstep H.be hz;obtain ⟨q0,q1,q2,q3,q4,qf0,qf1,qf2,qf3,qf4⟩:=cf5 kR)
  refine bodyPost_ret (v:=.agg (uS A9 B9 C9 L9 a9 b9 c9 d9 (pBack s k x.v x.e))) (by simp [uS,results,Tryz.results26,go_sem,q0,q1,q2,q3,q4]) rfl ?_
  first | exact ret_resN _ _ _ _ _ HN.out z2 (by omega) kb | (rw [HRS.out];exact ret_resN _ _ _ _ _ HN.out z2 (by omega) kb)
 have e0:(pc == 0) = false:=by simpa using q0
 have e1:(pc == 1) = false:=by simpa using q1
 have e2:(pc == 2) = false:=by simpa using q2
 have e3:(pc == 3) = false:=by simpa using q3
 have hres:pAlloc s k ⟨op,pc,[r0,r1,r2,r3,r4,r5,r6,r7],xs⟩ s = s:=by unfold pAlloc;rw [if_neg q0,if_neg q1,if_neg q2,if_neg q3]
 have HRS:=hid hres
 rw [hres]
 clear hres
 have HSet:=hid (show ∀ w',RS w' s A B (some ⟨b0,o0,none⟩) L→Row w' AS xs→Calls Tryz.prog 50 #[.agg (uS A B (some ⟨b0,o0,none⟩) L a b c d s),.int .i64 k,.agg (uF op pc r0 r1 r2 r3 r4 r5 r6 r7 AS xs cS)] w' (RetSysN w' s) from fun w' k1 k2=>by have h9:=set_uN A B (some ⟨b0,o0,none⟩) L a b c d s k AS cS op pc r0 r1 r2 r3 r4 r5 r6 r7 xs w' hs k1 k2 h6;rw [pSet_top hp] at h9;exact h9)
 go_wp2_with (go_at_call 50;(with_reducible refine (HSet.out _ H.rs (hS.step H.be)).mono ?_);rintro e wz hN;have hz:=hN.2;obtain ⟨A9,B9,C9,L9,a9,b9,c9,d9,he,_,_,_,_,_⟩:=hN.1 wz (Turn.refl _ _);subst he;have HN:=hid hN;clear hN;have kR:=(hz.block (w.heap.size+1+1) z2).trans H.bR;have kb:=bstep H.be hz;obtain ⟨q0,q1,q2,q3,q4,qf0,qf1,qf2,qf3,qf4⟩:=cf5 kR)
 refine bodyPost_ret (v:=.agg (uS A9 B9 C9 L9 a9 b9 c9 d9 s)) (by simp [uS,results,Tryz.results26,go_sem,q0,q1,q2,q3,q4]) rfl ?_
 first | exact ret_resN _ _ _ _ _ HN.out z2 (by omega) kb | (rw [HRS.out];exact ret_resN _ _ _ _ _ HN.out z2 (by omega) kb)
theorem alst_none (A B C L:Option Addr) (a b c d:Nat) (s:Sy) (i:Int) (w:World) (hs:SyFew s) (hg:2≤s.M.G.length) (h:RS w s A B C L) (hL:s.L.length≤999998) (hr:∀ f,pTop s i = some f→W64 (f.R.getD 0 0)) (hp:pTop s i = none) :
  Calls Tryz.prog 15 #[.agg (uS A B C L a b c d s),.int .i64 i] w (RetSysN w (pScan s i)):=by
 have HC:=hid (show ∀ w',RS w' s A B C L→Calls Tryz.prog 28 #[.agg (uS A B C L a b c d s),.int .i64 i] w' (RetSysN w' (pScan s i)) from fun w' k=>scst_any A B C L a b c d s i w' hs hg k hL hr)
 clear hL hr
 obtain ⟨t9,ht9⟩:∃ t,t = pScan s i:=⟨_,rfl⟩
 rw [← ht9] at HC ⊢
 clear ht9
 obtain ⟨b1,b2,bs⟩:=heap2 w (.cells (uS A B C L a b c d s) 30) (.cells uZ 30)
 have hb:Below w.heap.size w ((w.alloc (.cells (uS A B C L a b c d s) 30)).alloc (.cells uZ 30)):=bstep (boxed _ _) (boxed _ _)
 have z1:w.heap.size+1 < ((w.alloc (.cells (uS A B C L a b c d s) 30)).alloc (.cells uZ 30)).heap.size:=by simp
 clear bs
 go_enter Tryz.func15,Tryz.ntmps15
 go_upto_region 1 with (fail)
 generalize ((w.alloc (.cells (uS A B C L a b c d s) 30)).alloc (.cells uZ 30)) = w1 at *
 have K:=h.step hb
 obtain ⟨p0,p1,p2,p3,p4⟩:=cells5 b1
 go_upto_region 2 with (go_at_call 25;(with_reducible refine (top_no A B C L a b c d s i _ hs K hp).mono ?_);rintro e wk ⟨rfl,hk⟩)
 have rF:Row wk none []:=Row.nil _ _
 clear p0 p1 p2 p3 p4
 have hj:Below w1.heap.size w1 (wk.alloc (.cells #[.int .i64 0,.int .i64 0,.int .i64 0,.int .i64 0,.int .i64 0,.int .i64 0,.int .i64 0,.int .i64 0,.int .i64 0,.int .i64 0,.slice none 0 0] 60)):=bstep hk (boxed _ _)
 have b3:=heap_alloc_new wk (.cells #[.int .i64 0,.int .i64 0,.int .i64 0,.int .i64 0,.int .i64 0,.int .i64 0,.int .i64 0,.int .i64 0,.int .i64 0,.int .i64 0,.slice none 0 0] 60)
 replace b1:=(hj.block w.heap.size (by omega)).trans b1
 replace b2:=(hj.block (w.heap.size+1) z1).trans b2
 replace K:=K.step hj
 replace hb:=bstep hb hj
 replace z1:=Nat.lt_of_lt_of_le z1 hj.size
 replace rF:=rF.alloc (.cells #[.int .i64 0,.int .i64 0,.int .i64 0,.int .i64 0,.int .i64 0,.int .i64 0,.int .i64 0,.int .i64 0,.int .i64 0,.int .i64 0,.slice none 0 0] 60)
 clear hk hj
 obtain ⟨vF,hv⟩:∃ v,wk.heap.size = v:=⟨_,rfl⟩
 rw [hv] at b3 ⊢
 clear hv
 generalize (wk.alloc (.cells #[.int .i64 0,.int .i64 0,.int .i64 0,.int .i64 0,.int .i64 0,.int .i64 0,.int .i64 0,.int .i64 0,.int .i64 0,.int .i64 0,.slice none 0 0] 60)) = w3 at *
 obtain ⟨p0,p1,p2,p3,p4⟩:=cells5 b1
 obtain ⟨f0,f1,f2,f3,f4,f5,f6,f7,f8,f9,f10⟩:=cells11 b3
 go_wp2_with (go_at_call 28;(with_reducible refine (HC.out _ K).mono ?_);rintro e wz hN;have hz:=hN.2;obtain ⟨A9,B9,C9,L9,a9,b9,c9,d9,he,_,_,_,_,_⟩:=hN.1 wz (Turn.refl _ _);subst he;have HN:=hid hN;clear hN;have kR:=(hz.block (w.heap.size+1) z1).trans b2;have kb:=bstep hb hz;obtain ⟨q0,q1,q2,q3,q4,qf0,qf1,qf2,qf3,qf4⟩:=cf5 kR)
 refine bodyPost_ret (v:=.agg (uS A9 B9 C9 L9 a9 b9 c9 d9 t9)) (by simp [uS,results,Tryz.results15,go_sem,q0,q1,q2,q3,q4]) rfl ?_
 exact ret_resN _ _ _ _ _ HN.out z1 (by omega) kb
theorem alst_x (A B C L:Option Addr) (a b c d:Nat) (s:Sy) (i:Int) (op pc r0 r1 r2 r3 r4 r5 r6 r7:Int) (xs:List Int) (w:World) (hs:SyFew s) (hg:2≤s.M.G.length) (h:RS w s A B C L) (hL:s.L.length≤999998) (hr:∀ f,pTop s i = some f→W64 (f.R.getD 0 0)) (hp:pTop s i = some ⟨op,pc,[r0,r1,r2,r3,r4,r5,r6,r7],xs⟩) (h6:xs.length≤1000000) (o1:¬ op = 7) (o2:¬ op = 8) :
  Calls Tryz.prog 15 #[.agg (uS A B C L a b c d s),.int .i64 i] w (RetSysN w (pScan s i)):=by
 have e1:(op == 7) = false:=by simpa using o1
 have e2:(op == 8) = false:=by simpa using o2
 clear o1 o2
 have HC:=hid (show ∀ w',RS w' s A B C L→Calls Tryz.prog 28 #[.agg (uS A B C L a b c d s),.int .i64 i] w' (RetSysN w' (pScan s i)) from fun w' k=>scst_any A B C L a b c d s i w' hs hg k hL hr)
 clear hL hr
 obtain ⟨t9,ht9⟩:∃ t,t = pScan s i:=⟨_,rfl⟩
 rw [← ht9] at HC ⊢
 clear ht9
 obtain ⟨b1,b2,bs⟩:=heap2 w (.cells (uS A B C L a b c d s) 30) (.cells uZ 30)
 have hb:Below w.heap.size w ((w.alloc (.cells (uS A B C L a b c d s) 30)).alloc (.cells uZ 30)):=bstep (boxed _ _) (boxed _ _)
 have z1:w.heap.size+1 < ((w.alloc (.cells (uS A B C L a b c d s) 30)).alloc (.cells uZ 30)).heap.size:=by simp
 clear bs
 go_enter Tryz.func15,Tryz.ntmps15
 go_upto_region 1 with (fail)
 generalize ((w.alloc (.cells (uS A B C L a b c d s) 30)).alloc (.cells uZ 30)) = w1 at *
 have K:=h.step hb
 obtain ⟨p0,p1,p2,p3,p4⟩:=cells5 b1
 go_upto_region 2 with (go_at_call 25;(with_reducible refine (top_is A B C L a b c d s i op pc r0 r1 r2 r3 r4 r5 r6 r7 xs _ hs K hp h6).mono ?_);rintro e wk ⟨AF,cF,rfl,rF,hk⟩)
 clear p0 p1 p2 p3 p4
 have hj:Below w1.heap.size w1 (wk.alloc (.cells (uF op pc r0 r1 r2 r3 r4 r5 r6 r7 AF xs cF) 60)):=bstep hk (boxed _ _)
 have b3:=heap_alloc_new wk (.cells (uF op pc r0 r1 r2 r3 r4 r5 r6 r7 AF xs cF) 60)
 replace b1:=(hj.block w.heap.size (by omega)).trans b1
 replace b2:=(hj.block (w.heap.size+1) z1).trans b2
 replace K:=K.step hj
 replace hb:=bstep hb hj
 replace z1:=Nat.lt_of_lt_of_le z1 hj.size
 replace rF:=rF.alloc (.cells (uF op pc r0 r1 r2 r3 r4 r5 r6 r7 AF xs cF) 60)
 clear hk hj
 obtain ⟨vF,hv⟩:∃ v,wk.heap.size = v:=⟨_,rfl⟩
 rw [hv] at b3 ⊢
 clear hv
 generalize (wk.alloc (.cells (uF op pc r0 r1 r2 r3 r4 r5 r6 r7 AF xs cF) 60)) = w3 at *
 obtain ⟨p0,p1,p2,p3,p4⟩:=cells5 b1
 obtain ⟨f0,f1,f2,f3,f4,f5,f6,f7,f8,f9,f10⟩:=cells11 b3
 go_wp2_with (go_at_call 28;(with_reducible refine (HC.out _ K).mono ?_);rintro e wz hN;have hz:=hN.2;obtain ⟨A9,B9,C9,L9,a9,b9,c9,d9,he,_,_,_,_,_⟩:=hN.1 wz (Turn.refl _ _);subst he;have HN:=hid hN;clear hN;have kR:=(hz.block (w.heap.size+1) z1).trans b2;have kb:=bstep hb hz;obtain ⟨q0,q1,q2,q3,q4,qf0,qf1,qf2,qf3,qf4⟩:=cf5 kR)
 refine bodyPost_ret (v:=.agg (uS A9 B9 C9 L9 a9 b9 c9 d9 t9)) (by simp [uS,results,Tryz.results15,go_sem,q0,q1,q2,q3,q4]) rfl ?_
 exact ret_resN _ _ _ _ _ HN.out z1 (by omega) kb
theorem alst_allocate (A B C L:Option Addr) (a b c d:Nat) (s:Sy) (i:Int) (t9:Sy) (pc r0 r1 r2 r3 r4 r5 r6 r7:Int) (xs:List Int) (w:World) (hs:SyFew s) (hg:2≤s.M.G.length) (h:RS w s A B C L) (hp:pTop s i = some ⟨7,pc,[r0,r1,r2,r3,r4,r5,r6,r7],xs⟩) (h6:xs.length≤1000000)
  (HC:∀ (AF:Option Addr) (cF:Nat) w',RS w' s A B C L→Row w' AF xs→Calls Tryz.prog 26 #[.agg (uS A B C L a b c d s),.int .i64 i,.agg (uF 7 pc r0 r1 r2 r3 r4 r5 r6 r7 AF xs cF)] w' (RetSysN w' t9)) :
  Calls Tryz.prog 15 #[.agg (uS A B C L a b c d s),.int .i64 i] w (RetSysN w t9):=by
 have HC2:=hid HC
 clear HC
 obtain ⟨b1,b2,bs⟩:=heap2 w (.cells (uS A B C L a b c d s) 30) (.cells uZ 30)
 have hb:Below w.heap.size w ((w.alloc (.cells (uS A B C L a b c d s) 30)).alloc (.cells uZ 30)):=bstep (boxed _ _) (boxed _ _)
 have z1:w.heap.size+1 < ((w.alloc (.cells (uS A B C L a b c d s) 30)).alloc (.cells uZ 30)).heap.size:=by simp
 clear bs
 go_enter Tryz.func15,Tryz.ntmps15
 go_upto_region 1 with (fail)
 generalize ((w.alloc (.cells (uS A B C L a b c d s) 30)).alloc (.cells uZ 30)) = w1 at *
 have K:=h.step hb
 obtain ⟨p0,p1,p2,p3,p4⟩:=cells5 b1
 go_upto_region 2 with (go_at_call 25;(with_reducible refine (top_is A B C L a b c d s i 7 pc r0 r1 r2 r3 r4 r5 r6 r7 xs _ hs K hp h6).mono ?_);rintro e wk ⟨AF,cF,rfl,rF,hk⟩)
 clear p0 p1 p2 p3 p4
 have hj:Below w1.heap.size w1 (wk.alloc (.cells (uF 7 pc r0 r1 r2 r3 r4 r5 r6 r7 AF xs cF) 60)):=bstep hk (boxed _ _)
 have b3:=heap_alloc_new wk (.cells (uF 7 pc r0 r1 r2 r3 r4 r5 r6 r7 AF xs cF) 60)
 replace b1:=(hj.block w.heap.size (by omega)).trans b1
 replace b2:=(hj.block (w.heap.size+1) z1).trans b2
 replace K:=K.step hj
 replace hb:=bstep hb hj
 replace z1:=Nat.lt_of_lt_of_le z1 hj.size
 replace rF:=rF.alloc (.cells (uF 7 pc r0 r1 r2 r3 r4 r5 r6 r7 AF xs cF) 60)
 clear hk hj
 obtain ⟨vF,hv⟩:∃ v,wk.heap.size = v:=⟨_,rfl⟩
 rw [hv] at b3 ⊢
 clear hv
 generalize (wk.alloc (.cells (uF 7 pc r0 r1 r2 r3 r4 r5 r6 r7 AF xs cF) 60)) = w3 at *
 obtain ⟨p0,p1,p2,p3,p4⟩:=cells5 b1
 obtain ⟨f0,f1,f2,f3,f4,f5,f6,f7,f8,f9,f10⟩:=cells11 b3
 go_wp2_with (go_at_call 26;(with_reducible refine (HC2.out AF cF _ K rF).mono ?_);rintro e wz hN;have hz:=hN.2;obtain ⟨A9,B9,C9,L9,a9,b9,c9,d9,he,_,_,_,_,_⟩:=hN.1 wz (Turn.refl _ _);subst he;have HN:=hid hN;clear hN;have kR:=(hz.block (w.heap.size+1) z1).trans b2;have kb:=bstep hb hz;obtain ⟨q0,q1,q2,q3,q4,qf0,qf1,qf2,qf3,qf4⟩:=cf5 kR)
 refine bodyPost_ret (v:=.agg (uS A9 B9 C9 L9 a9 b9 c9 d9 t9)) (by simp [uS,results,Tryz.results15,go_sem,q0,q1,q2,q3,q4]) rfl ?_
 exact ret_resN _ _ _ _ _ HN.out z1 (by omega) kb
theorem alst_drop (A B C L:Option Addr) (a b c d:Nat) (s:Sy) (i:Int) (t9:Sy) (pc r0 r1 r2 r3 r4 r5 r6 r7:Int) (xs:List Int) (w:World) (hs:SyFew s) (hg:2≤s.M.G.length) (h:RS w s A B C L) (hp:pTop s i = some ⟨8,pc,[r0,r1,r2,r3,r4,r5,r6,r7],xs⟩) (h6:xs.length≤1000000)
  (HC:∀ (AF:Option Addr) (cF:Nat) w',RS w' s A B C L→Row w' AF xs→Calls Tryz.prog 27 #[.agg (uS A B C L a b c d s),.int .i64 i,.agg (uF 8 pc r0 r1 r2 r3 r4 r5 r6 r7 AF xs cF)] w' (RetSysN w' t9)) :
  Calls Tryz.prog 15 #[.agg (uS A B C L a b c d s),.int .i64 i] w (RetSysN w t9):=by
 have HC2:=hid HC
 clear HC
 obtain ⟨b1,b2,bs⟩:=heap2 w (.cells (uS A B C L a b c d s) 30) (.cells uZ 30)
 have hb:Below w.heap.size w ((w.alloc (.cells (uS A B C L a b c d s) 30)).alloc (.cells uZ 30)):=bstep (boxed _ _) (boxed _ _)
 have z1:w.heap.size+1 < ((w.alloc (.cells (uS A B C L a b c d s) 30)).alloc (.cells uZ 30)).heap.size:=by simp
 clear bs
 go_enter Tryz.func15,Tryz.ntmps15
 go_upto_region 1 with (fail)
 generalize ((w.alloc (.cells (uS A B C L a b c d s) 30)).alloc (.cells uZ 30)) = w1 at *
 have K:=h.step hb
 obtain ⟨p0,p1,p2,p3,p4⟩:=cells5 b1
 go_upto_region 2 with (go_at_call 25;(with_reducible refine (top_is A B C L a b c d s i 8 pc r0 r1 r2 r3 r4 r5 r6 r7 xs _ hs K hp h6).mono ?_);rintro e wk ⟨AF,cF,rfl,rF,hk⟩)
 clear p0 p1 p2 p3 p4
 have hj:Below w1.heap.size w1 (wk.alloc (.cells (uF 8 pc r0 r1 r2 r3 r4 r5 r6 r7 AF xs cF) 60)):=bstep hk (boxed _ _)
 have b3:=heap_alloc_new wk (.cells (uF 8 pc r0 r1 r2 r3 r4 r5 r6 r7 AF xs cF) 60)
 replace b1:=(hj.block w.heap.size (by omega)).trans b1
 replace b2:=(hj.block (w.heap.size+1) z1).trans b2
 replace K:=K.step hj
 replace hb:=bstep hb hj
 replace z1:=Nat.lt_of_lt_of_le z1 hj.size
 replace rF:=rF.alloc (.cells (uF 8 pc r0 r1 r2 r3 r4 r5 r6 r7 AF xs cF) 60)
 clear hk hj
 obtain ⟨vF,hv⟩:∃ v,wk.heap.size = v:=⟨_,rfl⟩
 rw [hv] at b3 ⊢
 clear hv
 generalize (wk.alloc (.cells (uF 8 pc r0 r1 r2 r3 r4 r5 r6 r7 AF xs cF) 60)) = w3 at *
 obtain ⟨p0,p1,p2,p3,p4⟩:=cells5 b1
 obtain ⟨f0,f1,f2,f3,f4,f5,f6,f7,f8,f9,f10⟩:=cells11 b3
 go_wp2_with (go_at_call 27;(with_reducible refine (HC2.out AF cF _ K rF).mono ?_);rintro e wz hN;have hz:=hN.2;obtain ⟨A9,B9,C9,L9,a9,b9,c9,d9,he,_,_,_,_,_⟩:=hN.1 wz (Turn.refl _ _);subst he;have HN:=hid hN;clear hN;have kR:=(hz.block (w.heap.size+1) z1).trans b2;have kb:=bstep hb hz;obtain ⟨q0,q1,q2,q3,q4,qf0,qf1,qf2,qf3,qf4⟩:=cf5 kR)
 refine bodyPost_ret (v:=.agg (uS A9 B9 C9 L9 a9 b9 c9 d9 t9)) (by simp [uS,results,Tryz.results15,go_sem,q0,q1,q2,q3,q4]) rfl ?_
 exact ret_resN _ _ _ _ _ HN.out z1 (by omega) kb
theorem alst_any (A B C L:Option Addr) (a b c d:Nat) (s:Sy) (i:Int) (w:World) (hs:SyFew s) (hg:2≤s.M.G.length) (h:RS w s A B C L) (hL:s.L.length≤999998) (hr:∀ f,pTop s i = some f→W64 (f.R.getD 0 0)) :
  Calls Tryz.prog 15 #[.agg (uS A B C L a b c d s),.int .i64 i] w (RetSysN w (pAlc s i)):=by
 rcases pTop_cases s i hs h.C with hp | ⟨op,pc,r0,r1,r2,r3,r4,r5,r6,r7,xs,hp,h6⟩
 ·have e:pAlc s i = pScan s i:=by unfold pAlc pScan;rw [hp]
  rw [e]
  exact alst_none A B C L a b c d s i w hs hg h hL hr hp
 ·by_cases o1:op = 7
  ·subst o1
   obtain ⟨k,n,x,rfl,hx,_,_⟩:=pTop_out hp
   have e:pAlc s (k:Int) = pAlloc s (k:Int) ⟨7,pc,[r0,r1,r2,r3,r4,r5,r6,r7],xs⟩ s:=by unfold pAlc;rw [hp];simp
   rw [e]
   refine alst_allocate A B C L a b c d s (k:Int) _ pc r0 r1 r2 r3 r4 r5 r6 r7 xs w hs hg h hp h6 (fun AF cF w' k1 k2=>?_)
   exact aall_any A B C L a b c d s k x AF cF 7 pc r0 r1 r2 r3 r4 r5 r6 r7 xs w' hs hg k1 k2 h6 hx hp
  ·by_cases o2:op = 8
   ·subst o2
    have e:pAlc s i = pDrop s i ⟨8,pc,[r0,r1,r2,r3,r4,r5,r6,r7],xs⟩ s:=by unfold pAlc;rw [hp];simp
    rw [e]
    refine alst_drop A B C L a b c d s i _ pc r0 r1 r2 r3 r4 r5 r6 r7 xs w hs hg h hp h6 (fun AF cF w' k1 k2=>?_)
    unfold pDrop
    by_cases q0:pc = 0
    ·subst q0;rw [if_pos rfl];exact adrop_0 A B C L a b c d s i AF cF 8 r0 r1 r2 r3 r4 r5 r6 r7 xs w' hs hg k1 k2 h6
    ·rw [if_neg q0]
     by_cases q1:pc = 1
     ·subst q1;rw [if_pos rfl];exact adrop_1 A B C L a b c d s i AF cF 8 r0 r1 r2 r3 r4 r5 r6 r7 xs w' hs hg k1 k2 h6
     ·rw [if_neg q1];exact adrop_x A B C L a b c d s i AF cF 8 pc r0 r1 r2 r3 r4 r5 r6 r7 xs w' hs hg k1 k2 h6 hp q0 q1
   ·have e:pAlc s i = pScan s i:=by unfold pAlc;rw [hp];simp [o1,o2]
    rw [e]
    exact alst_x A B C L a b c d s i op pc r0 r1 r2 r3 r4 r5 r6 r7 xs w hs hg h hL hr hp h6 o1 o2
end Go.Proofs.YtfipcdhodojodaaGreat
