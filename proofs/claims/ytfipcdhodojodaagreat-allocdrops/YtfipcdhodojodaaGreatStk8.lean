/- Contracts: a step of a push, and a step of a core, by the program. -/
import Derived.Test.YtfipcdhodojodaaGreatStk7
namespace Go.Proofs.YtfipcdhodojodaaGreat
open Go.RowKit
set_option maxRecDepth 100000
set_option maxHeartbeats 4000000
set_option linter.unusedVariables false
set_option linter.unusedSimpArgs false
theorem push_0 (A B C L:Option Addr) (a b c d:Nat) (s:Sy) (i:Int) (AS:Option Addr) (cS:Nat) (op r0 r1 r2 r3 r4 r5 r6 r7:Int) (xs:List Int) (d0:Sy) (w:World) (hs:SyFew s) (hg:2≤s.M.G.length) (h:RS w s A B C L) (hS:Row w AS xs) (h6:xs.length≤1000000)  :
  Calls Tryz.prog 98 #[.agg (uS A B C L a b c d s),.int .i64 i,.agg (uF op 0 r0 r1 r2 r3 r4 r5 r6 r7 AS xs cS)] w (RetSysN w (pPush s i ⟨op,0,[r0,r1,r2,r3,r4,r5,r6,r7],xs⟩ d0)):=by
 obtain ⟨s2,hs2⟩:∃ t,t = syMem s (mLoad s.M 0):=⟨_,rfl⟩
 obtain ⟨vv,hvv⟩:∃ v,v = mVal s.M 0:=⟨_,rfl⟩
 have HV:=hid hvv
 have HS2:=hid hs2
 have HC:=hid (show ∀ w',Row w' A s.M.W→Row w' B s.M.G→Calls Tryz.prog 105 #[.agg #[.slice A s.M.W.length a,.slice B s.M.G.length b,.bool s.M.bad],.int .i64 0] w' (RetMem2O w' A B s2.M (.int .i64 vv)) from fun w' k1 k2=>by have h9:=load_o A B a b s.M 0 w' k1 k2 hs.1 hs.2.1 hg (by omega) (by omega);rw [← hvv] at h9;rw [hs2];exact h9)
 have lW:s2.M.W.length = s.M.W.length:=by rw [hs2];rfl
 have lG:s2.M.G.length = s.M.G.length:=by rw [hs2];rfl
 have HW2:=hid lW
 have HG2:=hid lG
 have fw:SyFew s2:=by rw [hs2];exact few_mem hs rfl rfl
 clear lW lG
 have hres:pPush s i ⟨op,0,[r0,r1,r2,r3,r4,r5,r6,r7],xs⟩ d0 = pSet s2 i ⟨op,1,[r0,vv,r2,r3,r4,r5,r6,r7],xs⟩:=by unfold pPush;rw [if_pos rfl,hs2,hvv];rfl
 rw [hres]
 clear hres hs2 hvv
 have h0:=hs.1
 have h1:=hs.2.1
 have H:=SF.start w s A B C L a b c d (uF op 0 r0 r1 r2 r3 r4 r5 r6 r7 AS xs cS) h
 clear h
 go_enter Tryz.func98,Tryz.ntmps98
 go_upto_region 1 with (fail)
 generalize (((w.alloc (.cells (uS A B C L a b c d s) 30)).alloc (.cells (uF op 0 r0 r1 r2 r3 r4 r5 r6 r7 AS xs cS) 60)).alloc (.cells uZ 30)) = w1 at *
 obtain ⟨z0,z1,z2⟩:=H.zs
 obtain ⟨p0,p1,p2,p3,p4⟩:=cells5 H.bS
 obtain ⟨-,f1,f2,f3⟩:=cells4 H.bF
 obtain ⟨pf0,pf1,pf2,pf3,pf4⟩:=frz5 H.bS
 obtain ⟨-,ff1,ff2,ff3⟩:=frz4 H.bF
 go_upto_region 5 with (go_at_call 105;(with_reducible refine (HC.out _ H.rW H.rG).mono ?_);rintro e w4 ⟨A2,B2,a2,b2,rfl,s1,s3,hk4,F1,F2⟩;have KW:=H;have K4:=H.step hk4;obtain ⟨v0,v1,v2,v3,v4,vf0,vf1,vf2,vf3,vf4⟩:=cf5 K4.bS;obtain ⟨-,-,-,g0⟩:=cells4 K4.bF;obtain ⟨-,-,-,gf⟩:=frz4 K4.bF)
 have K6:=(K4.putM (m:=s2.M) (a2:=a2) (b2:=b2) s1 s3 (KW.whW F1 HW2.out) (KW.whG F2 HG2.out)).putF 3 (.int .i64 vv)
 generalize (((w4.setCell ⟨w.heap.size,0,none⟩ (.slice A2 s2.M.W.length a2)).setCell ⟨w.heap.size,1,none⟩ (.slice B2 s2.M.G.length b2)).setCell ⟨w.heap.size,2,none⟩ (.bool s2.M.bad)).setCell ⟨w.heap.size+1,3,none⟩ (.int .i64 vv) = w6 at *
 clear H K4 KW F1 F2 s1 s3 z0 z1 z2 g0 gf v0 vf0 v1 vf1 v2 vf2 v3 vf3 v4 vf4
 clear p0 p1 p2 p3 p4 f1 f2 f3 pf0 pf1 pf2 pf3 pf4 ff1 ff2 ff3
 have e2:syMem s s2.M = s2:=by rw [HS2.out];rfl
 rw [e2] at K6
 clear e2
 have H:SF w s2 A2 B2 C L a2 b2 c d (uF op 0 r0 vv r2 r3 r4 r5 r6 r7 AS xs cS) w6:=K6
 clear K6
 obtain ⟨z0,z1,z2⟩:=H.zs
 obtain ⟨f0,f1,f2,f3,f4,f5,f6,f7,f8,f9,f10,ff0,ff1,ff2,ff3,ff4,ff5,ff6,ff7,ff8,ff9,ff10⟩:=cf11 H.bF
 go_upto_region 11 with (fail)
 have K7:=H.putF 1 (.int .i64 1)
 clear H z0 z1 z2
 clear f0 f1 f2 f3 f4 f5 f6 f7 f8 f9 f10 ff0 ff1 ff2 ff3 ff4 ff5 ff6 ff7 ff8 ff9 ff10
 generalize w6.setCell ⟨w.heap.size+1,1,none⟩ (.int .i64 1) = w7 at *
 have H:SF w s2 A2 B2 C L a2 b2 c d (uF op 1 r0 vv r2 r3 r4 r5 r6 r7 AS xs cS) w7:=K7
 clear K7
 obtain ⟨z0,z1,z2⟩:=H.zs
 obtain ⟨p0,p1,p2,p3,p4⟩:=cells5 H.bS
 obtain ⟨f0,f1,f2,f3,f4,f5,f6,f7,f8,f9,f10⟩:=cells11 H.bF
 go_wp2_with (go_at_call 50;(with_reducible refine (set_uN A2 B2 C L a2 b2 c d s2 i AS cS op 1 r0 vv r2 r3 r4 r5 r6 r7 xs _ fw H.rs (hS.step H.be) h6).mono ?_);rintro e wz hN;have hz:=hN.2;obtain ⟨A9,B9,C9,L9,a9,b9,c9,d9,he,_,_,_,_,_⟩:=hN.1 wz (Turn.refl _ _);subst he;have HN:=hid hN;clear hN;have kR:=(hz.block (w.heap.size+1+1) z2).trans H.bR;have kb:=bstep H.be hz;obtain ⟨q0,q1,q2,q3,q4,qf0,qf1,qf2,qf3,qf4⟩:=cf5 kR)
 refine bodyPost_ret (v:=.agg (uS A9 B9 C9 L9 a9 b9 c9 d9 (pSet s2 i ⟨op,1,[r0,vv,r2,r3,r4,r5,r6,r7],xs⟩))) (by simp [uS,results,Tryz.results98,go_sem,q0,q1,q2,q3,q4]) rfl ?_
 exact ret_resN _ _ _ _ _ HN.out z2 (by omega) kb
theorem push_1 (A B C L:Option Addr) (a b c d:Nat) (s:Sy) (i:Int) (AS:Option Addr) (cS:Nat) (op r0 r1 r2 r3 r4 r5 r6 r7:Int) (xs:List Int) (d0:Sy) (w:World) (hs:SyFew s) (hg:2≤s.M.G.length) (h:RS w s A B C L) (hS:Row w AS xs) (h6:xs.length≤1000000)  :
  Calls Tryz.prog 98 #[.agg (uS A B C L a b c d s),.int .i64 i,.agg (uF op 1 r0 r1 r2 r3 r4 r5 r6 r7 AS xs cS)] w (RetSysN w (pPush s i ⟨op,1,[r0,r1,r2,r3,r4,r5,r6,r7],xs⟩ d0)):=by
 obtain ⟨s2,hs2⟩:∃ t,t = syMem s (mStore s.M (pLink r0) (pIdx r1)):=⟨_,rfl⟩
 have HS2:=hid hs2
 have hst:=mStore_len s.M (pLink r0) (pIdx r1)
 have lW:s2.M.W.length = s.M.W.length:=by rw [hs2];exact hst.1
 have lG:s2.M.G.length = s.M.G.length:=by rw [hs2];exact congrArg List.length hst.2
 have HW2:=hid lW
 have HG2:=hid lG
 have fw:SyFew s2:=by rw [hs2];exact few_mem hs hst.1 (congrArg List.length hst.2)
 clear lW lG hst
 have HC:=hid (show ∀ w',Row w' A s.M.W→Row w' B s.M.G→Calls Tryz.prog 55 #[.agg #[.slice A s.M.W.length a,.slice B s.M.G.length b,.bool s.M.bad],.int .i64 (pLink r0),.int .i64 (pIdx r1)] w' (RetMemO w' A B s2.M) from fun w' k1 k2=>by have h9:=store_o A B a b s.M (pLink r0) (pIdx r1) w' k1 k2 hs.1 hs.2.1 hg (pLink_bd _).1 (pLink_bd _).2;rw [hs2];exact h9)
 have hres:pPush s i ⟨op,1,[r0,r1,r2,r3,r4,r5,r6,r7],xs⟩ d0 = pSet s2 i ⟨op,2,[r0,r1,r2,r3,r4,r5,r6,r7],xs⟩:=by unfold pPush;rw [if_neg (by simp),if_pos rfl,hs2];rfl
 rw [hres]
 clear hres hs2
 have h0:=hs.1
 have h1:=hs.2.1
 have H:=SF.start w s A B C L a b c d (uF op 1 r0 r1 r2 r3 r4 r5 r6 r7 AS xs cS) h
 clear h
 go_enter Tryz.func98,Tryz.ntmps98
 go_upto_region 1 with (fail)
 generalize (((w.alloc (.cells (uS A B C L a b c d s) 30)).alloc (.cells (uF op 1 r0 r1 r2 r3 r4 r5 r6 r7 AS xs cS) 60)).alloc (.cells uZ 30)) = w1 at *
 obtain ⟨z0,z1,z2⟩:=H.zs
 obtain ⟨p0,p1,p2,p3,p4⟩:=cells5 H.bS
 obtain ⟨-,f1,f2,f3⟩:=cells4 H.bF
 obtain ⟨pf0,pf1,pf2,pf3,pf4⟩:=frz5 H.bS
 obtain ⟨-,ff1,ff2,ff3⟩:=frz4 H.bF
 go_upto_region 7 with (fail)
 go_cut [7] from 27 (fun s0 wx=>s0 = .int .i64 r0∧∃ (A2 B2:Option Addr) (a2 b2:Nat),SF w (syMem s s2.M) A2 B2 C L a2 b2 c d (uF op 1 r0 r1 r2 r3 r4 r5 r6 r7 AS xs cS) wx)
 case first =>
  go_region_with (first | (go_at_call 56;(with_reducible refine (link_any _ _).mono ?_);rintro e w3 ⟨rfl,rfl⟩) | (go_at_call 104;(with_reducible refine (Pk.index_any _ _).mono ?_);rintro e w3 ⟨rfl,hk3⟩;have hj3:Below w1.heap.size w1 w3:=bstep ((Below.refl _ _).drew) hk3;have K3:=H.step hj3;obtain ⟨u0,u1,u2⟩:=cells3 K3.bS;obtain ⟨-,-,-,u9⟩:=cells4 K3.bF) | (go_at_call 55;(with_reducible refine (HC.out _ K3.rW K3.rG).mono ?_);rintro e w4 ⟨A2,B2,a2,b2,rfl,s1,s3,hk4,F1,F2⟩;have KW:=K3;have K4:=K3.step hk4;obtain ⟨v0,v1,v2,v3,v4,vf0,vf1,vf2,vf3,vf4⟩:=cf5 K4.bS))
  all_goals go_wp2_with fail
  all_goals go_meet
  all_goals exact ⟨rfl,A2,B2,a2,b2,K4.putM s1 s3 (KW.whW F1 HW2.out) (KW.whG F2 HG2.out)⟩
 case rest =>
  obtain ⟨rfl,A2,B2,a2,b2,H2⟩:=hcut
  clear H z0 z1 z2 HC p0 p1 p2 p3 p4 f1 f2 f3 pf0 pf1 pf2 pf3 pf4 ff1 ff2 ff3
  have e2:syMem s s2.M = s2:=by rw [HS2.out];rfl
  rw [e2] at H2
  clear e2
  have H:=H2
  clear H2
  obtain ⟨z0,z1,z2⟩:=H.zs
  obtain ⟨f0,f1,f2,f3,f4,f5,f6,f7,f8,f9,f10,ff0,ff1,ff2,ff3,ff4,ff5,ff6,ff7,ff8,ff9,ff10⟩:=cf11 H.bF
  go_upto_region 11 with (fail)
  have K7:=H.putF 1 (.int .i64 2)
  clear H z0 z1 z2
  clear f0 f1 f2 f3 f4 f5 f6 f7 f8 f9 f10 ff0 ff1 ff2 ff3 ff4 ff5 ff6 ff7 ff8 ff9 ff10
  generalize wc.setCell ⟨w.heap.size+1,1,none⟩ (.int .i64 2) = w7 at *
  have H:SF w s2 A2 B2 C L a2 b2 c d (uF op 2 r0 r1 r2 r3 r4 r5 r6 r7 AS xs cS) w7:=K7
  clear K7
  obtain ⟨z0,z1,z2⟩:=H.zs
  obtain ⟨p0,p1,p2,p3,p4⟩:=cells5 H.bS
  obtain ⟨f0,f1,f2,f3,f4,f5,f6,f7,f8,f9,f10⟩:=cells11 H.bF
  go_wp2_with (go_at_call 50;(with_reducible refine (set_uN A2 B2 C L a2 b2 c d s2 i AS cS op 2 r0 r1 r2 r3 r4 r5 r6 r7 xs _ fw H.rs (hS.step H.be) h6).mono ?_);rintro e wz hN;have hz:=hN.2;obtain ⟨A9,B9,C9,L9,a9,b9,c9,d9,he,_,_,_,_,_⟩:=hN.1 wz (Turn.refl _ _);subst he;have HN:=hid hN;clear hN;have kR:=(hz.block (w.heap.size+1+1) z2).trans H.bR;have kb:=bstep H.be hz;obtain ⟨q0,q1,q2,q3,q4,qf0,qf1,qf2,qf3,qf4⟩:=cf5 kR)
  refine bodyPost_ret (v:=.agg (uS A9 B9 C9 L9 a9 b9 c9 d9 (pSet s2 i ⟨op,2,[r0,r1,r2,r3,r4,r5,r6,r7],xs⟩))) (by simp [uS,results,Tryz.results98,go_sem,q0,q1,q2,q3,q4]) rfl ?_
  exact ret_resN _ _ _ _ _ HN.out z2 (by omega) kb
theorem push_2 (A B C L:Option Addr) (a b c d:Nat) (s:Sy) (i:Int) (AS:Option Addr) (cS:Nat) (op r0 r1 r2 r3 r4 r5 r6 r7:Int) (xs:List Int) (d0:Sy) (w:World) (hs:SyFew s) (hg:2≤s.M.G.length) (h:RS w s A B C L) (hS:Row w AS xs) (h6:xs.length≤1000000)  :
  Calls Tryz.prog 98 #[.agg (uS A B C L a b c d s),.int .i64 i,.agg (uF op 2 r0 r1 r2 r3 r4 r5 r6 r7 AS xs cS)] w (RetSysN w (pPush s i ⟨op,2,[r0,r1,r2,r3,r4,r5,r6,r7],xs⟩ d0)):=by
 have hres:pPush s i ⟨op,2,[r0,r1,r2,r3,r4,r5,r6,r7],xs⟩ d0 = pSwap s i ⟨op,2,[r0,r1,r2,r3,r4,r5,r6,r7],xs⟩ r1 r0 r0 0:=by unfold pPush;rw [if_neg (by simp),if_neg (by simp),if_pos rfl];rfl
 rw [hres]
 clear hres
 have h0:=hs.1
 have h1:=hs.2.1
 have H:=SF.start w s A B C L a b c d (uF op 2 r0 r1 r2 r3 r4 r5 r6 r7 AS xs cS) h
 clear h
 go_enter Tryz.func98,Tryz.ntmps98
 go_upto_region 1 with (fail)
 generalize (((w.alloc (.cells (uS A B C L a b c d s) 30)).alloc (.cells (uF op 2 r0 r1 r2 r3 r4 r5 r6 r7 AS xs cS) 60)).alloc (.cells uZ 30)) = w1 at *
 obtain ⟨z0,z1,z2⟩:=H.zs
 obtain ⟨p0,p1,p2,p3,p4⟩:=cells5 H.bS
 obtain ⟨f0,f1,f2,f3,f4,f5,f6,f7,f8,f9,f10⟩:=cells11 H.bF
 go_wp2_with (go_at_call 107;(with_reducible refine (swap_any A B C L a b c d s i AS cS op 2 r0 r1 r2 r3 r4 r5 r6 r7 xs r1 r0 r0 0 _ hs hg H.rs (hS.step H.be) h6).mono ?_);rintro e wz hN;have hz:=hN.2;obtain ⟨A9,B9,C9,L9,a9,b9,c9,d9,he,_,_,_,_,_⟩:=hN.1 wz (Turn.refl _ _);subst he;have HN:=hid hN;clear hN;have kR:=(hz.block (w.heap.size+1+1) z2).trans H.bR;have kb:=bstep H.be hz;obtain ⟨q0,q1,q2,q3,q4,qf0,qf1,qf2,qf3,qf4⟩:=cf5 kR)
 refine bodyPost_ret (v:=.agg (uS A9 B9 C9 L9 a9 b9 c9 d9 (pSwap s i ⟨op,2,[r0,r1,r2,r3,r4,r5,r6,r7],xs⟩ r1 r0 r0 0))) (by simp [uS,results,Tryz.results98,go_sem,q0,q1,q2,q3,q4]) rfl ?_
 exact ret_resN _ _ _ _ _ HN.out z2 (by omega) kb
theorem push_x (A B C L:Option Addr) (a b c d:Nat) (s:Sy) (i:Int) (AS:Option Addr) (cS:Nat) (op pc r0 r1 r2 r3 r4 r5 r6 r7:Int) (xs:List Int) (d0:Sy) (w:World) (hs:SyFew s) (hg:2≤s.M.G.length) (h:RS w s A B C L) (hS:Row w AS xs) (h6:xs.length≤1000000) (q0:¬ pc = 0) (q1:¬ pc = 1) (q2:¬ pc = 2) (hd:d0 = pSet s i ⟨op,pc,[r0,r1,r2,r3,r4,r5,r6,r7],xs⟩) :
  Calls Tryz.prog 98 #[.agg (uS A B C L a b c d s),.int .i64 i,.agg (uF op pc r0 r1 r2 r3 r4 r5 r6 r7 AS xs cS)] w (RetSysN w (pPush s i ⟨op,pc,[r0,r1,r2,r3,r4,r5,r6,r7],xs⟩ d0)):=by
 have hres:pPush s i ⟨op,pc,[r0,r1,r2,r3,r4,r5,r6,r7],xs⟩ d0 = pSet s i ⟨op,pc,[r0,r1,r2,r3,r4,r5,r6,r7],xs⟩:=by unfold pPush;rw [if_neg q0,if_neg q1,if_neg q2];exact hd
 rw [hres]
 clear hres hd
 have e0:(pc == 0) = false:=by simpa using q0
 have e1:(pc == 1) = false:=by simpa using q1
 have e2:(pc == 2) = false:=by simpa using q2
 clear q0 q1 q2
 have h0:=hs.1
 have h1:=hs.2.1
 have H:=SF.start w s A B C L a b c d (uF op pc r0 r1 r2 r3 r4 r5 r6 r7 AS xs cS) h
 clear h
 go_enter Tryz.func98,Tryz.ntmps98
 go_upto_region 1 with (fail)
 generalize (((w.alloc (.cells (uS A B C L a b c d s) 30)).alloc (.cells (uF op pc r0 r1 r2 r3 r4 r5 r6 r7 AS xs cS) 60)).alloc (.cells uZ 30)) = w1 at *
 obtain ⟨z0,z1,z2⟩:=H.zs
 obtain ⟨p0,p1,p2,p3,p4⟩:=cells5 H.bS
 obtain ⟨f0,f1,f2,f3,f4,f5,f6,f7,f8,f9,f10⟩:=cells11 H.bF
 go_wp2_with (go_at_call 50;(with_reducible refine (set_uN A B C L a b c d s i AS cS op pc r0 r1 r2 r3 r4 r5 r6 r7 xs _ hs H.rs (hS.step H.be) h6).mono ?_);rintro e wz hN;have hz:=hN.2;obtain ⟨A9,B9,C9,L9,a9,b9,c9,d9,he,_,_,_,_,_⟩:=hN.1 wz (Turn.refl _ _);subst he;have HN:=hid hN;clear hN;have kR:=(hz.block (w.heap.size+1+1) z2).trans H.bR;have kb:=bstep H.be hz;obtain ⟨q0,q1,q2,q3,q4,qf0,qf1,qf2,qf3,qf4⟩:=cf5 kR)
 refine bodyPost_ret (v:=.agg (uS A9 B9 C9 L9 a9 b9 c9 d9 (pSet s i ⟨op,pc,[r0,r1,r2,r3,r4,r5,r6,r7],xs⟩))) (by simp [uS,results,Tryz.results98,go_sem,q0,q1,q2,q3,q4]) rfl ?_
 exact ret_resN _ _ _ _ _ HN.out z2 (by omega) kb
theorem push_any (A B C L:Option Addr) (a b c d:Nat) (s:Sy) (i:Int) (AS:Option Addr) (cS:Nat) (op pc r0 r1 r2 r3 r4 r5 r6 r7:Int) (xs:List Int) (d0:Sy) (w:World) (hs:SyFew s) (hg:2≤s.M.G.length) (h:RS w s A B C L) (hS:Row w AS xs) (h6:xs.length≤1000000) (hd:d0 = pSet s i ⟨op,pc,[r0,r1,r2,r3,r4,r5,r6,r7],xs⟩) :
  Calls Tryz.prog 98 #[.agg (uS A B C L a b c d s),.int .i64 i,.agg (uF op pc r0 r1 r2 r3 r4 r5 r6 r7 AS xs cS)] w (RetSysN w (pPush s i ⟨op,pc,[r0,r1,r2,r3,r4,r5,r6,r7],xs⟩ d0)):=by
 by_cases q0:pc = 0
 ·subst q0;exact push_0 A B C L a b c d s i AS cS op r0 r1 r2 r3 r4 r5 r6 r7 xs d0 w hs hg h hS h6
 ·by_cases q1:pc = 1
  ·subst q1;exact push_1 A B C L a b c d s i AS cS op r0 r1 r2 r3 r4 r5 r6 r7 xs d0 w hs hg h hS h6
  ·by_cases q2:pc = 2
   ·subst q2;exact push_2 A B C L a b c d s i AS cS op r0 r1 r2 r3 r4 r5 r6 r7 xs d0 w hs hg h hS h6
   ·exact push_x A B C L a b c d s i AS cS op pc r0 r1 r2 r3 r4 r5 r6 r7 xs d0 w hs hg h hS h6 q0 q1 q2 hd
end Go.Proofs.YtfipcdhodojodaaGreat
