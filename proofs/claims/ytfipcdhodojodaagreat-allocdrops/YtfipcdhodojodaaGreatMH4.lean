/- Contracts: a step of OClear, by the program. -/
import Derived.Test.YtfipcdhodojodaaGreatKHzA
import Derived.Test.YtfipcdhodojodaaGreatStk9
import Derived.Test.YtfipcdhodojodaaGreatMH2
namespace Go.Proofs.YtfipcdhodojodaaGreat
open Go.RowKit
set_option maxRecDepth 100000
set_option maxHeartbeats 4000000
set_option linter.unusedVariables false
set_option linter.unusedSimpArgs false
theorem clr_0 (A B C L:Option Addr) (a b c d:Nat) (s:Sy) (i:Int) (AS:Option Addr) (cS:Nat) (op r0 r1 r2 r3 r4 r5 r6 r7:Int) (xs:List Int) (d0:Sy) (w:World) (hs:SyFew s) (hg:2≤s.M.G.length) (h:RS w s A B C L) (hS:Row w AS xs) (h6:xs.length≤1000000)  :
  Calls Tryz.prog 100 #[.agg (uS A B C L a b c d s),.int .i64 i,.agg (uF op 0 r0 r1 r2 r3 r4 r5 r6 r7 AS xs cS)] w (RetSysN w (pClr s i ⟨op,0,[r0,r1,r2,r3,r4,r5,r6,r7],xs⟩ d0)):=by
 obtain ⟨s2,hs2⟩:∃ t,t = syMem s (mStore s.M (pPlace i 0) 0):=⟨_,rfl⟩
 have HS2:=hid hs2
 have hst:=mStore_len s.M (pPlace i 0) 0
 have lW:s2.M.W.length = s.M.W.length:=by rw [hs2];exact hst.1
 have lG:s2.M.G.length = s.M.G.length:=by rw [hs2];exact congrArg List.length hst.2
 have HW2:=hid lW
 have HG2:=hid lG
 have fw:SyFew s2:=by rw [hs2];exact few_mem hs hst.1 (congrArg List.length hst.2)
 clear lW lG hst
 have HC:=hid (show ∀ w',Row w' A s.M.W→Row w' B s.M.G→Calls Tryz.prog 55 #[.agg #[.slice A s.M.W.length a,.slice B s.M.G.length b,.bool s.M.bad],.int .i64 (pPlace i 0),.int .i64 0] w' (RetMemO w' A B s2.M) from fun w' k1 k2=>by have h9:=store_o A B a b s.M (pPlace i 0) 0 w' k1 k2 hs.1 hs.2.1 hg (pPlace_bd _ _).1 (pPlace_bd _ _).2;rw [hs2];exact h9)
 have hres:pClr s i ⟨op,0,[r0,r1,r2,r3,r4,r5,r6,r7],xs⟩ d0 = pSet s2 i ⟨op,1,[r0,r1,r2,r3,r4,r5,r6,r7],xs⟩:=by unfold pClr;exact (if_neg (by simp)).trans ((if_neg (by simp)).trans (by rw [hs2] <;> rfl))
 rw [hres]
 clear hres hs2
 have h0:=hs.1
 have h1:=hs.2.1
 have H:=SF.start w s A B C L a b c d (uF op 0 r0 r1 r2 r3 r4 r5 r6 r7 AS xs cS) h
 clear h
 go_enter Tryz.func100,Tryz.ntmps100
 go_upto_region 1 with (fail)
 generalize (((w.alloc (.cells (uS A B C L a b c d s) 30)).alloc (.cells (uF op 0 r0 r1 r2 r3 r4 r5 r6 r7 AS xs cS) 60)).alloc (.cells uZ 30)) = w1 at *
 obtain ⟨z0,z1,z2⟩:=H.zs
 obtain ⟨p0,p1,p2,p3,p4⟩:=cells5 H.bS
 obtain ⟨-,f1⟩:=cells2 H.bF
 obtain ⟨pf0,pf1,pf2,pf3,pf4⟩:=frz5 H.bS
 obtain ⟨-,ff1⟩:=frz2 H.bF
 go_upto_region 3 with (fail)
 have HD:=H.step ((Below.refl _ _).drew)
 go_cut [14] from 27 (fun s0 wx=>s0 = .bool false∧∃ (A2 B2:Option Addr) (a2 b2:Nat),SF w (syMem s s2.M) A2 B2 C L a2 b2 c d (uF op 0 r0 r1 r2 r3 r4 r5 r6 r7 AS xs cS) wx)
 case first =>
  go_region_with (first | (go_at_call 108;(with_reducible refine (place_w _ _ _).mono ?_);rintro e w3 ⟨rfl,rfl⟩) | (go_at_call 55;(with_reducible refine (HC.out _ HD.rW HD.rG).mono ?_);rintro e w4 ⟨A2,B2,a2,b2,rfl,s1,s3,hk4,F1,F2⟩;have KW:=HD;have K4:=HD.step hk4;obtain ⟨v0,v1,v2,v3,v4,vf0,vf1,vf2,vf3,vf4⟩:=cf5 K4.bS))
  all_goals go_wp2_with fail
  all_goals go_meet
  all_goals exact ⟨rfl,A2,B2,a2,b2,K4.putM s1 s3 (KW.whW F1 HW2.out) (KW.whG F2 HG2.out)⟩
 case rest =>
  obtain ⟨rfl,A2,B2,a2,b2,H2⟩:=hcut
  clear H z0 z1 z2 HC p0 p1 p2 p3 p4 f1 pf0 pf1 pf2 pf3 pf4 ff1
  have e2:syMem s s2.M = s2:=by rw [HS2.out];rfl
  rw [e2] at H2
  clear e2
  have H:=H2
  clear H2
  obtain ⟨z0,z1,z2⟩:=H.zs
  clear HD
  obtain ⟨f0,f1,f2,f3,f4,f5,f6,f7,f8,f9,f10,ff0,ff1,ff2,ff3,ff4,ff5,ff6,ff7,ff8,ff9,ff10⟩:=cf11 H.bF
  go_upto_region 5 with (fail)
  have K7:=H.putF 1 (.int .i64 1)
  clear H z0 z1 z2
  clear f0 f1 f2 f3 f4 f5 f6 f7 f8 f9 f10 ff0 ff1 ff2 ff3 ff4 ff5 ff6 ff7 ff8 ff9 ff10
  generalize wc.setCell ⟨w.heap.size+1,1,none⟩ (.int .i64 1) = w7 at *
  have H:SF w s2 A2 B2 C L a2 b2 c d (uF op 1 r0 r1 r2 r3 r4 r5 r6 r7 AS xs cS) w7:=K7
  clear K7
  obtain ⟨z0,z1,z2⟩:=H.zs
  obtain ⟨p0,p1,p2,p3,p4⟩:=cells5 H.bS
  obtain ⟨f0,f1,f2,f3,f4,f5,f6,f7,f8,f9,f10⟩:=cells11 H.bF
  go_wp2_with (go_at_call 50;(with_reducible refine (set_uN A2 B2 C L a2 b2 c d s2 i AS cS op 1 r0 r1 r2 r3 r4 r5 r6 r7 xs _ fw H.rs (hS.step H.be) h6).mono ?_);rintro e wz hN;have hz:=hN.2;obtain ⟨A9,B9,C9,L9,a9,b9,c9,d9,he,_,_,_,_,_⟩:=hN.1 wz (Turn.refl _ _);subst he;have HN:=hid hN;clear hN;have kR:=(hz.block (w.heap.size+1+1) z2).trans H.bR;have kb:=bstep H.be hz;obtain ⟨q0,q1,q2,q3,q4,qf0,qf1,qf2,qf3,qf4⟩:=cf5 kR)
  refine bodyPost_ret (v:=.agg (uS A9 B9 C9 L9 a9 b9 c9 d9 (pSet s2 i ⟨op,1,[r0,r1,r2,r3,r4,r5,r6,r7],xs⟩))) (by simp [uS,results,Tryz.results100,go_sem,q0,q1,q2,q3,q4]) rfl ?_
  exact ret_resN _ _ _ _ _ HN.out z2 (by omega) kb
theorem clr_1 (A B C L:Option Addr) (a b c d:Nat) (s:Sy) (i:Int) (AS:Option Addr) (cS:Nat) (op r0 r1 r2 r3 r4 r5 r6 r7:Int) (xs:List Int) (d0:Sy) (w:World) (hs:SyFew s) (hg:2≤s.M.G.length) (h:RS w s A B C L) (hS:Row w AS xs) (h6:xs.length≤1000000)  :
  Calls Tryz.prog 100 #[.agg (uS A B C L a b c d s),.int .i64 i,.agg (uF op 1 r0 r1 r2 r3 r4 r5 r6 r7 AS xs cS)] w (RetSysN w (pClr s i ⟨op,1,[r0,r1,r2,r3,r4,r5,r6,r7],xs⟩ d0)):=by
 obtain ⟨s2,hs2⟩:∃ t,t = syMem s (mStore s.M (pPlace i 1) 0):=⟨_,rfl⟩
 have HS2:=hid hs2
 have hst:=mStore_len s.M (pPlace i 1) 0
 have lW:s2.M.W.length = s.M.W.length:=by rw [hs2];exact hst.1
 have lG:s2.M.G.length = s.M.G.length:=by rw [hs2];exact congrArg List.length hst.2
 have HW2:=hid lW
 have HG2:=hid lG
 have fw:SyFew s2:=by rw [hs2];exact few_mem hs hst.1 (congrArg List.length hst.2)
 clear lW lG hst
 have HC:=hid (show ∀ w',Row w' A s.M.W→Row w' B s.M.G→Calls Tryz.prog 55 #[.agg #[.slice A s.M.W.length a,.slice B s.M.G.length b,.bool s.M.bad],.int .i64 (pPlace i 1),.int .i64 0] w' (RetMemO w' A B s2.M) from fun w' k1 k2=>by have h9:=store_o A B a b s.M (pPlace i 1) 0 w' k1 k2 hs.1 hs.2.1 hg (pPlace_bd _ _).1 (pPlace_bd _ _).2;rw [hs2];exact h9)
 have hres:pClr s i ⟨op,1,[r0,r1,r2,r3,r4,r5,r6,r7],xs⟩ d0 = pSet s2 i ⟨op,2,[r0,r1,r2,r3,r4,r5,r6,r7],xs⟩:=by unfold pClr;exact (if_neg (by simp)).trans ((if_neg (by simp)).trans (by rw [hs2] <;> rfl))
 rw [hres]
 clear hres hs2
 have h0:=hs.1
 have h1:=hs.2.1
 have H:=SF.start w s A B C L a b c d (uF op 1 r0 r1 r2 r3 r4 r5 r6 r7 AS xs cS) h
 clear h
 go_enter Tryz.func100,Tryz.ntmps100
 go_upto_region 1 with (fail)
 generalize (((w.alloc (.cells (uS A B C L a b c d s) 30)).alloc (.cells (uF op 1 r0 r1 r2 r3 r4 r5 r6 r7 AS xs cS) 60)).alloc (.cells uZ 30)) = w1 at *
 obtain ⟨z0,z1,z2⟩:=H.zs
 obtain ⟨p0,p1,p2,p3,p4⟩:=cells5 H.bS
 obtain ⟨-,f1⟩:=cells2 H.bF
 obtain ⟨pf0,pf1,pf2,pf3,pf4⟩:=frz5 H.bS
 obtain ⟨-,ff1⟩:=frz2 H.bF
 go_upto_region 3 with (fail)
 have HD:=H.step ((Below.refl _ _).drew)
 go_cut [14] from 27 (fun s0 wx=>s0 = .bool false∧∃ (A2 B2:Option Addr) (a2 b2:Nat),SF w (syMem s s2.M) A2 B2 C L a2 b2 c d (uF op 1 r0 r1 r2 r3 r4 r5 r6 r7 AS xs cS) wx)
 case first =>
  go_region_with (first | (go_at_call 108;(with_reducible refine (place_w _ _ _).mono ?_);rintro e w3 ⟨rfl,rfl⟩) | (go_at_call 55;(with_reducible refine (HC.out _ HD.rW HD.rG).mono ?_);rintro e w4 ⟨A2,B2,a2,b2,rfl,s1,s3,hk4,F1,F2⟩;have KW:=HD;have K4:=HD.step hk4;obtain ⟨v0,v1,v2,v3,v4,vf0,vf1,vf2,vf3,vf4⟩:=cf5 K4.bS))
  all_goals go_wp2_with fail
  all_goals go_meet
  all_goals exact ⟨rfl,A2,B2,a2,b2,K4.putM s1 s3 (KW.whW F1 HW2.out) (KW.whG F2 HG2.out)⟩
 case rest =>
  obtain ⟨rfl,A2,B2,a2,b2,H2⟩:=hcut
  clear H z0 z1 z2 HC p0 p1 p2 p3 p4 f1 pf0 pf1 pf2 pf3 pf4 ff1
  have e2:syMem s s2.M = s2:=by rw [HS2.out];rfl
  rw [e2] at H2
  clear e2
  have H:=H2
  clear H2
  obtain ⟨z0,z1,z2⟩:=H.zs
  clear HD
  obtain ⟨f0,f1,f2,f3,f4,f5,f6,f7,f8,f9,f10,ff0,ff1,ff2,ff3,ff4,ff5,ff6,ff7,ff8,ff9,ff10⟩:=cf11 H.bF
  go_upto_region 5 with (fail)
  have K7:=H.putF 1 (.int .i64 2)
  clear H z0 z1 z2
  clear f0 f1 f2 f3 f4 f5 f6 f7 f8 f9 f10 ff0 ff1 ff2 ff3 ff4 ff5 ff6 ff7 ff8 ff9 ff10
  generalize wc.setCell ⟨w.heap.size+1,1,none⟩ (.int .i64 2) = w7 at *
  have H:SF w s2 A2 B2 C L a2 b2 c d (uF op 2 r0 r1 r2 r3 r4 r5 r6 r7 AS xs cS) w7:=K7
  clear K7
  obtain ⟨z0,z1,z2⟩:=H.zs
  obtain ⟨p0,p1,p2,p3,p4⟩:=cells5 H.bS
  obtain ⟨f0,f1,f2,f3,f4,f5,f6,f7,f8,f9,f10⟩:=cells11 H.bF
  go_wp2_with (go_at_call 50;(with_reducible refine (set_uN A2 B2 C L a2 b2 c d s2 i AS cS op 2 r0 r1 r2 r3 r4 r5 r6 r7 xs _ fw H.rs (hS.step H.be) h6).mono ?_);rintro e wz hN;have hz:=hN.2;obtain ⟨A9,B9,C9,L9,a9,b9,c9,d9,he,_,_,_,_,_⟩:=hN.1 wz (Turn.refl _ _);subst he;have HN:=hid hN;clear hN;have kR:=(hz.block (w.heap.size+1+1) z2).trans H.bR;have kb:=bstep H.be hz;obtain ⟨q0,q1,q2,q3,q4,qf0,qf1,qf2,qf3,qf4⟩:=cf5 kR)
  refine bodyPost_ret (v:=.agg (uS A9 B9 C9 L9 a9 b9 c9 d9 (pSet s2 i ⟨op,2,[r0,r1,r2,r3,r4,r5,r6,r7],xs⟩))) (by simp [uS,results,Tryz.results100,go_sem,q0,q1,q2,q3,q4]) rfl ?_
  exact ret_resN _ _ _ _ _ HN.out z2 (by omega) kb
theorem clr_2 (A B C L:Option Addr) (a b c d:Nat) (s:Sy) (i:Int) (AS:Option Addr) (cS:Nat) (op r0 r1 r2 r3 r4 r5 r6 r7:Int) (xs:List Int) (d0:Sy) (w:World) (hs:SyFew s) (hg:2≤s.M.G.length) (h:RS w s A B C L) (hS:Row w AS xs) (h6:xs.length≤1000000)  :
  Calls Tryz.prog 100 #[.agg (uS A B C L a b c d s),.int .i64 i,.agg (uF op 2 r0 r1 r2 r3 r4 r5 r6 r7 AS xs cS)] w (RetSysN w (pClr s i ⟨op,2,[r0,r1,r2,r3,r4,r5,r6,r7],xs⟩ d0)):=by
 obtain ⟨s2,hs2⟩:∃ t,t = syMem s (mStore s.M (pPlace i 2) 0):=⟨_,rfl⟩
 have HS2:=hid hs2
 have hst:=mStore_len s.M (pPlace i 2) 0
 have lW:s2.M.W.length = s.M.W.length:=by rw [hs2];exact hst.1
 have lG:s2.M.G.length = s.M.G.length:=by rw [hs2];exact congrArg List.length hst.2
 have HW2:=hid lW
 have HG2:=hid lG
 have fw:SyFew s2:=by rw [hs2];exact few_mem hs hst.1 (congrArg List.length hst.2)
 clear lW lG hst
 have HC:=hid (show ∀ w',Row w' A s.M.W→Row w' B s.M.G→Calls Tryz.prog 55 #[.agg #[.slice A s.M.W.length a,.slice B s.M.G.length b,.bool s.M.bad],.int .i64 (pPlace i 2),.int .i64 0] w' (RetMemO w' A B s2.M) from fun w' k1 k2=>by have h9:=store_o A B a b s.M (pPlace i 2) 0 w' k1 k2 hs.1 hs.2.1 hg (pPlace_bd _ _).1 (pPlace_bd _ _).2;rw [hs2];exact h9)
 have hres:pClr s i ⟨op,2,[r0,r1,r2,r3,r4,r5,r6,r7],xs⟩ d0 = pBack s2 i 0 0:=by unfold pClr;exact (if_neg (by simp)).trans ((if_pos rfl).trans (by rw [hs2] <;> rfl))
 rw [hres]
 clear hres hs2
 have h0:=hs.1
 have h1:=hs.2.1
 have H:=SF.start w s A B C L a b c d (uF op 2 r0 r1 r2 r3 r4 r5 r6 r7 AS xs cS) h
 clear h
 go_enter Tryz.func100,Tryz.ntmps100
 go_upto_region 1 with (fail)
 generalize (((w.alloc (.cells (uS A B C L a b c d s) 30)).alloc (.cells (uF op 2 r0 r1 r2 r3 r4 r5 r6 r7 AS xs cS) 60)).alloc (.cells uZ 30)) = w1 at *
 obtain ⟨z0,z1,z2⟩:=H.zs
 obtain ⟨p0,p1,p2,p3,p4⟩:=cells5 H.bS
 obtain ⟨-,f1⟩:=cells2 H.bF
 obtain ⟨pf0,pf1,pf2,pf3,pf4⟩:=frz5 H.bS
 obtain ⟨-,ff1⟩:=frz2 H.bF
 go_upto_region 3 with (fail)
 have HD:=H.step ((Below.refl _ _).drew)
 go_cut [14] from 27 (fun s0 wx=>s0 = .bool false∧∃ (A2 B2:Option Addr) (a2 b2:Nat),SF w (syMem s s2.M) A2 B2 C L a2 b2 c d (uF op 2 r0 r1 r2 r3 r4 r5 r6 r7 AS xs cS) wx)
 case first =>
  go_region_with (first | (go_at_call 108;(with_reducible refine (place_w _ _ _).mono ?_);rintro e w3 ⟨rfl,rfl⟩) | (go_at_call 55;(with_reducible refine (HC.out _ HD.rW HD.rG).mono ?_);rintro e w4 ⟨A2,B2,a2,b2,rfl,s1,s3,hk4,F1,F2⟩;have KW:=HD;have K4:=HD.step hk4;obtain ⟨v0,v1,v2,v3,v4,vf0,vf1,vf2,vf3,vf4⟩:=cf5 K4.bS))
  all_goals go_wp2_with fail
  all_goals go_meet
  all_goals exact ⟨rfl,A2,B2,a2,b2,K4.putM s1 s3 (KW.whW F1 HW2.out) (KW.whG F2 HG2.out)⟩
 case rest =>
  obtain ⟨rfl,A2,B2,a2,b2,H2⟩:=hcut
  clear H z0 z1 z2 HC p0 p1 p2 p3 p4 f1 pf0 pf1 pf2 pf3 pf4 ff1
  have e2:syMem s s2.M = s2:=by rw [HS2.out];rfl
  rw [e2] at H2
  clear e2
  have H:=H2
  clear H2
  obtain ⟨z0,z1,z2⟩:=H.zs
  clear HD
  obtain ⟨f0,f1,f2,f3,f4,f5,f6,f7,f8,f9,f10,ff0,ff1,ff2,ff3,ff4,ff5,ff6,ff7,ff8,ff9,ff10⟩:=cf11 H.bF
  go_upto_region 5 with (fail)
  have K7:=H.putF 1 (.int .i64 3)
  clear H z0 z1 z2
  clear f0 f1 f2 f3 f4 f5 f6 f7 f8 f9 f10 ff0 ff1 ff2 ff3 ff4 ff5 ff6 ff7 ff8 ff9 ff10
  generalize wc.setCell ⟨w.heap.size+1,1,none⟩ (.int .i64 3) = w7 at *
  have H:SF w s2 A2 B2 C L a2 b2 c d (uF op 3 r0 r1 r2 r3 r4 r5 r6 r7 AS xs cS) w7:=K7
  clear K7
  obtain ⟨z0,z1,z2⟩:=H.zs
  obtain ⟨p0,p1,p2,p3,p4⟩:=cells5 H.bS
  obtain ⟨f0,f1,f2,f3,f4,f5,f6,f7,f8,f9,f10⟩:=cells11 H.bF
  go_wp2_with (go_at_call 49;(with_reducible refine (back_uN A2 B2 C L a2 b2 c d s2 i 0 0 _ fw H.rs).mono ?_);rintro e wz hN;have hz:=hN.2;obtain ⟨A9,B9,C9,L9,a9,b9,c9,d9,he,_,_,_,_,_⟩:=hN.1 wz (Turn.refl _ _);subst he;have HN:=hid hN;clear hN;have kR:=(hz.block (w.heap.size+1+1) z2).trans H.bR;have kb:=bstep H.be hz;obtain ⟨q0,q1,q2,q3,q4,qf0,qf1,qf2,qf3,qf4⟩:=cf5 kR)
  refine bodyPost_ret (v:=.agg (uS A9 B9 C9 L9 a9 b9 c9 d9 (pBack s2 i 0 0))) (by simp [uS,results,Tryz.results100,go_sem,q0,q1,q2,q3,q4]) rfl ?_
  exact ret_resN _ _ _ _ _ HN.out z2 (by omega) kb
theorem clr_lo (A B C L:Option Addr) (a b c d:Nat) (s:Sy) (i:Int) (AS:Option Addr) (cS:Nat) (op pc r0 r1 r2 r3 r4 r5 r6 r7:Int) (xs:List Int) (d0:Sy) (w:World) (hs:SyFew s) (hg:2≤s.M.G.length) (h:RS w s A B C L) (hS:Row w AS xs) (h6:xs.length≤1000000) (q0:pc < 0) (hd:d0 = pSet s i ⟨op,pc,[r0,r1,r2,r3,r4,r5,r6,r7],xs⟩) :
  Calls Tryz.prog 100 #[.agg (uS A B C L a b c d s),.int .i64 i,.agg (uF op pc r0 r1 r2 r3 r4 r5 r6 r7 AS xs cS)] w (RetSysN w (pClr s i ⟨op,pc,[r0,r1,r2,r3,r4,r5,r6,r7],xs⟩ d0)):=by
 have hres:pClr s i ⟨op,pc,[r0,r1,r2,r3,r4,r5,r6,r7],xs⟩ d0 = pSet s i ⟨op,pc,[r0,r1,r2,r3,r4,r5,r6,r7],xs⟩:=by unfold pClr;rw [if_pos (Or.inl q0)];exact hd
 rw [hres]
 clear hres hd
 have e0:decide (pc < 0) = true:=by simpa using q0
 clear q0
 have h0:=hs.1
 have h1:=hs.2.1
 have H:=SF.start w s A B C L a b c d (uF op pc r0 r1 r2 r3 r4 r5 r6 r7 AS xs cS) h
 clear h
 go_enter Tryz.func100,Tryz.ntmps100
 go_upto_region 1 with (fail)
 generalize (((w.alloc (.cells (uS A B C L a b c d s) 30)).alloc (.cells (uF op pc r0 r1 r2 r3 r4 r5 r6 r7 AS xs cS) 60)).alloc (.cells uZ 30)) = w1 at *
 obtain ⟨z0,z1,z2⟩:=H.zs
 obtain ⟨p0,p1,p2,p3,p4⟩:=cells5 H.bS
 obtain ⟨f0,f1,f2,f3,f4,f5,f6,f7,f8,f9,f10⟩:=cells11 H.bF
 go_wp2_with (go_at_call 50;(with_reducible refine (set_uN A B C L a b c d s i AS cS op pc r0 r1 r2 r3 r4 r5 r6 r7 xs _ hs H.rs (hS.step H.be) h6).mono ?_);rintro e wz hN;have hz:=hN.2;obtain ⟨A9,B9,C9,L9,a9,b9,c9,d9,he,_,_,_,_,_⟩:=hN.1 wz (Turn.refl _ _);subst he;have HN:=hid hN;clear hN;have kR:=(hz.block (w.heap.size+1+1) z2).trans H.bR;have kb:=bstep H.be hz;obtain ⟨q0,q1,q2,q3,q4,qf0,qf1,qf2,qf3,qf4⟩:=cf5 kR)
 refine bodyPost_ret (v:=.agg (uS A9 B9 C9 L9 a9 b9 c9 d9 (pSet s i ⟨op,pc,[r0,r1,r2,r3,r4,r5,r6,r7],xs⟩))) (by simp [uS,results,Tryz.results100,go_sem,q0,q1,q2,q3,q4]) rfl ?_
 exact ret_resN _ _ _ _ _ HN.out z2 (by omega) kb
theorem clr_hi (A B C L:Option Addr) (a b c d:Nat) (s:Sy) (i:Int) (AS:Option Addr) (cS:Nat) (op pc r0 r1 r2 r3 r4 r5 r6 r7:Int) (xs:List Int) (d0:Sy) (w:World) (hs:SyFew s) (hg:2≤s.M.G.length) (h:RS w s A B C L) (hS:Row w AS xs) (h6:xs.length≤1000000) (q0:2 < pc) (hd:d0 = pSet s i ⟨op,pc,[r0,r1,r2,r3,r4,r5,r6,r7],xs⟩) :
  Calls Tryz.prog 100 #[.agg (uS A B C L a b c d s),.int .i64 i,.agg (uF op pc r0 r1 r2 r3 r4 r5 r6 r7 AS xs cS)] w (RetSysN w (pClr s i ⟨op,pc,[r0,r1,r2,r3,r4,r5,r6,r7],xs⟩ d0)):=by
 have hres:pClr s i ⟨op,pc,[r0,r1,r2,r3,r4,r5,r6,r7],xs⟩ d0 = pSet s i ⟨op,pc,[r0,r1,r2,r3,r4,r5,r6,r7],xs⟩:=by unfold pClr;rw [if_pos (Or.inr q0)];exact hd
 rw [hres]
 clear hres hd
 have e0:decide (pc < 0) = false:=by simp;omega
 have e1:decide (3≤pc) = true:=by simp;omega
 clear q0
 have h0:=hs.1
 have h1:=hs.2.1
 have H:=SF.start w s A B C L a b c d (uF op pc r0 r1 r2 r3 r4 r5 r6 r7 AS xs cS) h
 clear h
 go_enter Tryz.func100,Tryz.ntmps100
 go_upto_region 1 with (fail)
 generalize (((w.alloc (.cells (uS A B C L a b c d s) 30)).alloc (.cells (uF op pc r0 r1 r2 r3 r4 r5 r6 r7 AS xs cS) 60)).alloc (.cells uZ 30)) = w1 at *
 obtain ⟨z0,z1,z2⟩:=H.zs
 obtain ⟨p0,p1,p2,p3,p4⟩:=cells5 H.bS
 obtain ⟨f0,f1,f2,f3,f4,f5,f6,f7,f8,f9,f10⟩:=cells11 H.bF
 go_wp2_with (go_at_call 50;(with_reducible refine (set_uN A B C L a b c d s i AS cS op pc r0 r1 r2 r3 r4 r5 r6 r7 xs _ hs H.rs (hS.step H.be) h6).mono ?_);rintro e wz hN;have hz:=hN.2;obtain ⟨A9,B9,C9,L9,a9,b9,c9,d9,he,_,_,_,_,_⟩:=hN.1 wz (Turn.refl _ _);subst he;have HN:=hid hN;clear hN;have kR:=(hz.block (w.heap.size+1+1) z2).trans H.bR;have kb:=bstep H.be hz;obtain ⟨q0,q1,q2,q3,q4,qf0,qf1,qf2,qf3,qf4⟩:=cf5 kR)
 refine bodyPost_ret (v:=.agg (uS A9 B9 C9 L9 a9 b9 c9 d9 (pSet s i ⟨op,pc,[r0,r1,r2,r3,r4,r5,r6,r7],xs⟩))) (by simp [uS,results,Tryz.results100,go_sem,q0,q1,q2,q3,q4]) rfl ?_
 exact ret_resN _ _ _ _ _ HN.out z2 (by omega) kb
theorem clr_any (A B C L:Option Addr) (a b c d:Nat) (s:Sy) (i:Int) (AS:Option Addr) (cS:Nat) (op pc r0 r1 r2 r3 r4 r5 r6 r7:Int) (xs:List Int) (d0:Sy) (w:World) (hs:SyFew s) (hg:2≤s.M.G.length) (h:RS w s A B C L) (hS:Row w AS xs) (h6:xs.length≤1000000) (hd:d0 = pSet s i ⟨op,pc,[r0,r1,r2,r3,r4,r5,r6,r7],xs⟩) :
  Calls Tryz.prog 100 #[.agg (uS A B C L a b c d s),.int .i64 i,.agg (uF op pc r0 r1 r2 r3 r4 r5 r6 r7 AS xs cS)] w (RetSysN w (pClr s i ⟨op,pc,[r0,r1,r2,r3,r4,r5,r6,r7],xs⟩ d0)):=by
 by_cases q0:pc < 0
 ·exact clr_lo A B C L a b c d s i AS cS op pc r0 r1 r2 r3 r4 r5 r6 r7 xs d0 w hs hg h hS h6 q0 hd
 ·by_cases q1:2 < pc
  ·exact clr_hi A B C L a b c d s i AS cS op pc r0 r1 r2 r3 r4 r5 r6 r7 xs d0 w hs hg h hS h6 q1 hd
  ·obtain rfl | rfl | rfl:pc = 0 ∨ pc = 1 ∨ pc = 2:=by omega
   ·exact clr_0 A B C L a b c d s i AS cS op r0 r1 r2 r3 r4 r5 r6 r7 xs d0 w hs hg h hS h6
   ·exact clr_1 A B C L a b c d s i AS cS op r0 r1 r2 r3 r4 r5 r6 r7 xs d0 w hs hg h hS h6
   ·exact clr_2 A B C L a b c d s i AS cS op r0 r1 r2 r3 r4 r5 r6 r7 xs d0 w hs hg h hS h6
theorem hstep_none (A B C L:Option Addr) (a b c d:Nat) (s:Sy) (i:Int) (w:World) (hs:SyFew s) (hg:2≤s.M.G.length) (h:RS w s A B C L) (hp:pTop s i = none) :
  Calls Tryz.prog 87 #[.agg (uS A B C L a b c d s),.int .i64 i] w (RetSysN w s):=by
 have HR:=pSet_none hp ⟨0,0,[0,0,0,0,0,0,0,0],[]⟩
 have HC:=hid (show ∀ w',RS w' s A B C L→Calls Tryz.prog 50 #[.agg (uS A B C L a b c d s),.int .i64 i,.agg #[.int .i64 0,.int .i64 0,.int .i64 0,.int .i64 0,.int .i64 0,.int .i64 0,.int .i64 0,.int .i64 0,.int .i64 0,.int .i64 0,.slice none 0 0]] w' (RetSysN w' s) from fun w' k=>by have h9:=set_uN A B C L a b c d s i none 0 0 0 0 0 0 0 0 0 0 0 [] w' hs k (Row.nil _ _) (by simp);rw [HR] at h9;exact h9)
 clear HR
 obtain ⟨b1,b2,bs⟩:=heap2 w (.cells (uS A B C L a b c d s) 30) (.cells uZ 30)
 have hb:Below w.heap.size w ((w.alloc (.cells (uS A B C L a b c d s) 30)).alloc (.cells uZ 30)):=bstep (boxed _ _) (boxed _ _)
 have z1:w.heap.size+1 < ((w.alloc (.cells (uS A B C L a b c d s) 30)).alloc (.cells uZ 30)).heap.size:=by simp
 clear bs
 go_enter Tryz.func87,Tryz.ntmps87
 go_upto_region 1 with (fail)
 generalize ((w.alloc (.cells (uS A B C L a b c d s) 30)).alloc (.cells uZ 30)) = w1 at *
 have K:=h.step hb
 obtain ⟨p0,p1,p2,p3,p4⟩:=cells5 b1
 go_upto_region 2 with (go_at_call 25;(with_reducible refine (top_no A B C L a b c d s i _ hs K hp).mono ?_);rintro e wk ⟨rfl,hk⟩)
 have rF:Row wk none []:=Row.nil _ _
 clear p0 p1 p2 p3 p4
 have hj:Below w1.heap.size w1 (wk.alloc (.cells #[.int .i64 0,.int .i64 0,.int .i64 0,.int .i64 0,.int .i64 0,.int .i64 0,.int .i64 0,.int .i64 0,.int .i64 0,.int .i64 0,.slice none 0 0] 60)):=bstep hk (boxed _ _)
 have b3:=heap_alloc_new wk (.cells #[.int .i64 0,.int .i64 0,.int .i64 0,.int .i64 0,.int .i64 0,.int .i64 0,.int .i64 0,.int .i64 0,.int .i64 0,.int .i64 0,.slice none 0 0] 60)
 replace b1:=(hj.block w.heap.size (by omega)).trans b1
 replace b2:=(hj.block (w.heap.size+1) z1).trans b2
 replace K:=K.step hj
 replace hb:=bstep hb hj
 replace z1:=Nat.lt_of_lt_of_le z1 hj.size
 replace rF:=rF.alloc (.cells #[.int .i64 0,.int .i64 0,.int .i64 0,.int .i64 0,.int .i64 0,.int .i64 0,.int .i64 0,.int .i64 0,.int .i64 0,.int .i64 0,.slice none 0 0] 60)
 clear hk hj
 obtain ⟨vF,hv⟩:∃ v,wk.heap.size = v:=⟨_,rfl⟩
 rw [hv] at b3 ⊢
 clear hv
 generalize (wk.alloc (.cells #[.int .i64 0,.int .i64 0,.int .i64 0,.int .i64 0,.int .i64 0,.int .i64 0,.int .i64 0,.int .i64 0,.int .i64 0,.int .i64 0,.slice none 0 0] 60)) = w3 at *
 obtain ⟨p0,p1,p2,p3,p4⟩:=cells5 b1
 obtain ⟨f0,f1,f2,f3,f4,f5,f6,f7,f8,f9,f10⟩:=cells11 b3
 go_wp2_with (go_at_call 50;(with_reducible refine (HC.out _ K).mono ?_);rintro e wz hN;have hz:=hN.2;obtain ⟨A9,B9,C9,L9,a9,b9,c9,d9,he,_,_,_,_,_⟩:=hN.1 wz (Turn.refl _ _);subst he;have HN:=hid hN;clear hN;have kR:=(hz.block (w.heap.size+1) z1).trans b2;have kb:=bstep hb hz;obtain ⟨q0,q1,q2,q3,q4,qf0,qf1,qf2,qf3,qf4⟩:=cf5 kR)
 refine bodyPost_ret (v:=.agg (uS A9 B9 C9 L9 a9 b9 c9 d9 s)) (by simp [uS,results,Tryz.results87,go_sem,q0,q1,q2,q3,q4]) rfl ?_
 exact ret_resN _ _ _ _ _ HN.out z1 (by omega) kb
theorem hstep_x (A B C L:Option Addr) (a b c d:Nat) (s:Sy) (i:Int) (op pc r0 r1 r2 r3 r4 r5 r6 r7:Int) (xs:List Int) (w:World) (hs:SyFew s) (hg:2≤s.M.G.length) (h:RS w s A B C L) (hp:pTop s i = some ⟨op,pc,[r0,r1,r2,r3,r4,r5,r6,r7],xs⟩) (h6:xs.length≤1000000) (o1:¬ op = 3) (o2:¬ op = 4) :
  Calls Tryz.prog 87 #[.agg (uS A B C L a b c d s),.int .i64 i] w (RetSysN w s):=by
 have e1:(op == 3) = false:=by simpa using o1
 have e2:(op == 4) = false:=by simpa using o2
 clear o1 o2
 have HR:=pSet_top hp
 have HC:=hid (show ∀ (AF:Option Addr) (cF:Nat) w',RS w' s A B C L→Row w' AF xs→Calls Tryz.prog 50 #[.agg (uS A B C L a b c d s),.int .i64 i,.agg (uF op pc r0 r1 r2 r3 r4 r5 r6 r7 AF xs cF)] w' (RetSysN w' s) from fun AF cF w' k k2=>by have h9:=set_uN A B C L a b c d s i AF cF op pc r0 r1 r2 r3 r4 r5 r6 r7 xs w' hs k k2 h6;rw [HR] at h9;exact h9)
 clear HR
 obtain ⟨b1,b2,bs⟩:=heap2 w (.cells (uS A B C L a b c d s) 30) (.cells uZ 30)
 have hb:Below w.heap.size w ((w.alloc (.cells (uS A B C L a b c d s) 30)).alloc (.cells uZ 30)):=bstep (boxed _ _) (boxed _ _)
 have z1:w.heap.size+1 < ((w.alloc (.cells (uS A B C L a b c d s) 30)).alloc (.cells uZ 30)).heap.size:=by simp
 clear bs
 go_enter Tryz.func87,Tryz.ntmps87
 go_upto_region 1 with (fail)
 generalize ((w.alloc (.cells (uS A B C L a b c d s) 30)).alloc (.cells uZ 30)) = w1 at *
 have K:=h.step hb
 obtain ⟨p0,p1,p2,p3,p4⟩:=cells5 b1
 go_upto_region 2 with (go_at_call 25;(with_reducible refine (top_is A B C L a b c d s i op pc r0 r1 r2 r3 r4 r5 r6 r7 xs _ hs K hp h6).mono ?_);rintro e wk ⟨AF,cF,rfl,rF,hk⟩)
 clear p0 p1 p2 p3 p4
 have hj:Below w1.heap.size w1 (wk.alloc (.cells (uF op pc r0 r1 r2 r3 r4 r5 r6 r7 AF xs cF) 60)):=bstep hk (boxed _ _)
 have b3:=heap_alloc_new wk (.cells (uF op pc r0 r1 r2 r3 r4 r5 r6 r7 AF xs cF) 60)
 replace b1:=(hj.block w.heap.size (by omega)).trans b1
 replace b2:=(hj.block (w.heap.size+1) z1).trans b2
 replace K:=K.step hj
 replace hb:=bstep hb hj
 replace z1:=Nat.lt_of_lt_of_le z1 hj.size
 replace rF:=rF.alloc (.cells (uF op pc r0 r1 r2 r3 r4 r5 r6 r7 AF xs cF) 60)
 clear hk hj
 obtain ⟨vF,hv⟩:∃ v,wk.heap.size = v:=⟨_,rfl⟩
 rw [hv] at b3 ⊢
 clear hv
 generalize (wk.alloc (.cells (uF op pc r0 r1 r2 r3 r4 r5 r6 r7 AF xs cF) 60)) = w3 at *
 obtain ⟨p0,p1,p2,p3,p4⟩:=cells5 b1
 obtain ⟨f0,f1,f2,f3,f4,f5,f6,f7,f8,f9,f10⟩:=cells11 b3
 go_wp2_with (go_at_call 50;(with_reducible refine (HC.out AF cF _ K rF).mono ?_);rintro e wz hN;have hz:=hN.2;obtain ⟨A9,B9,C9,L9,a9,b9,c9,d9,he,_,_,_,_,_⟩:=hN.1 wz (Turn.refl _ _);subst he;have HN:=hid hN;clear hN;have kR:=(hz.block (w.heap.size+1) z1).trans b2;have kb:=bstep hb hz;obtain ⟨q0,q1,q2,q3,q4,qf0,qf1,qf2,qf3,qf4⟩:=cf5 kR)
 refine bodyPost_ret (v:=.agg (uS A9 B9 C9 L9 a9 b9 c9 d9 s)) (by simp [uS,results,Tryz.results87,go_sem,q0,q1,q2,q3,q4]) rfl ?_
 exact ret_resN _ _ _ _ _ HN.out z1 (by omega) kb
theorem hstep_protect (A B C L:Option Addr) (a b c d:Nat) (s:Sy) (i:Int) (pc r0 r1 r2 r3 r4 r5 r6 r7:Int) (xs:List Int) (w:World) (hs:SyFew s) (hg:2≤s.M.G.length) (h:RS w s A B C L) (hr:W64 r0) (hp:pTop s i = some ⟨3,pc,[r0,r1,r2,r3,r4,r5,r6,r7],xs⟩) (h6:xs.length≤1000000) :
  Calls Tryz.prog 87 #[.agg (uS A B C L a b c d s),.int .i64 i] w (RetSysN w (pProt s i ⟨3,pc,[r0,r1,r2,r3,r4,r5,r6,r7],xs⟩ s)):=by
 have HC:=hid (show ∀ (AF:Option Addr) (cF:Nat) w',RS w' s A B C L→Row w' AF xs→Calls Tryz.prog 99 #[.agg (uS A B C L a b c d s),.int .i64 i,.agg (uF 3 pc r0 r1 r2 r3 r4 r5 r6 r7 AF xs cF)] w' (RetSysN w' (pProt s i ⟨3,pc,[r0,r1,r2,r3,r4,r5,r6,r7],xs⟩ s)) from fun AF cF w' k k2=>prot_any A B C L a b c d s i AF cF 3 pc r0 r1 r2 r3 r4 r5 r6 r7 xs s w' hs hg k k2 h6 hr (pSet_top hp).symm)
 obtain ⟨t9,ht9⟩:∃ t,t = pProt s i ⟨3,pc,[r0,r1,r2,r3,r4,r5,r6,r7],xs⟩ s:=⟨_,rfl⟩
 rw [← ht9] at HC ⊢
 clear ht9
 obtain ⟨b1,b2,bs⟩:=heap2 w (.cells (uS A B C L a b c d s) 30) (.cells uZ 30)
 have hb:Below w.heap.size w ((w.alloc (.cells (uS A B C L a b c d s) 30)).alloc (.cells uZ 30)):=bstep (boxed _ _) (boxed _ _)
 have z1:w.heap.size+1 < ((w.alloc (.cells (uS A B C L a b c d s) 30)).alloc (.cells uZ 30)).heap.size:=by simp
 clear bs
 go_enter Tryz.func87,Tryz.ntmps87
 go_upto_region 1 with (fail)
 generalize ((w.alloc (.cells (uS A B C L a b c d s) 30)).alloc (.cells uZ 30)) = w1 at *
 have K:=h.step hb
 obtain ⟨p0,p1,p2,p3,p4⟩:=cells5 b1
 go_upto_region 2 with (go_at_call 25;(with_reducible refine (top_is A B C L a b c d s i 3 pc r0 r1 r2 r3 r4 r5 r6 r7 xs _ hs K hp h6).mono ?_);rintro e wk ⟨AF,cF,rfl,rF,hk⟩)
 clear p0 p1 p2 p3 p4
 have hj:Below w1.heap.size w1 (wk.alloc (.cells (uF 3 pc r0 r1 r2 r3 r4 r5 r6 r7 AF xs cF) 60)):=bstep hk (boxed _ _)
 have b3:=heap_alloc_new wk (.cells (uF 3 pc r0 r1 r2 r3 r4 r5 r6 r7 AF xs cF) 60)
 replace b1:=(hj.block w.heap.size (by omega)).trans b1
 replace b2:=(hj.block (w.heap.size+1) z1).trans b2
 replace K:=K.step hj
 replace hb:=bstep hb hj
 replace z1:=Nat.lt_of_lt_of_le z1 hj.size
 replace rF:=rF.alloc (.cells (uF 3 pc r0 r1 r2 r3 r4 r5 r6 r7 AF xs cF) 60)
 clear hk hj
 obtain ⟨vF,hv⟩:∃ v,wk.heap.size = v:=⟨_,rfl⟩
 rw [hv] at b3 ⊢
 clear hv
 generalize (wk.alloc (.cells (uF 3 pc r0 r1 r2 r3 r4 r5 r6 r7 AF xs cF) 60)) = w3 at *
 obtain ⟨p0,p1,p2,p3,p4⟩:=cells5 b1
 obtain ⟨f0,f1,f2,f3,f4,f5,f6,f7,f8,f9,f10⟩:=cells11 b3
 go_wp2_with (go_at_call 99;(with_reducible refine (HC.out AF cF _ K rF).mono ?_);rintro e wz hN;have hz:=hN.2;obtain ⟨A9,B9,C9,L9,a9,b9,c9,d9,he,_,_,_,_,_⟩:=hN.1 wz (Turn.refl _ _);subst he;have HN:=hid hN;clear hN;have kR:=(hz.block (w.heap.size+1) z1).trans b2;have kb:=bstep hb hz;obtain ⟨q0,q1,q2,q3,q4,qf0,qf1,qf2,qf3,qf4⟩:=cf5 kR)
 refine bodyPost_ret (v:=.agg (uS A9 B9 C9 L9 a9 b9 c9 d9 t9)) (by simp [uS,results,Tryz.results87,go_sem,q0,q1,q2,q3,q4]) rfl ?_
 exact ret_resN _ _ _ _ _ HN.out z1 (by omega) kb
theorem hstep_clearSlot (A B C L:Option Addr) (a b c d:Nat) (s:Sy) (i:Int) (pc r0 r1 r2 r3 r4 r5 r6 r7:Int) (xs:List Int) (w:World) (hs:SyFew s) (hg:2≤s.M.G.length) (h:RS w s A B C L)  (hp:pTop s i = some ⟨4,pc,[r0,r1,r2,r3,r4,r5,r6,r7],xs⟩) (h6:xs.length≤1000000) :
  Calls Tryz.prog 87 #[.agg (uS A B C L a b c d s),.int .i64 i] w (RetSysN w (pClr s i ⟨4,pc,[r0,r1,r2,r3,r4,r5,r6,r7],xs⟩ s)):=by
 have HC:=hid (show ∀ (AF:Option Addr) (cF:Nat) w',RS w' s A B C L→Row w' AF xs→Calls Tryz.prog 100 #[.agg (uS A B C L a b c d s),.int .i64 i,.agg (uF 4 pc r0 r1 r2 r3 r4 r5 r6 r7 AF xs cF)] w' (RetSysN w' (pClr s i ⟨4,pc,[r0,r1,r2,r3,r4,r5,r6,r7],xs⟩ s)) from fun AF cF w' k k2=>clr_any A B C L a b c d s i AF cF 4 pc r0 r1 r2 r3 r4 r5 r6 r7 xs s w' hs hg k k2 h6  (pSet_top hp).symm)
 obtain ⟨t9,ht9⟩:∃ t,t = pClr s i ⟨4,pc,[r0,r1,r2,r3,r4,r5,r6,r7],xs⟩ s:=⟨_,rfl⟩
 rw [← ht9] at HC ⊢
 clear ht9
 obtain ⟨b1,b2,bs⟩:=heap2 w (.cells (uS A B C L a b c d s) 30) (.cells uZ 30)
 have hb:Below w.heap.size w ((w.alloc (.cells (uS A B C L a b c d s) 30)).alloc (.cells uZ 30)):=bstep (boxed _ _) (boxed _ _)
 have z1:w.heap.size+1 < ((w.alloc (.cells (uS A B C L a b c d s) 30)).alloc (.cells uZ 30)).heap.size:=by simp
 clear bs
 go_enter Tryz.func87,Tryz.ntmps87
 go_upto_region 1 with (fail)
 generalize ((w.alloc (.cells (uS A B C L a b c d s) 30)).alloc (.cells uZ 30)) = w1 at *
 have K:=h.step hb
 obtain ⟨p0,p1,p2,p3,p4⟩:=cells5 b1
 go_upto_region 2 with (go_at_call 25;(with_reducible refine (top_is A B C L a b c d s i 4 pc r0 r1 r2 r3 r4 r5 r6 r7 xs _ hs K hp h6).mono ?_);rintro e wk ⟨AF,cF,rfl,rF,hk⟩)
 clear p0 p1 p2 p3 p4
 have hj:Below w1.heap.size w1 (wk.alloc (.cells (uF 4 pc r0 r1 r2 r3 r4 r5 r6 r7 AF xs cF) 60)):=bstep hk (boxed _ _)
 have b3:=heap_alloc_new wk (.cells (uF 4 pc r0 r1 r2 r3 r4 r5 r6 r7 AF xs cF) 60)
 replace b1:=(hj.block w.heap.size (by omega)).trans b1
 replace b2:=(hj.block (w.heap.size+1) z1).trans b2
 replace K:=K.step hj
 replace hb:=bstep hb hj
 replace z1:=Nat.lt_of_lt_of_le z1 hj.size
 replace rF:=rF.alloc (.cells (uF 4 pc r0 r1 r2 r3 r4 r5 r6 r7 AF xs cF) 60)
 clear hk hj
 obtain ⟨vF,hv⟩:∃ v,wk.heap.size = v:=⟨_,rfl⟩
 rw [hv] at b3 ⊢
 clear hv
 generalize (wk.alloc (.cells (uF 4 pc r0 r1 r2 r3 r4 r5 r6 r7 AF xs cF) 60)) = w3 at *
 obtain ⟨p0,p1,p2,p3,p4⟩:=cells5 b1
 obtain ⟨f0,f1,f2,f3,f4,f5,f6,f7,f8,f9,f10⟩:=cells11 b3
 go_wp2_with (go_at_call 100;(with_reducible refine (HC.out AF cF _ K rF).mono ?_);rintro e wz hN;have hz:=hN.2;obtain ⟨A9,B9,C9,L9,a9,b9,c9,d9,he,_,_,_,_,_⟩:=hN.1 wz (Turn.refl _ _);subst he;have HN:=hid hN;clear hN;have kR:=(hz.block (w.heap.size+1) z1).trans b2;have kb:=bstep hb hz;obtain ⟨q0,q1,q2,q3,q4,qf0,qf1,qf2,qf3,qf4⟩:=cf5 kR)
 refine bodyPost_ret (v:=.agg (uS A9 B9 C9 L9 a9 b9 c9 d9 t9)) (by simp [uS,results,Tryz.results87,go_sem,q0,q1,q2,q3,q4]) rfl ?_
 exact ret_resN _ _ _ _ _ HN.out z1 (by omega) kb
theorem hstep_any (A B C L:Option Addr) (a b c d:Nat) (s:Sy) (i:Int) (w:World) (hs:SyFew s) (hg:2≤s.M.G.length) (h:RS w s A B C L) (hr:∀ f,pTop s i = some f→W64 (f.R.getD 0 0)) :
  Calls Tryz.prog 87 #[.agg (uS A B C L a b c d s),.int .i64 i] w (RetSysN w (pHaz s i)):=by
 rcases pTop_cases s i hs h.C with hp | ⟨op,pc,r0,r1,r2,r3,r4,r5,r6,r7,xs,hp,h6⟩
 ·have e:pHaz s i = s:=by unfold pHaz;rw [hp]
  rw [e]
  exact hstep_none A B C L a b c d s i w hs hg h hp
 ·by_cases o1:op = 3
  ·subst o1
   have e:pHaz s i = pProt s i ⟨3,pc,[r0,r1,r2,r3,r4,r5,r6,r7],xs⟩ s:=by unfold pHaz;rw [hp];simp
   rw [e]
   exact hstep_protect A B C L a b c d s i pc r0 r1 r2 r3 r4 r5 r6 r7 xs w hs hg h (hr _ hp) hp h6
  ·by_cases o2:op = 4
   ·subst o2
    have e:pHaz s i = pClr s i ⟨4,pc,[r0,r1,r2,r3,r4,r5,r6,r7],xs⟩ s:=by unfold pHaz;rw [hp];simp
    rw [e]
    exact hstep_clearSlot A B C L a b c d s i pc r0 r1 r2 r3 r4 r5 r6 r7 xs w hs hg h hp h6
   ·have e:pHaz s i = s:=by unfold pHaz;rw [hp];simp [o1,o2]
    rw [e]
    exact hstep_x A B C L a b c d s i op pc r0 r1 r2 r3 r4 r5 r6 r7 xs w hs hg h hp h6 o1 o2
end Go.Proofs.YtfipcdhodojodaaGreat
