/- Contracts: a step of a pop, by the program. -/
import Derived.Test.YtfipcdhodojodaaGreatStk6
namespace Go.Proofs.YtfipcdhodojodaaGreat
open Go.RowKit
set_option maxRecDepth 100000
set_option maxHeartbeats 4000000
set_option linter.unusedVariables false
set_option linter.unusedSimpArgs false
theorem pop_0a (A B C L:Option Addr) (a b c d:Nat) (s:Sy) (i:Int) (AS:Option Addr) (cS:Nat) (op r0 r1 r2 r3 r4 r5 r6 r7:Int) (xs:List Int) (d0:Sy) (w:World) (hs:SyFew s) (hg:2≤s.M.G.length) (h:RS w s A B C L) (hS:Row w AS xs) (h6:xs.length≤1000000) (hL:s.L.length≤999998) (hq:pIdx (mVal s.M 0) = 0) :
  Calls Tryz.prog 97 #[.agg (uS A B C L a b c d s),.int .i64 i,.agg (uF op 0 r0 r1 r2 r3 r4 r5 r6 r7 AS xs cS)] w (RetSysN w (pPop s i ⟨op,0,[r0,r1,r2,r3,r4,r5,r6,r7],xs⟩ d0)):=by
 obtain ⟨s2,hs2⟩:∃ t,t = syMem s (mLoad s.M 0):=⟨_,rfl⟩
 obtain ⟨vv,hvv⟩:∃ v,v = mVal s.M 0:=⟨_,rfl⟩
 have HV:=hid hvv
 have HS2:=hid hs2
 have HC:=hid (show ∀ w',Row w' A s.M.W→Row w' B s.M.G→Calls Tryz.prog 105 #[.agg #[.slice A s.M.W.length a,.slice B s.M.G.length b,.bool s.M.bad],.int .i64 0] w' (RetMem2O w' A B s2.M (.int .i64 vv)) from fun w' k1 k2=>by have h9:=load_o A B a b s.M 0 w' k1 k2 hs.1 hs.2.1 hg (by omega) (by omega);rw [← hvv] at h9;rw [hs2];exact h9)
 have lW:s2.M.W.length = s.M.W.length:=by rw [hs2];rfl
 have lG:s2.M.G.length = s.M.G.length:=by rw [hs2];rfl
 have HW2:=hid lW
 have HG2:=hid lG
 have fw:SyFew s2:=by rw [hs2];exact few_mem hs rfl rfl
 clear lW lG
 obtain ⟨t4,ht4⟩:∃ t,t = pLog s2 i 9 0 0 0:=⟨_,rfl⟩
 have ft:SyFew t4:=by rw [ht4];exact few_log fw (by rw [hs2];exact hL) i 9 0 0 0
 have HT4:=hid ht4
 have hres:pPop s i ⟨op,0,[r0,r1,r2,r3,r4,r5,r6,r7],xs⟩ d0 = pBack t4 i 0 2:=by unfold pPop;rw [if_pos rfl,if_pos hq,ht4,hs2]
 have hx:(pIdx vv == 0) = true:=by rw [hvv,hq];rfl
 rw [hres]
 clear hres hs2 hvv hq ht4
 have h0:=hs.1
 have h1:=hs.2.1
 have H:=SF.start w s A B C L a b c d (uF op 0 r0 r1 r2 r3 r4 r5 r6 r7 AS xs cS) h
 clear h
 go_enter Tryz.func97,Tryz.ntmps97
 go_upto_region 1 with (fail)
 generalize (((w.alloc (.cells (uS A B C L a b c d s) 30)).alloc (.cells (uF op 0 r0 r1 r2 r3 r4 r5 r6 r7 AS xs cS) 60)).alloc (.cells uZ 30)) = w1 at *
 obtain ⟨z0,z1,z2⟩:=H.zs
 obtain ⟨f0,f1,f2,f3,f4,f5,f6,f7,f8,f9,f10⟩:=cells11 H.bF
 go_upto_region 2 with (go_at_call 104;(with_reducible refine (Pk.index_any _ _).mono ?_);rintro e w2 ⟨rfl,hk⟩)
 clear f0 f1 f2 f3 f4 f5 f6 f7 f8 f9 f10
 replace H:=H.step hk
 clear hk z0 z1 z2
 obtain ⟨z0,z1,z2⟩:=H.zs
 obtain ⟨p0,p1,p2,p3,p4⟩:=cells5 H.bS
 obtain ⟨-,f1,f2⟩:=cells3 H.bF
 obtain ⟨pf0,pf1,pf2,pf3,pf4⟩:=frz5 H.bS
 obtain ⟨-,ff1,ff2⟩:=frz3 H.bF
 go_upto_region 5 with (go_at_call 105;(with_reducible refine (HC.out _ H.rW H.rG).mono ?_);rintro e w4 ⟨A2,B2,a2,b2,rfl,s1,s3,hk4,F1,F2⟩;have KW:=H;have K4:=H.step hk4;obtain ⟨v0,v1,v2,v3,v4,vf0,vf1,vf2,vf3,vf4⟩:=cf5 K4.bS;obtain ⟨-,-,g0⟩:=cells3 K4.bF;obtain ⟨-,-,gf⟩:=frz3 K4.bF)
 have K6:=(K4.putM (m:=s2.M) (a2:=a2) (b2:=b2) s1 s3 (KW.whW F1 HW2.out) (KW.whG F2 HG2.out)).putF 2 (.int .i64 vv)
 generalize (((w4.setCell ⟨w.heap.size,0,none⟩ (.slice A2 s2.M.W.length a2)).setCell ⟨w.heap.size,1,none⟩ (.slice B2 s2.M.G.length b2)).setCell ⟨w.heap.size,2,none⟩ (.bool s2.M.bad)).setCell ⟨w.heap.size+1,2,none⟩ (.int .i64 vv) = w6 at *
 clear H K4 KW F1 F2 s1 s3 z0 z1 z2 g0 gf v0 vf0 v1 vf1 v2 vf2 v3 vf3 v4 vf4
 clear p0 p1 p2 p3 p4 f1 f2 pf0 pf1 pf2 pf3 pf4 ff1 ff2
 have e2:syMem s s2.M = s2:=by rw [HS2.out];rfl
 rw [e2] at K6
 clear e2
 have H:SF w s2 A2 B2 C L a2 b2 c d (uF op 0 vv r1 r2 r3 r4 r5 r6 r7 AS xs cS) w6:=K6
 clear K6
 obtain ⟨z0,z1,z2⟩:=H.zs
 obtain ⟨p0,p1,p2,p3,p4⟩:=cells5 H.bS
 obtain ⟨f0,f1,f2,f3,f4,f5,f6,f7,f8,f9,f10⟩:=cells11 H.bF
 go_upto_region 6 with (go_at_call 104;(with_reducible refine (Pk.index_any _ _).mono ?_);rintro e w8 ⟨rfl,hk⟩)
 clear p0 p1 p2 p3 p4 f0 f1 f2 f3 f4 f5 f6 f7 f8 f9 f10
 replace H:=H.step hk
 clear hk z0 z1 z2
 obtain ⟨z0,z1,z2⟩:=H.zs
 obtain ⟨p0,p1,p2,p3,p4⟩:=cells5 H.bS
 go_wp2_with fail
 have h:=log_u A2 B2 C L a2 b2 c d s2 i 9 0 0 0 w8 fw H.rs
 rw [← HT4.out] at h
 refine h.mono ?_
 clear h
 rintro e w9 ⟨A5,B5,C5,L5,a5,b5,c5,d5,rfl,x1,x2,x3,x4,hk⟩
 clear p0 p1 p2 p3 p4
 replace H:=H.step hk
 clear hk z0 z1 z2
 obtain ⟨z0,z1,z2⟩:=H.zs
 go_wp2_with (go_at_call 49;(with_reducible refine (back_uN A5 B5 C5 L5 a5 b5 c5 d5 t4 i 0 2 _ ft ⟨x1,x2,x3,x4⟩).mono ?_);rintro e wz hN;have hz:=hN.2;obtain ⟨A9,B9,C9,L9,a9,b9,c9,d9,he,_,_,_,_,_⟩:=hN.1 wz (Turn.refl _ _);subst he;have HN:=hid hN;clear hN;have kR:=(hz.block (w.heap.size+1+1) z2).trans H.bR;have kb:=bstep H.be hz;obtain ⟨q0,q1,q2,q3,q4,qf0,qf1,qf2,qf3,qf4⟩:=cf5 kR)
 refine bodyPost_ret (v:=.agg (uS A9 B9 C9 L9 a9 b9 c9 d9 (pBack t4 i 0 2))) (by simp [uS,results,Tryz.results97,go_sem,q0,q1,q2,q3,q4]) rfl ?_
 exact ret_resN _ _ _ _ _ HN.out z2 (by omega) kb
theorem pop_0b (A B C L:Option Addr) (a b c d:Nat) (s:Sy) (i:Int) (AS:Option Addr) (cS:Nat) (op r0 r1 r2 r3 r4 r5 r6 r7:Int) (xs:List Int) (d0:Sy) (w:World) (hs:SyFew s) (hg:2≤s.M.G.length) (h:RS w s A B C L) (hS:Row w AS xs) (h6:xs.length≤1000000) (hq:¬ pIdx (mVal s.M 0) = 0) :
  Calls Tryz.prog 97 #[.agg (uS A B C L a b c d s),.int .i64 i,.agg (uF op 0 r0 r1 r2 r3 r4 r5 r6 r7 AS xs cS)] w (RetSysN w (pPop s i ⟨op,0,[r0,r1,r2,r3,r4,r5,r6,r7],xs⟩ d0)):=by
 obtain ⟨s2,hs2⟩:∃ t,t = syMem s (mLoad s.M 0):=⟨_,rfl⟩
 obtain ⟨vv,hvv⟩:∃ v,v = mVal s.M 0:=⟨_,rfl⟩
 have HV:=hid hvv
 have HS2:=hid hs2
 have HC:=hid (show ∀ w',Row w' A s.M.W→Row w' B s.M.G→Calls Tryz.prog 105 #[.agg #[.slice A s.M.W.length a,.slice B s.M.G.length b,.bool s.M.bad],.int .i64 0] w' (RetMem2O w' A B s2.M (.int .i64 vv)) from fun w' k1 k2=>by have h9:=load_o A B a b s.M 0 w' k1 k2 hs.1 hs.2.1 hg (by omega) (by omega);rw [← hvv] at h9;rw [hs2];exact h9)
 have lW:s2.M.W.length = s.M.W.length:=by rw [hs2];rfl
 have lG:s2.M.G.length = s.M.G.length:=by rw [hs2];rfl
 have HW2:=hid lW
 have HG2:=hid lG
 have fw:SyFew s2:=by rw [hs2];exact few_mem hs rfl rfl
 clear lW lG
 have hres:pPop s i ⟨op,0,[r0,r1,r2,r3,r4,r5,r6,r7],xs⟩ d0 = pSet s2 i ⟨op,1,[vv,r1,r2,r3,r4,r5,r6,r7],xs⟩:=by unfold pPop;rw [if_pos rfl,if_neg hq,hs2,hvv];rfl
 have hx:(pIdx vv == 0) = false:=by rw [hvv];simpa using hq
 rw [hres]
 clear hres hs2 hvv hq
 have h0:=hs.1
 have h1:=hs.2.1
 have H:=SF.start w s A B C L a b c d (uF op 0 r0 r1 r2 r3 r4 r5 r6 r7 AS xs cS) h
 clear h
 go_enter Tryz.func97,Tryz.ntmps97
 go_upto_region 1 with (fail)
 generalize (((w.alloc (.cells (uS A B C L a b c d s) 30)).alloc (.cells (uF op 0 r0 r1 r2 r3 r4 r5 r6 r7 AS xs cS) 60)).alloc (.cells uZ 30)) = w1 at *
 obtain ⟨z0,z1,z2⟩:=H.zs
 obtain ⟨f0,f1,f2,f3,f4,f5,f6,f7,f8,f9,f10⟩:=cells11 H.bF
 go_upto_region 2 with (go_at_call 104;(with_reducible refine (Pk.index_any _ _).mono ?_);rintro e w2 ⟨rfl,hk⟩)
 clear f0 f1 f2 f3 f4 f5 f6 f7 f8 f9 f10
 replace H:=H.step hk
 clear hk z0 z1 z2
 obtain ⟨z0,z1,z2⟩:=H.zs
 obtain ⟨p0,p1,p2,p3,p4⟩:=cells5 H.bS
 obtain ⟨-,f1,f2⟩:=cells3 H.bF
 obtain ⟨pf0,pf1,pf2,pf3,pf4⟩:=frz5 H.bS
 obtain ⟨-,ff1,ff2⟩:=frz3 H.bF
 go_upto_region 5 with (go_at_call 105;(with_reducible refine (HC.out _ H.rW H.rG).mono ?_);rintro e w4 ⟨A2,B2,a2,b2,rfl,s1,s3,hk4,F1,F2⟩;have KW:=H;have K4:=H.step hk4;obtain ⟨v0,v1,v2,v3,v4,vf0,vf1,vf2,vf3,vf4⟩:=cf5 K4.bS;obtain ⟨-,-,g0⟩:=cells3 K4.bF;obtain ⟨-,-,gf⟩:=frz3 K4.bF)
 have K6:=(K4.putM (m:=s2.M) (a2:=a2) (b2:=b2) s1 s3 (KW.whW F1 HW2.out) (KW.whG F2 HG2.out)).putF 2 (.int .i64 vv)
 generalize (((w4.setCell ⟨w.heap.size,0,none⟩ (.slice A2 s2.M.W.length a2)).setCell ⟨w.heap.size,1,none⟩ (.slice B2 s2.M.G.length b2)).setCell ⟨w.heap.size,2,none⟩ (.bool s2.M.bad)).setCell ⟨w.heap.size+1,2,none⟩ (.int .i64 vv) = w6 at *
 clear H K4 KW F1 F2 s1 s3 z0 z1 z2 g0 gf v0 vf0 v1 vf1 v2 vf2 v3 vf3 v4 vf4
 clear p0 p1 p2 p3 p4 f1 f2 pf0 pf1 pf2 pf3 pf4 ff1 ff2
 have e2:syMem s s2.M = s2:=by rw [HS2.out];rfl
 rw [e2] at K6
 clear e2
 have H:SF w s2 A2 B2 C L a2 b2 c d (uF op 0 vv r1 r2 r3 r4 r5 r6 r7 AS xs cS) w6:=K6
 clear K6
 obtain ⟨z0,z1,z2⟩:=H.zs
 obtain ⟨p0,p1,p2,p3,p4⟩:=cells5 H.bS
 obtain ⟨f0,f1,f2,f3,f4,f5,f6,f7,f8,f9,f10⟩:=cells11 H.bF
 go_upto_region 7 with (go_at_call 104;(with_reducible refine (Pk.index_any _ _).mono ?_);rintro e w8 ⟨rfl,hk⟩)
 clear p0 p1 p2 p3 p4 f0 f1 f2 f3 f4 f5 f6 f7 f8 f9 f10
 replace H:=H.step hk
 clear hk z0 z1 z2
 obtain ⟨z0,z1,z2⟩:=H.zs
 obtain ⟨f0,f1,f2,f3,f4,f5,f6,f7,f8,f9,f10,ff0,ff1,ff2,ff3,ff4,ff5,ff6,ff7,ff8,ff9,ff10⟩:=cf11 H.bF
 go_upto_region 13 with (fail)
 have K7:=H.putF 1 (.int .i64 1)
 clear H z0 z1 z2
 clear f0 f1 f2 f3 f4 f5 f6 f7 f8 f9 f10 ff0 ff1 ff2 ff3 ff4 ff5 ff6 ff7 ff8 ff9 ff10
 generalize w8.setCell ⟨w.heap.size+1,1,none⟩ (.int .i64 1) = w7 at *
 have H:SF w s2 A2 B2 C L a2 b2 c d (uF op 1 vv r1 r2 r3 r4 r5 r6 r7 AS xs cS) w7:=K7
 clear K7
 obtain ⟨z0,z1,z2⟩:=H.zs
 obtain ⟨p0,p1,p2,p3,p4⟩:=cells5 H.bS
 obtain ⟨f0,f1,f2,f3,f4,f5,f6,f7,f8,f9,f10⟩:=cells11 H.bF
 go_wp2_with (go_at_call 50;(with_reducible refine (set_uN A2 B2 C L a2 b2 c d s2 i AS cS op 1 vv r1 r2 r3 r4 r5 r6 r7 xs _ fw H.rs (hS.step H.be) h6).mono ?_);rintro e wz hN;have hz:=hN.2;obtain ⟨A9,B9,C9,L9,a9,b9,c9,d9,he,_,_,_,_,_⟩:=hN.1 wz (Turn.refl _ _);subst he;have HN:=hid hN;clear hN;have kR:=(hz.block (w.heap.size+1+1) z2).trans H.bR;have kb:=bstep H.be hz;obtain ⟨q0,q1,q2,q3,q4,qf0,qf1,qf2,qf3,qf4⟩:=cf5 kR)
 refine bodyPost_ret (v:=.agg (uS A9 B9 C9 L9 a9 b9 c9 d9 (pSet s2 i ⟨op,1,[vv,r1,r2,r3,r4,r5,r6,r7],xs⟩))) (by simp [uS,results,Tryz.results97,go_sem,q0,q1,q2,q3,q4]) rfl ?_
 exact ret_resN _ _ _ _ _ HN.out z2 (by omega) kb
theorem pop_1 (A B C L:Option Addr) (a b c d:Nat) (s:Sy) (i:Int) (AS:Option Addr) (cS:Nat) (op r0 r1 r2 r3 r4 r5 r6 r7:Int) (xs:List Int) (d0:Sy) (w:World) (hs:SyFew s) (hg:2≤s.M.G.length) (h:RS w s A B C L) (hS:Row w AS xs) (h6:xs.length≤1000000)  :
  Calls Tryz.prog 97 #[.agg (uS A B C L a b c d s),.int .i64 i,.agg (uF op 1 r0 r1 r2 r3 r4 r5 r6 r7 AS xs cS)] w (RetSysN w (pPop s i ⟨op,1,[r0,r1,r2,r3,r4,r5,r6,r7],xs⟩ d0)):=by
 obtain ⟨s2,hs2⟩:∃ t,t = syMem s (mLoad s.M (pLink (pIdx r0))):=⟨_,rfl⟩
 obtain ⟨vv,hvv⟩:∃ v,v = mVal s.M (pLink (pIdx r0)):=⟨_,rfl⟩
 have HV:=hid hvv
 have HS2:=hid hs2
 have HC:=hid (show ∀ w',Row w' A s.M.W→Row w' B s.M.G→Calls Tryz.prog 105 #[.agg #[.slice A s.M.W.length a,.slice B s.M.G.length b,.bool s.M.bad],.int .i64 (pLink (pIdx r0))] w' (RetMem2O w' A B s2.M (.int .i64 vv)) from fun w' k1 k2=>by have h9:=load_o A B a b s.M (pLink (pIdx r0)) w' k1 k2 hs.1 hs.2.1 hg (pLink_bd _).1 (pLink_bd _).2;rw [← hvv] at h9;rw [hs2];exact h9)
 have lW:s2.M.W.length = s.M.W.length:=by rw [hs2];rfl
 have lG:s2.M.G.length = s.M.G.length:=by rw [hs2];rfl
 have HW2:=hid lW
 have HG2:=hid lG
 have fw:SyFew s2:=by rw [hs2];exact few_mem hs rfl rfl
 clear lW lG
 have hres:pPop s i ⟨op,1,[r0,r1,r2,r3,r4,r5,r6,r7],xs⟩ d0 = pSet s2 i ⟨op,2,[r0,vv,r2,r3,r4,r5,r6,r7],xs⟩:=by unfold pPop;rw [if_neg (by simp),if_pos rfl,hs2,hvv];rfl
 rw [hres]
 clear hres hs2 hvv
 have h0:=hs.1
 have h1:=hs.2.1
 have H:=SF.start w s A B C L a b c d (uF op 1 r0 r1 r2 r3 r4 r5 r6 r7 AS xs cS) h
 clear h
 go_enter Tryz.func97,Tryz.ntmps97
 go_upto_region 1 with (fail)
 generalize (((w.alloc (.cells (uS A B C L a b c d s) 30)).alloc (.cells (uF op 1 r0 r1 r2 r3 r4 r5 r6 r7 AS xs cS) 60)).alloc (.cells uZ 30)) = w1 at *
 obtain ⟨z0,z1,z2⟩:=H.zs
 obtain ⟨f0,f1,f2,f3,f4,f5,f6,f7,f8,f9,f10⟩:=cells11 H.bF
 go_upto_region 2 with (go_at_call 104;(with_reducible refine (Pk.index_any _ _).mono ?_);rintro e w2 ⟨rfl,hk⟩)
 clear f0 f1 f2 f3 f4 f5 f6 f7 f8 f9 f10
 replace H:=H.step hk
 clear hk z0 z1 z2
 obtain ⟨z0,z1,z2⟩:=H.zs
 obtain ⟨p0,p1,p2,p3,p4⟩:=cells5 H.bS
 obtain ⟨-,f1,-,f3⟩:=cells4 H.bF
 obtain ⟨pf0,pf1,pf2,pf3,pf4⟩:=frz5 H.bS
 obtain ⟨-,ff1,-,ff3⟩:=frz4 H.bF
 go_upto_region 9 with (fail)
 have HD:=H.step ((Below.refl _ _).drew)
 go_region_with (first | (go_at_call 56;(with_reducible refine (link_any _ _).mono ?_);rintro e w3 ⟨rfl,rfl⟩) | (go_at_call 105;(with_reducible refine (HC.out _ HD.rW HD.rG).mono ?_);rintro e w4 ⟨A2,B2,a2,b2,rfl,s1,s3,hk4,F1,F2⟩;have KW:=HD;have K4:=HD.step hk4;obtain ⟨v0,v1,v2,v3,v4,vf0,vf1,vf2,vf3,vf4⟩:=cf5 K4.bS;obtain ⟨-,-,-,g0⟩:=cells4 K4.bF;obtain ⟨-,-,-,gf⟩:=frz4 K4.bF))
 all_goals
  clear HD
  have K6:=(K4.putM (m:=s2.M) (a2:=a2) (b2:=b2) s1 s3 (KW.whW F1 HW2.out) (KW.whG F2 HG2.out)).putF 3 (.int .i64 vv)
  generalize (((w4.setCell ⟨w.heap.size,0,none⟩ (.slice A2 s2.M.W.length a2)).setCell ⟨w.heap.size,1,none⟩ (.slice B2 s2.M.G.length b2)).setCell ⟨w.heap.size,2,none⟩ (.bool s2.M.bad)).setCell ⟨w.heap.size+1,3,none⟩ (.int .i64 vv) = w6 at *
  clear H K4 KW F1 F2 s1 s3 z0 z1 z2 g0 gf v0 vf0 v1 vf1 v2 vf2 v3 vf3 v4 vf4
  clear p0 p1 p2 p3 p4 f1 f3 pf0 pf1 pf2 pf3 pf4 ff1 ff3
  have e2:syMem s s2.M = s2:=by rw [HS2.out];rfl
  rw [e2] at K6
  clear e2
  have H:SF w s2 A2 B2 C L a2 b2 c d (uF op 1 r0 vv r2 r3 r4 r5 r6 r7 AS xs cS) w6:=K6
  clear K6
  obtain ⟨z0,z1,z2⟩:=H.zs
  obtain ⟨f0,f1,f2,f3,f4,f5,f6,f7,f8,f9,f10,ff0,ff1,ff2,ff3,ff4,ff5,ff6,ff7,ff8,ff9,ff10⟩:=cf11 H.bF
  go_upto_region 13 with (fail)
  have K7:=H.putF 1 (.int .i64 2)
  clear H z0 z1 z2
  clear f0 f1 f2 f3 f4 f5 f6 f7 f8 f9 f10 ff0 ff1 ff2 ff3 ff4 ff5 ff6 ff7 ff8 ff9 ff10
  generalize w6.setCell ⟨w.heap.size+1,1,none⟩ (.int .i64 2) = w7 at *
  have H:SF w s2 A2 B2 C L a2 b2 c d (uF op 2 r0 vv r2 r3 r4 r5 r6 r7 AS xs cS) w7:=K7
  clear K7
  obtain ⟨z0,z1,z2⟩:=H.zs
  obtain ⟨p0,p1,p2,p3,p4⟩:=cells5 H.bS
  obtain ⟨f0,f1,f2,f3,f4,f5,f6,f7,f8,f9,f10⟩:=cells11 H.bF
  go_wp2_with (go_at_call 50;(with_reducible refine (set_uN A2 B2 C L a2 b2 c d s2 i AS cS op 2 r0 vv r2 r3 r4 r5 r6 r7 xs _ fw H.rs (hS.step H.be) h6).mono ?_);rintro e wz hN;have hz:=hN.2;obtain ⟨A9,B9,C9,L9,a9,b9,c9,d9,he,_,_,_,_,_⟩:=hN.1 wz (Turn.refl _ _);subst he;have HN:=hid hN;clear hN;have kR:=(hz.block (w.heap.size+1+1) z2).trans H.bR;have kb:=bstep H.be hz;obtain ⟨q0,q1,q2,q3,q4,qf0,qf1,qf2,qf3,qf4⟩:=cf5 kR)
  refine bodyPost_ret (v:=.agg (uS A9 B9 C9 L9 a9 b9 c9 d9 (pSet s2 i ⟨op,2,[r0,vv,r2,r3,r4,r5,r6,r7],xs⟩))) (by simp [uS,results,Tryz.results97,go_sem,q0,q1,q2,q3,q4]) rfl ?_
  exact ret_resN _ _ _ _ _ HN.out z2 (by omega) kb
theorem pop_2 (A B C L:Option Addr) (a b c d:Nat) (s:Sy) (i:Int) (AS:Option Addr) (cS:Nat) (op r0 r1 r2 r3 r4 r5 r6 r7:Int) (xs:List Int) (d0:Sy) (w:World) (hs:SyFew s) (hg:2≤s.M.G.length) (h:RS w s A B C L) (hS:Row w AS xs) (h6:xs.length≤1000000)  :
  Calls Tryz.prog 97 #[.agg (uS A B C L a b c d s),.int .i64 i,.agg (uF op 2 r0 r1 r2 r3 r4 r5 r6 r7 AS xs cS)] w (RetSysN w (pPop s i ⟨op,2,[r0,r1,r2,r3,r4,r5,r6,r7],xs⟩ d0)):=by
 have hres:pPop s i ⟨op,2,[r0,r1,r2,r3,r4,r5,r6,r7],xs⟩ d0 = pSwap s i ⟨op,2,[r0,r1,r2,r3,r4,r5,r6,r7],xs⟩ r0 r1 (pIdx r0) 1:=by unfold pPop;rw [if_neg (by simp),if_neg (by simp),if_pos rfl];rfl
 rw [hres]
 clear hres
 have h0:=hs.1
 have h1:=hs.2.1
 have H:=SF.start w s A B C L a b c d (uF op 2 r0 r1 r2 r3 r4 r5 r6 r7 AS xs cS) h
 clear h
 go_enter Tryz.func97,Tryz.ntmps97
 go_upto_region 1 with (fail)
 generalize (((w.alloc (.cells (uS A B C L a b c d s) 30)).alloc (.cells (uF op 2 r0 r1 r2 r3 r4 r5 r6 r7 AS xs cS) 60)).alloc (.cells uZ 30)) = w1 at *
 obtain ⟨z0,z1,z2⟩:=H.zs
 obtain ⟨f0,f1,f2,f3,f4,f5,f6,f7,f8,f9,f10⟩:=cells11 H.bF
 go_upto_region 2 with (go_at_call 104;(with_reducible refine (Pk.index_any _ _).mono ?_);rintro e w2 ⟨rfl,hk⟩)
 clear f0 f1 f2 f3 f4 f5 f6 f7 f8 f9 f10
 replace H:=H.step hk
 clear hk z0 z1 z2
 obtain ⟨z0,z1,z2⟩:=H.zs
 obtain ⟨p0,p1,p2,p3,p4⟩:=cells5 H.bS
 obtain ⟨f0,f1,f2,f3,f4,f5,f6,f7,f8,f9,f10⟩:=cells11 H.bF
 go_wp2_with (go_at_call 107;(with_reducible refine (swap_any A B C L a b c d s i AS cS op 2 r0 r1 r2 r3 r4 r5 r6 r7 xs r0 r1 (pIdx r0) 1 _ hs hg H.rs (hS.step H.be) h6).mono ?_);rintro e wz hN;have hz:=hN.2;obtain ⟨A9,B9,C9,L9,a9,b9,c9,d9,he,_,_,_,_,_⟩:=hN.1 wz (Turn.refl _ _);subst he;have HN:=hid hN;clear hN;have kR:=(hz.block (w.heap.size+1+1) z2).trans H.bR;have kb:=bstep H.be hz;obtain ⟨q0,q1,q2,q3,q4,qf0,qf1,qf2,qf3,qf4⟩:=cf5 kR)
 refine bodyPost_ret (v:=.agg (uS A9 B9 C9 L9 a9 b9 c9 d9 (pSwap s i ⟨op,2,[r0,r1,r2,r3,r4,r5,r6,r7],xs⟩ r0 r1 (pIdx r0) 1))) (by simp [uS,results,Tryz.results97,go_sem,q0,q1,q2,q3,q4]) rfl ?_
 exact ret_resN _ _ _ _ _ HN.out z2 (by omega) kb
theorem pop_x (A B C L:Option Addr) (a b c d:Nat) (s:Sy) (i:Int) (AS:Option Addr) (cS:Nat) (op pc r0 r1 r2 r3 r4 r5 r6 r7:Int) (xs:List Int) (d0:Sy) (w:World) (hs:SyFew s) (hg:2≤s.M.G.length) (h:RS w s A B C L) (hS:Row w AS xs) (h6:xs.length≤1000000) (q0:¬ pc = 0) (q1:¬ pc = 1) (q2:¬ pc = 2) (hd:d0 = pSet s i ⟨op,pc,[r0,r1,r2,r3,r4,r5,r6,r7],xs⟩) :
  Calls Tryz.prog 97 #[.agg (uS A B C L a b c d s),.int .i64 i,.agg (uF op pc r0 r1 r2 r3 r4 r5 r6 r7 AS xs cS)] w (RetSysN w (pPop s i ⟨op,pc,[r0,r1,r2,r3,r4,r5,r6,r7],xs⟩ d0)):=by
 have hres:pPop s i ⟨op,pc,[r0,r1,r2,r3,r4,r5,r6,r7],xs⟩ d0 = pSet s i ⟨op,pc,[r0,r1,r2,r3,r4,r5,r6,r7],xs⟩:=by unfold pPop;rw [if_neg q0,if_neg q1,if_neg q2];exact hd
 rw [hres]
 clear hres hd
 have e0:(pc == 0) = false:=by simpa using q0
 have e1:(pc == 1) = false:=by simpa using q1
 have e2:(pc == 2) = false:=by simpa using q2
 clear q0 q1 q2
 have h0:=hs.1
 have h1:=hs.2.1
 have H:=SF.start w s A B C L a b c d (uF op pc r0 r1 r2 r3 r4 r5 r6 r7 AS xs cS) h
 clear h
 go_enter Tryz.func97,Tryz.ntmps97
 go_upto_region 1 with (fail)
 generalize (((w.alloc (.cells (uS A B C L a b c d s) 30)).alloc (.cells (uF op pc r0 r1 r2 r3 r4 r5 r6 r7 AS xs cS) 60)).alloc (.cells uZ 30)) = w1 at *
 obtain ⟨z0,z1,z2⟩:=H.zs
 obtain ⟨f0,f1,f2,f3,f4,f5,f6,f7,f8,f9,f10⟩:=cells11 H.bF
 go_upto_region 2 with (go_at_call 104;(with_reducible refine (Pk.index_any _ _).mono ?_);rintro e w2 ⟨rfl,hk⟩)
 clear f0 f1 f2 f3 f4 f5 f6 f7 f8 f9 f10
 replace H:=H.step hk
 clear hk z0 z1 z2
 obtain ⟨z0,z1,z2⟩:=H.zs
 obtain ⟨p0,p1,p2,p3,p4⟩:=cells5 H.bS
 obtain ⟨f0,f1,f2,f3,f4,f5,f6,f7,f8,f9,f10⟩:=cells11 H.bF
 go_wp2_with (go_at_call 50;(with_reducible refine (set_uN A B C L a b c d s i AS cS op pc r0 r1 r2 r3 r4 r5 r6 r7 xs _ hs H.rs (hS.step H.be) h6).mono ?_);rintro e wz hN;have hz:=hN.2;obtain ⟨A9,B9,C9,L9,a9,b9,c9,d9,he,_,_,_,_,_⟩:=hN.1 wz (Turn.refl _ _);subst he;have HN:=hid hN;clear hN;have kR:=(hz.block (w.heap.size+1+1) z2).trans H.bR;have kb:=bstep H.be hz;obtain ⟨q0,q1,q2,q3,q4,qf0,qf1,qf2,qf3,qf4⟩:=cf5 kR)
 refine bodyPost_ret (v:=.agg (uS A9 B9 C9 L9 a9 b9 c9 d9 (pSet s i ⟨op,pc,[r0,r1,r2,r3,r4,r5,r6,r7],xs⟩))) (by simp [uS,results,Tryz.results97,go_sem,q0,q1,q2,q3,q4]) rfl ?_
 exact ret_resN _ _ _ _ _ HN.out z2 (by omega) kb
theorem pop_any (A B C L:Option Addr) (a b c d:Nat) (s:Sy) (i:Int) (AS:Option Addr) (cS:Nat) (op pc r0 r1 r2 r3 r4 r5 r6 r7:Int) (xs:List Int) (d0:Sy) (w:World) (hs:SyFew s) (hg:2≤s.M.G.length) (h:RS w s A B C L) (hS:Row w AS xs) (h6:xs.length≤1000000) (hL:s.L.length≤999998) (hd:d0 = pSet s i ⟨op,pc,[r0,r1,r2,r3,r4,r5,r6,r7],xs⟩) :
  Calls Tryz.prog 97 #[.agg (uS A B C L a b c d s),.int .i64 i,.agg (uF op pc r0 r1 r2 r3 r4 r5 r6 r7 AS xs cS)] w (RetSysN w (pPop s i ⟨op,pc,[r0,r1,r2,r3,r4,r5,r6,r7],xs⟩ d0)):=by
 by_cases q0:pc = 0
 ·subst q0
  by_cases hq:pIdx (mVal s.M 0) = 0
  ·exact pop_0a A B C L a b c d s i AS cS op r0 r1 r2 r3 r4 r5 r6 r7 xs d0 w hs hg h hS h6 hL hq
  ·exact pop_0b A B C L a b c d s i AS cS op r0 r1 r2 r3 r4 r5 r6 r7 xs d0 w hs hg h hS h6 hq
 ·by_cases q1:pc = 1
  ·subst q1;exact pop_1 A B C L a b c d s i AS cS op r0 r1 r2 r3 r4 r5 r6 r7 xs d0 w hs hg h hS h6
  ·by_cases q2:pc = 2
   ·subst q2;exact pop_2 A B C L a b c d s i AS cS op r0 r1 r2 r3 r4 r5 r6 r7 xs d0 w hs hg h hS h6
   ·exact pop_x A B C L a b c d s i AS cS op pc r0 r1 r2 r3 r4 r5 r6 r7 xs d0 w hs hg h hS h6 q0 q1 q2 hd
end Go.Proofs.YtfipcdhodojodaaGreat
