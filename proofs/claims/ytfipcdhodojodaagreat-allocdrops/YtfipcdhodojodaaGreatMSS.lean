/- Contracts: a step of a pop, by the document. -/
import Derived.Test.YtfipcdhodojodaaGreatStkR
namespace Go.Proofs.YtfipcdhodojodaaGreat
open Go.RowKit
set_option maxRecDepth 100000
set_option maxHeartbeats 4000000
set_option linter.unusedVariables false
set_option linter.unusedSimpArgs false
theorem SF.via {w:World} {s:Sy} {A B C L:Option Addr} {a b c d:Nat} {fc:Array Value} {wx wc wy:World} (h:SF w s A B C L a b c d fc wx) (hk:Below wc.heap.size wc wy) (hb:Below wx.heap.size wx wc):SF w s A B C L a b c d fc wc∧SF w s A B C L a b c d fc wy:=⟨h.step hb,(h.step hb).step hk⟩
def Laid4 (w:World) (s:Sy) (A B C L:Option Addr) (a b c d:Nat) (fc:Array Value) (m:Ar) (p:Value) (wx:World):Prop :=
 ∃ (vM:Nat) (A2 B2:Option Addr) (a2 b2:Nat),p = .pointer (some ⟨vM,0,none⟩)∧SF w s A B C L a b c d fc wx∧MVar w m A2 B2 a2 b2 vM wx
theorem rpop_0a (A B C L:Option Addr) (a b c d:Nat) (s:Sy) (i:Int) (AS:Option Addr) (cS:Nat) (op r0 r1 r2 r3 r4 r5 r6 r7:Int) (xs:List Int) (d0:Sy) (w:World) (hs:SyFew s) (hg:2≤s.M.G.length) (h:RS w s A B C L) (hS:Row w AS xs) (h6:xs.length≤1000000) (hF:∀ x ∈ s.C,x.F.length≤999999) (hL:s.L.length≤999998) (hq:pIdx (mVal s.M 0) = 0) :
  Calls Tryz.prog 79 #[.agg (uS A B C L a b c d s),.int .i64 i,.agg (uF op 0 r0 r1 r2 r3 r4 r5 r6 r7 AS xs cS)] w (RetSys w (pPop s i ⟨op,0,[r0,r1,r2,r3,r4,r5,r6,r7],xs⟩ d0)):=by
 obtain ⟨s2,hs2⟩:∃ t,t = syMem s (mLoad s.M 0):=⟨_,rfl⟩
 obtain ⟨vv,hvv⟩:∃ v,v = mVal s.M 0:=⟨_,rfl⟩
 have HV:=hid hvv
 have HS2:=hid hs2
 have HC:=hid (show ∀ w',Row w' A s.M.W→Row w' B s.M.G→Calls Tryz.prog 29 #[.agg #[.slice A s.M.W.length a,.slice B s.M.G.length b,.bool s.M.bad],.int .i64 0] w' (RetMem2O w' A B s2.M (.int .i64 vv)) from fun w' k1 k2=>by have h9:=rload_o A B a b s.M 0 w' k1 k2 hs.1 hs.2.1 (by omega);rw [← hvv] at h9;rw [hs2];exact h9)
 have lW:s2.M.W.length = s.M.W.length:=by rw [hs2];rfl
 have lG:s2.M.G.length = s.M.G.length:=by rw [hs2];rfl
 have HW2:=hid lW
 have HG2:=hid lG
 have fw:SyFew s2:=by rw [hs2];exact few_mem hs (by rfl) (by rfl)
 clear lW lG
 have es2:syMem s s2.M = s2:=by rw [hs2];rfl
 have ES:=hid es2
 clear es2
 obtain ⟨t4,ht4⟩:∃ t,t = pLog s2 i 9 0 0 0:=⟨_,rfl⟩
 have ft:SyFew t4:=by rw [ht4];exact few_log fw (by rw [hs2];exact hL) i 9 0 0 0
 have HT4:=hid ht4
 have hres:pPop s i ⟨op,0,[r0,r1,r2,r3,r4,r5,r6,r7],xs⟩ d0 = pBack t4 i 0 2:=by unfold pPop;rw [if_pos rfl,if_pos hq,ht4,hs2]
 have hx:(pIdx vv == 0) = true:=by rw [hvv,hq];rfl
 clear hq ht4
 rw [hres]
 clear hres hs2 hvv
 have h0:=hs.1
 have h1:=hs.2.1
 have hg1:1≤s.M.G.length:=by omega
 have H:=SF.start w s A B C L a b c d (uF op 0 r0 r1 r2 r3 r4 r5 r6 r7 AS xs cS) h
 clear h
 go_enter Tryz.func79,Tryz.ntmps79
 go_upto_region 1 with (fail)
 generalize (((w.alloc (.cells (uS A B C L a b c d s) 30)).alloc (.cells (uF op 0 r0 r1 r2 r3 r4 r5 r6 r7 AS xs cS) 60)).alloc (.cells uZ 30)) = w1 at *
 obtain ⟨z0,z1,z2⟩:=H.zs
 obtain ⟨p0,p1,p2,p3,p4⟩:=cells5 H.bS
 obtain ⟨-,f1⟩:=cells2 H.bF
 go_upto_region 3 with (go_at_call 29;(with_reducible refine (HC.out _ H.rW H.rG).mono ?_);rintro e w4 ⟨A2,B2,a2,b2,rfl,s1,s3,hk4,F1,F2⟩)
 clear p0 p1 p2 p3 p4 f1
 have K4:=H.step hk4
 have KM:=MVar.new (a:=a2) (b:=b2) s1 s3 (H.whW F1 HW2.out) (H.whG F2 HG2.out) K4.lt
 have K5:=K4.step (boxed w4 (.cells #[.slice A2 s2.M.W.length a2,.slice B2 s2.M.G.length b2,.bool s2.M.bad] 26))
 clear H K4 s1 s3 F1 F2 hk4 z0 z1 z2
 obtain ⟨vM,hv⟩:∃ v,w4.heap.size = v:=⟨_,rfl⟩
 rw [hv] at KM ⊢
 clear hv
 generalize w4.alloc (.cells #[.slice A2 s2.M.W.length a2,.slice B2 s2.M.G.length b2,.bool s2.M.bad] 26) = w5 at *
 have H:=K5
 clear K5
 obtain ⟨z0,z1,z2⟩:=H.zs
 go_upto_region 4 with (go_at_call 30;(with_reducible refine (Pk.rindex_any _ _).mono ?_);rintro e w6 ⟨rfl,rfl⟩)
 obtain ⟨x0,x1,x2⟩:=cells3 KM.bM
 obtain ⟨p0,p1,p2,p3,p4⟩:=cells5 H.bS
 have HM:=hid (show ∀ w',RS w' s A B C L→Row w' A2 s2.M.W→Row w' B2 s2.M.G→Calls Tryz.prog 37 #[.agg (uS A B C L a b c d s),.agg #[.slice A2 s2.M.W.length a2,.slice B2 s2.M.G.length b2,.bool s2.M.bad]] w' fun e w''=>e = .returned (.agg (uS A2 B2 C L a2 b2 c d s2))∧RS w'' s2 A2 B2 C L∧Below w'.heap.size w' w'' from fun w' k1 k2 k3=>by have h9:=rmem3_any A B C L A2 B2 a b c d a2 b2 s s2.M w' k1 k2 k3;have e8:s2.C = s.C:=(by rw [HS2.out];rfl);have e7:s2.L = s.L:=(by rw [HS2.out];rfl);rw [ES.out] at h9;dsimp only [uS];rw [e8,e7];exact h9)
 have HG:=hid (show ∀ w',RS w' s2 A2 B2 C L→Calls Tryz.prog 93 #[.agg (uS A2 B2 C L a2 b2 c d s2),.int .i64 i,.agg #[.int .i64 0,.int .i64 9,.int .i64 0,.int .i64 0,.int .i64 0]] w' (RetSys w' t4) from fun w' k1=>by have h9:=rlog_u A2 B2 C L a2 b2 c d s2 i 0 9 0 0 0 w' fw k1;rw [HT4.out];exact h9)
 go_upto_region 5 with (first | (go_at_call 37;(with_reducible refine (HM.out _ H.rs KM.rW KM.rG).mono ?_);rintro e w7 ⟨rfl,S7,hk7⟩;have K7:=H.step hk7) | (go_at_call 93;(with_reducible refine (HG.out _ S7).mono ?_);rintro e w8 ⟨A5,B5,C5,L5,a5,b5,c5,d5,rfl,x5,x6,x7,x8,hk8⟩))
 clear p0 p1 p2 p3 p4
 have K8:=(K7.step hk8).step (boxed w8 (.cells (uS A5 B5 C5 L5 a5 b5 c5 d5 t4) 30))
 have S8:RS w8 t4 A5 B5 C5 L5:=⟨x5,x6,x7,x8⟩
 replace S8:=S8.step (boxed w8 (.cells (uS A5 B5 C5 L5 a5 b5 c5 d5 t4) 30))
 have bT:=heap_alloc_new w8 (.cells (uS A5 B5 C5 L5 a5 b5 c5 d5 t4) 30)
 clear H K7 KM z0 z1 z2 x0 x1 x2
 obtain ⟨vT,hv⟩:∃ v,w8.heap.size = v:=⟨_,rfl⟩
 rw [hv] at bT ⊢
 clear hv
 generalize w8.alloc (.cells (uS A5 B5 C5 L5 a5 b5 c5 d5 t4) 30) = w9 at *
 have H:=K8
 clear K8
 obtain ⟨z0,z1,z2⟩:=H.zs
 obtain ⟨y0,y1,y2,y3,y4⟩:=cells5 bT
 go_wp2_with (go_at_call 43;(with_reducible refine (rback_u A5 B5 C5 L5 a5 b5 c5 d5 t4 i 0 2 _ ft S8).mono ?_);rintro e wz ⟨A9,B9,C9,L9,a9,b9,c9,d9,rfl,rW,rG,rC,rL,hz⟩;have kR:=(hz.block (w.heap.size+1+1) z2).trans H.bR;have kb:=bstep H.be hz;obtain ⟨q0,q1,q2,q3,q4,qf0,qf1,qf2,qf3,qf4⟩:=cf5 kR)
 refine bodyPost_ret (v:=.agg (uS A9 B9 C9 L9 a9 b9 c9 d9 (pBack t4 i 0 2))) (by simp [uS,results,Tryz.results79,go_sem,q0,q1,q2,q3,q4]) rfl ?_
 exact ret_res kR kb rW rG rC rL
theorem rpop_0b (A B C L:Option Addr) (a b c d:Nat) (s:Sy) (i:Int) (AS:Option Addr) (cS:Nat) (op r0 r1 r2 r3 r4 r5 r6 r7:Int) (xs:List Int) (d0:Sy) (w:World) (hs:SyFew s) (hg:2≤s.M.G.length) (h:RS w s A B C L) (hS:Row w AS xs) (h6:xs.length≤1000000) (hF:∀ x ∈ s.C,x.F.length≤999999) (hq:¬ pIdx (mVal s.M 0) = 0) :
  Calls Tryz.prog 79 #[.agg (uS A B C L a b c d s),.int .i64 i,.agg (uF op 0 r0 r1 r2 r3 r4 r5 r6 r7 AS xs cS)] w (RetSys w (pPop s i ⟨op,0,[r0,r1,r2,r3,r4,r5,r6,r7],xs⟩ d0)):=by
 obtain ⟨s2,hs2⟩:∃ t,t = syMem s (mLoad s.M 0):=⟨_,rfl⟩
 obtain ⟨vv,hvv⟩:∃ v,v = mVal s.M 0:=⟨_,rfl⟩
 have HV:=hid hvv
 have HS2:=hid hs2
 have HC:=hid (show ∀ w',Row w' A s.M.W→Row w' B s.M.G→Calls Tryz.prog 29 #[.agg #[.slice A s.M.W.length a,.slice B s.M.G.length b,.bool s.M.bad],.int .i64 0] w' (RetMem2O w' A B s2.M (.int .i64 vv)) from fun w' k1 k2=>by have h9:=rload_o A B a b s.M 0 w' k1 k2 hs.1 hs.2.1 (by omega);rw [← hvv] at h9;rw [hs2];exact h9)
 have lW:s2.M.W.length = s.M.W.length:=by rw [hs2];rfl
 have lG:s2.M.G.length = s.M.G.length:=by rw [hs2];rfl
 have HW2:=hid lW
 have HG2:=hid lG
 have fw:SyFew s2:=by rw [hs2];exact few_mem hs (by rfl) (by rfl)
 clear lW lG
 have es2:syMem s s2.M = s2:=by rw [hs2];rfl
 have ES:=hid es2
 clear es2
 have hres:pPop s i ⟨op,0,[r0,r1,r2,r3,r4,r5,r6,r7],xs⟩ d0 = pSet s2 i ⟨op,1,[vv,r1,r2,r3,r4,r5,r6,r7],xs⟩:=by unfold pPop;rw [if_pos rfl,if_neg hq,hs2,hvv];rfl
 have hx:(pIdx vv == 0) = false:=by rw [hvv];simpa using hq
 clear hq
 rw [hres]
 clear hres hs2 hvv
 have h0:=hs.1
 have h1:=hs.2.1
 have hg1:1≤s.M.G.length:=by omega
 have H:=SF.start w s A B C L a b c d (uF op 0 r0 r1 r2 r3 r4 r5 r6 r7 AS xs cS) h
 clear h
 go_enter Tryz.func79,Tryz.ntmps79
 go_upto_region 1 with (fail)
 generalize (((w.alloc (.cells (uS A B C L a b c d s) 30)).alloc (.cells (uF op 0 r0 r1 r2 r3 r4 r5 r6 r7 AS xs cS) 60)).alloc (.cells uZ 30)) = w1 at *
 obtain ⟨z0,z1,z2⟩:=H.zs
 obtain ⟨p0,p1,p2,p3,p4⟩:=cells5 H.bS
 obtain ⟨-,f1⟩:=cells2 H.bF
 go_upto_region 3 with (go_at_call 29;(with_reducible refine (HC.out _ H.rW H.rG).mono ?_);rintro e w4 ⟨A2,B2,a2,b2,rfl,s1,s3,hk4,F1,F2⟩)
 clear p0 p1 p2 p3 p4 f1
 have K4:=H.step hk4
 have KM:=MVar.new (a:=a2) (b:=b2) s1 s3 (H.whW F1 HW2.out) (H.whG F2 HG2.out) K4.lt
 have K5:=K4.step (boxed w4 (.cells #[.slice A2 s2.M.W.length a2,.slice B2 s2.M.G.length b2,.bool s2.M.bad] 26))
 clear H K4 s1 s3 F1 F2 hk4 z0 z1 z2
 obtain ⟨vM,hv⟩:∃ v,w4.heap.size = v:=⟨_,rfl⟩
 rw [hv] at KM ⊢
 clear hv
 generalize w4.alloc (.cells #[.slice A2 s2.M.W.length a2,.slice B2 s2.M.G.length b2,.bool s2.M.bad] 26) = w5 at *
 have H:=K5
 clear K5
 obtain ⟨z0,z1,z2⟩:=H.zs
 obtain ⟨f0,f1,f2,f3,f4,f5,f6,f7,f8,f9,f10,ff0,ff1,ff2,ff3,ff4,ff5,ff6,ff7,ff8,ff9,ff10⟩:=cf11 H.bF
 go_upto_region 7 with (go_at_call 30;(with_reducible refine (Pk.rindex_any _ _).mono ?_);rintro e w6 ⟨rfl,rfl⟩)
 have K7:=H.putF 2 (.int .i64 vv)
 have M7:=KM.putF 2 (.int .i64 vv)
 clear H KM z0 z1 z2
 clear f0 f1 f2 f3 f4 f5 f6 f7 f8 f9 f10 ff0 ff1 ff2 ff3 ff4 ff5 ff6 ff7 ff8 ff9 ff10
 generalize w5.setCell ⟨w.heap.size+1,2,none⟩ (.int .i64 vv) = w7 at *
 have H:SF w s A B C L a b c d (uF op 0 vv r1 r2 r3 r4 r5 r6 r7 AS xs cS) w7:=K7
 have KM:=M7
 clear K7 M7
 obtain ⟨z0,z1,z2⟩:=H.zs
 obtain ⟨x0,x1,x2⟩:=cells3 KM.bM
 obtain ⟨p0,p1,p2,p3,p4⟩:=cells5 H.bS
 obtain ⟨f0,f1,f2,f3,f4,f5,f6,f7,f8,f9,f10⟩:=cells11 H.bF
 have HO:=hid (show Calls Tryz.prog 78 #[.agg (uS A B C L a b c d s),.int .i64 i,.agg #[.slice A2 s2.M.W.length a2,.slice B2 s2.M.G.length b2,.bool s2.M.bad],.agg (uF op 0 vv r1 r2 r3 r4 r5 r6 r7 AS xs cS),.int .i64 1] w7 (RetSys w7 (pSet s2 i ⟨op,1,[vv,r1,r2,r3,r4,r5,r6,r7],xs⟩)) by have h9:=on_any A B C L A2 B2 a b c d a2 b2 s s2.M i AS cS op 0 vv r1 r2 r3 r4 r5 r6 r7 xs 1 w7 (by rw [ES.out];exact fw) hF H.rs KM.rW KM.rG (hS.step H.be);rw [ES.out] at h9;exact h9)
 go_wp2_with (go_at_call 78;(with_reducible refine (HO.out).mono ?_);rintro e wz ⟨A9,B9,C9,L9,a9,b9,c9,d9,rfl,rW,rG,rC,rL,hz⟩;have kR:=(hz.block (w.heap.size+1+1) z2).trans H.bR;have kb:=bstep H.be hz;obtain ⟨q0,q1,q2,q3,q4,qf0,qf1,qf2,qf3,qf4⟩:=cf5 kR)
 refine bodyPost_ret (v:=.agg (uS A9 B9 C9 L9 a9 b9 c9 d9 (pSet s2 i ⟨op,1,[vv,r1,r2,r3,r4,r5,r6,r7],xs⟩))) (by simp [uS,results,Tryz.results79,go_sem,q0,q1,q2,q3,q4]) rfl ?_
 exact ret_res kR kb rW rG rC rL
theorem rpop_1 (A B C L:Option Addr) (a b c d:Nat) (s:Sy) (i:Int) (AS:Option Addr) (cS:Nat) (op r0 r1 r2 r3 r4 r5 r6 r7:Int) (xs:List Int) (d0:Sy) (w:World) (hs:SyFew s) (hg:2≤s.M.G.length) (h:RS w s A B C L) (hS:Row w AS xs) (h6:xs.length≤1000000) (hF:∀ x ∈ s.C,x.F.length≤999999)  :
  Calls Tryz.prog 79 #[.agg (uS A B C L a b c d s),.int .i64 i,.agg (uF op 1 r0 r1 r2 r3 r4 r5 r6 r7 AS xs cS)] w (RetSys w (pPop s i ⟨op,1,[r0,r1,r2,r3,r4,r5,r6,r7],xs⟩ d0)):=by
 obtain ⟨s2,hs2⟩:∃ t,t = syMem s (mLoad s.M (pLink (pIdx r0))):=⟨_,rfl⟩
 obtain ⟨vv,hvv⟩:∃ v,v = mVal s.M (pLink (pIdx r0)):=⟨_,rfl⟩
 have HV:=hid hvv
 have HS2:=hid hs2
 have HC:=hid (show ∀ w',Row w' A s.M.W→Row w' B s.M.G→Calls Tryz.prog 29 #[.agg #[.slice A s.M.W.length a,.slice B s.M.G.length b,.bool s.M.bad],.int .i64 (pLink (pIdx r0))] w' (RetMem2O w' A B s2.M (.int .i64 vv)) from fun w' k1 k2=>by have h9:=rload_o A B a b s.M (pLink (pIdx r0)) w' k1 k2 hs.1 hs.2.1 (by omega);rw [← hvv] at h9;rw [hs2];exact h9)
 have lW:s2.M.W.length = s.M.W.length:=by rw [hs2];rfl
 have lG:s2.M.G.length = s.M.G.length:=by rw [hs2];rfl
 have HW2:=hid lW
 have HG2:=hid lG
 have fw:SyFew s2:=by rw [hs2];exact few_mem hs (by rfl) (by rfl)
 clear lW lG
 have es2:syMem s s2.M = s2:=by rw [hs2];rfl
 have ES:=hid es2
 clear es2
 have hres:pPop s i ⟨op,1,[r0,r1,r2,r3,r4,r5,r6,r7],xs⟩ d0 = pSet s2 i ⟨op,2,[r0,vv,r2,r3,r4,r5,r6,r7],xs⟩:=by unfold pPop;rw [if_neg (by simp),if_pos rfl,hs2,hvv];rfl
 rw [hres]
 clear hres hs2 hvv
 have h0:=hs.1
 have h1:=hs.2.1
 have hg1:1≤s.M.G.length:=by omega
 have H:=SF.start w s A B C L a b c d (uF op 1 r0 r1 r2 r3 r4 r5 r6 r7 AS xs cS) h
 clear h
 go_enter Tryz.func79,Tryz.ntmps79
 go_upto_region 1 with (fail)
 generalize (((w.alloc (.cells (uS A B C L a b c d s) 30)).alloc (.cells (uF op 1 r0 r1 r2 r3 r4 r5 r6 r7 AS xs cS) 60)).alloc (.cells uZ 30)) = w1 at *
 obtain ⟨z0,z1,z2⟩:=H.zs
 obtain ⟨f0,f1,f2,f3,f4,f5,f6,f7,f8,f9,f10⟩:=cells11 H.bF
 go_upto_region 10 with (go_at_call 30;(with_reducible refine (Pk.rindex_any _ _).mono ?_);rintro e wq ⟨rfl,rfl⟩)
 clear f0 f1 f2 f3 f4 f5 f6 f7 f8 f9 f10
 obtain ⟨p0,p1,p2⟩:=cells3 H.bS
 go_cut [11,12] from 51 (fun y11 y12 wx=>y12 = .int .i64 vv∧Laid4 w s A B C L a b c d (uF op 1 r0 r1 r2 r3 r4 r5 r6 r7 AS xs cS) s2.M y11 wx)
 case first =>
  have KS:=hid (show ∀ w',Turn (fun b=>w1.heap.size≤b) w1 w'→(w'.cell? ⟨w.heap.size,0,none⟩ = some (.slice A s.M.W.length a)∧w'.cell? ⟨w.heap.size,1,none⟩ = some (.slice B s.M.G.length b)∧w'.cell? ⟨w.heap.size,2,none⟩ = some (.bool s.M.bad)) from fun w' h=>⟨(h.cell z0 (by omega)).trans p0,(h.cell z0 (by omega)).trans p1,(h.cell z0 (by omega)).trans p2⟩)
  go_region_held3 (fun w'=>w'.cell? ⟨w.heap.size,0,none⟩ = some (.slice A s.M.W.length a)∧w'.cell? ⟨w.heap.size,1,none⟩ = some (.slice B s.M.G.length b)∧w'.cell? ⟨w.heap.size,2,none⟩ = some (.bool s.M.bad)) (exact KS.out _ (by repeat (first | (with_reducible exact Turn.refl _ _) | (with_reducible refine Turn.set ?_ (by first | (simp;done) | (simp;omega) | (have h9:=hk9.size;simp at h9 ⊢;omega)) _ _) | (with_reducible refine Turn.drew ?_) | (with_reducible refine Turn.alloc ?_ _) | (with_reducible refine Turn.below ?_ hk9))))
   (first | (go_at_call 31;(with_reducible refine (rlink_any _ _).mono ?_);rintro e wq ⟨rfl,rfl⟩) | (go_at_call 29;(with_reducible refine (HC.out _ (H.rW.step (by repeat (first | (with_reducible exact Below.refl _ _) | (with_reducible refine Below.drew ?_) | (with_reducible refine bstep ?_ (boxed _ _))))) (H.rG.step (by repeat (first | (with_reducible exact Below.refl _ _) | (with_reducible refine Below.drew ?_) | (with_reducible refine bstep ?_ (boxed _ _)))))).mono ?_);rintro e w9 ⟨A2,B2,a2,b2,rfl,s1,s3,hk9,F1,F2⟩;have HX:=H.via hk9 (by repeat (first | (with_reducible exact Below.refl _ _) | (with_reducible refine Below.drew ?_) | (with_reducible refine bstep ?_ (boxed _ _))));obtain ⟨gc,gf⟩:=bcell hk9;have hz10:=hk9.size;simp at hz10))
  all_goals go_wp2_with fail
  all_goals go_meet
  all_goals first
   | exact ⟨rfl,⟨_,A2,B2,a2,b2,rfl,HX.2.step (boxed _ _),MVar.new s1 s3 (HX.1.whW F1 HW2.out) (HX.1.whG F2 HG2.out) (by omega)⟩⟩
   | exact ⟨rfl,⟨_,A2,B2,a2,b2,rfl,HX.2.set3 (show w9.heap[w1.heap.size]? = some (.cells #[.slice none 0 0,.slice none 0 0,.bool false] 26 (0,0)) from (hk9.block _ (by simp)).trans (heap_alloc_new _ _)) z2 _ _ _,MVar.set (show w9.heap[w1.heap.size]? = some (.cells #[.slice none 0 0,.slice none 0 0,.bool false] 26 (0,0)) from (hk9.block _ (by simp)).trans (heap_alloc_new _ _)) s1 s3 (HX.1.whW F1 HW2.out) (HX.1.whG F2 HG2.out) z2⟩⟩
 case rest =>
  clear H z0 z1 z2 p0 p1 p2
  obtain ⟨rfl,hL⟩:=hcut
  obtain ⟨vM,A2,B2,a2,b2,rfl,H2,KM⟩:=hL
  have H:=H2
  clear H2
  obtain ⟨z0,z1,z2⟩:=H.zs
  obtain ⟨f0,f1,f2,f3,f4,f5,f6,f7,f8,f9,f10,ff0,ff1,ff2,ff3,ff4,ff5,ff6,ff7,ff8,ff9,ff10⟩:=cf11 H.bF
  go_upto_region 12 with (fail)
  have K7:=H.putF 3 (.int .i64 vv)
  have M7:=KM.putF 3 (.int .i64 vv)
  clear H KM z0 z1 z2
  clear f0 f1 f2 f3 f4 f5 f6 f7 f8 f9 f10 ff0 ff1 ff2 ff3 ff4 ff5 ff6 ff7 ff8 ff9 ff10
  generalize wc.setCell ⟨w.heap.size+1,3,none⟩ (.int .i64 vv) = w7 at *
  have H:SF w s A B C L a b c d (uF op 1 r0 vv r2 r3 r4 r5 r6 r7 AS xs cS) w7:=K7
  have KM:=M7
  clear K7 M7
  obtain ⟨z0,z1,z2⟩:=H.zs
  obtain ⟨x0,x1,x2⟩:=cells3 KM.bM
  obtain ⟨p0,p1,p2,p3,p4⟩:=cells5 H.bS
  obtain ⟨f0,f1,f2,f3,f4,f5,f6,f7,f8,f9,f10⟩:=cells11 H.bF
  have HO:=hid (show Calls Tryz.prog 78 #[.agg (uS A B C L a b c d s),.int .i64 i,.agg #[.slice A2 s2.M.W.length a2,.slice B2 s2.M.G.length b2,.bool s2.M.bad],.agg (uF op 1 r0 vv r2 r3 r4 r5 r6 r7 AS xs cS),.int .i64 2] w7 (RetSys w7 (pSet s2 i ⟨op,2,[r0,vv,r2,r3,r4,r5,r6,r7],xs⟩)) by have h9:=on_any A B C L A2 B2 a b c d a2 b2 s s2.M i AS cS op 1 r0 vv r2 r3 r4 r5 r6 r7 xs 2 w7 (by rw [ES.out];exact fw) hF H.rs KM.rW KM.rG (hS.step H.be);rw [ES.out] at h9;exact h9)
  go_wp2_with (go_at_call 78;(with_reducible refine (HO.out).mono ?_);rintro e wz ⟨A9,B9,C9,L9,a9,b9,c9,d9,rfl,rW,rG,rC,rL,hz⟩;have kR:=(hz.block (w.heap.size+1+1) z2).trans H.bR;have kb:=bstep H.be hz;obtain ⟨q0,q1,q2,q3,q4,qf0,qf1,qf2,qf3,qf4⟩:=cf5 kR)
  refine bodyPost_ret (v:=.agg (uS A9 B9 C9 L9 a9 b9 c9 d9 (pSet s2 i ⟨op,2,[r0,vv,r2,r3,r4,r5,r6,r7],xs⟩))) (by simp [uS,results,Tryz.results79,go_sem,q0,q1,q2,q3,q4]) rfl ?_
  exact ret_res kR kb rW rG rC rL
theorem rpop_2y (A B C L:Option Addr) (a b c d:Nat) (s:Sy) (i:Int) (AS:Option Addr) (cS:Nat) (op r0 r1 r2 r3 r4 r5 r6 r7:Int) (xs:List Int) (d0:Sy) (w:World) (hs:SyFew s) (hg:2≤s.M.G.length) (h:RS w s A B C L) (hS:Row w AS xs) (h6:xs.length≤1000000) (hF:∀ x ∈ s.C,x.F.length≤999999) (q:mIs s.M 0 r0 = true) :
  Calls Tryz.prog 79 #[.agg (uS A B C L a b c d s),.int .i64 i,.agg (uF op 2 r0 r1 r2 r3 r4 r5 r6 r7 AS xs cS)] w (RetSys w (pPop s i ⟨op,2,[r0,r1,r2,r3,r4,r5,r6,r7],xs⟩ d0)):=by
 obtain ⟨s2,hs2⟩:∃ t,t = syMem s (mCas s.M 0 r0 (pNext r0 r1 0)):=⟨_,rfl⟩
 have HS2:=hid hs2
 have HC:=hid (show ∀ w',Row w' A s.M.W→Row w' B s.M.G→Calls Tryz.prog 94 #[.agg #[.slice A s.M.W.length a,.slice B s.M.G.length b,.bool s.M.bad],.int .i64 0,.int .i64 r0,.int .i64 (pNext r0 r1 0)] w' (RetMem2O w' A B s2.M (.bool true)) from fun w' k1 k2=>by have h9:=rcas_o A B a b s.M 0 r0 (pNext r0 r1 0) w' k1 k2 hs.1 hs.2.1 (by omega);rw [q] at h9;rw [hs2];exact h9)
 have lW:s2.M.W.length = s.M.W.length:=by rw [hs2];show (mCas s.M 0 r0 (pNext r0 r1 0)).W.length = s.M.W.length;unfold mCas;dsimp only;split <;> simp
 have lG:s2.M.G.length = s.M.G.length:=by rw [hs2];rfl
 have HW2:=hid lW
 have HG2:=hid lG
 have fw:SyFew s2:=by rw [hs2];exact few_mem hs (by show (mCas s.M 0 r0 (pNext r0 r1 0)).W.length = s.M.W.length;unfold mCas;dsimp only;split <;> simp) (by rfl)
 clear lW lG
 have es2:syMem s s2.M = s2:=by rw [hs2];rfl
 have ES:=hid es2
 clear es2
 obtain ⟨t3,ht3⟩:∃ t,t = syMem s2 (mTurn s2.M (pIdx r0) 1):=⟨_,rfl⟩
 have hl3:(mTurn s2.M (pIdx r0) 1).G.length = s2.M.G.length:=by unfold mTurn;dsimp only;split <;> simp
 have ft:SyFew t3:=by rw [ht3];exact few_mem fw rfl hl3
 have HT3:=hid ht3
 clear hl3
 have hres:pPop s i ⟨op,2,[r0,r1,r2,r3,r4,r5,r6,r7],xs⟩ d0 = pBack t3 i (pIdx r0) 0:=by unfold pPop;rw [if_neg (by simp),if_neg (by simp),if_pos rfl];show pSwap s i ⟨op,2,[r0,r1,r2,r3,r4,r5,r6,r7],xs⟩ r0 r1 (pIdx r0) 1 = _;unfold pSwap;rw [if_pos q,ht3,hs2];rfl
 clear ht3
 rw [hres]
 clear hres hs2 q
 have h0:=hs.1
 have h1:=hs.2.1
 have hg1:1≤s.M.G.length:=by omega
 have H:=SF.start w s A B C L a b c d (uF op 2 r0 r1 r2 r3 r4 r5 r6 r7 AS xs cS) h
 clear h
 go_enter Tryz.func79,Tryz.ntmps79
 go_upto_region 1 with (fail)
 generalize (((w.alloc (.cells (uS A B C L a b c d s) 30)).alloc (.cells (uF op 2 r0 r1 r2 r3 r4 r5 r6 r7 AS xs cS) 60)).alloc (.cells uZ 30)) = w1 at *
 obtain ⟨z0,z1,z2⟩:=H.zs
 obtain ⟨f0,f1,f2,f3,f4,f5,f6,f7,f8,f9,f10⟩:=cells11 H.bF
 go_upto_region 15 with (go_at_call 30;(with_reducible refine (Pk.rindex_any _ _).mono ?_);rintro e wq ⟨rfl,rfl⟩)
 clear f0 f1 f2 f3 f4 f5 f6 f7 f8 f9 f10
 obtain ⟨p0,p1,p2⟩:=cells3 H.bS
 obtain ⟨-,-,f2,f3⟩:=cells4 H.bF
 go_cut [13,14] from 71 (fun y13 y14 wx=>y14 = .bool true∧Laid4 w s A B C L a b c d (uF op 2 r0 r1 r2 r3 r4 r5 r6 r7 AS xs cS) s2.M y13 wx)
 case first =>
  have KS:=hid (show ∀ w',Turn (fun b=>w1.heap.size≤b) w1 w'→(w'.cell? ⟨w.heap.size,0,none⟩ = some (.slice A s.M.W.length a)∧w'.cell? ⟨w.heap.size,1,none⟩ = some (.slice B s.M.G.length b)∧w'.cell? ⟨w.heap.size,2,none⟩ = some (.bool s.M.bad)∧w'.cell? ⟨w.heap.size+1,2,none⟩ = some (.int .i64 r0)∧w'.cell? ⟨w.heap.size+1,3,none⟩ = some (.int .i64 r1)) from fun w' h=>⟨(h.cell z0 (by omega)).trans p0,(h.cell z0 (by omega)).trans p1,(h.cell z0 (by omega)).trans p2,(h.cell z1 (by omega)).trans f2,(h.cell z1 (by omega)).trans f3⟩)
  go_region_held3 (fun w'=>w'.cell? ⟨w.heap.size,0,none⟩ = some (.slice A s.M.W.length a)∧w'.cell? ⟨w.heap.size,1,none⟩ = some (.slice B s.M.G.length b)∧w'.cell? ⟨w.heap.size,2,none⟩ = some (.bool s.M.bad)∧w'.cell? ⟨w.heap.size+1,2,none⟩ = some (.int .i64 r0)∧w'.cell? ⟨w.heap.size+1,3,none⟩ = some (.int .i64 r1)) (exact KS.out _ (by repeat (first | (with_reducible exact Turn.refl _ _) | (with_reducible refine Turn.set ?_ (by first | (simp;done) | (simp;omega) | (have h9:=hk9.size;simp at h9 ⊢;omega)) _ _) | (with_reducible refine Turn.drew ?_) | (with_reducible refine Turn.alloc ?_ _) | (with_reducible refine Turn.below ?_ hk9))))
   (first | (go_at_call 95;(with_reducible refine (Pk.rnext_any _ _ _ _).mono ?_);rintro e wq ⟨rfl,rfl⟩) | (go_at_call 94;(with_reducible refine (HC.out _ (H.rW.step (by repeat (first | (with_reducible exact Below.refl _ _) | (with_reducible refine Below.drew ?_) | (with_reducible refine bstep ?_ (boxed _ _))))) (H.rG.step (by repeat (first | (with_reducible exact Below.refl _ _) | (with_reducible refine Below.drew ?_) | (with_reducible refine bstep ?_ (boxed _ _)))))).mono ?_);rintro e w9 ⟨A2,B2,a2,b2,rfl,s1,s3,hk9,F1,F2⟩;have HX:=H.via hk9 (by repeat (first | (with_reducible exact Below.refl _ _) | (with_reducible refine Below.drew ?_) | (with_reducible refine bstep ?_ (boxed _ _))));obtain ⟨gc,gf⟩:=bcell hk9;have hz10:=hk9.size;simp at hz10))
  all_goals go_wp2_with fail
  all_goals go_meet
  all_goals first
   | exact ⟨rfl,⟨_,A2,B2,a2,b2,rfl,HX.2.step (boxed _ _),MVar.new s1 s3 (HX.1.whW F1 HW2.out) (HX.1.whG F2 HG2.out) (by omega)⟩⟩
   | exact ⟨rfl,⟨_,A2,B2,a2,b2,rfl,HX.2.set3 (show w9.heap[w1.heap.size]? = some (.cells #[.slice none 0 0,.slice none 0 0,.bool false] 26 (0,0)) from (hk9.block _ (by simp)).trans (heap_alloc_new _ _)) z2 _ _ _,MVar.set (show w9.heap[w1.heap.size]? = some (.cells #[.slice none 0 0,.slice none 0 0,.bool false] 26 (0,0)) from (hk9.block _ (by simp)).trans (heap_alloc_new _ _)) s1 s3 (HX.1.whW F1 HW2.out) (HX.1.whG F2 HG2.out) z2⟩⟩
 case rest =>
  clear H z0 z1 z2 p0 p1 p2 f2 f3
  obtain ⟨rfl,hL⟩:=hcut
  obtain ⟨vM,A2,B2,a2,b2,rfl,H2,KM⟩:=hL
  have H:=H2
  clear H2
  obtain ⟨z0,z1,z2⟩:=H.zs
  go_upto_region 18 with (fail)
  obtain ⟨x0,x1,x2⟩:=cells3 KM.bM
  obtain ⟨p0,p1,p2,p3,p4⟩:=cells5 H.bS
  have HT:=hid (show ∀ w',Row w' A2 s2.M.W→Row w' B2 s2.M.G→Calls Tryz.prog 9 #[.agg #[.slice A2 s2.M.W.length a2,.slice B2 s2.M.G.length b2,.bool s2.M.bad],.int .i64 (pIdx r0),.int .i64 1] w' (RetMem w' t3.M) from fun w' k1 k2=>by have h9:=rturn_any A2 B2 a2 b2 s2.M (pIdx r0) 1 w' k1 k2 fw.1 fw.2.1;rw [HT3.out];exact h9)
  have HM:=hid (show ∀ (A3 B3:Option Addr) (a3 b3:Nat) w',RS w' s A B C L→Row w' A3 t3.M.W→Row w' B3 t3.M.G→Calls Tryz.prog 37 #[.agg (uS A B C L a b c d s),.agg #[.slice A3 t3.M.W.length a3,.slice B3 t3.M.G.length b3,.bool t3.M.bad]] w' fun e w''=>e = .returned (.agg (uS A3 B3 C L a3 b3 c d t3))∧RS w'' t3 A3 B3 C L∧Below w'.heap.size w' w'' from fun A3 B3 a3 b3 w' k1 k2 k3=>by have h9:=rmem3_any A B C L A3 B3 a b c d a3 b3 s t3.M w' k1 k2 k3;have e9:syMem s t3.M = t3:=(by rw [HT3.out,HS2.out];rfl);have e8:t3.C = s.C:=(by rw [HT3.out,HS2.out];rfl);have e7:t3.L = s.L:=(by rw [HT3.out,HS2.out];rfl);rw [e9] at h9;dsimp only [uS];rw [e8,e7];exact h9)
  go_region_with (first | (go_at_call 9;(with_reducible refine (HT.out _ (KM.rW.step ((Below.refl _ _).drew)) (KM.rG.step ((Below.refl _ _).drew))).mono ?_);rintro e w5 ⟨A3,B3,a3,b3,rfl,s1,s3,hk5⟩;have hj5:Below wc.heap.size wc w5:=bstep ((Below.refl _ _).drew) hk5;have K5:=H.step hj5;obtain ⟨u0,u1,u2,u3,u4⟩:=cells5 K5.bS) | (go_at_call 37;(with_reducible refine (HM.out A3 B3 a3 b3 _ K5.rs s1 s3).mono ?_);rintro e w6 ⟨rfl,S6,hk6⟩;have K6:=K5.step hk6;have z6:=K6.lt) | (go_at_call 43;(with_reducible refine (rback_u A3 B3 C L a3 b3 c d t3 i (pIdx r0) 0 _ ft S6).mono ?_);rintro e wz ⟨A9,B9,C9,L9,a9,b9,c9,d9,rfl,rW,rG,rC,rL,hz⟩;have kR:=(hz.block (w.heap.size+1+1) z6).trans K6.bR;have kb:=bstep K6.be hz;obtain ⟨q0,q1,q2,q3,q4,qf0,qf1,qf2,qf3,qf4⟩:=cf5 kR))
  all_goals go_wp2_with fail
  all_goals
   refine bodyPost_ret (v:=.agg (uS A9 B9 C9 L9 a9 b9 c9 d9 (pBack t3 i (pIdx r0) 0))) (by simp [uS,results,Tryz.results79,go_sem,q0,q1,q2,q3,q4]) rfl ?_
   exact ret_res kR kb rW rG rC rL
theorem rpop_2n (A B C L:Option Addr) (a b c d:Nat) (s:Sy) (i:Int) (AS:Option Addr) (cS:Nat) (op r0 r1 r2 r3 r4 r5 r6 r7:Int) (xs:List Int) (d0:Sy) (w:World) (hs:SyFew s) (hg:2≤s.M.G.length) (h:RS w s A B C L) (hS:Row w AS xs) (h6:xs.length≤1000000) (hF:∀ x ∈ s.C,x.F.length≤999999) (q:mIs s.M 0 r0 = false) :
  Calls Tryz.prog 79 #[.agg (uS A B C L a b c d s),.int .i64 i,.agg (uF op 2 r0 r1 r2 r3 r4 r5 r6 r7 AS xs cS)] w (RetSys w (pPop s i ⟨op,2,[r0,r1,r2,r3,r4,r5,r6,r7],xs⟩ d0)):=by
 obtain ⟨s2,hs2⟩:∃ t,t = syMem s (mCas s.M 0 r0 (pNext r0 r1 0)):=⟨_,rfl⟩
 have HS2:=hid hs2
 have HC:=hid (show ∀ w',Row w' A s.M.W→Row w' B s.M.G→Calls Tryz.prog 94 #[.agg #[.slice A s.M.W.length a,.slice B s.M.G.length b,.bool s.M.bad],.int .i64 0,.int .i64 r0,.int .i64 (pNext r0 r1 0)] w' (RetMem2O w' A B s2.M (.bool false)) from fun w' k1 k2=>by have h9:=rcas_o A B a b s.M 0 r0 (pNext r0 r1 0) w' k1 k2 hs.1 hs.2.1 (by omega);rw [q] at h9;rw [hs2];exact h9)
 have lW:s2.M.W.length = s.M.W.length:=by rw [hs2];show (mCas s.M 0 r0 (pNext r0 r1 0)).W.length = s.M.W.length;unfold mCas;dsimp only;split <;> simp
 have lG:s2.M.G.length = s.M.G.length:=by rw [hs2];rfl
 have HW2:=hid lW
 have HG2:=hid lG
 have fw:SyFew s2:=by rw [hs2];exact few_mem hs (by show (mCas s.M 0 r0 (pNext r0 r1 0)).W.length = s.M.W.length;unfold mCas;dsimp only;split <;> simp) (by rfl)
 clear lW lG
 have es2:syMem s s2.M = s2:=by rw [hs2];rfl
 have ES:=hid es2
 clear es2
 have hres:pPop s i ⟨op,2,[r0,r1,r2,r3,r4,r5,r6,r7],xs⟩ d0 = pSet s2 i ⟨op,0,[r0,r1,r2,r3,r4,r5,r6,r7],xs⟩:=by unfold pPop;rw [if_neg (by simp),if_neg (by simp),if_pos rfl];show pSwap s i ⟨op,2,[r0,r1,r2,r3,r4,r5,r6,r7],xs⟩ r0 r1 (pIdx r0) 1 = _;unfold pSwap;rw [if_neg (by rw [q];simp),hs2]
 rw [hres]
 clear hres hs2 q
 have h0:=hs.1
 have h1:=hs.2.1
 have hg1:1≤s.M.G.length:=by omega
 have H:=SF.start w s A B C L a b c d (uF op 2 r0 r1 r2 r3 r4 r5 r6 r7 AS xs cS) h
 clear h
 go_enter Tryz.func79,Tryz.ntmps79
 go_upto_region 1 with (fail)
 generalize (((w.alloc (.cells (uS A B C L a b c d s) 30)).alloc (.cells (uF op 2 r0 r1 r2 r3 r4 r5 r6 r7 AS xs cS) 60)).alloc (.cells uZ 30)) = w1 at *
 obtain ⟨z0,z1,z2⟩:=H.zs
 obtain ⟨f0,f1,f2,f3,f4,f5,f6,f7,f8,f9,f10⟩:=cells11 H.bF
 go_upto_region 15 with (go_at_call 30;(with_reducible refine (Pk.rindex_any _ _).mono ?_);rintro e wq ⟨rfl,rfl⟩)
 clear f0 f1 f2 f3 f4 f5 f6 f7 f8 f9 f10
 obtain ⟨p0,p1,p2⟩:=cells3 H.bS
 obtain ⟨-,-,f2,f3⟩:=cells4 H.bF
 go_cut [13,14] from 71 (fun y13 y14 wx=>y14 = .bool false∧Laid4 w s A B C L a b c d (uF op 2 r0 r1 r2 r3 r4 r5 r6 r7 AS xs cS) s2.M y13 wx)
 case first =>
  have KS:=hid (show ∀ w',Turn (fun b=>w1.heap.size≤b) w1 w'→(w'.cell? ⟨w.heap.size,0,none⟩ = some (.slice A s.M.W.length a)∧w'.cell? ⟨w.heap.size,1,none⟩ = some (.slice B s.M.G.length b)∧w'.cell? ⟨w.heap.size,2,none⟩ = some (.bool s.M.bad)∧w'.cell? ⟨w.heap.size+1,2,none⟩ = some (.int .i64 r0)∧w'.cell? ⟨w.heap.size+1,3,none⟩ = some (.int .i64 r1)) from fun w' h=>⟨(h.cell z0 (by omega)).trans p0,(h.cell z0 (by omega)).trans p1,(h.cell z0 (by omega)).trans p2,(h.cell z1 (by omega)).trans f2,(h.cell z1 (by omega)).trans f3⟩)
  go_region_held3 (fun w'=>w'.cell? ⟨w.heap.size,0,none⟩ = some (.slice A s.M.W.length a)∧w'.cell? ⟨w.heap.size,1,none⟩ = some (.slice B s.M.G.length b)∧w'.cell? ⟨w.heap.size,2,none⟩ = some (.bool s.M.bad)∧w'.cell? ⟨w.heap.size+1,2,none⟩ = some (.int .i64 r0)∧w'.cell? ⟨w.heap.size+1,3,none⟩ = some (.int .i64 r1)) (exact KS.out _ (by repeat (first | (with_reducible exact Turn.refl _ _) | (with_reducible refine Turn.set ?_ (by first | (simp;done) | (simp;omega) | (have h9:=hk9.size;simp at h9 ⊢;omega)) _ _) | (with_reducible refine Turn.drew ?_) | (with_reducible refine Turn.alloc ?_ _) | (with_reducible refine Turn.below ?_ hk9))))
   (first | (go_at_call 95;(with_reducible refine (Pk.rnext_any _ _ _ _).mono ?_);rintro e wq ⟨rfl,rfl⟩) | (go_at_call 94;(with_reducible refine (HC.out _ (H.rW.step (by repeat (first | (with_reducible exact Below.refl _ _) | (with_reducible refine Below.drew ?_) | (with_reducible refine bstep ?_ (boxed _ _))))) (H.rG.step (by repeat (first | (with_reducible exact Below.refl _ _) | (with_reducible refine Below.drew ?_) | (with_reducible refine bstep ?_ (boxed _ _)))))).mono ?_);rintro e w9 ⟨A2,B2,a2,b2,rfl,s1,s3,hk9,F1,F2⟩;have HX:=H.via hk9 (by repeat (first | (with_reducible exact Below.refl _ _) | (with_reducible refine Below.drew ?_) | (with_reducible refine bstep ?_ (boxed _ _))));obtain ⟨gc,gf⟩:=bcell hk9;have hz10:=hk9.size;simp at hz10))
  all_goals go_wp2_with fail
  all_goals go_meet
  all_goals first
   | exact ⟨rfl,⟨_,A2,B2,a2,b2,rfl,HX.2.step (boxed _ _),MVar.new s1 s3 (HX.1.whW F1 HW2.out) (HX.1.whG F2 HG2.out) (by omega)⟩⟩
   | exact ⟨rfl,⟨_,A2,B2,a2,b2,rfl,HX.2.set3 (show w9.heap[w1.heap.size]? = some (.cells #[.slice none 0 0,.slice none 0 0,.bool false] 26 (0,0)) from (hk9.block _ (by simp)).trans (heap_alloc_new _ _)) z2 _ _ _,MVar.set (show w9.heap[w1.heap.size]? = some (.cells #[.slice none 0 0,.slice none 0 0,.bool false] 26 (0,0)) from (hk9.block _ (by simp)).trans (heap_alloc_new _ _)) s1 s3 (HX.1.whW F1 HW2.out) (HX.1.whG F2 HG2.out) z2⟩⟩
 case rest =>
  clear H z0 z1 z2 p0 p1 p2 f2 f3
  obtain ⟨rfl,hL⟩:=hcut
  obtain ⟨vM,A2,B2,a2,b2,rfl,H2,KM⟩:=hL
  have H:=H2
  clear H2
  obtain ⟨z0,z1,z2⟩:=H.zs
  obtain ⟨x0,x1,x2⟩:=cells3 KM.bM
  obtain ⟨p0,p1,p2,p3,p4⟩:=cells5 H.bS
  obtain ⟨f0,f1,f2,f3,f4,f5,f6,f7,f8,f9,f10⟩:=cells11 H.bF
  have HO:=hid (show Calls Tryz.prog 78 #[.agg (uS A B C L a b c d s),.int .i64 i,.agg #[.slice A2 s2.M.W.length a2,.slice B2 s2.M.G.length b2,.bool s2.M.bad],.agg (uF op 2 r0 r1 r2 r3 r4 r5 r6 r7 AS xs cS),.int .i64 0] wc (RetSys wc (pSet s2 i ⟨op,0,[r0,r1,r2,r3,r4,r5,r6,r7],xs⟩)) by have h9:=on_any A B C L A2 B2 a b c d a2 b2 s s2.M i AS cS op 2 r0 r1 r2 r3 r4 r5 r6 r7 xs 0 wc (by rw [ES.out];exact fw) hF H.rs KM.rW KM.rG (hS.step H.be);rw [ES.out] at h9;exact h9)
  go_wp2_with (go_at_call 78;(with_reducible refine (HO.out).mono ?_);rintro e wz ⟨A9,B9,C9,L9,a9,b9,c9,d9,rfl,rW,rG,rC,rL,hz⟩;have kR:=(hz.block (w.heap.size+1+1) z2).trans H.bR;have kb:=bstep H.be hz;obtain ⟨q0,q1,q2,q3,q4,qf0,qf1,qf2,qf3,qf4⟩:=cf5 kR)
  refine bodyPost_ret (v:=.agg (uS A9 B9 C9 L9 a9 b9 c9 d9 (pSet s2 i ⟨op,0,[r0,r1,r2,r3,r4,r5,r6,r7],xs⟩))) (by simp [uS,results,Tryz.results79,go_sem,q0,q1,q2,q3,q4]) rfl ?_
  exact ret_res kR kb rW rG rC rL
theorem rpop_x (A B C L:Option Addr) (a b c d:Nat) (s:Sy) (i:Int) (AS:Option Addr) (cS:Nat) (op pc r0 r1 r2 r3 r4 r5 r6 r7:Int) (xs:List Int) (d0:Sy) (w:World) (hs:SyFew s) (hg:2≤s.M.G.length) (h:RS w s A B C L) (hS:Row w AS xs) (h6:xs.length≤1000000) (hF:∀ x ∈ s.C,x.F.length≤999999) (q0:¬ pc = 0) (q1:¬ pc = 1) (q2:¬ pc = 2) (hd:d0 = s) :
  Calls Tryz.prog 79 #[.agg (uS A B C L a b c d s),.int .i64 i,.agg (uF op pc r0 r1 r2 r3 r4 r5 r6 r7 AS xs cS)] w (RetSys w (pPop s i ⟨op,pc,[r0,r1,r2,r3,r4,r5,r6,r7],xs⟩ d0)):=by
 have hres:pPop s i ⟨op,pc,[r0,r1,r2,r3,r4,r5,r6,r7],xs⟩ d0 = s:=by unfold pPop;rw [if_neg q0,if_neg q1,if_neg q2];exact hd
 rw [hres]
 clear hres hd
 have e0:(pc == 0) = false:=by simpa using q0
 have e1:(pc == 1) = false:=by simpa using q1
 have e2:(pc != 2) = true:=by simpa using q2
 clear q0 q1 q2
 have h0:=hs.1
 have h1:=hs.2.1
 have hg1:1≤s.M.G.length:=by omega
 have H:=SF.start w s A B C L a b c d (uF op pc r0 r1 r2 r3 r4 r5 r6 r7 AS xs cS) h
 clear h
 go_enter Tryz.func79,Tryz.ntmps79
 go_upto_region 1 with (fail)
 generalize (((w.alloc (.cells (uS A B C L a b c d s) 30)).alloc (.cells (uF op pc r0 r1 r2 r3 r4 r5 r6 r7 AS xs cS) 60)).alloc (.cells uZ 30)) = w1 at *
 obtain ⟨z0,z1,z2⟩:=H.zs
 obtain ⟨p0,p1,p2,p3,p4⟩:=cells5 H.bS
 obtain ⟨f0,f1,f2,f3,f4,f5,f6,f7,f8,f9,f10⟩:=cells11 H.bF
 have kR:=H.bR
 obtain ⟨q0,q1,q2,q3,q4,qf0,qf1,qf2,qf3,qf4⟩:=cf5 kR
 go_wp2_with (go_at_call 30;(with_reducible refine (Pk.rindex_any _ _).mono ?_);rintro e wq ⟨rfl,rfl⟩)
 refine bodyPost_ret (v:=.agg (uS A B C L a b c d s)) (by simp [uS,results,Tryz.results79,go_sem,q0,q1,q2,q3,q4]) rfl ?_
 exact ret_res kR H.be H.rs.W H.rs.G H.rs.C H.rs.L
theorem rpop_any (A B C L:Option Addr) (a b c d:Nat) (s:Sy) (i:Int) (AS:Option Addr) (cS:Nat) (op pc r0 r1 r2 r3 r4 r5 r6 r7:Int) (xs:List Int) (d0:Sy) (w:World) (hs:SyFew s) (hg:2≤s.M.G.length) (h:RS w s A B C L) (hS:Row w AS xs) (h6:xs.length≤1000000) (hF:∀ x ∈ s.C,x.F.length≤999999) (hL:s.L.length≤999998) (hd:d0 = s) :
  Calls Tryz.prog 79 #[.agg (uS A B C L a b c d s),.int .i64 i,.agg (uF op pc r0 r1 r2 r3 r4 r5 r6 r7 AS xs cS)] w (RetSys w (pPop s i ⟨op,pc,[r0,r1,r2,r3,r4,r5,r6,r7],xs⟩ d0)):=by
 by_cases q0:pc = 0
 ·subst q0
  by_cases hq:pIdx (mVal s.M 0) = 0
  ·exact rpop_0a A B C L a b c d s i AS cS op r0 r1 r2 r3 r4 r5 r6 r7 xs d0 w hs hg h hS h6 hF hL hq
  ·exact rpop_0b A B C L a b c d s i AS cS op r0 r1 r2 r3 r4 r5 r6 r7 xs d0 w hs hg h hS h6 hF hq
 ·by_cases q1:pc = 1
  ·subst q1;exact rpop_1 A B C L a b c d s i AS cS op r0 r1 r2 r3 r4 r5 r6 r7 xs d0 w hs hg h hS h6 hF
  ·by_cases q2:pc = 2
   ·subst q2
    rcases Bool.eq_false_or_eq_true (mIs s.M 0 r0) with q | q
    ·exact rpop_2y A B C L a b c d s i AS cS op r0 r1 r2 r3 r4 r5 r6 r7 xs d0 w hs hg h hS h6 hF q
    ·exact rpop_2n A B C L a b c d s i AS cS op r0 r1 r2 r3 r4 r5 r6 r7 xs d0 w hs hg h hS h6 hF q
   ·exact rpop_x A B C L a b c d s i AS cS op pc r0 r1 r2 r3 r4 r5 r6 r7 xs d0 w hs hg h hS h6 hF q0 q1 q2 hd
theorem rpush_0 (A B C L:Option Addr) (a b c d:Nat) (s:Sy) (i:Int) (AS:Option Addr) (cS:Nat) (op r0 r1 r2 r3 r4 r5 r6 r7:Int) (xs:List Int) (d0:Sy) (w:World) (hs:SyFew s) (hg:2≤s.M.G.length) (h:RS w s A B C L) (hS:Row w AS xs) (h6:xs.length≤1000000) (hF:∀ x ∈ s.C,x.F.length≤999999)  :
  Calls Tryz.prog 80 #[.agg (uS A B C L a b c d s),.int .i64 i,.agg (uF op 0 r0 r1 r2 r3 r4 r5 r6 r7 AS xs cS)] w (RetSys w (pPush s i ⟨op,0,[r0,r1,r2,r3,r4,r5,r6,r7],xs⟩ d0)):=by
 obtain ⟨s2,hs2⟩:∃ t,t = syMem s (mLoad s.M 0):=⟨_,rfl⟩
 obtain ⟨vv,hvv⟩:∃ v,v = mVal s.M 0:=⟨_,rfl⟩
 have HV:=hid hvv
 have HS2:=hid hs2
 have HC:=hid (show ∀ w',Row w' A s.M.W→Row w' B s.M.G→Calls Tryz.prog 29 #[.agg #[.slice A s.M.W.length a,.slice B s.M.G.length b,.bool s.M.bad],.int .i64 0] w' (RetMem2O w' A B s2.M (.int .i64 vv)) from fun w' k1 k2=>by have h9:=rload_o A B a b s.M 0 w' k1 k2 hs.1 hs.2.1 (by omega);rw [← hvv] at h9;rw [hs2];exact h9)
 have lW:s2.M.W.length = s.M.W.length:=by rw [hs2];rfl
 have lG:s2.M.G.length = s.M.G.length:=by rw [hs2];rfl
 have HW2:=hid lW
 have HG2:=hid lG
 have fw:SyFew s2:=by rw [hs2];exact few_mem hs (by rfl) (by rfl)
 clear lW lG
 have es2:syMem s s2.M = s2:=by rw [hs2];rfl
 have ES:=hid es2
 clear es2
 have hres:pPush s i ⟨op,0,[r0,r1,r2,r3,r4,r5,r6,r7],xs⟩ d0 = pSet s2 i ⟨op,1,[r0,vv,r2,r3,r4,r5,r6,r7],xs⟩:=by unfold pPush;rw [if_pos rfl,hs2,hvv];rfl
 rw [hres]
 clear hres hs2 hvv
 have h0:=hs.1
 have h1:=hs.2.1
 have hg1:1≤s.M.G.length:=by omega
 have H:=SF.start w s A B C L a b c d (uF op 0 r0 r1 r2 r3 r4 r5 r6 r7 AS xs cS) h
 clear h
 go_enter Tryz.func80,Tryz.ntmps80
 go_upto_region 1 with (fail)
 generalize (((w.alloc (.cells (uS A B C L a b c d s) 30)).alloc (.cells (uF op 0 r0 r1 r2 r3 r4 r5 r6 r7 AS xs cS) 60)).alloc (.cells uZ 30)) = w1 at *
 obtain ⟨z0,z1,z2⟩:=H.zs
 obtain ⟨p0,p1,p2,p3,p4⟩:=cells5 H.bS
 obtain ⟨-,f1⟩:=cells2 H.bF
 go_upto_region 3 with (go_at_call 29;(with_reducible refine (HC.out _ H.rW H.rG).mono ?_);rintro e w4 ⟨A2,B2,a2,b2,rfl,s1,s3,hk4,F1,F2⟩)
 clear p0 p1 p2 p3 p4 f1
 have K4:=H.step hk4
 have KM:=MVar.new (a:=a2) (b:=b2) s1 s3 (H.whW F1 HW2.out) (H.whG F2 HG2.out) K4.lt
 have K5:=K4.step (boxed w4 (.cells #[.slice A2 s2.M.W.length a2,.slice B2 s2.M.G.length b2,.bool s2.M.bad] 26))
 clear H K4 s1 s3 F1 F2 hk4 z0 z1 z2
 obtain ⟨vM,hv⟩:∃ v,w4.heap.size = v:=⟨_,rfl⟩
 rw [hv] at KM ⊢
 clear hv
 generalize w4.alloc (.cells #[.slice A2 s2.M.W.length a2,.slice B2 s2.M.G.length b2,.bool s2.M.bad] 26) = w5 at *
 have H:=K5
 clear K5
 obtain ⟨z0,z1,z2⟩:=H.zs
 obtain ⟨f0,f1,f2,f3,f4,f5,f6,f7,f8,f9,f10,ff0,ff1,ff2,ff3,ff4,ff5,ff6,ff7,ff8,ff9,ff10⟩:=cf11 H.bF
 go_upto_region 4 with (fail)
 have K7:=H.putF 3 (.int .i64 vv)
 have M7:=KM.putF 3 (.int .i64 vv)
 clear H KM z0 z1 z2
 clear f0 f1 f2 f3 f4 f5 f6 f7 f8 f9 f10 ff0 ff1 ff2 ff3 ff4 ff5 ff6 ff7 ff8 ff9 ff10
 generalize w5.setCell ⟨w.heap.size+1,3,none⟩ (.int .i64 vv) = w7 at *
 have H:SF w s A B C L a b c d (uF op 0 r0 vv r2 r3 r4 r5 r6 r7 AS xs cS) w7:=K7
 have KM:=M7
 clear K7 M7
 obtain ⟨z0,z1,z2⟩:=H.zs
 obtain ⟨x0,x1,x2⟩:=cells3 KM.bM
 obtain ⟨p0,p1,p2,p3,p4⟩:=cells5 H.bS
 obtain ⟨f0,f1,f2,f3,f4,f5,f6,f7,f8,f9,f10⟩:=cells11 H.bF
 have HO:=hid (show Calls Tryz.prog 78 #[.agg (uS A B C L a b c d s),.int .i64 i,.agg #[.slice A2 s2.M.W.length a2,.slice B2 s2.M.G.length b2,.bool s2.M.bad],.agg (uF op 0 r0 vv r2 r3 r4 r5 r6 r7 AS xs cS),.int .i64 1] w7 (RetSys w7 (pSet s2 i ⟨op,1,[r0,vv,r2,r3,r4,r5,r6,r7],xs⟩)) by have h9:=on_any A B C L A2 B2 a b c d a2 b2 s s2.M i AS cS op 0 r0 vv r2 r3 r4 r5 r6 r7 xs 1 w7 (by rw [ES.out];exact fw) hF H.rs KM.rW KM.rG (hS.step H.be);rw [ES.out] at h9;exact h9)
 go_wp2_with (go_at_call 78;(with_reducible refine (HO.out).mono ?_);rintro e wz ⟨A9,B9,C9,L9,a9,b9,c9,d9,rfl,rW,rG,rC,rL,hz⟩;have kR:=(hz.block (w.heap.size+1+1) z2).trans H.bR;have kb:=bstep H.be hz;obtain ⟨q0,q1,q2,q3,q4,qf0,qf1,qf2,qf3,qf4⟩:=cf5 kR)
 refine bodyPost_ret (v:=.agg (uS A9 B9 C9 L9 a9 b9 c9 d9 (pSet s2 i ⟨op,1,[r0,vv,r2,r3,r4,r5,r6,r7],xs⟩))) (by simp [uS,results,Tryz.results80,go_sem,q0,q1,q2,q3,q4]) rfl ?_
 exact ret_res kR kb rW rG rC rL
theorem rpush_1 (A B C L:Option Addr) (a b c d:Nat) (s:Sy) (i:Int) (AS:Option Addr) (cS:Nat) (op r0 r1 r2 r3 r4 r5 r6 r7:Int) (xs:List Int) (d0:Sy) (w:World) (hs:SyFew s) (hg:2≤s.M.G.length) (h:RS w s A B C L) (hS:Row w AS xs) (h6:xs.length≤1000000) (hF:∀ x ∈ s.C,x.F.length≤999999)  :
  Calls Tryz.prog 80 #[.agg (uS A B C L a b c d s),.int .i64 i,.agg (uF op 1 r0 r1 r2 r3 r4 r5 r6 r7 AS xs cS)] w (RetSys w (pPush s i ⟨op,1,[r0,r1,r2,r3,r4,r5,r6,r7],xs⟩ d0)):=by
 obtain ⟨s2,hs2⟩:∃ t,t = syMem s (mStore s.M (pLink r0) (pIdx r1)):=⟨_,rfl⟩
 have HS2:=hid hs2
 have HC:=hid (show ∀ w',Row w' A s.M.W→Row w' B s.M.G→Calls Tryz.prog 11 #[.agg #[.slice A s.M.W.length a,.slice B s.M.G.length b,.bool s.M.bad],.int .i64 (pLink r0),.int .i64 (pIdx r1)] w' (RetMemO w' A B s2.M) from fun w' k1 k2=>by have h9:=rstore_o A B a b s.M (pLink r0) (pIdx r1) w' k1 k2 hs.1 hs.2.1 (by omega);rw [hs2];exact h9)
 have lW:s2.M.W.length = s.M.W.length:=by rw [hs2];exact (mStore_len _ _ _).1
 have lG:s2.M.G.length = s.M.G.length:=by rw [hs2];exact congrArg List.length (mStore_len s.M (pLink r0) (pIdx r1)).2
 have HW2:=hid lW
 have HG2:=hid lG
 have fw:SyFew s2:=by rw [hs2];exact few_mem hs (by exact (mStore_len _ _ _).1) (by exact congrArg List.length (mStore_len s.M (pLink r0) (pIdx r1)).2)
 clear lW lG
 have es2:syMem s s2.M = s2:=by rw [hs2];rfl
 have ES:=hid es2
 clear es2
 have hres:pPush s i ⟨op,1,[r0,r1,r2,r3,r4,r5,r6,r7],xs⟩ d0 = pSet s2 i ⟨op,2,[r0,r1,r2,r3,r4,r5,r6,r7],xs⟩:=by unfold pPush;rw [if_neg (by simp),if_pos rfl,hs2];rfl
 rw [hres]
 clear hres hs2
 have h0:=hs.1
 have h1:=hs.2.1
 have hg1:1≤s.M.G.length:=by omega
 have H:=SF.start w s A B C L a b c d (uF op 1 r0 r1 r2 r3 r4 r5 r6 r7 AS xs cS) h
 clear h
 go_enter Tryz.func80,Tryz.ntmps80
 go_upto_region 1 with (fail)
 generalize (((w.alloc (.cells (uS A B C L a b c d s) 30)).alloc (.cells (uF op 1 r0 r1 r2 r3 r4 r5 r6 r7 AS xs cS) 60)).alloc (.cells uZ 30)) = w1 at *
 obtain ⟨z0,z1,z2⟩:=H.zs
 obtain ⟨f0,f1,f2,f3,f4,f5,f6,f7,f8,f9,f10⟩:=cells11 H.bF
 go_upto_region 6 with (fail)
 clear f0 f1 f2 f3 f4 f5 f6 f7 f8 f9 f10
 obtain ⟨p0,p1,p2⟩:=cells3 H.bS
 obtain ⟨-,-,f2,f3⟩:=cells4 H.bF
 go_cut [9] from 32 (fun y9 wx=>Laid4 w s A B C L a b c d (uF op 1 r0 r1 r2 r3 r4 r5 r6 r7 AS xs cS) s2.M y9 wx)
 case first =>
  have KS:=hid (show ∀ w',Turn (fun b=>w1.heap.size≤b) w1 w'→(w'.cell? ⟨w.heap.size,0,none⟩ = some (.slice A s.M.W.length a)∧w'.cell? ⟨w.heap.size,1,none⟩ = some (.slice B s.M.G.length b)∧w'.cell? ⟨w.heap.size,2,none⟩ = some (.bool s.M.bad)∧w'.cell? ⟨w.heap.size+1,2,none⟩ = some (.int .i64 r0)∧w'.cell? ⟨w.heap.size+1,3,none⟩ = some (.int .i64 r1)) from fun w' h=>⟨(h.cell z0 (by omega)).trans p0,(h.cell z0 (by omega)).trans p1,(h.cell z0 (by omega)).trans p2,(h.cell z1 (by omega)).trans f2,(h.cell z1 (by omega)).trans f3⟩)
  go_region_held3 (fun w'=>w'.cell? ⟨w.heap.size,0,none⟩ = some (.slice A s.M.W.length a)∧w'.cell? ⟨w.heap.size,1,none⟩ = some (.slice B s.M.G.length b)∧w'.cell? ⟨w.heap.size,2,none⟩ = some (.bool s.M.bad)∧w'.cell? ⟨w.heap.size+1,2,none⟩ = some (.int .i64 r0)∧w'.cell? ⟨w.heap.size+1,3,none⟩ = some (.int .i64 r1)) (exact KS.out _ (by repeat (first | (with_reducible exact Turn.refl _ _) | (with_reducible refine Turn.set ?_ (by first | (simp;done) | (simp;omega) | (have h9:=hk9.size;simp at h9 ⊢;omega)) _ _) | (with_reducible refine Turn.drew ?_) | (with_reducible refine Turn.alloc ?_ _) | (with_reducible refine Turn.below ?_ hk9))))
   (first | (go_at_call 31;(with_reducible refine (rlink_any _ _).mono ?_);rintro e wq ⟨rfl,rfl⟩) | (go_at_call 30;(with_reducible refine (Pk.rindex_any _ _).mono ?_);rintro e wq ⟨rfl,rfl⟩) | (go_at_call 11;(with_reducible refine (HC.out _ (H.rW.step (by repeat (first | (with_reducible exact Below.refl _ _) | (with_reducible refine Below.drew ?_) | (with_reducible refine bstep ?_ (boxed _ _))))) (H.rG.step (by repeat (first | (with_reducible exact Below.refl _ _) | (with_reducible refine Below.drew ?_) | (with_reducible refine bstep ?_ (boxed _ _)))))).mono ?_);rintro e w9 ⟨A2,B2,a2,b2,rfl,s1,s3,hk9,F1,F2⟩;have HX:=H.via hk9 (by repeat (first | (with_reducible exact Below.refl _ _) | (with_reducible refine Below.drew ?_) | (with_reducible refine bstep ?_ (boxed _ _))));obtain ⟨gc,gf⟩:=bcell hk9;have hz10:=hk9.size;simp at hz10))
  all_goals go_wp2_with fail
  all_goals go_meet
  all_goals first
   | exact ⟨_,A2,B2,a2,b2,rfl,HX.2.step (boxed _ _),MVar.new s1 s3 (HX.1.whW F1 HW2.out) (HX.1.whG F2 HG2.out) (by omega)⟩
   | exact ⟨_,A2,B2,a2,b2,rfl,HX.2.set3 (show w9.heap[w1.heap.size]? = some (.cells #[.slice none 0 0,.slice none 0 0,.bool false] 26 (0,0)) from (hk9.block _ (by simp)).trans (heap_alloc_new _ _)) z2 _ _ _,MVar.set (show w9.heap[w1.heap.size]? = some (.cells #[.slice none 0 0,.slice none 0 0,.bool false] 26 (0,0)) from (hk9.block _ (by simp)).trans (heap_alloc_new _ _)) s1 s3 (HX.1.whW F1 HW2.out) (HX.1.whG F2 HG2.out) z2⟩
 case rest =>
  clear H z0 z1 z2 p0 p1 p2 f2 f3
  have hL:=hcut
  obtain ⟨vM,A2,B2,a2,b2,rfl,H2,KM⟩:=hL
  have H:=H2
  clear H2
  obtain ⟨z0,z1,z2⟩:=H.zs
  obtain ⟨x0,x1,x2⟩:=cells3 KM.bM
  obtain ⟨p0,p1,p2,p3,p4⟩:=cells5 H.bS
  obtain ⟨f0,f1,f2,f3,f4,f5,f6,f7,f8,f9,f10⟩:=cells11 H.bF
  have HO:=hid (show Calls Tryz.prog 78 #[.agg (uS A B C L a b c d s),.int .i64 i,.agg #[.slice A2 s2.M.W.length a2,.slice B2 s2.M.G.length b2,.bool s2.M.bad],.agg (uF op 1 r0 r1 r2 r3 r4 r5 r6 r7 AS xs cS),.int .i64 2] wc (RetSys wc (pSet s2 i ⟨op,2,[r0,r1,r2,r3,r4,r5,r6,r7],xs⟩)) by have h9:=on_any A B C L A2 B2 a b c d a2 b2 s s2.M i AS cS op 1 r0 r1 r2 r3 r4 r5 r6 r7 xs 2 wc (by rw [ES.out];exact fw) hF H.rs KM.rW KM.rG (hS.step H.be);rw [ES.out] at h9;exact h9)
  go_wp2_with (go_at_call 78;(with_reducible refine (HO.out).mono ?_);rintro e wz ⟨A9,B9,C9,L9,a9,b9,c9,d9,rfl,rW,rG,rC,rL,hz⟩;have kR:=(hz.block (w.heap.size+1+1) z2).trans H.bR;have kb:=bstep H.be hz;obtain ⟨q0,q1,q2,q3,q4,qf0,qf1,qf2,qf3,qf4⟩:=cf5 kR)
  refine bodyPost_ret (v:=.agg (uS A9 B9 C9 L9 a9 b9 c9 d9 (pSet s2 i ⟨op,2,[r0,r1,r2,r3,r4,r5,r6,r7],xs⟩))) (by simp [uS,results,Tryz.results80,go_sem,q0,q1,q2,q3,q4]) rfl ?_
  exact ret_res kR kb rW rG rC rL
theorem rpush_2y (A B C L:Option Addr) (a b c d:Nat) (s:Sy) (i:Int) (AS:Option Addr) (cS:Nat) (op r0 r1 r2 r3 r4 r5 r6 r7:Int) (xs:List Int) (d0:Sy) (w:World) (hs:SyFew s) (hg:2≤s.M.G.length) (h:RS w s A B C L) (hS:Row w AS xs) (h6:xs.length≤1000000) (hF:∀ x ∈ s.C,x.F.length≤999999) (q:mIs s.M 0 r1 = true) :
  Calls Tryz.prog 80 #[.agg (uS A B C L a b c d s),.int .i64 i,.agg (uF op 2 r0 r1 r2 r3 r4 r5 r6 r7 AS xs cS)] w (RetSys w (pPush s i ⟨op,2,[r0,r1,r2,r3,r4,r5,r6,r7],xs⟩ d0)):=by
 obtain ⟨s2,hs2⟩:∃ t,t = syMem s (mCas s.M 0 r1 (pNext r1 r0 0)):=⟨_,rfl⟩
 have HS2:=hid hs2
 have HC:=hid (show ∀ w',Row w' A s.M.W→Row w' B s.M.G→Calls Tryz.prog 94 #[.agg #[.slice A s.M.W.length a,.slice B s.M.G.length b,.bool s.M.bad],.int .i64 0,.int .i64 r1,.int .i64 (pNext r1 r0 0)] w' (RetMem2O w' A B s2.M (.bool true)) from fun w' k1 k2=>by have h9:=rcas_o A B a b s.M 0 r1 (pNext r1 r0 0) w' k1 k2 hs.1 hs.2.1 (by omega);rw [q] at h9;rw [hs2];exact h9)
 have lW:s2.M.W.length = s.M.W.length:=by rw [hs2];show (mCas s.M 0 r1 (pNext r1 r0 0)).W.length = s.M.W.length;unfold mCas;dsimp only;split <;> simp
 have lG:s2.M.G.length = s.M.G.length:=by rw [hs2];rfl
 have HW2:=hid lW
 have HG2:=hid lG
 have fw:SyFew s2:=by rw [hs2];exact few_mem hs (by show (mCas s.M 0 r1 (pNext r1 r0 0)).W.length = s.M.W.length;unfold mCas;dsimp only;split <;> simp) (by rfl)
 clear lW lG
 have es2:syMem s s2.M = s2:=by rw [hs2];rfl
 have ES:=hid es2
 clear es2
 obtain ⟨t3,ht3⟩:∃ t,t = syMem s2 (mTurn s2.M r0 0):=⟨_,rfl⟩
 have hl3:(mTurn s2.M r0 0).G.length = s2.M.G.length:=by unfold mTurn;dsimp only;split <;> simp
 have ft:SyFew t3:=by rw [ht3];exact few_mem fw rfl hl3
 have HT3:=hid ht3
 clear hl3
 have hres:pPush s i ⟨op,2,[r0,r1,r2,r3,r4,r5,r6,r7],xs⟩ d0 = pBack t3 i r0 0:=by unfold pPush;rw [if_neg (by simp),if_neg (by simp),if_pos rfl];show pSwap s i ⟨op,2,[r0,r1,r2,r3,r4,r5,r6,r7],xs⟩ r1 r0 r0 0 = _;unfold pSwap;rw [if_pos q,ht3,hs2];rfl
 clear ht3
 rw [hres]
 clear hres hs2 q
 have h0:=hs.1
 have h1:=hs.2.1
 have hg1:1≤s.M.G.length:=by omega
 have H:=SF.start w s A B C L a b c d (uF op 2 r0 r1 r2 r3 r4 r5 r6 r7 AS xs cS) h
 clear h
 go_enter Tryz.func80,Tryz.ntmps80
 go_upto_region 1 with (fail)
 generalize (((w.alloc (.cells (uS A B C L a b c d s) 30)).alloc (.cells (uF op 2 r0 r1 r2 r3 r4 r5 r6 r7 AS xs cS) 60)).alloc (.cells uZ 30)) = w1 at *
 obtain ⟨z0,z1,z2⟩:=H.zs
 obtain ⟨f0,f1,f2,f3,f4,f5,f6,f7,f8,f9,f10⟩:=cells11 H.bF
 go_upto_region 10 with (fail)
 clear f0 f1 f2 f3 f4 f5 f6 f7 f8 f9 f10
 obtain ⟨p0,p1,p2⟩:=cells3 H.bS
 obtain ⟨-,-,f2,f3⟩:=cells4 H.bF
 go_cut [10,11] from 52 (fun y10 y11 wx=>y11 = .bool true∧Laid4 w s A B C L a b c d (uF op 2 r0 r1 r2 r3 r4 r5 r6 r7 AS xs cS) s2.M y10 wx)
 case first =>
  have KS:=hid (show ∀ w',Turn (fun b=>w1.heap.size≤b) w1 w'→(w'.cell? ⟨w.heap.size,0,none⟩ = some (.slice A s.M.W.length a)∧w'.cell? ⟨w.heap.size,1,none⟩ = some (.slice B s.M.G.length b)∧w'.cell? ⟨w.heap.size,2,none⟩ = some (.bool s.M.bad)∧w'.cell? ⟨w.heap.size+1,2,none⟩ = some (.int .i64 r0)∧w'.cell? ⟨w.heap.size+1,3,none⟩ = some (.int .i64 r1)) from fun w' h=>⟨(h.cell z0 (by omega)).trans p0,(h.cell z0 (by omega)).trans p1,(h.cell z0 (by omega)).trans p2,(h.cell z1 (by omega)).trans f2,(h.cell z1 (by omega)).trans f3⟩)
  go_region_held3 (fun w'=>w'.cell? ⟨w.heap.size,0,none⟩ = some (.slice A s.M.W.length a)∧w'.cell? ⟨w.heap.size,1,none⟩ = some (.slice B s.M.G.length b)∧w'.cell? ⟨w.heap.size,2,none⟩ = some (.bool s.M.bad)∧w'.cell? ⟨w.heap.size+1,2,none⟩ = some (.int .i64 r0)∧w'.cell? ⟨w.heap.size+1,3,none⟩ = some (.int .i64 r1)) (exact KS.out _ (by repeat (first | (with_reducible exact Turn.refl _ _) | (with_reducible refine Turn.set ?_ (by first | (simp;done) | (simp;omega) | (have h9:=hk9.size;simp at h9 ⊢;omega)) _ _) | (with_reducible refine Turn.drew ?_) | (with_reducible refine Turn.alloc ?_ _) | (with_reducible refine Turn.below ?_ hk9))))
   (first | (go_at_call 95;(with_reducible refine (Pk.rnext_any _ _ _ _).mono ?_);rintro e wq ⟨rfl,rfl⟩) | (go_at_call 94;(with_reducible refine (HC.out _ (H.rW.step (by repeat (first | (with_reducible exact Below.refl _ _) | (with_reducible refine Below.drew ?_) | (with_reducible refine bstep ?_ (boxed _ _))))) (H.rG.step (by repeat (first | (with_reducible exact Below.refl _ _) | (with_reducible refine Below.drew ?_) | (with_reducible refine bstep ?_ (boxed _ _)))))).mono ?_);rintro e w9 ⟨A2,B2,a2,b2,rfl,s1,s3,hk9,F1,F2⟩;have HX:=H.via hk9 (by repeat (first | (with_reducible exact Below.refl _ _) | (with_reducible refine Below.drew ?_) | (with_reducible refine bstep ?_ (boxed _ _))));obtain ⟨gc,gf⟩:=bcell hk9;have hz10:=hk9.size;simp at hz10))
  all_goals go_wp2_with fail
  all_goals go_meet
  all_goals first
   | exact ⟨rfl,⟨_,A2,B2,a2,b2,rfl,HX.2.step (boxed _ _),MVar.new s1 s3 (HX.1.whW F1 HW2.out) (HX.1.whG F2 HG2.out) (by omega)⟩⟩
   | exact ⟨rfl,⟨_,A2,B2,a2,b2,rfl,HX.2.set3 (show w9.heap[w1.heap.size]? = some (.cells #[.slice none 0 0,.slice none 0 0,.bool false] 26 (0,0)) from (hk9.block _ (by simp)).trans (heap_alloc_new _ _)) z2 _ _ _,MVar.set (show w9.heap[w1.heap.size]? = some (.cells #[.slice none 0 0,.slice none 0 0,.bool false] 26 (0,0)) from (hk9.block _ (by simp)).trans (heap_alloc_new _ _)) s1 s3 (HX.1.whW F1 HW2.out) (HX.1.whG F2 HG2.out) z2⟩⟩
 case rest =>
  clear H z0 z1 z2 p0 p1 p2 f2 f3
  obtain ⟨rfl,hL⟩:=hcut
  obtain ⟨vM,A2,B2,a2,b2,rfl,H2,KM⟩:=hL
  have H:=H2
  clear H2
  obtain ⟨z0,z1,z2⟩:=H.zs
  go_upto_region 13 with (fail)
  obtain ⟨x0,x1,x2⟩:=cells3 KM.bM
  obtain ⟨p0,p1,p2,p3,p4⟩:=cells5 H.bS
  obtain ⟨-,-,f2⟩:=cells3 H.bF
  have HT:=hid (show ∀ w',Row w' A2 s2.M.W→Row w' B2 s2.M.G→Calls Tryz.prog 9 #[.agg #[.slice A2 s2.M.W.length a2,.slice B2 s2.M.G.length b2,.bool s2.M.bad],.int .i64 r0,.int .i64 0] w' (RetMem w' t3.M) from fun w' k1 k2=>by have h9:=rturn_any A2 B2 a2 b2 s2.M r0 0 w' k1 k2 fw.1 fw.2.1;rw [HT3.out];exact h9)
  have HM:=hid (show ∀ (A3 B3:Option Addr) (a3 b3:Nat) w',RS w' s A B C L→Row w' A3 t3.M.W→Row w' B3 t3.M.G→Calls Tryz.prog 37 #[.agg (uS A B C L a b c d s),.agg #[.slice A3 t3.M.W.length a3,.slice B3 t3.M.G.length b3,.bool t3.M.bad]] w' fun e w''=>e = .returned (.agg (uS A3 B3 C L a3 b3 c d t3))∧RS w'' t3 A3 B3 C L∧Below w'.heap.size w' w'' from fun A3 B3 a3 b3 w' k1 k2 k3=>by have h9:=rmem3_any A B C L A3 B3 a b c d a3 b3 s t3.M w' k1 k2 k3;have e9:syMem s t3.M = t3:=(by rw [HT3.out,HS2.out];rfl);have e8:t3.C = s.C:=(by rw [HT3.out,HS2.out];rfl);have e7:t3.L = s.L:=(by rw [HT3.out,HS2.out];rfl);rw [e9] at h9;dsimp only [uS];rw [e8,e7];exact h9)
  have lM:=KM.lt
  have nM:=KM.ne
  have KS:=hid (show ∀ w',Turn (fun b=>b = w.heap.size+1+1 ∨ wc.heap.size≤b) wc w'→(w'.cell? ⟨w.heap.size,0,none⟩ = some (.slice A s.M.W.length a)∧w'.cell? ⟨w.heap.size,1,none⟩ = some (.slice B s.M.G.length b)∧w'.cell? ⟨w.heap.size,2,none⟩ = some (.bool s.M.bad)∧w'.cell? ⟨w.heap.size,3,none⟩ = some (.slice C s.C.length c)∧w'.cell? ⟨w.heap.size,4,none⟩ = some (.slice L s.L.length d)∧w'.cell? ⟨vM,0,none⟩ = some (.slice A2 s2.M.W.length a2)∧w'.cell? ⟨vM,1,none⟩ = some (.slice B2 s2.M.G.length b2)∧w'.cell? ⟨vM,2,none⟩ = some (.bool s2.M.bad)∧w'.cell? ⟨w.heap.size+1,2,none⟩ = some (.int .i64 r0)) from fun w' h=>⟨(h.cell z0 (by omega)).trans p0,(h.cell z0 (by omega)).trans p1,(h.cell z0 (by omega)).trans p2,(h.cell z0 (by omega)).trans p3,(h.cell z0 (by omega)).trans p4,(h.cell lM (by omega)).trans x0,(h.cell lM (by omega)).trans x1,(h.cell lM (by omega)).trans x2,(h.cell z1 (by omega)).trans f2⟩)
  go_region_held3 (fun w'=>w'.cell? ⟨w.heap.size,0,none⟩ = some (.slice A s.M.W.length a)∧w'.cell? ⟨w.heap.size,1,none⟩ = some (.slice B s.M.G.length b)∧w'.cell? ⟨w.heap.size,2,none⟩ = some (.bool s.M.bad)∧w'.cell? ⟨w.heap.size,3,none⟩ = some (.slice C s.C.length c)∧w'.cell? ⟨w.heap.size,4,none⟩ = some (.slice L s.L.length d)∧w'.cell? ⟨vM,0,none⟩ = some (.slice A2 s2.M.W.length a2)∧w'.cell? ⟨vM,1,none⟩ = some (.slice B2 s2.M.G.length b2)∧w'.cell? ⟨vM,2,none⟩ = some (.bool s2.M.bad)∧w'.cell? ⟨w.heap.size+1,2,none⟩ = some (.int .i64 r0)) (exact KS.out _ (by repeat (first | (with_reducible exact Turn.refl _ _) | (with_reducible refine Turn.set ?_ (by first | (left;rfl) | (simp;done) | omega) _ _) | (with_reducible refine Turn.drew ?_) | (with_reducible refine Turn.below ?_ hz) | (with_reducible refine Turn.below ?_ hk6) | (with_reducible refine Turn.below ?_ hk5))))
   (first | (go_at_call 9;(with_reducible refine (HT.out _ (KM.rW.step ((Below.refl _ _).drew)) (KM.rG.step ((Below.refl _ _).drew))).mono ?_);rintro e w5 ⟨A3,B3,a3,b3,rfl,s1,s3,hk5⟩;have hj5:Below wc.heap.size wc w5:=bstep ((Below.refl _ _).drew) hk5;have K5:=H.step hj5;obtain ⟨u0,u1,u2,u3,u4⟩:=cells5 K5.bS;obtain ⟨-,-,g2⟩:=cells3 K5.bF) | (go_at_call 37;(with_reducible refine (HM.out A3 B3 a3 b3 _ K5.rs s1 s3).mono ?_);rintro e w6 ⟨rfl,S6,hk6⟩;have K6:=K5.step hk6;have z6:=K6.lt;obtain ⟨-,-,o2⟩:=cells3 K6.bF) | (go_at_call 43;(with_reducible refine (rback_u A3 B3 C L a3 b3 c d t3 i r0 0 _ ft S6).mono ?_);rintro e wz ⟨A9,B9,C9,L9,a9,b9,c9,d9,rfl,rW,rG,rC,rL,hz⟩;have kR:=(hz.block (w.heap.size+1+1) z6).trans K6.bR;have kb:=bstep K6.be hz;obtain ⟨q0,q1,q2,q3,q4,qf0,qf1,qf2,qf3,qf4⟩:=cf5 kR))
  all_goals go_wp2_with fail
  all_goals
   refine bodyPost_ret (v:=.agg (uS A9 B9 C9 L9 a9 b9 c9 d9 (pBack t3 i r0 0))) (by simp [uS,results,Tryz.results80,go_sem,q0,q1,q2,q3,q4]) rfl ?_
   exact ret_res kR kb rW rG rC rL
theorem rpush_2n (A B C L:Option Addr) (a b c d:Nat) (s:Sy) (i:Int) (AS:Option Addr) (cS:Nat) (op r0 r1 r2 r3 r4 r5 r6 r7:Int) (xs:List Int) (d0:Sy) (w:World) (hs:SyFew s) (hg:2≤s.M.G.length) (h:RS w s A B C L) (hS:Row w AS xs) (h6:xs.length≤1000000) (hF:∀ x ∈ s.C,x.F.length≤999999) (q:mIs s.M 0 r1 = false) :
  Calls Tryz.prog 80 #[.agg (uS A B C L a b c d s),.int .i64 i,.agg (uF op 2 r0 r1 r2 r3 r4 r5 r6 r7 AS xs cS)] w (RetSys w (pPush s i ⟨op,2,[r0,r1,r2,r3,r4,r5,r6,r7],xs⟩ d0)):=by
 obtain ⟨s2,hs2⟩:∃ t,t = syMem s (mCas s.M 0 r1 (pNext r1 r0 0)):=⟨_,rfl⟩
 have HS2:=hid hs2
 have HC:=hid (show ∀ w',Row w' A s.M.W→Row w' B s.M.G→Calls Tryz.prog 94 #[.agg #[.slice A s.M.W.length a,.slice B s.M.G.length b,.bool s.M.bad],.int .i64 0,.int .i64 r1,.int .i64 (pNext r1 r0 0)] w' (RetMem2O w' A B s2.M (.bool false)) from fun w' k1 k2=>by have h9:=rcas_o A B a b s.M 0 r1 (pNext r1 r0 0) w' k1 k2 hs.1 hs.2.1 (by omega);rw [q] at h9;rw [hs2];exact h9)
 have lW:s2.M.W.length = s.M.W.length:=by rw [hs2];show (mCas s.M 0 r1 (pNext r1 r0 0)).W.length = s.M.W.length;unfold mCas;dsimp only;split <;> simp
 have lG:s2.M.G.length = s.M.G.length:=by rw [hs2];rfl
 have HW2:=hid lW
 have HG2:=hid lG
 have fw:SyFew s2:=by rw [hs2];exact few_mem hs (by show (mCas s.M 0 r1 (pNext r1 r0 0)).W.length = s.M.W.length;unfold mCas;dsimp only;split <;> simp) (by rfl)
 clear lW lG
 have es2:syMem s s2.M = s2:=by rw [hs2];rfl
 have ES:=hid es2
 clear es2
 have hres:pPush s i ⟨op,2,[r0,r1,r2,r3,r4,r5,r6,r7],xs⟩ d0 = pSet s2 i ⟨op,0,[r0,r1,r2,r3,r4,r5,r6,r7],xs⟩:=by unfold pPush;rw [if_neg (by simp),if_neg (by simp),if_pos rfl];show pSwap s i ⟨op,2,[r0,r1,r2,r3,r4,r5,r6,r7],xs⟩ r1 r0 r0 0 = _;unfold pSwap;rw [if_neg (by rw [q];simp),hs2]
 rw [hres]
 clear hres hs2 q
 have h0:=hs.1
 have h1:=hs.2.1
 have hg1:1≤s.M.G.length:=by omega
 have H:=SF.start w s A B C L a b c d (uF op 2 r0 r1 r2 r3 r4 r5 r6 r7 AS xs cS) h
 clear h
 go_enter Tryz.func80,Tryz.ntmps80
 go_upto_region 1 with (fail)
 generalize (((w.alloc (.cells (uS A B C L a b c d s) 30)).alloc (.cells (uF op 2 r0 r1 r2 r3 r4 r5 r6 r7 AS xs cS) 60)).alloc (.cells uZ 30)) = w1 at *
 obtain ⟨z0,z1,z2⟩:=H.zs
 obtain ⟨f0,f1,f2,f3,f4,f5,f6,f7,f8,f9,f10⟩:=cells11 H.bF
 go_upto_region 10 with (fail)
 clear f0 f1 f2 f3 f4 f5 f6 f7 f8 f9 f10
 obtain ⟨p0,p1,p2⟩:=cells3 H.bS
 obtain ⟨-,-,f2,f3⟩:=cells4 H.bF
 go_cut [10,11] from 52 (fun y10 y11 wx=>y11 = .bool false∧Laid4 w s A B C L a b c d (uF op 2 r0 r1 r2 r3 r4 r5 r6 r7 AS xs cS) s2.M y10 wx)
 case first =>
  have KS:=hid (show ∀ w',Turn (fun b=>w1.heap.size≤b) w1 w'→(w'.cell? ⟨w.heap.size,0,none⟩ = some (.slice A s.M.W.length a)∧w'.cell? ⟨w.heap.size,1,none⟩ = some (.slice B s.M.G.length b)∧w'.cell? ⟨w.heap.size,2,none⟩ = some (.bool s.M.bad)∧w'.cell? ⟨w.heap.size+1,2,none⟩ = some (.int .i64 r0)∧w'.cell? ⟨w.heap.size+1,3,none⟩ = some (.int .i64 r1)) from fun w' h=>⟨(h.cell z0 (by omega)).trans p0,(h.cell z0 (by omega)).trans p1,(h.cell z0 (by omega)).trans p2,(h.cell z1 (by omega)).trans f2,(h.cell z1 (by omega)).trans f3⟩)
  go_region_held3 (fun w'=>w'.cell? ⟨w.heap.size,0,none⟩ = some (.slice A s.M.W.length a)∧w'.cell? ⟨w.heap.size,1,none⟩ = some (.slice B s.M.G.length b)∧w'.cell? ⟨w.heap.size,2,none⟩ = some (.bool s.M.bad)∧w'.cell? ⟨w.heap.size+1,2,none⟩ = some (.int .i64 r0)∧w'.cell? ⟨w.heap.size+1,3,none⟩ = some (.int .i64 r1)) (exact KS.out _ (by repeat (first | (with_reducible exact Turn.refl _ _) | (with_reducible refine Turn.set ?_ (by first | (simp;done) | (simp;omega) | (have h9:=hk9.size;simp at h9 ⊢;omega)) _ _) | (with_reducible refine Turn.drew ?_) | (with_reducible refine Turn.alloc ?_ _) | (with_reducible refine Turn.below ?_ hk9))))
   (first | (go_at_call 95;(with_reducible refine (Pk.rnext_any _ _ _ _).mono ?_);rintro e wq ⟨rfl,rfl⟩) | (go_at_call 94;(with_reducible refine (HC.out _ (H.rW.step (by repeat (first | (with_reducible exact Below.refl _ _) | (with_reducible refine Below.drew ?_) | (with_reducible refine bstep ?_ (boxed _ _))))) (H.rG.step (by repeat (first | (with_reducible exact Below.refl _ _) | (with_reducible refine Below.drew ?_) | (with_reducible refine bstep ?_ (boxed _ _)))))).mono ?_);rintro e w9 ⟨A2,B2,a2,b2,rfl,s1,s3,hk9,F1,F2⟩;have HX:=H.via hk9 (by repeat (first | (with_reducible exact Below.refl _ _) | (with_reducible refine Below.drew ?_) | (with_reducible refine bstep ?_ (boxed _ _))));obtain ⟨gc,gf⟩:=bcell hk9;have hz10:=hk9.size;simp at hz10))
  all_goals go_wp2_with fail
  all_goals go_meet
  all_goals first
   | exact ⟨rfl,⟨_,A2,B2,a2,b2,rfl,HX.2.step (boxed _ _),MVar.new s1 s3 (HX.1.whW F1 HW2.out) (HX.1.whG F2 HG2.out) (by omega)⟩⟩
   | exact ⟨rfl,⟨_,A2,B2,a2,b2,rfl,HX.2.set3 (show w9.heap[w1.heap.size]? = some (.cells #[.slice none 0 0,.slice none 0 0,.bool false] 26 (0,0)) from (hk9.block _ (by simp)).trans (heap_alloc_new _ _)) z2 _ _ _,MVar.set (show w9.heap[w1.heap.size]? = some (.cells #[.slice none 0 0,.slice none 0 0,.bool false] 26 (0,0)) from (hk9.block _ (by simp)).trans (heap_alloc_new _ _)) s1 s3 (HX.1.whW F1 HW2.out) (HX.1.whG F2 HG2.out) z2⟩⟩
 case rest =>
  clear H z0 z1 z2 p0 p1 p2 f2 f3
  obtain ⟨rfl,hL⟩:=hcut
  obtain ⟨vM,A2,B2,a2,b2,rfl,H2,KM⟩:=hL
  have H:=H2
  clear H2
  obtain ⟨z0,z1,z2⟩:=H.zs
  obtain ⟨x0,x1,x2⟩:=cells3 KM.bM
  obtain ⟨p0,p1,p2,p3,p4⟩:=cells5 H.bS
  obtain ⟨f0,f1,f2,f3,f4,f5,f6,f7,f8,f9,f10⟩:=cells11 H.bF
  have HO:=hid (show Calls Tryz.prog 78 #[.agg (uS A B C L a b c d s),.int .i64 i,.agg #[.slice A2 s2.M.W.length a2,.slice B2 s2.M.G.length b2,.bool s2.M.bad],.agg (uF op 2 r0 r1 r2 r3 r4 r5 r6 r7 AS xs cS),.int .i64 0] wc (RetSys wc (pSet s2 i ⟨op,0,[r0,r1,r2,r3,r4,r5,r6,r7],xs⟩)) by have h9:=on_any A B C L A2 B2 a b c d a2 b2 s s2.M i AS cS op 2 r0 r1 r2 r3 r4 r5 r6 r7 xs 0 wc (by rw [ES.out];exact fw) hF H.rs KM.rW KM.rG (hS.step H.be);rw [ES.out] at h9;exact h9)
  go_wp2_with (go_at_call 78;(with_reducible refine (HO.out).mono ?_);rintro e wz ⟨A9,B9,C9,L9,a9,b9,c9,d9,rfl,rW,rG,rC,rL,hz⟩;have kR:=(hz.block (w.heap.size+1+1) z2).trans H.bR;have kb:=bstep H.be hz;obtain ⟨q0,q1,q2,q3,q4,qf0,qf1,qf2,qf3,qf4⟩:=cf5 kR)
  refine bodyPost_ret (v:=.agg (uS A9 B9 C9 L9 a9 b9 c9 d9 (pSet s2 i ⟨op,0,[r0,r1,r2,r3,r4,r5,r6,r7],xs⟩))) (by simp [uS,results,Tryz.results80,go_sem,q0,q1,q2,q3,q4]) rfl ?_
  exact ret_res kR kb rW rG rC rL
theorem rpush_x (A B C L:Option Addr) (a b c d:Nat) (s:Sy) (i:Int) (AS:Option Addr) (cS:Nat) (op pc r0 r1 r2 r3 r4 r5 r6 r7:Int) (xs:List Int) (d0:Sy) (w:World) (hs:SyFew s) (hg:2≤s.M.G.length) (h:RS w s A B C L) (hS:Row w AS xs) (h6:xs.length≤1000000) (hF:∀ x ∈ s.C,x.F.length≤999999) (q0:¬ pc = 0) (q1:¬ pc = 1) (q2:¬ pc = 2) (hd:d0 = s) :
  Calls Tryz.prog 80 #[.agg (uS A B C L a b c d s),.int .i64 i,.agg (uF op pc r0 r1 r2 r3 r4 r5 r6 r7 AS xs cS)] w (RetSys w (pPush s i ⟨op,pc,[r0,r1,r2,r3,r4,r5,r6,r7],xs⟩ d0)):=by
 have hres:pPush s i ⟨op,pc,[r0,r1,r2,r3,r4,r5,r6,r7],xs⟩ d0 = s:=by unfold pPush;rw [if_neg q0,if_neg q1,if_neg q2];exact hd
 rw [hres]
 clear hres hd
 have e0:(pc == 0) = false:=by simpa using q0
 have e1:(pc == 1) = false:=by simpa using q1
 have e2:(pc != 2) = true:=by simpa using q2
 clear q0 q1 q2
 have h0:=hs.1
 have h1:=hs.2.1
 have hg1:1≤s.M.G.length:=by omega
 have H:=SF.start w s A B C L a b c d (uF op pc r0 r1 r2 r3 r4 r5 r6 r7 AS xs cS) h
 clear h
 go_enter Tryz.func80,Tryz.ntmps80
 go_upto_region 1 with (fail)
 generalize (((w.alloc (.cells (uS A B C L a b c d s) 30)).alloc (.cells (uF op pc r0 r1 r2 r3 r4 r5 r6 r7 AS xs cS) 60)).alloc (.cells uZ 30)) = w1 at *
 obtain ⟨z0,z1,z2⟩:=H.zs
 obtain ⟨p0,p1,p2,p3,p4⟩:=cells5 H.bS
 obtain ⟨f0,f1,f2,f3,f4,f5,f6,f7,f8,f9,f10⟩:=cells11 H.bF
 have kR:=H.bR
 obtain ⟨q0,q1,q2,q3,q4,qf0,qf1,qf2,qf3,qf4⟩:=cf5 kR
 go_wp2_with fail
 refine bodyPost_ret (v:=.agg (uS A B C L a b c d s)) (by simp [uS,results,Tryz.results80,go_sem,q0,q1,q2,q3,q4]) rfl ?_
 exact ret_res kR H.be H.rs.W H.rs.G H.rs.C H.rs.L
theorem rpush_any (A B C L:Option Addr) (a b c d:Nat) (s:Sy) (i:Int) (AS:Option Addr) (cS:Nat) (op pc r0 r1 r2 r3 r4 r5 r6 r7:Int) (xs:List Int) (d0:Sy) (w:World) (hs:SyFew s) (hg:2≤s.M.G.length) (h:RS w s A B C L) (hS:Row w AS xs) (h6:xs.length≤1000000) (hF:∀ x ∈ s.C,x.F.length≤999999) (hd:d0 = s) :
  Calls Tryz.prog 80 #[.agg (uS A B C L a b c d s),.int .i64 i,.agg (uF op pc r0 r1 r2 r3 r4 r5 r6 r7 AS xs cS)] w (RetSys w (pPush s i ⟨op,pc,[r0,r1,r2,r3,r4,r5,r6,r7],xs⟩ d0)):=by
 by_cases q0:pc = 0
 ·subst q0;exact rpush_0 A B C L a b c d s i AS cS op r0 r1 r2 r3 r4 r5 r6 r7 xs d0 w hs hg h hS h6 hF
 ·by_cases q1:pc = 1
  ·subst q1;exact rpush_1 A B C L a b c d s i AS cS op r0 r1 r2 r3 r4 r5 r6 r7 xs d0 w hs hg h hS h6 hF
  ·by_cases q2:pc = 2
   ·subst q2
    rcases Bool.eq_false_or_eq_true (mIs s.M 0 r1) with q | q
    ·exact rpush_2y A B C L a b c d s i AS cS op r0 r1 r2 r3 r4 r5 r6 r7 xs d0 w hs hg h hS h6 hF q
    ·exact rpush_2n A B C L a b c d s i AS cS op r0 r1 r2 r3 r4 r5 r6 r7 xs d0 w hs hg h hS h6 hF q
   ·exact rpush_x A B C L a b c d s i AS cS op pc r0 r1 r2 r3 r4 r5 r6 r7 xs d0 w hs hg h hS h6 hF q0 q1 q2 hd
theorem rstep_none (A B C L:Option Addr) (a b c d:Nat) (s:Sy) (i:Int) (w:World) (hs:SyFew s) (hg:2≤s.M.G.length) (h:RS w s A B C L) (hF:∀ x ∈ s.C,x.F.length≤999999) (hp:pTop s i = none) :
  Calls Tryz.prog 62 #[.agg (uS A B C L a b c d s),.int .i64 i] w (RetSys w s):=by
 obtain ⟨b1,b2,bs⟩:=heap2 w (.cells (uS A B C L a b c d s) 30) (.cells uZ 30)
 have hb:Below w.heap.size w ((w.alloc (.cells (uS A B C L a b c d s) 30)).alloc (.cells uZ 30)):=bstep (boxed _ _) (boxed _ _)
 have z1:w.heap.size+1 < ((w.alloc (.cells (uS A B C L a b c d s) 30)).alloc (.cells uZ 30)).heap.size:=by simp
 clear bs
 go_enter Tryz.func62,Tryz.ntmps62
 go_upto_region 1 with (fail)
 generalize ((w.alloc (.cells (uS A B C L a b c d s) 30)).alloc (.cells uZ 30)) = w1 at *
 have K:=h.step hb
 obtain ⟨p0,p1,p2,p3,p4⟩:=cells5 b1
 go_upto_region 2 with (go_at_call 39;(with_reducible refine (rtop_no A B C L a b c d s i _ hs K hp).mono ?_);rintro e wk ⟨rfl,hk⟩)
 have rF:Row wk none []:=Row.nil _ _
 clear p0 p1 p2 p3 p4
 have hj:Below w1.heap.size w1 (wk.alloc (.cells #[.int .i64 0,.int .i64 0,.int .i64 0,.int .i64 0,.int .i64 0,.int .i64 0,.int .i64 0,.int .i64 0,.int .i64 0,.int .i64 0,.slice none 0 0] 60)):=bstep hk (boxed _ _)
 have b3:=heap_alloc_new wk (.cells #[.int .i64 0,.int .i64 0,.int .i64 0,.int .i64 0,.int .i64 0,.int .i64 0,.int .i64 0,.int .i64 0,.int .i64 0,.int .i64 0,.slice none 0 0] 60)
 replace b1:=(hj.block w.heap.size (by omega)).trans b1
 replace b2:=(hj.block (w.heap.size+1) z1).trans b2
 replace K:=K.step hj
 replace hb:=bstep hb hj
 replace z1:=Nat.lt_of_lt_of_le z1 hj.size
 replace rF:=rF.alloc (.cells #[.int .i64 0,.int .i64 0,.int .i64 0,.int .i64 0,.int .i64 0,.int .i64 0,.int .i64 0,.int .i64 0,.int .i64 0,.int .i64 0,.slice none 0 0] 60)
 clear hk hj
 obtain ⟨vF,hv⟩:∃ v,wk.heap.size = v:=⟨_,rfl⟩
 rw [hv] at b3 ⊢
 clear hv
 generalize (wk.alloc (.cells #[.int .i64 0,.int .i64 0,.int .i64 0,.int .i64 0,.int .i64 0,.int .i64 0,.int .i64 0,.int .i64 0,.int .i64 0,.int .i64 0,.slice none 0 0] 60)) = w3 at *
 obtain ⟨p0,p1,p2,p3,p4⟩:=cells5 b1
 obtain ⟨f0,f1,f2,f3,f4,f5,f6,f7,f8,f9,f10⟩:=cells11 b3
 obtain ⟨q0,q1,q2,q3,q4,qf0,qf1,qf2,qf3,qf4⟩:=cf5 b2
 go_wp2_with fail
 refine bodyPost_ret (v:=.agg (uS A B C L a b c d s)) (by simp [uS,results,Tryz.results62,go_sem,q0,q1,q2,q3,q4]) rfl ?_
 exact ret_resV (by omega) b2 hb K.W K.G K.C K.L
theorem rstep_x (A B C L:Option Addr) (a b c d:Nat) (s:Sy) (i:Int) (op pc r0 r1 r2 r3 r4 r5 r6 r7:Int) (xs:List Int) (w:World) (hs:SyFew s) (hg:2≤s.M.G.length) (h:RS w s A B C L) (hF:∀ x ∈ s.C,x.F.length≤999999) (hp:pTop s i = some ⟨op,pc,[r0,r1,r2,r3,r4,r5,r6,r7],xs⟩) (h6:xs.length≤1000000) (o1:¬ op = 1) (o2:¬ op = 2) :
  Calls Tryz.prog 62 #[.agg (uS A B C L a b c d s),.int .i64 i] w (RetSys w s):=by
 have e1:(op == 1) = false:=by simpa using o1
 have e2:(op == 2) = false:=by simpa using o2
 clear o1 o2
 obtain ⟨b1,b2,bs⟩:=heap2 w (.cells (uS A B C L a b c d s) 30) (.cells uZ 30)
 have hb:Below w.heap.size w ((w.alloc (.cells (uS A B C L a b c d s) 30)).alloc (.cells uZ 30)):=bstep (boxed _ _) (boxed _ _)
 have z1:w.heap.size+1 < ((w.alloc (.cells (uS A B C L a b c d s) 30)).alloc (.cells uZ 30)).heap.size:=by simp
 clear bs
 go_enter Tryz.func62,Tryz.ntmps62
 go_upto_region 1 with (fail)
 generalize ((w.alloc (.cells (uS A B C L a b c d s) 30)).alloc (.cells uZ 30)) = w1 at *
 have K:=h.step hb
 obtain ⟨p0,p1,p2,p3,p4⟩:=cells5 b1
 go_upto_region 2 with (go_at_call 39;(with_reducible refine (rtop_is A B C L a b c d s i op pc r0 r1 r2 r3 r4 r5 r6 r7 xs _ hs K hp h6).mono ?_);rintro e wk ⟨AF,cF,rfl,rF,hk⟩)
 clear p0 p1 p2 p3 p4
 have hj:Below w1.heap.size w1 (wk.alloc (.cells (uF op pc r0 r1 r2 r3 r4 r5 r6 r7 AF xs cF) 60)):=bstep hk (boxed _ _)
 have b3:=heap_alloc_new wk (.cells (uF op pc r0 r1 r2 r3 r4 r5 r6 r7 AF xs cF) 60)
 replace b1:=(hj.block w.heap.size (by omega)).trans b1
 replace b2:=(hj.block (w.heap.size+1) z1).trans b2
 replace K:=K.step hj
 replace hb:=bstep hb hj
 replace z1:=Nat.lt_of_lt_of_le z1 hj.size
 replace rF:=rF.alloc (.cells (uF op pc r0 r1 r2 r3 r4 r5 r6 r7 AF xs cF) 60)
 clear hk hj
 obtain ⟨vF,hv⟩:∃ v,wk.heap.size = v:=⟨_,rfl⟩
 rw [hv] at b3 ⊢
 clear hv
 generalize (wk.alloc (.cells (uF op pc r0 r1 r2 r3 r4 r5 r6 r7 AF xs cF) 60)) = w3 at *
 obtain ⟨p0,p1,p2,p3,p4⟩:=cells5 b1
 obtain ⟨f0,f1,f2,f3,f4,f5,f6,f7,f8,f9,f10⟩:=cells11 b3
 obtain ⟨q0,q1,q2,q3,q4,qf0,qf1,qf2,qf3,qf4⟩:=cf5 b2
 go_wp2_with fail
 refine bodyPost_ret (v:=.agg (uS A B C L a b c d s)) (by simp [uS,results,Tryz.results62,go_sem,q0,q1,q2,q3,q4]) rfl ?_
 exact ret_resV (by omega) b2 hb K.W K.G K.C K.L
theorem rstep_pop (A B C L:Option Addr) (a b c d:Nat) (s:Sy) (i:Int) (pc r0 r1 r2 r3 r4 r5 r6 r7:Int) (xs:List Int) (w:World) (hs:SyFew s) (hg:2≤s.M.G.length) (h:RS w s A B C L) (hF:∀ x ∈ s.C,x.F.length≤999999) (hL:s.L.length≤999998) (hp:pTop s i = some ⟨1,pc,[r0,r1,r2,r3,r4,r5,r6,r7],xs⟩) (h6:xs.length≤1000000) :
  Calls Tryz.prog 62 #[.agg (uS A B C L a b c d s),.int .i64 i] w (RetSys w (pPop s i ⟨1,pc,[r0,r1,r2,r3,r4,r5,r6,r7],xs⟩ s)):=by
 have HC:=hid (show ∀ (AF:Option Addr) (cF:Nat) w',RS w' s A B C L→Row w' AF xs→Calls Tryz.prog 79 #[.agg (uS A B C L a b c d s),.int .i64 i,.agg (uF 1 pc r0 r1 r2 r3 r4 r5 r6 r7 AF xs cF)] w' (RetSys w' (pPop s i ⟨1,pc,[r0,r1,r2,r3,r4,r5,r6,r7],xs⟩ s)) from fun AF cF w' k k2=>rpop_any A B C L a b c d s i AF cF 1 pc r0 r1 r2 r3 r4 r5 r6 r7 xs s w' hs hg k k2 h6 hF hL rfl)
 obtain ⟨t9,ht9⟩:∃ t,t = pPop s i ⟨1,pc,[r0,r1,r2,r3,r4,r5,r6,r7],xs⟩ s:=⟨_,rfl⟩
 rw [← ht9] at HC ⊢
 clear ht9
 obtain ⟨b1,b2,bs⟩:=heap2 w (.cells (uS A B C L a b c d s) 30) (.cells uZ 30)
 have hb:Below w.heap.size w ((w.alloc (.cells (uS A B C L a b c d s) 30)).alloc (.cells uZ 30)):=bstep (boxed _ _) (boxed _ _)
 have z1:w.heap.size+1 < ((w.alloc (.cells (uS A B C L a b c d s) 30)).alloc (.cells uZ 30)).heap.size:=by simp
 clear bs
 go_enter Tryz.func62,Tryz.ntmps62
 go_upto_region 1 with (fail)
 generalize ((w.alloc (.cells (uS A B C L a b c d s) 30)).alloc (.cells uZ 30)) = w1 at *
 have K:=h.step hb
 obtain ⟨p0,p1,p2,p3,p4⟩:=cells5 b1
 go_upto_region 2 with (go_at_call 39;(with_reducible refine (rtop_is A B C L a b c d s i 1 pc r0 r1 r2 r3 r4 r5 r6 r7 xs _ hs K hp h6).mono ?_);rintro e wk ⟨AF,cF,rfl,rF,hk⟩)
 clear p0 p1 p2 p3 p4
 have hj:Below w1.heap.size w1 (wk.alloc (.cells (uF 1 pc r0 r1 r2 r3 r4 r5 r6 r7 AF xs cF) 60)):=bstep hk (boxed _ _)
 have b3:=heap_alloc_new wk (.cells (uF 1 pc r0 r1 r2 r3 r4 r5 r6 r7 AF xs cF) 60)
 replace b1:=(hj.block w.heap.size (by omega)).trans b1
 replace b2:=(hj.block (w.heap.size+1) z1).trans b2
 replace K:=K.step hj
 replace hb:=bstep hb hj
 replace z1:=Nat.lt_of_lt_of_le z1 hj.size
 replace rF:=rF.alloc (.cells (uF 1 pc r0 r1 r2 r3 r4 r5 r6 r7 AF xs cF) 60)
 clear hk hj
 obtain ⟨vF,hv⟩:∃ v,wk.heap.size = v:=⟨_,rfl⟩
 rw [hv] at b3 ⊢
 clear hv
 generalize (wk.alloc (.cells (uF 1 pc r0 r1 r2 r3 r4 r5 r6 r7 AF xs cF) 60)) = w3 at *
 obtain ⟨p0,p1,p2,p3,p4⟩:=cells5 b1
 obtain ⟨f0,f1,f2,f3,f4,f5,f6,f7,f8,f9,f10⟩:=cells11 b3
 go_wp2_with (go_at_call 79;(with_reducible refine (HC.out AF cF _ K rF).mono ?_);rintro e wz ⟨A9,B9,C9,L9,a9,b9,c9,d9,rfl,rW,rG,rC,rL,hz⟩;have kR:=(hz.block (w.heap.size+1) z1).trans b2;have kb:=bstep hb hz;obtain ⟨q0,q1,q2,q3,q4,qf0,qf1,qf2,qf3,qf4⟩:=cf5 kR)
 refine bodyPost_ret (v:=.agg (uS A9 B9 C9 L9 a9 b9 c9 d9 t9)) (by simp [uS,results,Tryz.results62,go_sem,q0,q1,q2,q3,q4]) rfl ?_
 exact ret_resV (by omega) kR kb rW rG rC rL
theorem rstep_push (A B C L:Option Addr) (a b c d:Nat) (s:Sy) (i:Int) (pc r0 r1 r2 r3 r4 r5 r6 r7:Int) (xs:List Int) (w:World) (hs:SyFew s) (hg:2≤s.M.G.length) (h:RS w s A B C L) (hF:∀ x ∈ s.C,x.F.length≤999999)  (hp:pTop s i = some ⟨2,pc,[r0,r1,r2,r3,r4,r5,r6,r7],xs⟩) (h6:xs.length≤1000000) :
  Calls Tryz.prog 62 #[.agg (uS A B C L a b c d s),.int .i64 i] w (RetSys w (pPush s i ⟨2,pc,[r0,r1,r2,r3,r4,r5,r6,r7],xs⟩ s)):=by
 have HC:=hid (show ∀ (AF:Option Addr) (cF:Nat) w',RS w' s A B C L→Row w' AF xs→Calls Tryz.prog 80 #[.agg (uS A B C L a b c d s),.int .i64 i,.agg (uF 2 pc r0 r1 r2 r3 r4 r5 r6 r7 AF xs cF)] w' (RetSys w' (pPush s i ⟨2,pc,[r0,r1,r2,r3,r4,r5,r6,r7],xs⟩ s)) from fun AF cF w' k k2=>rpush_any A B C L a b c d s i AF cF 2 pc r0 r1 r2 r3 r4 r5 r6 r7 xs s w' hs hg k k2 h6 hF rfl)
 obtain ⟨t9,ht9⟩:∃ t,t = pPush s i ⟨2,pc,[r0,r1,r2,r3,r4,r5,r6,r7],xs⟩ s:=⟨_,rfl⟩
 rw [← ht9] at HC ⊢
 clear ht9
 obtain ⟨b1,b2,bs⟩:=heap2 w (.cells (uS A B C L a b c d s) 30) (.cells uZ 30)
 have hb:Below w.heap.size w ((w.alloc (.cells (uS A B C L a b c d s) 30)).alloc (.cells uZ 30)):=bstep (boxed _ _) (boxed _ _)
 have z1:w.heap.size+1 < ((w.alloc (.cells (uS A B C L a b c d s) 30)).alloc (.cells uZ 30)).heap.size:=by simp
 clear bs
 go_enter Tryz.func62,Tryz.ntmps62
 go_upto_region 1 with (fail)
 generalize ((w.alloc (.cells (uS A B C L a b c d s) 30)).alloc (.cells uZ 30)) = w1 at *
 have K:=h.step hb
 obtain ⟨p0,p1,p2,p3,p4⟩:=cells5 b1
 go_upto_region 2 with (go_at_call 39;(with_reducible refine (rtop_is A B C L a b c d s i 2 pc r0 r1 r2 r3 r4 r5 r6 r7 xs _ hs K hp h6).mono ?_);rintro e wk ⟨AF,cF,rfl,rF,hk⟩)
 clear p0 p1 p2 p3 p4
 have hj:Below w1.heap.size w1 (wk.alloc (.cells (uF 2 pc r0 r1 r2 r3 r4 r5 r6 r7 AF xs cF) 60)):=bstep hk (boxed _ _)
 have b3:=heap_alloc_new wk (.cells (uF 2 pc r0 r1 r2 r3 r4 r5 r6 r7 AF xs cF) 60)
 replace b1:=(hj.block w.heap.size (by omega)).trans b1
 replace b2:=(hj.block (w.heap.size+1) z1).trans b2
 replace K:=K.step hj
 replace hb:=bstep hb hj
 replace z1:=Nat.lt_of_lt_of_le z1 hj.size
 replace rF:=rF.alloc (.cells (uF 2 pc r0 r1 r2 r3 r4 r5 r6 r7 AF xs cF) 60)
 clear hk hj
 obtain ⟨vF,hv⟩:∃ v,wk.heap.size = v:=⟨_,rfl⟩
 rw [hv] at b3 ⊢
 clear hv
 generalize (wk.alloc (.cells (uF 2 pc r0 r1 r2 r3 r4 r5 r6 r7 AF xs cF) 60)) = w3 at *
 obtain ⟨p0,p1,p2,p3,p4⟩:=cells5 b1
 obtain ⟨f0,f1,f2,f3,f4,f5,f6,f7,f8,f9,f10⟩:=cells11 b3
 go_wp2_with (go_at_call 80;(with_reducible refine (HC.out AF cF _ K rF).mono ?_);rintro e wz ⟨A9,B9,C9,L9,a9,b9,c9,d9,rfl,rW,rG,rC,rL,hz⟩;have kR:=(hz.block (w.heap.size+1) z1).trans b2;have kb:=bstep hb hz;obtain ⟨q0,q1,q2,q3,q4,qf0,qf1,qf2,qf3,qf4⟩:=cf5 kR)
 refine bodyPost_ret (v:=.agg (uS A9 B9 C9 L9 a9 b9 c9 d9 t9)) (by simp [uS,results,Tryz.results62,go_sem,q0,q1,q2,q3,q4]) rfl ?_
 exact ret_resV (by omega) kR kb rW rG rC rL
theorem rstep_any (A B C L:Option Addr) (a b c d:Nat) (s:Sy) (i:Int) (w:World) (hs:SyFew s) (hg:2≤s.M.G.length) (h:RS w s A B C L) (hF:∀ x ∈ s.C,x.F.length≤999999) (hL:s.L.length≤999998) :
  Calls Tryz.prog 62 #[.agg (uS A B C L a b c d s),.int .i64 i] w (RetSys w (pStep s i)):=by
 rcases pTop_cases s i hs h.C with hp | ⟨op,pc,r0,r1,r2,r3,r4,r5,r6,r7,xs,hp,h6⟩
 ·have e:pStep s i = s:=by unfold pStep;rw [hp]
  rw [e]
  exact rstep_none A B C L a b c d s i w hs hg h hF hp
 ·by_cases o1:op = 1
  ·subst o1
   have e:pStep s i = pPop s i ⟨1,pc,[r0,r1,r2,r3,r4,r5,r6,r7],xs⟩ s:=by unfold pStep;rw [hp];simp
   rw [e]
   exact rstep_pop A B C L a b c d s i pc r0 r1 r2 r3 r4 r5 r6 r7 xs w hs hg h hF hL hp h6
  ·by_cases o2:op = 2
   ·subst o2
    have e:pStep s i = pPush s i ⟨2,pc,[r0,r1,r2,r3,r4,r5,r6,r7],xs⟩ s:=by unfold pStep;rw [hp];simp
    rw [e]
    exact rstep_push A B C L a b c d s i pc r0 r1 r2 r3 r4 r5 r6 r7 xs w hs hg h hF hp h6
   ·have e:pStep s i = s:=by unfold pStep;rw [hp];simp [o1,o2]
    rw [e]
    exact rstep_x A B C L a b c d s i op pc r0 r1 r2 r3 r4 r5 r6 r7 xs w hs hg h hF hp h6 o1 o2
end Go.Proofs.YtfipcdhodojodaaGreat
