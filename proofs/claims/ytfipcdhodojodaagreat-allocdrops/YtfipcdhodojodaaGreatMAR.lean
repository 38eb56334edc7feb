/- Contracts: hazelref07.Then, alloc, by the document. -/
import Derived.Test.YtfipcdhodojodaaGreatMPl
import Derived.Test.YtfipcdhodojodaaGreatStkR
import Derived.Test.YtfipcdhodojodaaGreatStk9
import Derived.Test.YtfipcdhodojodaaGreatKSho
import Derived.Test.YtfipcdhodojodaaGreatScS
namespace Go.Proofs.YtfipcdhodojodaaGreat
open Go.RowKit
set_option maxRecDepth 100000
set_option maxHeartbeats 8000000
set_option linter.unusedVariables false
set_option linter.unusedSimpArgs false
theorem rthen_any (A B C L:Option Addr) (a b c d:Nat) (s:Sy) (i:Int) (AS:Option Addr) (cS:Nat) (op pc r0 r1 r2 r3 r4 r5 r6 r7:Int) (xs:List Int) (np o2 n1 n2 n3:Int) (w:World) (hs:SyFew s) (hg:2≤s.M.G.length) (h:RS w s A B C L) (hS:Row w AS xs) (h6:xs.length≤1000000) (hF:∀ x ∈ s.C,x.F.length≤999999) :
  Calls Tryz.prog 42 #[.agg (uS A B C L a b c d s),.int .i64 i,.agg (uF op pc r0 r1 r2 r3 r4 r5 r6 r7 AS xs cS),.int .i64 np,.int .i64 o2,.int .i64 n1,.int .i64 n2,.int .i64 n3] w (RetSys w (pCall (pSet s i ⟨op,np,[r0,r1,r2,r3,r4,r5,r6,r7],xs⟩) i ⟨o2,0,[n1,n2,n3,0,0,0,0,0],[]⟩)):=by
 obtain ⟨t8,ht8⟩:∃ t,t = pSet s i ⟨op,np,[r0,r1,r2,r3,r4,r5,r6,r7],xs⟩:=⟨_,rfl⟩
 have f8:SyFew t8:=by rw [ht8];exact few_set hs h6 _
 have HSet:=hid (show ∀ w',RS w' s A B C L→Row w' AS xs→Calls Tryz.prog 63 #[.agg (uS A B C L a b c d s),.int .i64 i,.agg (uF op np r0 r1 r2 r3 r4 r5 r6 r7 AS xs cS)] w' (RetSys w' t8) from fun w' k1 k2=>by rw [ht8];exact rset_u A B C L a b c d s i AS cS op np r0 r1 r2 r3 r4 r5 r6 r7 xs w' hs k1 k2 hF)
 have HCall:=hid (show ∀ (A8 B8 C8 L8:Option Addr) (a8 b8 c8 d8:Nat) w',RS w' t8 A8 B8 C8 L8→Calls Tryz.prog 8 #[.agg (uS A8 B8 C8 L8 a8 b8 c8 d8 t8),.int .i64 i,.int .i64 o2,.int .i64 n1,.int .i64 n2,.int .i64 n3] w' (RetSys w' (pCall t8 i ⟨o2,0,[n1,n2,n3,0,0,0,0,0],[]⟩)) from fun A8 B8 C8 L8 a8 b8 c8 d8 w' k1=>rcall_u A8 B8 C8 L8 a8 b8 c8 d8 t8 i o2 n1 n2 n3 w' f8 k1)
 rw [← ht8]
 clear ht8
 have h0:=hs.1
 have h1:=hs.2.1
 have H:=SF.start w s A B C L a b c d (uF op pc r0 r1 r2 r3 r4 r5 r6 r7 AS xs cS) h
 clear h
 go_enter Tryz.func42,Tryz.ntmps42
 go_upto_region 1 with (fail)
 generalize (((w.alloc (.cells (uS A B C L a b c d s) 30)).alloc (.cells (uF op pc r0 r1 r2 r3 r4 r5 r6 r7 AS xs cS) 60)).alloc (.cells uZ 30)) = w1 at *
 obtain ⟨z0,z1,z2⟩:=H.zs
 obtain ⟨f0,f1,f2,f3,f4,f5,f6,f7,f8,f9,f10,ff0,ff1,ff2,ff3,ff4,ff5,ff6,ff7,ff8,ff9,ff10⟩:=cf11 H.bF
 go_upto_region 2 with (fail)
 have K7:=H.putF 1 (.int .i64 np)
 clear H z0 z1 z2
 clear f0 f1 f2 f3 f4 f5 f6 f7 f8 f9 f10 ff0 ff1 ff2 ff3 ff4 ff5 ff6 ff7 ff8 ff9 ff10
 generalize w1.setCell ⟨w.heap.size+1,1,none⟩ (.int .i64 np) = wS at *
 have H:SF w s A B C L a b c d (uF op np r0 r1 r2 r3 r4 r5 r6 r7 AS xs cS) wS:=K7
 clear K7
 obtain ⟨z0,z1,z2⟩:=H.zs
 obtain ⟨p0,p1,p2,p3,p4⟩:=cells5 H.bS
 obtain ⟨f0,f1,f2,f3,f4,f5,f6,f7,f8,f9,f10⟩:=cells11 H.bF
 go_wp2_with (go_at_call 63;(with_reducible refine (HSet.out _ H.rs (hS.step H.be)).mono ?_);rintro e w8 ⟨A8,B8,C8,L8,a8,b8,c8,d8,rfl,x1,x2,x3,x4,hk8⟩)
 clear p0 p1 p2 p3 p4 f0 f1 f2 f3 f4 f5 f6 f7 f8 f9 f10
 replace H:=H.step hk8
 clear hk8 z0 z1 z2
 obtain ⟨z0,z1,z2⟩:=H.zs
 refine (HCall.out A8 B8 C8 L8 a8 b8 c8 d8 _ ⟨x1,x2,x3,x4⟩).mono ?_
 rintro e wz ⟨A9,B9,C9,L9,a9,b9,c9,d9,rfl,rW,rG,rC,rL,hz⟩
 have kR:=(hz.block (w.heap.size+1+1) z2).trans H.bR
 have kb:=bstep H.be hz
 obtain ⟨q0,q1,q2,q3,q4,qf0,qf1,qf2,qf3,qf4⟩:=cf5 kR
 go_wp2_with fail
 refine bodyPost_ret (v:=.agg (uS A9 B9 C9 L9 a9 b9 c9 d9 (pCall t8 i ⟨o2,0,[n1,n2,n3,0,0,0,0,0],[]⟩))) (by simp [uS,results,Tryz.results42,go_sem,q0,q1,q2,q3,q4]) rfl ?_
 exact ret_res kR kb rW rG rC rL
theorem ral_any (A B C L:Option Addr) (a b c d:Nat) (s:Sy) (k:Nat) (x:Co) (AS:Option Addr) (cS:Nat) (op pc r0 r1 r2 r3 r4 r5 r6 r7:Int) (xs:List Int) (w:World) (hs:SyFew s) (hg:2≤s.M.G.length) (h:RS w s A B C L) (hS:Row w AS xs) (h6:xs.length≤1000000) (hF:∀ x ∈ s.C,x.F.length≤999999) (hx:s.C[k]? = some x) :
  Calls Tryz.prog 40 #[.agg (uS A B C L a b c d s),.int .i64 k,.agg (uF op pc r0 r1 r2 r3 r4 r5 r6 r7 AS xs cS)] w (RetSys w (pAlloc s k ⟨op,pc,[r0,r1,r2,r3,r4,r5,r6,r7],xs⟩ s)):=by
 have hkl:k < s.C.length:=(List.getElem?_eq_some_iff.1 hx).1
 have kl:(k:Int) < (s.C.length:Int):=by omega
 have k0:(0:Int)≤(k:Int):=by omega
 obtain ⟨b0,o0,rfl,hbl,hat⟩:=h.C (by omega)
 obtain ⟨AF,AR,cF,cR,hcs,rF,rR,hcF,hcR⟩:=(hat k x hx).cs4
 have u0:w.cell? ⟨b0,o0+k * 7,none⟩ = some (.slice AF x.F.length cF):=hcs 0 _ rfl
 have u1:w.cell? ⟨b0,o0+k * 7+1,none⟩ = some (.int .i64 x.v):=hcs 1 _ rfl
 have u2:w.cell? ⟨b0,o0+k * 7+2,none⟩ = some (.int .i64 x.e):=hcs 2 _ rfl
 have u3:w.cell? ⟨b0,o0+k * 7+3,none⟩ = some (.int .i64 x.x0):=hcs 3 _ rfl
 have u4:w.cell? ⟨b0,o0+k * 7+4,none⟩ = some (.int .i64 x.x1):=hcs 4 _ rfl
 have u5:w.cell? ⟨b0,o0+k * 7+5,none⟩ = some (.int .i64 x.x2):=hcs 5 _ rfl
 have u6:w.cell? ⟨b0,o0+k * 7+6,none⟩ = some (.slice AR x.ret.length cR):=hcs 6 _ rfl
 have HX:=hid hx
 clear hat hcs hx rF hcF
 have h0:=hs.1
 have h1:=hs.2.1
 have H:=SF.start w s A B (some ⟨b0,o0,none⟩) L a b c d (uF op pc r0 r1 r2 r3 r4 r5 r6 r7 AS xs cS) h
 clear h
 go_enter Tryz.func40,Tryz.ntmps40
 go_upto_region 1 with (fail)
 generalize (((w.alloc (.cells (uS A B (some ⟨b0,o0,none⟩) L a b c d s) 30)).alloc (.cells (uF op pc r0 r1 r2 r3 r4 r5 r6 r7 AS xs cS) 60)).alloc (.cells uZ 30)) = w1 at *
 obtain ⟨z0,z1,z2⟩:=H.zs
 have d0:=(H.be.cell hbl).trans u0
 have d1:=(H.be.cell hbl).trans u1
 have d2:=(H.be.cell hbl).trans u2
 have d3:=(H.be.cell hbl).trans u3
 have d4:=(H.be.cell hbl).trans u4
 have d5:=(H.be.cell hbl).trans u5
 have d6:=(H.be.cell hbl).trans u6
 obtain ⟨p0,p1,p2,p3,p4⟩:=cells5 H.bS
 obtain ⟨f0,f1,f2,f3,f4,f5,f6,f7,f8,f9,f10⟩:=cells11 H.bF
 go_upto_region 2 with (fail)
 have hbx:Below w1.heap.size w1 (w1.alloc (.cells #[.slice AF x.F.length cF,.int .i64 x.v,.int .i64 x.e,.int .i64 x.x0,.int .i64 x.x1,.int .i64 x.x2,.slice AR x.ret.length cR] 39)):=boxed _ _
 have K:=H.step hbx
 have bC:=heap_alloc_new w1 (.cells #[.slice AF x.F.length cF,.int .i64 x.v,.int .i64 x.e,.int .i64 x.x0,.int .i64 x.x1,.int .i64 x.x2,.slice AR x.ret.length cR] 39)
 clear H hbx z0 z1 z2 d0 u0 d1 u1 d2 u2 d3 u3 d4 u4 d5 u5 d6 u6
 obtain ⟨vC,hv⟩:∃ v,w1.heap.size = v:=⟨_,rfl⟩
 rw [hv] at bC ⊢
 clear hv
 generalize (w1.alloc (.cells #[.slice AF x.F.length cF,.int .i64 x.v,.int .i64 x.e,.int .i64 x.x0,.int .i64 x.x1,.int .i64 x.x2,.slice AR x.ret.length cR] 39)) = w2 at *
 have H:=K
 clear K
 clear p0 p1 p2 p3 p4 f0 f1 f2 f3 f4 f5 f6 f7 f8 f9 f10
 obtain ⟨z0,z1,z2⟩:=H.zs
 obtain ⟨g0,g1,g2,g3,g4,g5,g6⟩:=cells7 bC
 obtain ⟨p0,p1,p2,p3,p4⟩:=cells5 H.bS
 obtain ⟨f0,f1,f2,f3,f4,f5,f6,f7,f8,f9,f10⟩:=cells11 H.bF
 by_cases q0:pc = 0
 ·subst q0
  have hres:pAlloc s k ⟨op,0,[r0,r1,r2,r3,r4,r5,r6,r7],xs⟩ s = pThen s k ⟨op,0,[r0,r1,r2,r3,r4,r5,r6,r7],xs⟩ 1 1 0:=by unfold pAlloc;rw [if_pos rfl]
  have HRS:=hid hres
  rw [hres]
  clear hres
  have HA:=hid (show ∀ w',RS w' s A B (some ⟨b0,o0,none⟩) L→Row w' AS xs→Calls Tryz.prog 42 #[.agg (uS A B (some ⟨b0,o0,none⟩) L a b c d s),.int .i64 k,.agg (uF op 0 r0 r1 r2 r3 r4 r5 r6 r7 AS xs cS),.int .i64 1,.int .i64 1,.int .i64 0,.int .i64 0,.int .i64 0] w' (RetSys w' (pThen s k ⟨op,0,[r0,r1,r2,r3,r4,r5,r6,r7],xs⟩ 1 1 0)) from fun w' k1 k2=>rthen_any A B (some ⟨b0,o0,none⟩) L a b c d s k AS cS op 0 r0 r1 r2 r3 r4 r5 r6 r7 xs 1 1 0 0 0 w' hs hg k1 k2 h6 hF)
  go_wp2_with (go_at_call 42;(with_reducible refine (HA.out _ H.rs (hS.step H.be)).mono ?_);rintro e wz ⟨A9,B9,C9,L9,a9,b9,c9,d9,rfl,rW,rG,rC,rL,hz⟩;have kR:=(hz.block (w.heap.size+1+1) z2).trans H.bR;have kb:=bstep H.be hz;obtain ⟨q0,q1,q2,q3,q4,qf0,qf1,qf2,qf3,qf4⟩:=cf5 kR)
  refine bodyPost_ret (v:=.agg (uS A9 B9 C9 L9 a9 b9 c9 d9 (pThen s k ⟨op,0,[r0,r1,r2,r3,r4,r5,r6,r7],xs⟩ 1 1 0))) (by simp [uS,results,Tryz.results40,go_sem,q0,q1,q2,q3,q4]) rfl ?_
  first | exact ret_res kR kb rW rG rC rL | (rw [HRS.out];exact ret_res kR kb rW rG rC rL)
 by_cases q1:pc = 1
 ·subst q1
  by_cases q:x.e = 0
  ·have qe:(x.e == 0) = true:=by simpa using q
   have hres:pAlloc s k ⟨op,1,[r0,r1,r2,r3,r4,r5,r6,r7],xs⟩ s = pBack s k x.v 0:=by unfold pAlloc;rw [if_neg (by simp),if_pos rfl,pE_nat HX.out,if_pos q,pV_nat HX.out]
   have HRS:=hid hres
   rw [hres]
   clear hres
   go_wp2_with (go_at_call 43;(with_reducible refine (rback_u A B (some ⟨b0,o0,none⟩) L a b c d s k x.v 0 _ hs H.rs).mono ?_);rintro e wz ⟨A9,B9,C9,L9,a9,b9,c9,d9,rfl,rW,rG,rC,rL,hz⟩;have kR:=(hz.block (w.heap.size+1+1) z2).trans H.bR;have kb:=bstep H.be hz;obtain ⟨q0,q1,q2,q3,q4,qf0,qf1,qf2,qf3,qf4⟩:=cf5 kR)
   refine bodyPost_ret (v:=.agg (uS A9 B9 C9 L9 a9 b9 c9 d9 (pBack s k x.v 0))) (by simp [uS,results,Tryz.results40,go_sem,q0,q1,q2,q3,q4]) rfl ?_
   first | exact ret_res kR kb rW rG rC rL | (rw [HRS.out];exact ret_res kR kb rW rG rC rL)
  have qe:(x.e == 0) = false:=by simpa using q
  by_cases hn:x.ret.length = 0
  ·have qn:((x.ret.length:Int) == 0) = true:=by rw [hn];rfl
   have hres:pAlloc s k ⟨op,1,[r0,r1,r2,r3,r4,r5,r6,r7],xs⟩ s = pBack s k 0 2:=by unfold pAlloc;rw [if_neg (by simp),if_pos rfl,pE_nat HX.out,if_neg q,pRet_nat HX.out,if_pos hn]
   have HRS:=hid hres
   rw [hres]
   clear hres
   go_wp2_with (go_at_call 43;(with_reducible refine (rback_u A B (some ⟨b0,o0,none⟩) L a b c d s k 0 2 _ hs H.rs).mono ?_);rintro e wz ⟨A9,B9,C9,L9,a9,b9,c9,d9,rfl,rW,rG,rC,rL,hz⟩;have kR:=(hz.block (w.heap.size+1+1) z2).trans H.bR;have kb:=bstep H.be hz;obtain ⟨q0,q1,q2,q3,q4,qf0,qf1,qf2,qf3,qf4⟩:=cf5 kR)
   refine bodyPost_ret (v:=.agg (uS A9 B9 C9 L9 a9 b9 c9 d9 (pBack s k 0 2))) (by simp [uS,results,Tryz.results40,go_sem,q0,q1,q2,q3,q4]) rfl ?_
   first | exact ret_res kR kb rW rG rC rL | (rw [HRS.out];exact ret_res kR kb rW rG rC rL)
  ·have qn:((x.ret.length:Int) == 0) = false:=by rw [beq_eq_false_iff_ne];omega
   have hres:pAlloc s k ⟨op,1,[r0,r1,r2,r3,r4,r5,r6,r7],xs⟩ s = pThen s k ⟨op,1,[r0,r1,r2,r3,r4,r5,r6,r7],xs⟩ 2 6 0:=by unfold pAlloc;rw [if_neg (by simp),if_pos rfl,pE_nat HX.out,if_neg q,pRet_nat HX.out,if_neg hn]
   have HRS:=hid hres
   rw [hres]
   clear hres
   have HA:=hid (show ∀ w',RS w' s A B (some ⟨b0,o0,none⟩) L→Row w' AS xs→Calls Tryz.prog 42 #[.agg (uS A B (some ⟨b0,o0,none⟩) L a b c d s),.int .i64 k,.agg (uF op 1 r0 r1 r2 r3 r4 r5 r6 r7 AS xs cS),.int .i64 2,.int .i64 6,.int .i64 0,.int .i64 0,.int .i64 0] w' (RetSys w' (pThen s k ⟨op,1,[r0,r1,r2,r3,r4,r5,r6,r7],xs⟩ 2 6 0)) from fun w' k1 k2=>rthen_any A B (some ⟨b0,o0,none⟩) L a b c d s k AS cS op 1 r0 r1 r2 r3 r4 r5 r6 r7 xs 2 6 0 0 0 w' hs hg k1 k2 h6 hF)
   go_wp2_with (go_at_call 42;(with_reducible refine (HA.out _ H.rs (hS.step H.be)).mono ?_);rintro e wz ⟨A9,B9,C9,L9,a9,b9,c9,d9,rfl,rW,rG,rC,rL,hz⟩;have kR:=(hz.block (w.heap.size+1+1) z2).trans H.bR;have kb:=bstep H.be hz;obtain ⟨q0,q1,q2,q3,q4,qf0,qf1,qf2,qf3,qf4⟩:=cf5 kR)
   refine bodyPost_ret (v:=.agg (uS A9 B9 C9 L9 a9 b9 c9 d9 (pThen s k ⟨op,1,[r0,r1,r2,r3,r4,r5,r6,r7],xs⟩ 2 6 0))) (by simp [uS,results,Tryz.results40,go_sem,q0,q1,q2,q3,q4]) rfl ?_
   first | exact ret_res kR kb rW rG rC rL | (rw [HRS.out];exact ret_res kR kb rW rG rC rL)
 by_cases q2:pc = 2
 ·subst q2
  have hres:pAlloc s k ⟨op,2,[r0,r1,r2,r3,r4,r5,r6,r7],xs⟩ s = pThen s k ⟨op,2,[r0,r1,r2,r3,r4,r5,r6,r7],xs⟩ 3 1 0:=by unfold pAlloc;rw [if_neg (by simp),if_neg (by simp),if_pos rfl]
  have HRS:=hid hres
  rw [hres]
  clear hres
  have HA:=hid (show ∀ w',RS w' s A B (some ⟨b0,o0,none⟩) L→Row w' AS xs→Calls Tryz.prog 42 #[.agg (uS A B (some ⟨b0,o0,none⟩) L a b c d s),.int .i64 k,.agg (uF op 2 r0 r1 r2 r3 r4 r5 r6 r7 AS xs cS),.int .i64 3,.int .i64 1,.int .i64 0,.int .i64 0,.int .i64 0] w' (RetSys w' (pThen s k ⟨op,2,[r0,r1,r2,r3,r4,r5,r6,r7],xs⟩ 3 1 0)) from fun w' k1 k2=>rthen_any A B (some ⟨b0,o0,none⟩) L a b c d s k AS cS op 2 r0 r1 r2 r3 r4 r5 r6 r7 xs 3 1 0 0 0 w' hs hg k1 k2 h6 hF)
  go_wp2_with (go_at_call 42;(with_reducible refine (HA.out _ H.rs (hS.step H.be)).mono ?_);rintro e wz ⟨A9,B9,C9,L9,a9,b9,c9,d9,rfl,rW,rG,rC,rL,hz⟩;have kR:=(hz.block (w.heap.size+1+1) z2).trans H.bR;have kb:=bstep H.be hz;obtain ⟨q0,q1,q2,q3,q4,qf0,qf1,qf2,qf3,qf4⟩:=cf5 kR)
  refine bodyPost_ret (v:=.agg (uS A9 B9 C9 L9 a9 b9 c9 d9 (pThen s k ⟨op,2,[r0,r1,r2,r3,r4,r5,r6,r7],xs⟩ 3 1 0))) (by simp [uS,results,Tryz.results40,go_sem,q0,q1,q2,q3,q4]) rfl ?_
  first | exact ret_res kR kb rW rG rC rL | (rw [HRS.out];exact ret_res kR kb rW rG rC rL)
 by_cases q3:pc = 3
 ·subst q3
  have hres:pAlloc s k ⟨op,3,[r0,r1,r2,r3,r4,r5,r6,r7],xs⟩ s = pBack s k x.v x.e:=by unfold pAlloc;rw [if_neg (by simp),if_neg (by simp),if_neg (by simp),if_pos rfl,pV_nat HX.out,pE_nat HX.out]
  have HRS:=hid hres
  rw [hres]
  clear hres
  go_wp2_with (go_at_call 43;(with_reducible refine (rback_u A B (some ⟨b0,o0,none⟩) L a b c d s k x.v x.e _ hs H.rs).mono ?_);rintro e wz ⟨A9,B9,C9,L9,a9,b9,c9,d9,rfl,rW,rG,rC,rL,hz⟩;have kR:=(hz.block (w.heap.size+1+1) z2).trans H.bR;have kb:=bstep H.be hz;obtain ⟨q0,q1,q2,q3,q4,qf0,qf1,qf2,qf3,qf4⟩:=cf5 kR)
  refine bodyPost_ret (v:=.agg (uS A9 B9 C9 L9 a9 b9 c9 d9 (pBack s k x.v x.e))) (by simp [uS,results,Tryz.results40,go_sem,q0,q1,q2,q3,q4]) rfl ?_
  first | exact ret_res kR kb rW rG rC rL | (rw [HRS.out];exact ret_res kR kb rW rG rC rL)
 have e0:(pc == 0) = false:=by simpa using q0
 have e1:(pc == 1) = false:=by simpa using q1
 have e2:(pc == 2) = false:=by simpa using q2
 have e3:(pc == 3) = false:=by simpa using q3
 have hres:pAlloc s k ⟨op,pc,[r0,r1,r2,r3,r4,r5,r6,r7],xs⟩ s = s:=by unfold pAlloc;rw [if_neg q0,if_neg q1,if_neg q2,if_neg q3]
 have HRS:=hid hres
 rw [hres]
 clear hres
 have kR:=H.bR
 obtain ⟨q0,q1,q2,q3,q4,qf0,qf1,qf2,qf3,qf4⟩:=cf5 kR
 go_wp2_with fail
 refine bodyPost_ret (v:=.agg (uS A B (some ⟨b0,o0,none⟩) L a b c d s)) (by simp [uS,results,Tryz.results40,go_sem,q0,q1,q2,q3,q4]) rfl ?_
 first | exact ret_res kR H.be H.rs.W H.rs.G H.rs.C H.rs.L | (rw [HRS.out];exact ret_res kR H.be H.rs.W H.rs.G H.rs.C H.rs.L)
theorem r7st_none (A B C L:Option Addr) (a b c d:Nat) (s:Sy) (i:Int) (w:World) (hs:SyFew s) (hg:2≤s.M.G.length) (h:RS w s A B C L) (hp:pTop s i = none) :
  Calls Tryz.prog 23 #[.agg (uS A B C L a b c d s),.int .i64 i] w (RetSys w s):=by
 obtain ⟨b1,b2,bs⟩:=heap2 w (.cells (uS A B C L a b c d s) 30) (.cells uZ 30)
 have hb:Below w.heap.size w ((w.alloc (.cells (uS A B C L a b c d s) 30)).alloc (.cells uZ 30)):=bstep (boxed _ _) (boxed _ _)
 have z1:w.heap.size+1 < ((w.alloc (.cells (uS A B C L a b c d s) 30)).alloc (.cells uZ 30)).heap.size:=by simp
 clear bs
 go_enter Tryz.func23,Tryz.ntmps23
 go_upto_region 1 with (fail)
 generalize ((w.alloc (.cells (uS A B C L a b c d s) 30)).alloc (.cells uZ 30)) = w1 at *
 have K:=h.step hb
 obtain ⟨p0,p1,p2,p3,p4⟩:=cells5 b1
 go_upto_region 2 with (go_at_call 39;(with_reducible refine (rtop_no A B C L a b c d s i _ hs K hp).mono ?_);rintro e wk ⟨rfl,hk⟩)
 have rF:Row wk none []:=Row.nil _ _
 clear p0 p1 p2 p3 p4
 have hj:Below w1.heap.size w1 (wk.alloc (.cells #[.int .i64 0,.int .i64 0,.int .i64 0,.int .i64 0,.int .i64 0,.int .i64 0,.int .i64 0,.int .i64 0,.int .i64 0,.int .i64 0,.slice none 0 0] 60)):=bstep hk (boxed _ _)
 have b3:=heap_alloc_new wk (.cells #[.int .i64 0,.int .i64 0,.int .i64 0,.int .i64 0,.int .i64 0,.int .i64 0,.int .i64 0,.int .i64 0,.int .i64 0,.int .i64 0,.slice none 0 0] 60)
 replace b1:=(hj.block w.heap.size (by omega)).trans b1
 replace b2:=(hj.block (w.heap.size+1) z1).trans b2
 replace K:=K.step hj
 replace hb:=bstep hb hj
 replace z1:=Nat.lt_of_lt_of_le z1 hj.size
 replace rF:=rF.alloc (.cells #[.int .i64 0,.int .i64 0,.int .i64 0,.int .i64 0,.int .i64 0,.int .i64 0,.int .i64 0,.int .i64 0,.int .i64 0,.int .i64 0,.slice none 0 0] 60)
 clear hk hj
 obtain ⟨vF,hv⟩:∃ v,wk.heap.size = v:=⟨_,rfl⟩
 rw [hv] at b3 ⊢
 clear hv
 generalize (wk.alloc (.cells #[.int .i64 0,.int .i64 0,.int .i64 0,.int .i64 0,.int .i64 0,.int .i64 0,.int .i64 0,.int .i64 0,.int .i64 0,.int .i64 0,.slice none 0 0] 60)) = w3 at *
 obtain ⟨p0,p1,p2,p3,p4⟩:=cells5 b1
 obtain ⟨f0,f1,f2,f3,f4,f5,f6,f7,f8,f9,f10⟩:=cells11 b3
 obtain ⟨q0,q1,q2,q3,q4,qf0,qf1,qf2,qf3,qf4⟩:=cf5 b2
 go_wp2_with fail
 refine bodyPost_ret (v:=.agg (uS A B C L a b c d s)) (by simp [uS,results,Tryz.results23,go_sem,q0,q1,q2,q3,q4]) rfl ?_
 exact ret_resV (by omega) b2 hb K.W K.G K.C K.L
theorem r7st_7 (A B C L:Option Addr) (a b c d:Nat) (s:Sy) (i:Int) (t9:Sy) (pc r0 r1 r2 r3 r4 r5 r6 r7:Int) (xs:List Int) (w:World) (hs:SyFew s) (hg:2≤s.M.G.length) (h:RS w s A B C L) (hp:pTop s i = some ⟨7,pc,[r0,r1,r2,r3,r4,r5,r6,r7],xs⟩) (h6:xs.length≤1000000)
  (HC:∀ (AF:Option Addr) (cF:Nat) w',RS w' s A B C L→Row w' AF xs→Calls Tryz.prog 40 #[.agg (uS A B C L a b c d s),.int .i64 i,.agg (uF 7 pc r0 r1 r2 r3 r4 r5 r6 r7 AF xs cF)] w' (RetSys w' t9)) :
  Calls Tryz.prog 23 #[.agg (uS A B C L a b c d s),.int .i64 i] w (RetSys w t9):=by
 have HC2:=hid HC
 clear HC
 obtain ⟨b1,b2,bs⟩:=heap2 w (.cells (uS A B C L a b c d s) 30) (.cells uZ 30)
 have hb:Below w.heap.size w ((w.alloc (.cells (uS A B C L a b c d s) 30)).alloc (.cells uZ 30)):=bstep (boxed _ _) (boxed _ _)
 have z1:w.heap.size+1 < ((w.alloc (.cells (uS A B C L a b c d s) 30)).alloc (.cells uZ 30)).heap.size:=by simp
 clear bs
 go_enter Tryz.func23,Tryz.ntmps23
 go_upto_region 1 with (fail)
 generalize ((w.alloc (.cells (uS A B C L a b c d s) 30)).alloc (.cells uZ 30)) = w1 at *
 have K:=h.step hb
 obtain ⟨p0,p1,p2,p3,p4⟩:=cells5 b1
 go_upto_region 2 with (go_at_call 39;(with_reducible refine (rtop_is A B C L a b c d s i 7 pc r0 r1 r2 r3 r4 r5 r6 r7 xs _ hs K hp h6).mono ?_);rintro e wk ⟨AF,cF,rfl,rF,hk⟩)
 clear p0 p1 p2 p3 p4
 have hj:Below w1.heap.size w1 (wk.alloc (.cells (uF 7 pc r0 r1 r2 r3 r4 r5 r6 r7 AF xs cF) 60)):=bstep hk (boxed _ _)
 have b3:=heap_alloc_new wk (.cells (uF 7 pc r0 r1 r2 r3 r4 r5 r6 r7 AF xs cF) 60)
 replace b1:=(hj.block w.heap.size (by omega)).trans b1
 replace b2:=(hj.block (w.heap.size+1) z1).trans b2
 replace K:=K.step hj
 replace hb:=bstep hb hj
 replace z1:=Nat.lt_of_lt_of_le z1 hj.size
 replace rF:=rF.alloc (.cells (uF 7 pc r0 r1 r2 r3 r4 r5 r6 r7 AF xs cF) 60)
 clear hk hj
 obtain ⟨vF,hv⟩:∃ v,wk.heap.size = v:=⟨_,rfl⟩
 rw [hv] at b3 ⊢
 clear hv
 generalize (wk.alloc (.cells (uF 7 pc r0 r1 r2 r3 r4 r5 r6 r7 AF xs cF) 60)) = w3 at *
 obtain ⟨p0,p1,p2,p3,p4⟩:=cells5 b1
 obtain ⟨f0,f1,f2,f3,f4,f5,f6,f7,f8,f9,f10⟩:=cells11 b3
 go_wp2_with (go_at_call 40;(with_reducible refine (HC2.out AF cF _ K rF).mono ?_);rintro e wz ⟨A9,B9,C9,L9,a9,b9,c9,d9,rfl,rW,rG,rC,rL,hz⟩;have kR:=(hz.block (w.heap.size+1) z1).trans b2;have kb:=bstep hb hz;obtain ⟨q0,q1,q2,q3,q4,qf0,qf1,qf2,qf3,qf4⟩:=cf5 kR)
 refine bodyPost_ret (v:=.agg (uS A9 B9 C9 L9 a9 b9 c9 d9 t9)) (by simp [uS,results,Tryz.results23,go_sem,q0,q1,q2,q3,q4]) rfl ?_
 exact ret_resV (by omega) kR kb rW rG rC rL
theorem r7st_low (A B C L:Option Addr) (a b c d:Nat) (s:Sy) (i:Int) (t9:Sy) (op pc r0 r1 r2 r3 r4 r5 r6 r7:Int) (xs:List Int) (w:World) (hs:SyFew s) (hg:2≤s.M.G.length) (h:RS w s A B C L) (hp:pTop s i = some ⟨op,pc,[r0,r1,r2,r3,r4,r5,r6,r7],xs⟩) (h6:xs.length≤1000000) (o7:¬ op = 7) (o8:¬ op = 8)
  (HC:∀ w',RS w' s A B C L→Calls Tryz.prog 41 #[.agg (uS A B C L a b c d s),.int .i64 i] w' (RetSys w' t9)) :
  Calls Tryz.prog 23 #[.agg (uS A B C L a b c d s),.int .i64 i] w (RetSys w t9):=by
 have HC2:=hid HC
 clear HC
 have e7:(op == 7) = false:=by simpa using o7
 have e8:(op != 8) = true:=by simpa using o8
 clear o7 o8
 obtain ⟨b1,b2,bs⟩:=heap2 w (.cells (uS A B C L a b c d s) 30) (.cells uZ 30)
 have hb:Below w.heap.size w ((w.alloc (.cells (uS A B C L a b c d s) 30)).alloc (.cells uZ 30)):=bstep (boxed _ _) (boxed _ _)
 have z1:w.heap.size+1 < ((w.alloc (.cells (uS A B C L a b c d s) 30)).alloc (.cells uZ 30)).heap.size:=by simp
 clear bs
 go_enter Tryz.func23,Tryz.ntmps23
 go_upto_region 1 with (fail)
 generalize ((w.alloc (.cells (uS A B C L a b c d s) 30)).alloc (.cells uZ 30)) = w1 at *
 have K:=h.step hb
 obtain ⟨p0,p1,p2,p3,p4⟩:=cells5 b1
 go_upto_region 2 with (go_at_call 39;(with_reducible refine (rtop_is A B C L a b c d s i op pc r0 r1 r2 r3 r4 r5 r6 r7 xs _ hs K hp h6).mono ?_);rintro e wk ⟨AF,cF,rfl,rF,hk⟩)
 clear p0 p1 p2 p3 p4
 have hj:Below w1.heap.size w1 (wk.alloc (.cells (uF op pc r0 r1 r2 r3 r4 r5 r6 r7 AF xs cF) 60)):=bstep hk (boxed _ _)
 have b3:=heap_alloc_new wk (.cells (uF op pc r0 r1 r2 r3 r4 r5 r6 r7 AF xs cF) 60)
 replace b1:=(hj.block w.heap.size (by omega)).trans b1
 replace b2:=(hj.block (w.heap.size+1) z1).trans b2
 replace K:=K.step hj
 replace hb:=bstep hb hj
 replace z1:=Nat.lt_of_lt_of_le z1 hj.size
 replace rF:=rF.alloc (.cells (uF op pc r0 r1 r2 r3 r4 r5 r6 r7 AF xs cF) 60)
 clear hk hj
 obtain ⟨vF,hv⟩:∃ v,wk.heap.size = v:=⟨_,rfl⟩
 rw [hv] at b3 ⊢
 clear hv
 generalize (wk.alloc (.cells (uF op pc r0 r1 r2 r3 r4 r5 r6 r7 AF xs cF) 60)) = w3 at *
 obtain ⟨p0,p1,p2,p3,p4⟩:=cells5 b1
 obtain ⟨f0,f1,f2,f3,f4,f5,f6,f7,f8,f9,f10⟩:=cells11 b3
 go_wp2_with (go_at_call 41;(with_reducible refine (HC2.out _ K).mono ?_);rintro e wz ⟨A9,B9,C9,L9,a9,b9,c9,d9,rfl,rW,rG,rC,rL,hz⟩;have kR:=(hz.block (w.heap.size+1) z1).trans b2;have kb:=bstep hb hz;obtain ⟨q0,q1,q2,q3,q4,qf0,qf1,qf2,qf3,qf4⟩:=cf5 kR)
 refine bodyPost_ret (v:=.agg (uS A9 B9 C9 L9 a9 b9 c9 d9 t9)) (by simp [uS,results,Tryz.results23,go_sem,q0,q1,q2,q3,q4]) rfl ?_
 exact ret_resV (by omega) kR kb rW rG rC rL
theorem r7st_d0 (A B C L:Option Addr) (a b c d:Nat) (s:Sy) (i:Int) (r0 r1 r2 r3 r4 r5 r6 r7:Int) (xs:List Int) (w:World) (hs:SyFew s) (hg:2≤s.M.G.length) (h:RS w s A B C L) (hF:∀ x ∈ s.C,x.F.length≤999999) (hp:pTop s i = some ⟨8,0,[r0,r1,r2,r3,r4,r5,r6,r7],xs⟩) (h6:xs.length≤1000000)  :
  Calls Tryz.prog 23 #[.agg (uS A B C L a b c d s),.int .i64 i] w (RetSys w (pThen s i ⟨8,0,[r0,r1,r2,r3,r4,r5,r6,r7],xs⟩ 1 2 r0)):=by
 have HT:=hid (show ∀ (AF:Option Addr) (cF:Nat) w',RS w' s A B C L→Row w' AF xs→Calls Tryz.prog 42 #[.agg (uS A B C L a b c d s),.int .i64 i,.agg (uF 8 0 r0 r1 r2 r3 r4 r5 r6 r7 AF xs cF),.int .i64 1,.int .i64 2,.int .i64 r0,.int .i64 0,.int .i64 0] w' (RetSys w' (pThen s i ⟨8,0,[r0,r1,r2,r3,r4,r5,r6,r7],xs⟩ 1 2 r0)) from fun AF cF w' k1 k2=>rthen_any A B C L a b c d s i AF cF 8 0 r0 r1 r2 r3 r4 r5 r6 r7 xs 1 2 r0 0 0 w' hs hg k1 k2 h6 hF)
 obtain ⟨b1,b2,bs⟩:=heap2 w (.cells (uS A B C L a b c d s) 30) (.cells uZ 30)
 have hb:Below w.heap.size w ((w.alloc (.cells (uS A B C L a b c d s) 30)).alloc (.cells uZ 30)):=bstep (boxed _ _) (boxed _ _)
 have z1:w.heap.size+1 < ((w.alloc (.cells (uS A B C L a b c d s) 30)).alloc (.cells uZ 30)).heap.size:=by simp
 clear bs
 go_enter Tryz.func23,Tryz.ntmps23
 go_upto_region 1 with (fail)
 generalize ((w.alloc (.cells (uS A B C L a b c d s) 30)).alloc (.cells uZ 30)) = w1 at *
 have K:=h.step hb
 obtain ⟨p0,p1,p2,p3,p4⟩:=cells5 b1
 go_upto_region 2 with (go_at_call 39;(with_reducible refine (rtop_is A B C L a b c d s i 8 0 r0 r1 r2 r3 r4 r5 r6 r7 xs _ hs K hp h6).mono ?_);rintro e wk ⟨AF,cF,rfl,rF,hk⟩)
 clear p0 p1 p2 p3 p4
 have hj:Below w1.heap.size w1 (wk.alloc (.cells (uF 8 0 r0 r1 r2 r3 r4 r5 r6 r7 AF xs cF) 60)):=bstep hk (boxed _ _)
 have b3:=heap_alloc_new wk (.cells (uF 8 0 r0 r1 r2 r3 r4 r5 r6 r7 AF xs cF) 60)
 replace b1:=(hj.block w.heap.size (by omega)).trans b1
 replace b2:=(hj.block (w.heap.size+1) z1).trans b2
 replace K:=K.step hj
 replace hb:=bstep hb hj
 replace z1:=Nat.lt_of_lt_of_le z1 hj.size
 replace rF:=rF.alloc (.cells (uF 8 0 r0 r1 r2 r3 r4 r5 r6 r7 AF xs cF) 60)
 clear hk hj
 obtain ⟨vF,hv⟩:∃ v,wk.heap.size = v:=⟨_,rfl⟩
 rw [hv] at b3 ⊢
 clear hv
 generalize (wk.alloc (.cells (uF 8 0 r0 r1 r2 r3 r4 r5 r6 r7 AF xs cF) 60)) = w3 at *
 obtain ⟨p0,p1,p2,p3,p4⟩:=cells5 b1
 obtain ⟨f0,f1,f2,f3,f4,f5,f6,f7,f8,f9,f10⟩:=cells11 b3
 go_wp2_with (go_at_call 42;(with_reducible refine (HT.out AF cF _ K rF).mono ?_);rintro e wz ⟨A9,B9,C9,L9,a9,b9,c9,d9,rfl,rW,rG,rC,rL,hz⟩;have kR:=(hz.block (w.heap.size+1) z1).trans b2;have kb:=bstep hb hz;obtain ⟨q0,q1,q2,q3,q4,qf0,qf1,qf2,qf3,qf4⟩:=cf5 kR)
 refine bodyPost_ret (v:=.agg (uS A9 B9 C9 L9 a9 b9 c9 d9 (pThen s i ⟨8,0,[r0,r1,r2,r3,r4,r5,r6,r7],xs⟩ 1 2 r0))) (by simp [uS,results,Tryz.results23,go_sem,q0,q1,q2,q3,q4]) rfl ?_
 exact ret_resV (by omega) kR kb rW rG rC rL
theorem r7st_d1 (A B C L:Option Addr) (a b c d:Nat) (s:Sy) (i:Int) (r0 r1 r2 r3 r4 r5 r6 r7:Int) (xs:List Int) (w:World) (hs:SyFew s) (hg:2≤s.M.G.length) (h:RS w s A B C L) (hF:∀ x ∈ s.C,x.F.length≤999999) (hp:pTop s i = some ⟨8,1,[r0,r1,r2,r3,r4,r5,r6,r7],xs⟩) (h6:xs.length≤1000000)  :
  Calls Tryz.prog 23 #[.agg (uS A B C L a b c d s),.int .i64 i] w (RetSys w (pBack s i r0 0)):=by
 obtain ⟨b1,b2,bs⟩:=heap2 w (.cells (uS A B C L a b c d s) 30) (.cells uZ 30)
 have hb:Below w.heap.size w ((w.alloc (.cells (uS A B C L a b c d s) 30)).alloc (.cells uZ 30)):=bstep (boxed _ _) (boxed _ _)
 have z1:w.heap.size+1 < ((w.alloc (.cells (uS A B C L a b c d s) 30)).alloc (.cells uZ 30)).heap.size:=by simp
 clear bs
 go_enter Tryz.func23,Tryz.ntmps23
 go_upto_region 1 with (fail)
 generalize ((w.alloc (.cells (uS A B C L a b c d s) 30)).alloc (.cells uZ 30)) = w1 at *
 have K:=h.step hb
 obtain ⟨p0,p1,p2,p3,p4⟩:=cells5 b1
 go_upto_region 2 with (go_at_call 39;(with_reducible refine (rtop_is A B C L a b c d s i 8 1 r0 r1 r2 r3 r4 r5 r6 r7 xs _ hs K hp h6).mono ?_);rintro e wk ⟨AF,cF,rfl,rF,hk⟩)
 clear p0 p1 p2 p3 p4
 have hj:Below w1.heap.size w1 (wk.alloc (.cells (uF 8 1 r0 r1 r2 r3 r4 r5 r6 r7 AF xs cF) 60)):=bstep hk (boxed _ _)
 have b3:=heap_alloc_new wk (.cells (uF 8 1 r0 r1 r2 r3 r4 r5 r6 r7 AF xs cF) 60)
 replace b1:=(hj.block w.heap.size (by omega)).trans b1
 replace b2:=(hj.block (w.heap.size+1) z1).trans b2
 replace K:=K.step hj
 replace hb:=bstep hb hj
 replace z1:=Nat.lt_of_lt_of_le z1 hj.size
 replace rF:=rF.alloc (.cells (uF 8 1 r0 r1 r2 r3 r4 r5 r6 r7 AF xs cF) 60)
 clear hk hj
 obtain ⟨vF,hv⟩:∃ v,wk.heap.size = v:=⟨_,rfl⟩
 rw [hv] at b3 ⊢
 clear hv
 generalize (wk.alloc (.cells (uF 8 1 r0 r1 r2 r3 r4 r5 r6 r7 AF xs cF) 60)) = w3 at *
 obtain ⟨p0,p1,p2,p3,p4⟩:=cells5 b1
 obtain ⟨f0,f1,f2,f3,f4,f5,f6,f7,f8,f9,f10⟩:=cells11 b3
 go_wp2_with (go_at_call 43;(with_reducible refine (rback_u A B C L a b c d s i r0 0 _ hs K).mono ?_);rintro e wz ⟨A9,B9,C9,L9,a9,b9,c9,d9,rfl,rW,rG,rC,rL,hz⟩;have kR:=(hz.block (w.heap.size+1) z1).trans b2;have kb:=bstep hb hz;obtain ⟨q0,q1,q2,q3,q4,qf0,qf1,qf2,qf3,qf4⟩:=cf5 kR)
 refine bodyPost_ret (v:=.agg (uS A9 B9 C9 L9 a9 b9 c9 d9 (pBack s i r0 0))) (by simp [uS,results,Tryz.results23,go_sem,q0,q1,q2,q3,q4]) rfl ?_
 exact ret_resV (by omega) kR kb rW rG rC rL
theorem r7st_dx (A B C L:Option Addr) (a b c d:Nat) (s:Sy) (i:Int) (pc r0 r1 r2 r3 r4 r5 r6 r7:Int) (xs:List Int) (w:World) (hs:SyFew s) (hg:2≤s.M.G.length) (h:RS w s A B C L) (hF:∀ x ∈ s.C,x.F.length≤999999) (hp:pTop s i = some ⟨8,pc,[r0,r1,r2,r3,r4,r5,r6,r7],xs⟩) (h6:xs.length≤1000000) (q0:¬ pc = 0) (q1:¬ pc = 1) :
  Calls Tryz.prog 23 #[.agg (uS A B C L a b c d s),.int .i64 i] w (RetSys w (s)):=by
 have e0:(pc == 0) = false:=by simpa using q0
 have e1:(pc == 1) = false:=by simpa using q1
 clear q0 q1
 obtain ⟨b1,b2,bs⟩:=heap2 w (.cells (uS A B C L a b c d s) 30) (.cells uZ 30)
 have hb:Below w.heap.size w ((w.alloc (.cells (uS A B C L a b c d s) 30)).alloc (.cells uZ 30)):=bstep (boxed _ _) (boxed _ _)
 have z1:w.heap.size+1 < ((w.alloc (.cells (uS A B C L a b c d s) 30)).alloc (.cells uZ 30)).heap.size:=by simp
 clear bs
 go_enter Tryz.func23,Tryz.ntmps23
 go_upto_region 1 with (fail)
 generalize ((w.alloc (.cells (uS A B C L a b c d s) 30)).alloc (.cells uZ 30)) = w1 at *
 have K:=h.step hb
 obtain ⟨p0,p1,p2,p3,p4⟩:=cells5 b1
 go_upto_region 2 with (go_at_call 39;(with_reducible refine (rtop_is A B C L a b c d s i 8 pc r0 r1 r2 r3 r4 r5 r6 r7 xs _ hs K hp h6).mono ?_);rintro e wk ⟨AF,cF,rfl,rF,hk⟩)
 clear p0 p1 p2 p3 p4
 have hj:Below w1.heap.size w1 (wk.alloc (.cells (uF 8 pc r0 r1 r2 r3 r4 r5 r6 r7 AF xs cF) 60)):=bstep hk (boxed _ _)
 have b3:=heap_alloc_new wk (.cells (uF 8 pc r0 r1 r2 r3 r4 r5 r6 r7 AF xs cF) 60)
 replace b1:=(hj.block w.heap.size (by omega)).trans b1
 replace b2:=(hj.block (w.heap.size+1) z1).trans b2
 replace K:=K.step hj
 replace hb:=bstep hb hj
 replace z1:=Nat.lt_of_lt_of_le z1 hj.size
 replace rF:=rF.alloc (.cells (uF 8 pc r0 r1 r2 r3 r4 r5 r6 r7 AF xs cF) 60)
 clear hk hj
 obtain ⟨vF,hv⟩:∃ v,wk.heap.size = v:=⟨_,rfl⟩
 rw [hv] at b3 ⊢
 clear hv
 generalize (wk.alloc (.cells (uF 8 pc r0 r1 r2 r3 r4 r5 r6 r7 AF xs cF) 60)) = w3 at *
 obtain ⟨p0,p1,p2,p3,p4⟩:=cells5 b1
 obtain ⟨f0,f1,f2,f3,f4,f5,f6,f7,f8,f9,f10⟩:=cells11 b3
 obtain ⟨q0,q1,q2,q3,q4,qf0,qf1,qf2,qf3,qf4⟩:=cf5 b2
 go_wp2_with fail
 refine bodyPost_ret (v:=.agg (uS A B C L a b c d s)) (by simp [uS,results,Tryz.results23,go_sem,q0,q1,q2,q3,q4]) rfl ?_
 exact ret_resV (by omega) b2 hb K.W K.G K.C K.L
theorem r7step_any (A B C L:Option Addr) (a b c d:Nat) (s:Sy) (i:Int) (w:World) (hs:SyFew s) (hg:2≤s.M.G.length) (h:RS w s A B C L) (hF:∀ x ∈ s.C,x.F.length≤999998) (hL:s.L.length≤999998) :
  Calls Tryz.prog 23 #[.agg (uS A B C L a b c d s),.int .i64 i] w (RetSys w (pAlc s i)):=by
 have hF9:∀ x ∈ s.C,x.F.length≤999999:=fun x hx=>by have:=hF x hx;omega
 rcases pTop_cases s i hs h.C with hp | ⟨op,pc,r0,r1,r2,r3,r4,r5,r6,r7,xs,hp,h6⟩
 ·have e:pAlc s i = s:=by unfold pAlc;rw [hp]
  rw [e]
  exact r7st_none A B C L a b c d s i w hs hg h hp
 ·by_cases o1:op = 7
  ·subst o1
   have e:pAlc s i = pAlloc s i ⟨7,pc,[r0,r1,r2,r3,r4,r5,r6,r7],xs⟩ s:=by unfold pAlc;rw [hp];simp
   rw [e]
   obtain ⟨k,n,x,rfl,hx,_,_⟩:=pTop_out hp
   exact r7st_7 A B C L a b c d s (k:Int) _ pc r0 r1 r2 r3 r4 r5 r6 r7 xs w hs hg h hp h6 (fun AF cF w' k1 k2=>ral_any A B C L a b c d s k x AF cF 7 pc r0 r1 r2 r3 r4 r5 r6 r7 xs w' hs hg k1 k2 h6 hF9 hx)
  ·by_cases o2:op = 8
   ·subst o2
    have e:pAlc s i = pDrop s i ⟨8,pc,[r0,r1,r2,r3,r4,r5,r6,r7],xs⟩ s:=by unfold pAlc;rw [hp];simp
    rw [e]
    unfold pDrop
    by_cases q0:pc = 0
    ·subst q0;rw [if_pos rfl];exact r7st_d0 A B C L a b c d s i r0 r1 r2 r3 r4 r5 r6 r7 xs w hs hg h hF9 hp h6
    ·rw [if_neg q0]
     by_cases q1:pc = 1
     ·subst q1;rw [if_pos rfl];exact r7st_d1 A B C L a b c d s i r0 r1 r2 r3 r4 r5 r6 r7 xs w hs hg h hF9 hp h6
     ·rw [if_neg q1];exact r7st_dx A B C L a b c d s i pc r0 r1 r2 r3 r4 r5 r6 r7 xs w hs hg h hF9 hp h6 q0 q1
   ·have e:pAlc s i = pScan s i:=by unfold pAlc;rw [hp];simp [o1,o2]
    rw [e]
    exact r7st_low A B C L a b c d s i _ op pc r0 r1 r2 r3 r4 r5 r6 r7 xs w hs hg h hp h6 o1 o2 (fun w' h'=>r6step_any A B C L a b c d s i w' hs hg h' hF hL)
end Go.Proofs.YtfipcdhodojodaaGreat
