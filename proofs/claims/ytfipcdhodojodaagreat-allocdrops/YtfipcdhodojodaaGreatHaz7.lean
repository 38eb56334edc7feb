/- Contracts: a step of OProt, by the document. -/
import Derived.Test.YtfipcdhodojodaaGreatMSS
import Derived.Test.YtfipcdhodojodaaGreatKHzA
namespace Go.Proofs.YtfipcdhodojodaaGreat
open Go.RowKit
set_option maxRecDepth 100000
set_option maxHeartbeats 4000000
set_option linter.unusedVariables false
set_option linter.unusedSimpArgs false
theorem rprot_1 (A B C L:Option Addr) (a b c d:Nat) (s:Sy) (i:Int) (AS:Option Addr) (cS:Nat) (op r0 r1 r2 r3 r4 r5 r6 r7:Int) (xs:List Int) (d0:Sy) (w:World) (hs:SyFew s) (hg:2≤s.M.G.length) (h:RS w s A B C L) (hS:Row w AS xs) (h6:xs.length≤1000000) (hF:∀ x ∈ s.C,x.F.length≤999999)  :
  Calls Tryz.prog 77 #[.agg (uS A B C L a b c d s),.int .i64 i,.agg (uF op 1 r0 r1 r2 r3 r4 r5 r6 r7 AS xs cS)] w (RetSys w (pProt s i ⟨op,1,[r0,r1,r2,r3,r4,r5,r6,r7],xs⟩ d0)):=by
 obtain ⟨s2,hs2⟩:∃ t,t = syMem s (mStore s.M (pPlace i r1) (pIdx r2)):=⟨_,rfl⟩
 have HS2:=hid hs2
 have HC:=hid (show ∀ w',Row w' A s.M.W→Row w' B s.M.G→Calls Tryz.prog 11 #[.agg #[.slice A s.M.W.length a,.slice B s.M.G.length b,.bool s.M.bad],.int .i64 (pPlace i r1),.int .i64 (pIdx r2)] w' (RetMemO w' A B s2.M) from fun w' k1 k2=>by have h9:=rstore_o A B a b s.M (pPlace i r1) (pIdx r2) w' k1 k2 hs.1 hs.2.1 (by omega);rw [hs2];exact h9)
 have lW:s2.M.W.length = s.M.W.length:=by rw [hs2];exact (mStore_len _ _ _).1
 have lG:s2.M.G.length = s.M.G.length:=by rw [hs2];exact congrArg List.length (mStore_len s.M (pPlace i r1) (pIdx r2)).2
 have HW2:=hid lW
 have HG2:=hid lG
 have fw:SyFew s2:=by rw [hs2];exact few_mem hs (by exact (mStore_len _ _ _).1) (by exact congrArg List.length (mStore_len s.M (pPlace i r1) (pIdx r2)).2)
 clear lW lG
 have es2:syMem s s2.M = s2:=by rw [hs2];rfl
 have ES:=hid es2
 clear es2
 have hres:pProt s i ⟨op,1,[r0,r1,r2,r3,r4,r5,r6,r7],xs⟩ d0 = pSet s2 i ⟨op,2,[r0,r1,r2,r3,r4,r5,r6,r7],xs⟩:=by unfold pProt;rw [if_neg (by simp),if_pos rfl,hs2];rfl
 rw [hres]
 clear hres hs2
 have h0:=hs.1
 have h1:=hs.2.1
 have hg1:1≤s.M.G.length:=by omega
 have H:=SF.start w s A B C L a b c d (uF op 1 r0 r1 r2 r3 r4 r5 r6 r7 AS xs cS) h
 clear h
 go_enter Tryz.func77,Tryz.ntmps77
 go_upto_region 1 with (fail)
 generalize (((w.alloc (.cells (uS A B C L a b c d s) 30)).alloc (.cells (uF op 1 r0 r1 r2 r3 r4 r5 r6 r7 AS xs cS) 60)).alloc (.cells uZ 30)) = w1 at *
 obtain ⟨z0,z1,z2⟩:=H.zs
 obtain ⟨f0,f1,f2,f3,f4,f5,f6,f7,f8,f9,f10⟩:=cells11 H.bF
 go_upto_region 2 with (fail)
 clear f0 f1 f2 f3 f4 f5 f6 f7 f8 f9 f10
 obtain ⟨p0,p1,p2⟩:=cells3 H.bS
 obtain ⟨-,-,-,f3,f4⟩:=cells5 H.bF
 go_cut [7] from 26 (fun y7 wx=>Laid4 w s A B C L a b c d (uF op 1 r0 r1 r2 r3 r4 r5 r6 r7 AS xs cS) s2.M y7 wx)
 case first =>
  have KS:=hid (show ∀ w',Turn (fun b=>w1.heap.size≤b) w1 w'→(w'.cell? ⟨w.heap.size,0,none⟩ = some (.slice A s.M.W.length a)∧w'.cell? ⟨w.heap.size,1,none⟩ = some (.slice B s.M.G.length b)∧w'.cell? ⟨w.heap.size,2,none⟩ = some (.bool s.M.bad)∧w'.cell? ⟨w.heap.size+1,3,none⟩ = some (.int .i64 r1)∧w'.cell? ⟨w.heap.size+1,4,none⟩ = some (.int .i64 r2)) from fun w' h=>⟨(h.cell z0 (by omega)).trans p0,(h.cell z0 (by omega)).trans p1,(h.cell z0 (by omega)).trans p2,(h.cell z1 (by omega)).trans f3,(h.cell z1 (by omega)).trans f4⟩)
  go_region_held3 (fun w'=>w'.cell? ⟨w.heap.size,0,none⟩ = some (.slice A s.M.W.length a)∧w'.cell? ⟨w.heap.size,1,none⟩ = some (.slice B s.M.G.length b)∧w'.cell? ⟨w.heap.size,2,none⟩ = some (.bool s.M.bad)∧w'.cell? ⟨w.heap.size+1,3,none⟩ = some (.int .i64 r1)∧w'.cell? ⟨w.heap.size+1,4,none⟩ = some (.int .i64 r2)) (exact KS.out _ (by repeat (first | (with_reducible exact Turn.refl _ _) | (with_reducible refine Turn.set ?_ (by first | (simp;done) | (simp;omega) | (have h9:=hk9.size;simp at h9 ⊢;omega)) _ _) | (with_reducible refine Turn.drew ?_) | (with_reducible refine Turn.alloc ?_ _) | (with_reducible refine Turn.below ?_ hk9))))
   (first | (go_at_call 12;(with_reducible refine (rplace_w _ _ _).mono ?_);rintro e wq ⟨rfl,rfl⟩) | (go_at_call 30;(with_reducible refine (Pk.rindex_any _ _).mono ?_);rintro e wq ⟨rfl,rfl⟩) | (go_at_call 11;(with_reducible refine (HC.out _ (H.rW.step (by repeat (first | (with_reducible exact Below.refl _ _) | (with_reducible refine Below.drew ?_) | (with_reducible refine bstep ?_ (boxed _ _))))) (H.rG.step (by repeat (first | (with_reducible exact Below.refl _ _) | (with_reducible refine Below.drew ?_) | (with_reducible refine bstep ?_ (boxed _ _)))))).mono ?_);rintro e w9 ⟨A2,B2,a2,b2,rfl,s1,s3,hk9,F1,F2⟩;have HX:=H.via hk9 (by repeat (first | (with_reducible exact Below.refl _ _) | (with_reducible refine Below.drew ?_) | (with_reducible refine bstep ?_ (boxed _ _))));obtain ⟨gc,gf⟩:=bcell hk9;have hz10:=hk9.size;simp at hz10))
  all_goals go_wp2_with fail
  all_goals go_meet
  all_goals first
   | exact ⟨_,A2,B2,a2,b2,rfl,HX.2.step (boxed _ _),MVar.new s1 s3 (HX.1.whW F1 HW2.out) (HX.1.whG F2 HG2.out) (by omega)⟩
   | exact ⟨_,A2,B2,a2,b2,rfl,HX.2.set3 (show w9.heap[w1.heap.size]? = some (.cells #[.slice none 0 0,.slice none 0 0,.bool false] 26 (0,0)) from (hk9.block _ (by simp)).trans (heap_alloc_new _ _)) z2 _ _ _,MVar.set (show w9.heap[w1.heap.size]? = some (.cells #[.slice none 0 0,.slice none 0 0,.bool false] 26 (0,0)) from (hk9.block _ (by simp)).trans (heap_alloc_new _ _)) s1 s3 (HX.1.whW F1 HW2.out) (HX.1.whG F2 HG2.out) z2⟩
 case rest =>
  clear H z0 z1 z2 p0 p1 p2 f3 f4
  have hL:=hcut
  obtain ⟨vM,A2,B2,a2,b2,rfl,H2,KM⟩:=hL
  have H:=H2
  clear H2
  obtain ⟨z0,z1,z2⟩:=H.zs
  obtain ⟨x0,x1,x2⟩:=cells3 KM.bM
  obtain ⟨p0,p1,p2,p3,p4⟩:=cells5 H.bS
  obtain ⟨f0,f1,f2,f3,f4,f5,f6,f7,f8,f9,f10⟩:=cells11 H.bF
  have HO:=hid (show Calls Tryz.prog 78 #[.agg (uS A B C L a b c d s),.int .i64 i,.agg #[.slice A2 s2.M.W.length a2,.slice B2 s2.M.G.length b2,.bool s2.M.bad],.agg (uF op 1 r0 r1 r2 r3 r4 r5 r6 r7 AS xs cS),.int .i64 2] wc (RetSys wc (pSet s2 i ⟨op,2,[r0,r1,r2,r3,r4,r5,r6,r7],xs⟩)) by have h9:=on_any A B C L A2 B2 a b c d a2 b2 s s2.M i AS cS op 1 r0 r1 r2 r3 r4 r5 r6 r7 xs 2 wc (by rw [ES.out];exact fw) hF H.rs KM.rW KM.rG (hS.step H.be);rw [ES.out] at h9;exact h9)
  go_wp2_with (go_at_call 78;(with_reducible refine (HO.out).mono ?_);rintro e wz ⟨A9,B9,C9,L9,a9,b9,c9,d9,rfl,rW,rG,rC,rL,hz⟩;have kR:=(hz.block (w.heap.size+1+1) z2).trans H.bR;have kb:=bstep H.be hz;obtain ⟨q0,q1,q2,q3,q4,qf0,qf1,qf2,qf3,qf4⟩:=cf5 kR)
  refine bodyPost_ret (v:=.agg (uS A9 B9 C9 L9 a9 b9 c9 d9 (pSet s2 i ⟨op,2,[r0,r1,r2,r3,r4,r5,r6,r7],xs⟩))) (by simp [uS,results,Tryz.results77,go_sem,q0,q1,q2,q3,q4]) rfl ?_
  exact ret_res kR kb rW rG rC rL
theorem rprot_0a (A B C L:Option Addr) (a b c d:Nat) (s:Sy) (i:Int) (AS:Option Addr) (cS:Nat) (op r0 r1 r2 r3 r4 r5 r6 r7:Int) (xs:List Int) (d0:Sy) (w:World) (hs:SyFew s) (hg:2≤s.M.G.length) (h:RS w s A B C L) (hS:Row w AS xs) (h6:xs.length≤1000000) (hF:∀ x ∈ s.C,x.F.length≤999999) (hq:pIdx (mVal s.M r0) = 0) :
  Calls Tryz.prog 77 #[.agg (uS A B C L a b c d s),.int .i64 i,.agg (uF op 0 r0 r1 r2 r3 r4 r5 r6 r7 AS xs cS)] w (RetSys w (pProt s i ⟨op,0,[r0,r1,r2,r3,r4,r5,r6,r7],xs⟩ d0)):=by
 obtain ⟨s2,hs2⟩:∃ t,t = syMem s (mLoad s.M r0):=⟨_,rfl⟩
 obtain ⟨vv,hvv⟩:∃ v,v = mVal s.M r0:=⟨_,rfl⟩
 have HV:=hid hvv
 have HS2:=hid hs2
 have HC:=hid (show ∀ w',Row w' A s.M.W→Row w' B s.M.G→Calls Tryz.prog 29 #[.agg #[.slice A s.M.W.length a,.slice B s.M.G.length b,.bool s.M.bad],.int .i64 r0] w' (RetMem2O w' A B s2.M (.int .i64 vv)) from fun w' k1 k2=>by have h9:=rload_o A B a b s.M r0 w' k1 k2 hs.1 hs.2.1 (by omega);rw [← hvv] at h9;rw [hs2];exact h9)
 have lW:s2.M.W.length = s.M.W.length:=by rw [hs2];rfl
 have lG:s2.M.G.length = s.M.G.length:=by rw [hs2];rfl
 have HW2:=hid lW
 have HG2:=hid lG
 have fw:SyFew s2:=by rw [hs2];exact few_mem hs (by rfl) (by rfl)
 clear lW lG
 have es2:syMem s s2.M = s2:=by rw [hs2];rfl
 have ES:=hid es2
 clear es2
 have hres:pProt s i ⟨op,0,[r0,r1,r2,r3,r4,r5,r6,r7],xs⟩ d0 = pBack s2 i vv 0:=by unfold pProt;exact (if_pos rfl).trans ((if_pos hq).trans (by rw [hs2,hvv] <;> rfl))
 have hx:(pIdx vv == 0) = true:=by rw [hvv,hq];rfl
 clear hq
 rw [hres]
 clear hres hs2 hvv
 have h0:=hs.1
 have h1:=hs.2.1
 have hg1:1≤s.M.G.length:=by omega
 have H:=SF.start w s A B C L a b c d (uF op 0 r0 r1 r2 r3 r4 r5 r6 r7 AS xs cS) h
 clear h
 go_enter Tryz.func77,Tryz.ntmps77
 go_upto_region 1 with (fail)
 generalize (((w.alloc (.cells (uS A B C L a b c d s) 30)).alloc (.cells (uF op 0 r0 r1 r2 r3 r4 r5 r6 r7 AS xs cS) 60)).alloc (.cells uZ 30)) = w1 at *
 obtain ⟨z0,z1,z2⟩:=H.zs
 obtain ⟨p0,p1,p2,p3,p4⟩:=cells5 H.bS
 obtain ⟨f0,f1,f2,f3,f4,f5,f6,f7,f8,f9,f10⟩:=cells11 H.bF
 go_upto_region 7 with (go_at_call 29;(with_reducible refine (HC.out _ H.rW H.rG).mono ?_);rintro e w4 ⟨A2,B2,a2,b2,rfl,s1,s3,hk4,F1,F2⟩)
 clear p0 p1 p2 p3 p4 f0 f1 f2 f3 f4 f5 f6 f7 f8 f9 f10
 have K4:=H.step hk4
 have KM:=MVar.new (a:=a2) (b:=b2) s1 s3 (H.whW F1 HW2.out) (H.whG F2 HG2.out) K4.lt
 have K5:=K4.step (boxed w4 (.cells #[.slice A2 s2.M.W.length a2,.slice B2 s2.M.G.length b2,.bool s2.M.bad] 26))
 clear H K4 s1 s3 F1 F2 hk4 z0 z1 z2
 obtain ⟨vM,hv⟩:∃ v,w4.heap.size = v:=⟨_,rfl⟩
 rw [hv] at KM ⊢
 clear hv
 generalize w4.alloc (.cells #[.slice A2 s2.M.W.length a2,.slice B2 s2.M.G.length b2,.bool s2.M.bad] 26) = w5 at *
 have H:=K5
 clear K5
 obtain ⟨z0,z1,z2⟩:=H.zs
 obtain ⟨x0,x1,x2⟩:=cells3 KM.bM
 obtain ⟨p0,p1,p2,p3,p4⟩:=cells5 H.bS
 obtain ⟨f0,f1,f2,f3,f4,f5,f6,f7,f8,f9,f10⟩:=cells11 H.bF
 have HM:=hid (show ∀ w',RS w' s A B C L→Row w' A2 s2.M.W→Row w' B2 s2.M.G→Calls Tryz.prog 37 #[.agg (uS A B C L a b c d s),.agg #[.slice A2 s2.M.W.length a2,.slice B2 s2.M.G.length b2,.bool s2.M.bad]] w' fun e w''=>e = .returned (.agg (uS A2 B2 C L a2 b2 c d s2))∧RS w'' s2 A2 B2 C L∧Below w'.heap.size w' w'' from fun w' k1 k2 k3=>by have h9:=rmem3_any A B C L A2 B2 a b c d a2 b2 s s2.M w' k1 k2 k3;have e8:s2.C = s.C:=(by rw [HS2.out];rfl);have e7:s2.L = s.L:=(by rw [HS2.out];rfl);rw [ES.out] at h9;dsimp only [uS];rw [e8,e7];exact h9)
 go_wp2_with (first | (go_at_call 30;(with_reducible refine (Pk.rindex_any _ _).mono ?_);rintro e wq ⟨rfl,rfl⟩) | (go_at_call 37;(with_reducible refine (HM.out _ H.rs KM.rW KM.rG).mono ?_);rintro e w7 ⟨rfl,S7,hk7⟩;have K7:=H.step hk7;have z7:=K7.lt) | (go_at_call 43;(with_reducible refine (rback_u A2 B2 C L a2 b2 c d s2 i vv 0 _ fw S7).mono ?_);rintro e wz ⟨A9,B9,C9,L9,a9,b9,c9,d9,rfl,rW,rG,rC,rL,hz⟩;have kR:=(hz.block (w.heap.size+1+1) z7).trans K7.bR;have kb:=bstep K7.be hz;obtain ⟨q0,q1,q2,q3,q4,qf0,qf1,qf2,qf3,qf4⟩:=cf5 kR))
 refine bodyPost_ret (v:=.agg (uS A9 B9 C9 L9 a9 b9 c9 d9 (pBack s2 i vv 0))) (by simp [uS,results,Tryz.results77,go_sem,q0,q1,q2,q3,q4]) rfl ?_
 exact ret_res kR kb rW rG rC rL
theorem rprot_0b (A B C L:Option Addr) (a b c d:Nat) (s:Sy) (i:Int) (AS:Option Addr) (cS:Nat) (op r0 r1 r2 r3 r4 r5 r6 r7:Int) (xs:List Int) (d0:Sy) (w:World) (hs:SyFew s) (hg:2≤s.M.G.length) (h:RS w s A B C L) (hS:Row w AS xs) (h6:xs.length≤1000000) (hF:∀ x ∈ s.C,x.F.length≤999999) (hq:¬ pIdx (mVal s.M r0) = 0) :
  Calls Tryz.prog 77 #[.agg (uS A B C L a b c d s),.int .i64 i,.agg (uF op 0 r0 r1 r2 r3 r4 r5 r6 r7 AS xs cS)] w (RetSys w (pProt s i ⟨op,0,[r0,r1,r2,r3,r4,r5,r6,r7],xs⟩ d0)):=by
 obtain ⟨s2,hs2⟩:∃ t,t = syMem s (mLoad s.M r0):=⟨_,rfl⟩
 obtain ⟨vv,hvv⟩:∃ v,v = mVal s.M r0:=⟨_,rfl⟩
 have HV:=hid hvv
 have HS2:=hid hs2
 have HC:=hid (show ∀ w',Row w' A s.M.W→Row w' B s.M.G→Calls Tryz.prog 29 #[.agg #[.slice A s.M.W.length a,.slice B s.M.G.length b,.bool s.M.bad],.int .i64 r0] w' (RetMem2O w' A B s2.M (.int .i64 vv)) from fun w' k1 k2=>by have h9:=rload_o A B a b s.M r0 w' k1 k2 hs.1 hs.2.1 (by omega);rw [← hvv] at h9;rw [hs2];exact h9)
 have lW:s2.M.W.length = s.M.W.length:=by rw [hs2];rfl
 have lG:s2.M.G.length = s.M.G.length:=by rw [hs2];rfl
 have HW2:=hid lW
 have HG2:=hid lG
 have fw:SyFew s2:=by rw [hs2];exact few_mem hs (by rfl) (by rfl)
 clear lW lG
 have es2:syMem s s2.M = s2:=by rw [hs2];rfl
 have ES:=hid es2
 clear es2
 have hres:pProt s i ⟨op,0,[r0,r1,r2,r3,r4,r5,r6,r7],xs⟩ d0 = pSet s2 i ⟨op,1,[r0,r1,vv,r3,r4,r5,r6,r7],xs⟩:=by unfold pProt;exact (if_pos rfl).trans ((if_neg hq).trans (by rw [hs2,hvv] <;> rfl))
 have hx:(pIdx vv == 0) = false:=by rw [hvv];simpa using hq
 clear hq
 rw [hres]
 clear hres hs2 hvv
 have h0:=hs.1
 have h1:=hs.2.1
 have hg1:1≤s.M.G.length:=by omega
 have H:=SF.start w s A B C L a b c d (uF op 0 r0 r1 r2 r3 r4 r5 r6 r7 AS xs cS) h
 clear h
 go_enter Tryz.func77,Tryz.ntmps77
 go_upto_region 1 with (fail)
 generalize (((w.alloc (.cells (uS A B C L a b c d s) 30)).alloc (.cells (uF op 0 r0 r1 r2 r3 r4 r5 r6 r7 AS xs cS) 60)).alloc (.cells uZ 30)) = w1 at *
 obtain ⟨z0,z1,z2⟩:=H.zs
 obtain ⟨p0,p1,p2,p3,p4⟩:=cells5 H.bS
 obtain ⟨f0,f1,f2,f3,f4,f5,f6,f7,f8,f9,f10⟩:=cells11 H.bF
 go_upto_region 7 with (go_at_call 29;(with_reducible refine (HC.out _ H.rW H.rG).mono ?_);rintro e w4 ⟨A2,B2,a2,b2,rfl,s1,s3,hk4,F1,F2⟩)
 clear p0 p1 p2 p3 p4 f0 f1 f2 f3 f4 f5 f6 f7 f8 f9 f10
 have K4:=H.step hk4
 have KM:=MVar.new (a:=a2) (b:=b2) s1 s3 (H.whW F1 HW2.out) (H.whG F2 HG2.out) K4.lt
 have K5:=K4.step (boxed w4 (.cells #[.slice A2 s2.M.W.length a2,.slice B2 s2.M.G.length b2,.bool s2.M.bad] 26))
 clear H K4 s1 s3 F1 F2 hk4 z0 z1 z2
 obtain ⟨vM,hv⟩:∃ v,w4.heap.size = v:=⟨_,rfl⟩
 rw [hv] at KM ⊢
 clear hv
 generalize w4.alloc (.cells #[.slice A2 s2.M.W.length a2,.slice B2 s2.M.G.length b2,.bool s2.M.bad] 26) = w5 at *
 have H:=K5
 clear K5
 obtain ⟨z0,z1,z2⟩:=H.zs
 obtain ⟨f0,f1,f2,f3,f4,f5,f6,f7,f8,f9,f10,ff0,ff1,ff2,ff3,ff4,ff5,ff6,ff7,ff8,ff9,ff10⟩:=cf11 H.bF
 go_upto_region 13 with (go_at_call 30;(with_reducible refine (Pk.rindex_any _ _).mono ?_);rintro e wq ⟨rfl,rfl⟩)
 have K7:=H.putF 4 (.int .i64 vv)
 have M7:=KM.putF 4 (.int .i64 vv)
 clear H KM z0 z1 z2
 clear f0 f1 f2 f3 f4 f5 f6 f7 f8 f9 f10 ff0 ff1 ff2 ff3 ff4 ff5 ff6 ff7 ff8 ff9 ff10
 generalize w5.setCell ⟨w.heap.size+1,4,none⟩ (.int .i64 vv) = w7 at *
 have H:SF w s A B C L a b c d (uF op 0 r0 r1 vv r3 r4 r5 r6 r7 AS xs cS) w7:=K7
 have KM:=M7
 clear K7 M7
 obtain ⟨z0,z1,z2⟩:=H.zs
 obtain ⟨x0,x1,x2⟩:=cells3 KM.bM
 obtain ⟨p0,p1,p2,p3,p4⟩:=cells5 H.bS
 obtain ⟨f0,f1,f2,f3,f4,f5,f6,f7,f8,f9,f10⟩:=cells11 H.bF
 have HO:=hid (show Calls Tryz.prog 78 #[.agg (uS A B C L a b c d s),.int .i64 i,.agg #[.slice A2 s2.M.W.length a2,.slice B2 s2.M.G.length b2,.bool s2.M.bad],.agg (uF op 0 r0 r1 vv r3 r4 r5 r6 r7 AS xs cS),.int .i64 1] w7 (RetSys w7 (pSet s2 i ⟨op,1,[r0,r1,vv,r3,r4,r5,r6,r7],xs⟩)) by have h9:=on_any A B C L A2 B2 a b c d a2 b2 s s2.M i AS cS op 0 r0 r1 vv r3 r4 r5 r6 r7 xs 1 w7 (by rw [ES.out];exact fw) hF H.rs KM.rW KM.rG (hS.step H.be);rw [ES.out] at h9;exact h9)
 go_wp2_with (go_at_call 78;(with_reducible refine (HO.out).mono ?_);rintro e wz ⟨A9,B9,C9,L9,a9,b9,c9,d9,rfl,rW,rG,rC,rL,hz⟩;have kR:=(hz.block (w.heap.size+1+1) z2).trans H.bR;have kb:=bstep H.be hz;obtain ⟨q0,q1,q2,q3,q4,qf0,qf1,qf2,qf3,qf4⟩:=cf5 kR)
 refine bodyPost_ret (v:=.agg (uS A9 B9 C9 L9 a9 b9 c9 d9 (pSet s2 i ⟨op,1,[r0,r1,vv,r3,r4,r5,r6,r7],xs⟩))) (by simp [uS,results,Tryz.results77,go_sem,q0,q1,q2,q3,q4]) rfl ?_
 exact ret_res kR kb rW rG rC rL
theorem rprot_2a (A B C L:Option Addr) (a b c d:Nat) (s:Sy) (i:Int) (AS:Option Addr) (cS:Nat) (op r0 r1 r2 r3 r4 r5 r6 r7:Int) (xs:List Int) (d0:Sy) (w:World) (hs:SyFew s) (hg:2≤s.M.G.length) (h:RS w s A B C L) (hS:Row w AS xs) (h6:xs.length≤1000000) (hF:∀ x ∈ s.C,x.F.length≤999999) (hq:pIdx (mVal s.M r0) = 0) :
  Calls Tryz.prog 77 #[.agg (uS A B C L a b c d s),.int .i64 i,.agg (uF op 2 r0 r1 r2 r3 r4 r5 r6 r7 AS xs cS)] w (RetSys w (pProt s i ⟨op,2,[r0,r1,r2,r3,r4,r5,r6,r7],xs⟩ d0)):=by
 obtain ⟨s2,hs2⟩:∃ t,t = syMem s (mLoad s.M r0):=⟨_,rfl⟩
 obtain ⟨vv,hvv⟩:∃ v,v = mVal s.M r0:=⟨_,rfl⟩
 have HV:=hid hvv
 have HS2:=hid hs2
 have HC:=hid (show ∀ w',Row w' A s.M.W→Row w' B s.M.G→Calls Tryz.prog 29 #[.agg #[.slice A s.M.W.length a,.slice B s.M.G.length b,.bool s.M.bad],.int .i64 r0] w' (RetMem2O w' A B s2.M (.int .i64 vv)) from fun w' k1 k2=>by have h9:=rload_o A B a b s.M r0 w' k1 k2 hs.1 hs.2.1 (by omega);rw [← hvv] at h9;rw [hs2];exact h9)
 have lW:s2.M.W.length = s.M.W.length:=by rw [hs2];rfl
 have lG:s2.M.G.length = s.M.G.length:=by rw [hs2];rfl
 have HW2:=hid lW
 have HG2:=hid lG
 have fw:SyFew s2:=by rw [hs2];exact few_mem hs (by rfl) (by rfl)
 clear lW lG
 have es2:syMem s s2.M = s2:=by rw [hs2];rfl
 have ES:=hid es2
 clear es2
 have hres:pProt s i ⟨op,2,[r0,r1,r2,r3,r4,r5,r6,r7],xs⟩ d0 = pBack s2 i vv 0:=by unfold pProt;exact (if_neg (by simp)).trans ((if_neg (by simp)).trans ((if_pos rfl).trans ((if_pos (Or.inr hq)).trans (by rw [hs2,hvv] <;> rfl))))
 have hx:(pIdx vv == 0) = true:=by rw [hvv,hq];rfl
 clear hq
 rw [hres]
 clear hres hs2 hvv
 have h0:=hs.1
 have h1:=hs.2.1
 have hg1:1≤s.M.G.length:=by omega
 have H:=SF.start w s A B C L a b c d (uF op 2 r0 r1 r2 r3 r4 r5 r6 r7 AS xs cS) h
 clear h
 go_enter Tryz.func77,Tryz.ntmps77
 go_upto_region 1 with (fail)
 generalize (((w.alloc (.cells (uS A B C L a b c d s) 30)).alloc (.cells (uF op 2 r0 r1 r2 r3 r4 r5 r6 r7 AS xs cS) 60)).alloc (.cells uZ 30)) = w1 at *
 obtain ⟨z0,z1,z2⟩:=H.zs
 obtain ⟨p0,p1,p2,p3,p4⟩:=cells5 H.bS
 obtain ⟨f0,f1,f2,f3,f4,f5,f6,f7,f8,f9,f10⟩:=cells11 H.bF
 go_upto_region 7 with (go_at_call 29;(with_reducible refine (HC.out _ H.rW H.rG).mono ?_);rintro e w4 ⟨A2,B2,a2,b2,rfl,s1,s3,hk4,F1,F2⟩)
 clear p0 p1 p2 p3 p4 f0 f1 f2 f3 f4 f5 f6 f7 f8 f9 f10
 have K4:=H.step hk4
 have KM:=MVar.new (a:=a2) (b:=b2) s1 s3 (H.whW F1 HW2.out) (H.whG F2 HG2.out) K4.lt
 have K5:=K4.step (boxed w4 (.cells #[.slice A2 s2.M.W.length a2,.slice B2 s2.M.G.length b2,.bool s2.M.bad] 26))
 clear H K4 s1 s3 F1 F2 hk4 z0 z1 z2
 obtain ⟨vM,hv⟩:∃ v,w4.heap.size = v:=⟨_,rfl⟩
 rw [hv] at KM ⊢
 clear hv
 generalize w4.alloc (.cells #[.slice A2 s2.M.W.length a2,.slice B2 s2.M.G.length b2,.bool s2.M.bad] 26) = w5 at *
 have H:=K5
 clear K5
 obtain ⟨z0,z1,z2⟩:=H.zs
 obtain ⟨x0,x1,x2⟩:=cells3 KM.bM
 obtain ⟨p0,p1,p2,p3,p4⟩:=cells5 H.bS
 obtain ⟨f0,f1,f2,f3,f4,f5,f6,f7,f8,f9,f10⟩:=cells11 H.bF
 have HM:=hid (show ∀ w',RS w' s A B C L→Row w' A2 s2.M.W→Row w' B2 s2.M.G→Calls Tryz.prog 37 #[.agg (uS A B C L a b c d s),.agg #[.slice A2 s2.M.W.length a2,.slice B2 s2.M.G.length b2,.bool s2.M.bad]] w' fun e w''=>e = .returned (.agg (uS A2 B2 C L a2 b2 c d s2))∧RS w'' s2 A2 B2 C L∧Below w'.heap.size w' w'' from fun w' k1 k2 k3=>by have h9:=rmem3_any A B C L A2 B2 a b c d a2 b2 s s2.M w' k1 k2 k3;have e8:s2.C = s.C:=(by rw [HS2.out];rfl);have e7:s2.L = s.L:=(by rw [HS2.out];rfl);rw [ES.out] at h9;dsimp only [uS];rw [e8,e7];exact h9)
 go_wp2_with (first | (go_at_call 30;(with_reducible refine (Pk.rindex_any _ _).mono ?_);rintro e wq ⟨rfl,rfl⟩) | (go_at_call 37;(with_reducible refine (HM.out _ H.rs KM.rW KM.rG).mono ?_);rintro e w7 ⟨rfl,S7,hk7⟩;have K7:=H.step hk7;have z7:=K7.lt) | (go_at_call 43;(with_reducible refine (rback_u A2 B2 C L a2 b2 c d s2 i vv 0 _ fw S7).mono ?_);rintro e wz ⟨A9,B9,C9,L9,a9,b9,c9,d9,rfl,rW,rG,rC,rL,hz⟩;have kR:=(hz.block (w.heap.size+1+1) z7).trans K7.bR;have kb:=bstep K7.be hz;obtain ⟨q0,q1,q2,q3,q4,qf0,qf1,qf2,qf3,qf4⟩:=cf5 kR))
 refine bodyPost_ret (v:=.agg (uS A9 B9 C9 L9 a9 b9 c9 d9 (pBack s2 i vv 0))) (by simp [uS,results,Tryz.results77,go_sem,q0,q1,q2,q3,q4]) rfl ?_
 exact ret_res kR kb rW rG rC rL
theorem rprot_2b (A B C L:Option Addr) (a b c d:Nat) (s:Sy) (i:Int) (AS:Option Addr) (cS:Nat) (op r0 r1 r2 r3 r4 r5 r6 r7:Int) (xs:List Int) (d0:Sy) (w:World) (hs:SyFew s) (hg:2≤s.M.G.length) (h:RS w s A B C L) (hS:Row w AS xs) (h6:xs.length≤1000000) (hF:∀ x ∈ s.C,x.F.length≤999999) (hq:¬ pIdx (mVal s.M r0) = 0) (hn:mVal s.M r0 = r2) :
  Calls Tryz.prog 77 #[.agg (uS A B C L a b c d s),.int .i64 i,.agg (uF op 2 r0 r1 r2 r3 r4 r5 r6 r7 AS xs cS)] w (RetSys w (pProt s i ⟨op,2,[r0,r1,r2,r3,r4,r5,r6,r7],xs⟩ d0)):=by
 obtain ⟨s2,hs2⟩:∃ t,t = syMem s (mLoad s.M r0):=⟨_,rfl⟩
 obtain ⟨vv,hvv⟩:∃ v,v = mVal s.M r0:=⟨_,rfl⟩
 have HV:=hid hvv
 have HS2:=hid hs2
 have HC:=hid (show ∀ w',Row w' A s.M.W→Row w' B s.M.G→Calls Tryz.prog 29 #[.agg #[.slice A s.M.W.length a,.slice B s.M.G.length b,.bool s.M.bad],.int .i64 r0] w' (RetMem2O w' A B s2.M (.int .i64 vv)) from fun w' k1 k2=>by have h9:=rload_o A B a b s.M r0 w' k1 k2 hs.1 hs.2.1 (by omega);rw [← hvv] at h9;rw [hs2];exact h9)
 have lW:s2.M.W.length = s.M.W.length:=by rw [hs2];rfl
 have lG:s2.M.G.length = s.M.G.length:=by rw [hs2];rfl
 have HW2:=hid lW
 have HG2:=hid lG
 have fw:SyFew s2:=by rw [hs2];exact few_mem hs (by rfl) (by rfl)
 clear lW lG
 have es2:syMem s s2.M = s2:=by rw [hs2];rfl
 have ES:=hid es2
 clear es2
 have hres:pProt s i ⟨op,2,[r0,r1,r2,r3,r4,r5,r6,r7],xs⟩ d0 = pBack s2 i vv 0:=by unfold pProt;exact (if_neg (by simp)).trans ((if_neg (by simp)).trans ((if_pos rfl).trans ((if_pos (Or.inl hn)).trans (by rw [hs2,hvv] <;> rfl))))
 have hx:(pIdx vv == 0) = false:=by rw [hvv];simpa using hq
 have hy:(vv == r2) = true:=by rw [hvv];simpa using hn
 clear hq hn
 rw [hres]
 clear hres hs2 hvv
 have h0:=hs.1
 have h1:=hs.2.1
 have hg1:1≤s.M.G.length:=by omega
 have H:=SF.start w s A B C L a b c d (uF op 2 r0 r1 r2 r3 r4 r5 r6 r7 AS xs cS) h
 clear h
 go_enter Tryz.func77,Tryz.ntmps77
 go_upto_region 1 with (fail)
 generalize (((w.alloc (.cells (uS A B C L a b c d s) 30)).alloc (.cells (uF op 2 r0 r1 r2 r3 r4 r5 r6 r7 AS xs cS) 60)).alloc (.cells uZ 30)) = w1 at *
 obtain ⟨z0,z1,z2⟩:=H.zs
 obtain ⟨p0,p1,p2,p3,p4⟩:=cells5 H.bS
 obtain ⟨f0,f1,f2,f3,f4,f5,f6,f7,f8,f9,f10⟩:=cells11 H.bF
 go_upto_region 7 with (go_at_call 29;(with_reducible refine (HC.out _ H.rW H.rG).mono ?_);rintro e w4 ⟨A2,B2,a2,b2,rfl,s1,s3,hk4,F1,F2⟩)
 clear p0 p1 p2 p3 p4 f0 f1 f2 f3 f4 f5 f6 f7 f8 f9 f10
 have K4:=H.step hk4
 have KM:=MVar.new (a:=a2) (b:=b2) s1 s3 (H.whW F1 HW2.out) (H.whG F2 HG2.out) K4.lt
 have K5:=K4.step (boxed w4 (.cells #[.slice A2 s2.M.W.length a2,.slice B2 s2.M.G.length b2,.bool s2.M.bad] 26))
 clear H K4 s1 s3 F1 F2 hk4 z0 z1 z2
 obtain ⟨vM,hv⟩:∃ v,w4.heap.size = v:=⟨_,rfl⟩
 rw [hv] at KM ⊢
 clear hv
 generalize w4.alloc (.cells #[.slice A2 s2.M.W.length a2,.slice B2 s2.M.G.length b2,.bool s2.M.bad] 26) = w5 at *
 have H:=K5
 clear K5
 obtain ⟨z0,z1,z2⟩:=H.zs
 obtain ⟨x0,x1,x2⟩:=cells3 KM.bM
 obtain ⟨p0,p1,p2,p3,p4⟩:=cells5 H.bS
 obtain ⟨f0,f1,f2,f3,f4,f5,f6,f7,f8,f9,f10⟩:=cells11 H.bF
 have HM:=hid (show ∀ w',RS w' s A B C L→Row w' A2 s2.M.W→Row w' B2 s2.M.G→Calls Tryz.prog 37 #[.agg (uS A B C L a b c d s),.agg #[.slice A2 s2.M.W.length a2,.slice B2 s2.M.G.length b2,.bool s2.M.bad]] w' fun e w''=>e = .returned (.agg (uS A2 B2 C L a2 b2 c d s2))∧RS w'' s2 A2 B2 C L∧Below w'.heap.size w' w'' from fun w' k1 k2 k3=>by have h9:=rmem3_any A B C L A2 B2 a b c d a2 b2 s s2.M w' k1 k2 k3;have e8:s2.C = s.C:=(by rw [HS2.out];rfl);have e7:s2.L = s.L:=(by rw [HS2.out];rfl);rw [ES.out] at h9;dsimp only [uS];rw [e8,e7];exact h9)
 go_wp2_with (first | (go_at_call 30;(with_reducible refine (Pk.rindex_any _ _).mono ?_);rintro e wq ⟨rfl,rfl⟩) | (go_at_call 37;(with_reducible refine (HM.out _ H.rs KM.rW KM.rG).mono ?_);rintro e w7 ⟨rfl,S7,hk7⟩;have K7:=H.step hk7;have z7:=K7.lt) | (go_at_call 43;(with_reducible refine (rback_u A2 B2 C L a2 b2 c d s2 i vv 0 _ fw S7).mono ?_);rintro e wz ⟨A9,B9,C9,L9,a9,b9,c9,d9,rfl,rW,rG,rC,rL,hz⟩;have kR:=(hz.block (w.heap.size+1+1) z7).trans K7.bR;have kb:=bstep K7.be hz;obtain ⟨q0,q1,q2,q3,q4,qf0,qf1,qf2,qf3,qf4⟩:=cf5 kR))
 refine bodyPost_ret (v:=.agg (uS A9 B9 C9 L9 a9 b9 c9 d9 (pBack s2 i vv 0))) (by simp [uS,results,Tryz.results77,go_sem,q0,q1,q2,q3,q4]) rfl ?_
 exact ret_res kR kb rW rG rC rL
theorem rprot_2c (A B C L:Option Addr) (a b c d:Nat) (s:Sy) (i:Int) (AS:Option Addr) (cS:Nat) (op r0 r1 r2 r3 r4 r5 r6 r7:Int) (xs:List Int) (d0:Sy) (w:World) (hs:SyFew s) (hg:2≤s.M.G.length) (h:RS w s A B C L) (hS:Row w AS xs) (h6:xs.length≤1000000) (hF:∀ x ∈ s.C,x.F.length≤999999) (hq:¬ pIdx (mVal s.M r0) = 0) (hn:¬ mVal s.M r0 = r2) :
  Calls Tryz.prog 77 #[.agg (uS A B C L a b c d s),.int .i64 i,.agg (uF op 2 r0 r1 r2 r3 r4 r5 r6 r7 AS xs cS)] w (RetSys w (pProt s i ⟨op,2,[r0,r1,r2,r3,r4,r5,r6,r7],xs⟩ d0)):=by
 obtain ⟨s2,hs2⟩:∃ t,t = syMem s (mLoad s.M r0):=⟨_,rfl⟩
 obtain ⟨vv,hvv⟩:∃ v,v = mVal s.M r0:=⟨_,rfl⟩
 have HV:=hid hvv
 have HS2:=hid hs2
 have HC:=hid (show ∀ w',Row w' A s.M.W→Row w' B s.M.G→Calls Tryz.prog 29 #[.agg #[.slice A s.M.W.length a,.slice B s.M.G.length b,.bool s.M.bad],.int .i64 r0] w' (RetMem2O w' A B s2.M (.int .i64 vv)) from fun w' k1 k2=>by have h9:=rload_o A B a b s.M r0 w' k1 k2 hs.1 hs.2.1 (by omega);rw [← hvv] at h9;rw [hs2];exact h9)
 have lW:s2.M.W.length = s.M.W.length:=by rw [hs2];rfl
 have lG:s2.M.G.length = s.M.G.length:=by rw [hs2];rfl
 have HW2:=hid lW
 have HG2:=hid lG
 have fw:SyFew s2:=by rw [hs2];exact few_mem hs (by rfl) (by rfl)
 clear lW lG
 have es2:syMem s s2.M = s2:=by rw [hs2];rfl
 have ES:=hid es2
 clear es2
 have hres:pProt s i ⟨op,2,[r0,r1,r2,r3,r4,r5,r6,r7],xs⟩ d0 = pSet s2 i ⟨op,1,[r0,r1,vv,vv,r4,r5,r6,r7],xs⟩:=by unfold pProt;exact (if_neg (by simp)).trans ((if_neg (by simp)).trans ((if_pos rfl).trans ((if_neg (fun h=>h.elim hn hq)).trans (by rw [hs2,hvv] <;> rfl))))
 have hx:(pIdx vv == 0) = false:=by rw [hvv];simpa using hq
 have hy:(vv == r2) = false:=by rw [hvv];simpa using hn
 clear hq hn
 rw [hres]
 clear hres hs2 hvv
 have h0:=hs.1
 have h1:=hs.2.1
 have hg1:1≤s.M.G.length:=by omega
 have H:=SF.start w s A B C L a b c d (uF op 2 r0 r1 r2 r3 r4 r5 r6 r7 AS xs cS) h
 clear h
 go_enter Tryz.func77,Tryz.ntmps77
 go_upto_region 1 with (fail)
 generalize (((w.alloc (.cells (uS A B C L a b c d s) 30)).alloc (.cells (uF op 2 r0 r1 r2 r3 r4 r5 r6 r7 AS xs cS) 60)).alloc (.cells uZ 30)) = w1 at *
 obtain ⟨z0,z1,z2⟩:=H.zs
 obtain ⟨p0,p1,p2,p3,p4⟩:=cells5 H.bS
 obtain ⟨f0,f1,f2,f3,f4,f5,f6,f7,f8,f9,f10⟩:=cells11 H.bF
 go_upto_region 7 with (go_at_call 29;(with_reducible refine (HC.out _ H.rW H.rG).mono ?_);rintro e w4 ⟨A2,B2,a2,b2,rfl,s1,s3,hk4,F1,F2⟩)
 clear p0 p1 p2 p3 p4 f0 f1 f2 f3 f4 f5 f6 f7 f8 f9 f10
 have K4:=H.step hk4
 have KM:=MVar.new (a:=a2) (b:=b2) s1 s3 (H.whW F1 HW2.out) (H.whG F2 HG2.out) K4.lt
 have K5:=K4.step (boxed w4 (.cells #[.slice A2 s2.M.W.length a2,.slice B2 s2.M.G.length b2,.bool s2.M.bad] 26))
 clear H K4 s1 s3 F1 F2 hk4 z0 z1 z2
 obtain ⟨vM,hv⟩:∃ v,w4.heap.size = v:=⟨_,rfl⟩
 rw [hv] at KM ⊢
 clear hv
 generalize w4.alloc (.cells #[.slice A2 s2.M.W.length a2,.slice B2 s2.M.G.length b2,.bool s2.M.bad] 26) = w5 at *
 have H:=K5
 clear K5
 obtain ⟨z0,z1,z2⟩:=H.zs
 obtain ⟨f0,f1,f2,f3,f4,f5,f6,f7,f8,f9,f10,ff0,ff1,ff2,ff3,ff4,ff5,ff6,ff7,ff8,ff9,ff10⟩:=cf11 H.bF
 go_upto_region 12 with (go_at_call 30;(with_reducible refine (Pk.rindex_any _ _).mono ?_);rintro e wq ⟨rfl,rfl⟩)
 have K7:=H.putF 5 (.int .i64 vv)
 have M7:=KM.putF 5 (.int .i64 vv)
 clear H KM z0 z1 z2
 clear f0 f1 f2 f3 f4 f5 f6 f7 f8 f9 f10 ff0 ff1 ff2 ff3 ff4 ff5 ff6 ff7 ff8 ff9 ff10
 generalize w5.setCell ⟨w.heap.size+1,5,none⟩ (.int .i64 vv) = w6 at *
 have H:SF w s A B C L a b c d (uF op 2 r0 r1 r2 vv r4 r5 r6 r7 AS xs cS) w6:=K7
 have KM:=M7
 clear K7 M7
 obtain ⟨z0,z1,z2⟩:=H.zs
 obtain ⟨f0,f1,f2,f3,f4,f5,f6,f7,f8,f9,f10,ff0,ff1,ff2,ff3,ff4,ff5,ff6,ff7,ff8,ff9,ff10⟩:=cf11 H.bF
 go_upto_region 13 with (go_at_call 30;(with_reducible refine (Pk.rindex_any _ _).mono ?_);rintro e wq ⟨rfl,rfl⟩)
 have K7:=H.putF 4 (.int .i64 vv)
 have M7:=KM.putF 4 (.int .i64 vv)
 clear H KM z0 z1 z2
 clear f0 f1 f2 f3 f4 f5 f6 f7 f8 f9 f10 ff0 ff1 ff2 ff3 ff4 ff5 ff6 ff7 ff8 ff9 ff10
 generalize w6.setCell ⟨w.heap.size+1,4,none⟩ (.int .i64 vv) = w7 at *
 have H:SF w s A B C L a b c d (uF op 2 r0 r1 vv vv r4 r5 r6 r7 AS xs cS) w7:=K7
 have KM:=M7
 clear K7 M7
 obtain ⟨z0,z1,z2⟩:=H.zs
 obtain ⟨x0,x1,x2⟩:=cells3 KM.bM
 obtain ⟨p0,p1,p2,p3,p4⟩:=cells5 H.bS
 obtain ⟨f0,f1,f2,f3,f4,f5,f6,f7,f8,f9,f10⟩:=cells11 H.bF
 have HO:=hid (show Calls Tryz.prog 78 #[.agg (uS A B C L a b c d s),.int .i64 i,.agg #[.slice A2 s2.M.W.length a2,.slice B2 s2.M.G.length b2,.bool s2.M.bad],.agg (uF op 2 r0 r1 vv vv r4 r5 r6 r7 AS xs cS),.int .i64 1] w7 (RetSys w7 (pSet s2 i ⟨op,1,[r0,r1,vv,vv,r4,r5,r6,r7],xs⟩)) by have h9:=on_any A B C L A2 B2 a b c d a2 b2 s s2.M i AS cS op 2 r0 r1 vv vv r4 r5 r6 r7 xs 1 w7 (by rw [ES.out];exact fw) hF H.rs KM.rW KM.rG (hS.step H.be);rw [ES.out] at h9;exact h9)
 go_wp2_with (go_at_call 78;(with_reducible refine (HO.out).mono ?_);rintro e wz ⟨A9,B9,C9,L9,a9,b9,c9,d9,rfl,rW,rG,rC,rL,hz⟩;have kR:=(hz.block (w.heap.size+1+1) z2).trans H.bR;have kb:=bstep H.be hz;obtain ⟨q0,q1,q2,q3,q4,qf0,qf1,qf2,qf3,qf4⟩:=cf5 kR)
 refine bodyPost_ret (v:=.agg (uS A9 B9 C9 L9 a9 b9 c9 d9 (pSet s2 i ⟨op,1,[r0,r1,vv,vv,r4,r5,r6,r7],xs⟩))) (by simp [uS,results,Tryz.results77,go_sem,q0,q1,q2,q3,q4]) rfl ?_
 exact ret_res kR kb rW rG rC rL
theorem rprot_x (A B C L:Option Addr) (a b c d:Nat) (s:Sy) (i:Int) (AS:Option Addr) (cS:Nat) (op pc r0 r1 r2 r3 r4 r5 r6 r7:Int) (xs:List Int) (d0:Sy) (w:World) (hs:SyFew s) (hg:2≤s.M.G.length) (h:RS w s A B C L) (hS:Row w AS xs) (h6:xs.length≤1000000) (hF:∀ x ∈ s.C,x.F.length≤999999) (q0:¬ pc = 0) (q1:¬ pc = 1) (q2:¬ pc = 2) (hd:d0 = s) :
  Calls Tryz.prog 77 #[.agg (uS A B C L a b c d s),.int .i64 i,.agg (uF op pc r0 r1 r2 r3 r4 r5 r6 r7 AS xs cS)] w (RetSys w (pProt s i ⟨op,pc,[r0,r1,r2,r3,r4,r5,r6,r7],xs⟩ d0)):=by
 have hres:pProt s i ⟨op,pc,[r0,r1,r2,r3,r4,r5,r6,r7],xs⟩ d0 = s:=by unfold pProt;rw [if_neg q0,if_neg q1,if_neg q2];exact hd
 rw [hres]
 clear hres hd
 have e0:(pc != 0) = true:=by simpa using q0
 have e1:(pc == 1) = false:=by simpa using q1
 have e2:(pc != 2) = true:=by simpa using q2
 clear q0 q1 q2
 have h0:=hs.1
 have h1:=hs.2.1
 have hg1:1≤s.M.G.length:=by omega
 have H:=SF.start w s A B C L a b c d (uF op pc r0 r1 r2 r3 r4 r5 r6 r7 AS xs cS) h
 clear h
 go_enter Tryz.func77,Tryz.ntmps77
 go_upto_region 1 with (fail)
 generalize (((w.alloc (.cells (uS A B C L a b c d s) 30)).alloc (.cells (uF op pc r0 r1 r2 r3 r4 r5 r6 r7 AS xs cS) 60)).alloc (.cells uZ 30)) = w1 at *
 obtain ⟨z0,z1,z2⟩:=H.zs
 obtain ⟨p0,p1,p2,p3,p4⟩:=cells5 H.bS
 obtain ⟨f0,f1,f2,f3,f4,f5,f6,f7,f8,f9,f10⟩:=cells11 H.bF
 have kR:=H.bR
 obtain ⟨q0,q1,q2,q3,q4,qf0,qf1,qf2,qf3,qf4⟩:=cf5 kR
 go_wp2_with fail
 refine bodyPost_ret (v:=.agg (uS A B C L a b c d s)) (by simp [uS,results,Tryz.results77,go_sem,q0,q1,q2,q3,q4]) rfl ?_
 exact ret_res kR H.be H.rs.W H.rs.G H.rs.C H.rs.L
theorem rprot_any (A B C L:Option Addr) (a b c d:Nat) (s:Sy) (i:Int) (AS:Option Addr) (cS:Nat) (op pc r0 r1 r2 r3 r4 r5 r6 r7:Int) (xs:List Int) (d0:Sy) (w:World) (hs:SyFew s) (hg:2≤s.M.G.length) (h:RS w s A B C L) (hS:Row w AS xs) (h6:xs.length≤1000000) (hF:∀ x ∈ s.C,x.F.length≤999999) (hd:d0 = s) :
  Calls Tryz.prog 77 #[.agg (uS A B C L a b c d s),.int .i64 i,.agg (uF op pc r0 r1 r2 r3 r4 r5 r6 r7 AS xs cS)] w (RetSys w (pProt s i ⟨op,pc,[r0,r1,r2,r3,r4,r5,r6,r7],xs⟩ d0)):=by
 by_cases q0:pc = 0
 ·subst q0
  by_cases hq:pIdx (mVal s.M r0) = 0
  ·exact rprot_0a A B C L a b c d s i AS cS op r0 r1 r2 r3 r4 r5 r6 r7 xs d0 w hs hg h hS h6 hF hq
  ·exact rprot_0b A B C L a b c d s i AS cS op r0 r1 r2 r3 r4 r5 r6 r7 xs d0 w hs hg h hS h6 hF hq
 ·by_cases q1:pc = 1
  ·subst q1;exact rprot_1 A B C L a b c d s i AS cS op r0 r1 r2 r3 r4 r5 r6 r7 xs d0 w hs hg h hS h6 hF
  ·by_cases q2:pc = 2
   ·subst q2
    by_cases hq:pIdx (mVal s.M r0) = 0
    ·exact rprot_2a A B C L a b c d s i AS cS op r0 r1 r2 r3 r4 r5 r6 r7 xs d0 w hs hg h hS h6 hF hq
    ·by_cases hn:mVal s.M r0 = r2
     ·exact rprot_2b A B C L a b c d s i AS cS op r0 r1 r2 r3 r4 r5 r6 r7 xs d0 w hs hg h hS h6 hF hq hn
     ·exact rprot_2c A B C L a b c d s i AS cS op r0 r1 r2 r3 r4 r5 r6 r7 xs d0 w hs hg h hS h6 hF hq hn
   ·exact rprot_x A B C L a b c d s i AS cS op pc r0 r1 r2 r3 r4 r5 r6 r7 xs d0 w hs hg h hS h6 hF q0 q1 q2 hd
end Go.Proofs.YtfipcdhodojodaaGreat
