/- Contract: a step of a core, by the document's layer 7. -/
import Derived.Test.YthpflcknommpdaaGreatAlR1
import Derived.Test.YthpflcknommpdaaGreatScS
namespace Go.Proofs.YthpflcknommpdaaGreat
open Go.RowKit
set_option maxRecDepth 100000
set_option maxHeartbeats 4000000
set_option linter.unusedVariables false
set_option linter.unusedSimpArgs false
theorem r7st_none (A B C L:Option Addr) (a b c d:Nat) (s:Sy) (i:Int) (w:World) (hs:SyFew s) (hg:2≤s.M.G.length) (h:RS w s A B C L) (hp:pTop s i = none) :
  Calls Tryz.prog 33 #[.agg (uS A B C L a b c d s),.int .i64 i] w (RetSys w s):=by
 obtain ⟨b1,b2,bs⟩:=heap2 w (.cells (uS A B C L a b c d s) 28) (.cells uZ 28)
 have hb:Below w.heap.size w ((w.alloc (.cells (uS A B C L a b c d s) 28)).alloc (.cells uZ 28)):=bstep (boxed _ _) (boxed _ _)
 have z1:w.heap.size+1 < ((w.alloc (.cells (uS A B C L a b c d s) 28)).alloc (.cells uZ 28)).heap.size:=by simp
 clear bs
 go_enter Tryz.func33,Tryz.ntmps33
 go_upto_region 1 with (fail)
 generalize ((w.alloc (.cells (uS A B C L a b c d s) 28)).alloc (.cells uZ 28)) = w1 at *
 have K:=h.step hb
 obtain ⟨p0,p1,p2,p3,p4⟩:=cells5 b1
 go_upto_region 2 with (go_at_call 43;(with_reducible refine (rtop_no A B C L a b c d s i _ hs K hp).mono ?_);rintro e wk ⟨rfl,hk⟩)
 have rF:Row wk none []:=Row.nil _ _
 clear p0 p1 p2 p3 p4
 have hj:Below w1.heap.size w1 (wk.alloc (.cells #[.int .i64 0,.int .i64 0,.int .i64 0,.int .i64 0,.int .i64 0,.int .i64 0,.int .i64 0,.int .i64 0,.int .i64 0,.int .i64 0,.slice none 0 0] 69)):=bstep hk (boxed _ _)
 have b3:=heap_alloc_new wk (.cells #[.int .i64 0,.int .i64 0,.int .i64 0,.int .i64 0,.int .i64 0,.int .i64 0,.int .i64 0,.int .i64 0,.int .i64 0,.int .i64 0,.slice none 0 0] 69)
 replace b1:=(hj.block w.heap.size (by omega)).trans b1
 replace b2:=(hj.block (w.heap.size+1) z1).trans b2
 replace K:=K.step hj
 replace hb:=bstep hb hj
 replace z1:=Nat.lt_of_lt_of_le z1 hj.size
 replace rF:=rF.alloc (.cells #[.int .i64 0,.int .i64 0,.int .i64 0,.int .i64 0,.int .i64 0,.int .i64 0,.int .i64 0,.int .i64 0,.int .i64 0,.int .i64 0,.slice none 0 0] 69)
 clear hk hj
 obtain ⟨vF,hv⟩:∃ v,wk.heap.size = v:=⟨_,rfl⟩
 rw [hv] at b3 ⊢
 clear hv
 generalize (wk.alloc (.cells #[.int .i64 0,.int .i64 0,.int .i64 0,.int .i64 0,.int .i64 0,.int .i64 0,.int .i64 0,.int .i64 0,.int .i64 0,.int .i64 0,.slice none 0 0] 69)) = w3 at *
 obtain ⟨p0,p1,p2,p3,p4⟩:=cells5 b1
 obtain ⟨f0,f1,f2,f3,f4,f5,f6,f7,f8,f9,f10⟩:=cells11 b3
 obtain ⟨q0,q1,q2,q3,q4,qf0,qf1,qf2,qf3,qf4⟩:=cf5 b2
 go_wp2_with fail
 refine bodyPost_ret (v:=.agg (uS A B C L a b c d s)) (by simp [uS,results,Tryz.results33,go_sem,q0,q1,q2,q3,q4]) rfl ?_
 exact ret_resV (by omega) b2 hb K.W K.G K.C K.L
theorem r7st_7 (A B C L:Option Addr) (a b c d:Nat) (s:Sy) (i:Int) (t9:Sy) (pc r0 r1 r2 r3 r4 r5 r6 r7:Int) (xs:List Int) (w:World) (hs:SyFew s) (hg:2≤s.M.G.length) (h:RS w s A B C L) (hp:pTop s i = some ⟨7,pc,[r0,r1,r2,r3,r4,r5,r6,r7],xs⟩) (h6:xs.length≤1000000)
  (HC:∀ (AF:Option Addr) (cF:Nat) w',RS w' s A B C L→Row w' AF xs→Calls Tryz.prog 81 #[.agg (uS A B C L a b c d s),.int .i64 i,.agg (uF 7 pc r0 r1 r2 r3 r4 r5 r6 r7 AF xs cF)] w' (RetSys w' t9)) :
  Calls Tryz.prog 33 #[.agg (uS A B C L a b c d s),.int .i64 i] w (RetSys w t9):=by
 have HC2:=hid HC
 clear HC
 obtain ⟨b1,b2,bs⟩:=heap2 w (.cells (uS A B C L a b c d s) 28) (.cells uZ 28)
 have hb:Below w.heap.size w ((w.alloc (.cells (uS A B C L a b c d s) 28)).alloc (.cells uZ 28)):=bstep (boxed _ _) (boxed _ _)
 have z1:w.heap.size+1 < ((w.alloc (.cells (uS A B C L a b c d s) 28)).alloc (.cells uZ 28)).heap.size:=by simp
 clear bs
 go_enter Tryz.func33,Tryz.ntmps33
 go_upto_region 1 with (fail)
 generalize ((w.alloc (.cells (uS A B C L a b c d s) 28)).alloc (.cells uZ 28)) = w1 at *
 have K:=h.step hb
 obtain ⟨p0,p1,p2,p3,p4⟩:=cells5 b1
 go_upto_region 2 with (go_at_call 43;(with_reducible refine (rtop_is A B C L a b c d s i 7 pc r0 r1 r2 r3 r4 r5 r6 r7 xs _ hs K hp h6).mono ?_);rintro e wk ⟨AF,cF,rfl,rF,hk⟩)
 clear p0 p1 p2 p3 p4
 have hj:Below w1.heap.size w1 (wk.alloc (.cells (uF 7 pc r0 r1 r2 r3 r4 r5 r6 r7 AF xs cF) 69)):=bstep hk (boxed _ _)
 have b3:=heap_alloc_new wk (.cells (uF 7 pc r0 r1 r2 r3 r4 r5 r6 r7 AF xs cF) 69)
 replace b1:=(hj.block w.heap.size (by omega)).trans b1
 replace b2:=(hj.block (w.heap.size+1) z1).trans b2
 replace K:=K.step hj
 replace hb:=bstep hb hj
 replace z1:=Nat.lt_of_lt_of_le z1 hj.size
 replace rF:=rF.alloc (.cells (uF 7 pc r0 r1 r2 r3 r4 r5 r6 r7 AF xs cF) 69)
 clear hk hj
 obtain ⟨vF,hv⟩:∃ v,wk.heap.size = v:=⟨_,rfl⟩
 rw [hv] at b3 ⊢
 clear hv
 generalize (wk.alloc (.cells (uF 7 pc r0 r1 r2 r3 r4 r5 r6 r7 AF xs cF) 69)) = w3 at *
 obtain ⟨p0,p1,p2,p3,p4⟩:=cells5 b1
 obtain ⟨f0,f1,f2,f3,f4,f5,f6,f7,f8,f9,f10⟩:=cells11 b3
 go_wp2_with (go_at_call 81;(with_reducible refine (HC2.out AF cF _ K rF).mono ?_);rintro e wz ⟨A9,B9,C9,L9,a9,b9,c9,d9,rfl,rW,rG,rC,rL,hz⟩;have kR:=(hz.block (w.heap.size+1) z1).trans b2;have kb:=bstep hb hz;obtain ⟨q0,q1,q2,q3,q4,qf0,qf1,qf2,qf3,qf4⟩:=cf5 kR)
 refine bodyPost_ret (v:=.agg (uS A9 B9 C9 L9 a9 b9 c9 d9 t9)) (by simp [uS,results,Tryz.results33,go_sem,q0,q1,q2,q3,q4]) rfl ?_
 exact ret_resV (by omega) kR kb rW rG rC rL
theorem r7st_low (A B C L:Option Addr) (a b c d:Nat) (s:Sy) (i:Int) (t9:Sy) (op pc r0 r1 r2 r3 r4 r5 r6 r7:Int) (xs:List Int) (w:World) (hs:SyFew s) (hg:2≤s.M.G.length) (h:RS w s A B C L) (hp:pTop s i = some ⟨op,pc,[r0,r1,r2,r3,r4,r5,r6,r7],xs⟩) (h6:xs.length≤1000000) (o7:¬ op = 7) (o8:¬ op = 8)
  (HC:∀ w',RS w' s A B C L→Calls Tryz.prog 24 #[.agg (uS A B C L a b c d s),.int .i64 i] w' (RetSys w' t9)) :
  Calls Tryz.prog 33 #[.agg (uS A B C L a b c d s),.int .i64 i] w (RetSys w t9):=by
 have HC2:=hid HC
 clear HC
 have e7:(op == 7) = false:=by simpa using o7
 have e8:(op != 8) = true:=by simpa using o8
 clear o7 o8
 obtain ⟨b1,b2,bs⟩:=heap2 w (.cells (uS A B C L a b c d s) 28) (.cells uZ 28)
 have hb:Below w.heap.size w ((w.alloc (.cells (uS A B C L a b c d s) 28)).alloc (.cells uZ 28)):=bstep (boxed _ _) (boxed _ _)
 have z1:w.heap.size+1 < ((w.alloc (.cells (uS A B C L a b c d s) 28)).alloc (.cells uZ 28)).heap.size:=by simp
 clear bs
 go_enter Tryz.func33,Tryz.ntmps33
 go_upto_region 1 with (fail)
 generalize ((w.alloc (.cells (uS A B C L a b c d s) 28)).alloc (.cells uZ 28)) = w1 at *
 have K:=h.step hb
 obtain ⟨p0,p1,p2,p3,p4⟩:=cells5 b1
 go_upto_region 2 with (go_at_call 43;(with_reducible refine (rtop_is A B C L a b c d s i op pc r0 r1 r2 r3 r4 r5 r6 r7 xs _ hs K hp h6).mono ?_);rintro e wk ⟨AF,cF,rfl,rF,hk⟩)
 clear p0 p1 p2 p3 p4
 have hj:Below w1.heap.size w1 (wk.alloc (.cells (uF op pc r0 r1 r2 r3 r4 r5 r6 r7 AF xs cF) 69)):=bstep hk (boxed _ _)
 have b3:=heap_alloc_new wk (.cells (uF op pc r0 r1 r2 r3 r4 r5 r6 r7 AF xs cF) 69)
 replace b1:=(hj.block w.heap.size (by omega)).trans b1
 replace b2:=(hj.block (w.heap.size+1) z1).trans b2
 replace K:=K.step hj
 replace hb:=bstep hb hj
 replace z1:=Nat.lt_of_lt_of_le z1 hj.size
 replace rF:=rF.alloc (.cells (uF op pc r0 r1 r2 r3 r4 r5 r6 r7 AF xs cF) 69)
 clear hk hj
 obtain ⟨vF,hv⟩:∃ v,wk.heap.size = v:=⟨_,rfl⟩
 rw [hv] at b3 ⊢
 clear hv
 generalize (wk.alloc (.cells (uF op pc r0 r1 r2 r3 r4 r5 r6 r7 AF xs cF) 69)) = w3 at *
 obtain ⟨p0,p1,p2,p3,p4⟩:=cells5 b1
 obtain ⟨f0,f1,f2,f3,f4,f5,f6,f7,f8,f9,f10⟩:=cells11 b3
 go_wp2_with (go_at_call 24;(with_reducible refine (HC2.out _ K).mono ?_);rintro e wz ⟨A9,B9,C9,L9,a9,b9,c9,d9,rfl,rW,rG,rC,rL,hz⟩;have kR:=(hz.block (w.heap.size+1) z1).trans b2;have kb:=bstep hb hz;obtain ⟨q0,q1,q2,q3,q4,qf0,qf1,qf2,qf3,qf4⟩:=cf5 kR)
 refine bodyPost_ret (v:=.agg (uS A9 B9 C9 L9 a9 b9 c9 d9 t9)) (by simp [uS,results,Tryz.results33,go_sem,q0,q1,q2,q3,q4]) rfl ?_
 exact ret_resV (by omega) kR kb rW rG rC rL
theorem r7st_d0 (A B C L:Option Addr) (a b c d:Nat) (s:Sy) (i:Int) (r0 r1 r2 r3 r4 r5 r6 r7:Int) (xs:List Int) (w:World) (hs:SyFew s) (hg:2≤s.M.G.length) (h:RS w s A B C L) (hF:∀ x ∈ s.C,x.F.length≤999999) (hp:pTop s i = some ⟨8,0,[r0,r1,r2,r3,r4,r5,r6,r7],xs⟩) (h6:xs.length≤1000000)  :
  Calls Tryz.prog 33 #[.agg (uS A B C L a b c d s),.int .i64 i] w (RetSys w (pThen s i ⟨8,0,[r0,r1,r2,r3,r4,r5,r6,r7],xs⟩ 1 2 r0)):=by
 have HT:=hid (show ∀ (AF:Option Addr) (cF:Nat) w',RS w' s A B C L→Row w' AF xs→Calls Tryz.prog 82 #[.agg (uS A B C L a b c d s),.int .i64 i,.agg (uF 8 0 r0 r1 r2 r3 r4 r5 r6 r7 AF xs cF),.int .i64 1,.int .i64 2,.int .i64 r0,.int .i64 0,.int .i64 0] w' (RetSys w' (pThen s i ⟨8,0,[r0,r1,r2,r3,r4,r5,r6,r7],xs⟩ 1 2 r0)) from fun AF cF w' k1 k2=>rthen_any A B C L a b c d s i AF cF 8 0 r0 r1 r2 r3 r4 r5 r6 r7 xs 1 2 r0 0 0 w' hs hg k1 k2 h6 hF)
 obtain ⟨b1,b2,bs⟩:=heap2 w (.cells (uS A B C L a b c d s) 28) (.cells uZ 28)
 have hb:Below w.heap.size w ((w.alloc (.cells (uS A B C L a b c d s) 28)).alloc (.cells uZ 28)):=bstep (boxed _ _) (boxed _ _)
 have z1:w.heap.size+1 < ((w.alloc (.cells (uS A B C L a b c d s) 28)).alloc (.cells uZ 28)).heap.size:=by simp
 clear bs
 go_enter Tryz.func33,Tryz.ntmps33
 go_upto_region 1 with (fail)
 generalize ((w.alloc (.cells (uS A B C L a b c d s) 28)).alloc (.cells uZ 28)) = w1 at *
 have K:=h.step hb
 obtain ⟨p0,p1,p2,p3,p4⟩:=cells5 b1
 go_upto_region 2 with (go_at_call 43;(with_reducible refine (rtop_is A B C L a b c d s i 8 0 r0 r1 r2 r3 r4 r5 r6 r7 xs _ hs K hp h6).mono ?_);rintro e wk ⟨AF,cF,rfl,rF,hk⟩)
 clear p0 p1 p2 p3 p4
 have hj:Below w1.heap.size w1 (wk.alloc (.cells (uF 8 0 r0 r1 r2 r3 r4 r5 r6 r7 AF xs cF) 69)):=bstep hk (boxed _ _)
 have b3:=heap_alloc_new wk (.cells (uF 8 0 r0 r1 r2 r3 r4 r5 r6 r7 AF xs cF) 69)
 replace b1:=(hj.block w.heap.size (by omega)).trans b1
 replace b2:=(hj.block (w.heap.size+1) z1).trans b2
 replace K:=K.step hj
 replace hb:=bstep hb hj
 replace z1:=Nat.lt_of_lt_of_le z1 hj.size
 replace rF:=rF.alloc (.cells (uF 8 0 r0 r1 r2 r3 r4 r5 r6 r7 AF xs cF) 69)
 clear hk hj
 obtain ⟨vF,hv⟩:∃ v,wk.heap.size = v:=⟨_,rfl⟩
 rw [hv] at b3 ⊢
 clear hv
 generalize (wk.alloc (.cells (uF 8 0 r0 r1 r2 r3 r4 r5 r6 r7 AF xs cF) 69)) = w3 at *
 obtain ⟨p0,p1,p2,p3,p4⟩:=cells5 b1
 obtain ⟨f0,f1,f2,f3,f4,f5,f6,f7,f8,f9,f10⟩:=cells11 b3
 go_wp2_with (go_at_call 82;(with_reducible refine (HT.out AF cF _ K rF).mono ?_);rintro e wz ⟨A9,B9,C9,L9,a9,b9,c9,d9,rfl,rW,rG,rC,rL,hz⟩;have kR:=(hz.block (w.heap.size+1) z1).trans b2;have kb:=bstep hb hz;obtain ⟨q0,q1,q2,q3,q4,qf0,qf1,qf2,qf3,qf4⟩:=cf5 kR)
 refine bodyPost_ret (v:=.agg (uS A9 B9 C9 L9 a9 b9 c9 d9 (pThen s i ⟨8,0,[r0,r1,r2,r3,r4,r5,r6,r7],xs⟩ 1 2 r0))) (by simp [uS,results,Tryz.results33,go_sem,q0,q1,q2,q3,q4]) rfl ?_
 exact ret_resV (by omega) kR kb rW rG rC rL
theorem r7st_d1 (A B C L:Option Addr) (a b c d:Nat) (s:Sy) (i:Int) (r0 r1 r2 r3 r4 r5 r6 r7:Int) (xs:List Int) (w:World) (hs:SyFew s) (hg:2≤s.M.G.length) (h:RS w s A B C L) (hF:∀ x ∈ s.C,x.F.length≤999999) (hp:pTop s i = some ⟨8,1,[r0,r1,r2,r3,r4,r5,r6,r7],xs⟩) (h6:xs.length≤1000000)  :
  Calls Tryz.prog 33 #[.agg (uS A B C L a b c d s),.int .i64 i] w (RetSys w (pBack s i r0 0)):=by
 obtain ⟨b1,b2,bs⟩:=heap2 w (.cells (uS A B C L a b c d s) 28) (.cells uZ 28)
 have hb:Below w.heap.size w ((w.alloc (.cells (uS A B C L a b c d s) 28)).alloc (.cells uZ 28)):=bstep (boxed _ _) (boxed _ _)
 have z1:w.heap.size+1 < ((w.alloc (.cells (uS A B C L a b c d s) 28)).alloc (.cells uZ 28)).heap.size:=by simp
 clear bs
 go_enter Tryz.func33,Tryz.ntmps33
 go_upto_region 1 with (fail)
 generalize ((w.alloc (.cells (uS A B C L a b c d s) 28)).alloc (.cells uZ 28)) = w1 at *
 have K:=h.step hb
 obtain ⟨p0,p1,p2,p3,p4⟩:=cells5 b1
 go_upto_region 2 with (go_at_call 43;(with_reducible refine (rtop_is A B C L a b c d s i 8 1 r0 r1 r2 r3 r4 r5 r6 r7 xs _ hs K hp h6).mono ?_);rintro e wk ⟨AF,cF,rfl,rF,hk⟩)
 clear p0 p1 p2 p3 p4
 have hj:Below w1.heap.size w1 (wk.alloc (.cells (uF 8 1 r0 r1 r2 r3 r4 r5 r6 r7 AF xs cF) 69)):=bstep hk (boxed _ _)
 have b3:=heap_alloc_new wk (.cells (uF 8 1 r0 r1 r2 r3 r4 r5 r6 r7 AF xs cF) 69)
 replace b1:=(hj.block w.heap.size (by omega)).trans b1
 replace b2:=(hj.block (w.heap.size+1) z1).trans b2
 replace K:=K.step hj
 replace hb:=bstep hb hj
 replace z1:=Nat.lt_of_lt_of_le z1 hj.size
 replace rF:=rF.alloc (.cells (uF 8 1 r0 r1 r2 r3 r4 r5 r6 r7 AF xs cF) 69)
 clear hk hj
 obtain ⟨vF,hv⟩:∃ v,wk.heap.size = v:=⟨_,rfl⟩
 rw [hv] at b3 ⊢
 clear hv
 generalize (wk.alloc (.cells (uF 8 1 r0 r1 r2 r3 r4 r5 r6 r7 AF xs cF) 69)) = w3 at *
 obtain ⟨p0,p1,p2,p3,p4⟩:=cells5 b1
 obtain ⟨f0,f1,f2,f3,f4,f5,f6,f7,f8,f9,f10⟩:=cells11 b3
 go_wp2_with (go_at_call 83;(with_reducible refine (rback_u A B C L a b c d s i r0 0 _ hs K).mono ?_);rintro e wz ⟨A9,B9,C9,L9,a9,b9,c9,d9,rfl,rW,rG,rC,rL,hz⟩;have kR:=(hz.block (w.heap.size+1) z1).trans b2;have kb:=bstep hb hz;obtain ⟨q0,q1,q2,q3,q4,qf0,qf1,qf2,qf3,qf4⟩:=cf5 kR)
 refine bodyPost_ret (v:=.agg (uS A9 B9 C9 L9 a9 b9 c9 d9 (pBack s i r0 0))) (by simp [uS,results,Tryz.results33,go_sem,q0,q1,q2,q3,q4]) rfl ?_
 exact ret_resV (by omega) kR kb rW rG rC rL
theorem r7st_dx (A B C L:Option Addr) (a b c d:Nat) (s:Sy) (i:Int) (pc r0 r1 r2 r3 r4 r5 r6 r7:Int) (xs:List Int) (w:World) (hs:SyFew s) (hg:2≤s.M.G.length) (h:RS w s A B C L) (hF:∀ x ∈ s.C,x.F.length≤999999) (hp:pTop s i = some ⟨8,pc,[r0,r1,r2,r3,r4,r5,r6,r7],xs⟩) (h6:xs.length≤1000000) (q0:¬ pc = 0) (q1:¬ pc = 1) :
  Calls Tryz.prog 33 #[.agg (uS A B C L a b c d s),.int .i64 i] w (RetSys w (s)):=by
 have e0:(pc == 0) = false:=by simpa using q0
 have e1:(pc == 1) = false:=by simpa using q1
 clear q0 q1
 obtain ⟨b1,b2,bs⟩:=heap2 w (.cells (uS A B C L a b c d s) 28) (.cells uZ 28)
 have hb:Below w.heap.size w ((w.alloc (.cells (uS A B C L a b c d s) 28)).alloc (.cells uZ 28)):=bstep (boxed _ _) (boxed _ _)
 have z1:w.heap.size+1 < ((w.alloc (.cells (uS A B C L a b c d s) 28)).alloc (.cells uZ 28)).heap.size:=by simp
 clear bs
 go_enter Tryz.func33,Tryz.ntmps33
 go_upto_region 1 with (fail)
 generalize ((w.alloc (.cells (uS A B C L a b c d s) 28)).alloc (.cells uZ 28)) = w1 at *
 have K:=h.step hb
 obtain ⟨p0,p1,p2,p3,p4⟩:=cells5 b1
 go_upto_region 2 with (go_at_call 43;(with_reducible refine (rtop_is A B C L a b c d s i 8 pc r0 r1 r2 r3 r4 r5 r6 r7 xs _ hs K hp h6).mono ?_);rintro e wk ⟨AF,cF,rfl,rF,hk⟩)
 clear p0 p1 p2 p3 p4
 have hj:Below w1.heap.size w1 (wk.alloc (.cells (uF 8 pc r0 r1 r2 r3 r4 r5 r6 r7 AF xs cF) 69)):=bstep hk (boxed _ _)
 have b3:=heap_alloc_new wk (.cells (uF 8 pc r0 r1 r2 r3 r4 r5 r6 r7 AF xs cF) 69)
 replace b1:=(hj.block w.heap.size (by omega)).trans b1
 replace b2:=(hj.block (w.heap.size+1) z1).trans b2
 replace K:=K.step hj
 replace hb:=bstep hb hj
 replace z1:=Nat.lt_of_lt_of_le z1 hj.size
 replace rF:=rF.alloc (.cells (uF 8 pc r0 r1 r2 r3 r4 r5 r6 r7 AF xs cF) 69)
 clear hk hj
 obtain ⟨vF,hv⟩:∃ v,wk.heap.size = v:=⟨_,rfl⟩
 rw [hv] at b3 ⊢
 clear hv
 generalize (wk.alloc (.cells (uF 8 pc r0 r1 r2 r3 r4 r5 r6 r7 AF xs cF) 69)) = w3 at *
 obtain ⟨p0,p1,p2,p3,p4⟩:=cells5 b1
 obtain ⟨f0,f1,f2,f3,f4,f5,f6,f7,f8,f9,f10⟩:=cells11 b3
 obtain ⟨q0,q1,q2,q3,q4,qf0,qf1,qf2,qf3,qf4⟩:=cf5 b2
 go_wp2_with fail
 refine bodyPost_ret (v:=.agg (uS A B C L a b c d s)) (by simp [uS,results,Tryz.results33,go_sem,q0,q1,q2,q3,q4]) rfl ?_
 exact ret_resV (by omega) b2 hb K.W K.G K.C K.L
theorem r7step_any (A B C L:Option Addr) (a b c d:Nat) (s:Sy) (i:Int) (w:World) (hs:SyFew s) (hg:2≤s.M.G.length) (h:RS w s A B C L) (hF:∀ x ∈ s.C,x.F.length≤999998) (hL:s.L.length≤999998) :
  Calls Tryz.prog 33 #[.agg (uS A B C L a b c d s),.int .i64 i] w (RetSys w (pAlc s i)):=by
 have hF9:∀ x ∈ s.C,x.F.length≤999999:=fun x hx=>by have:=hF x hx;omega
 rcases pTop_cases s i hs h.C with hp | ⟨op,pc,r0,r1,r2,r3,r4,r5,r6,r7,xs,hp,h6⟩
 ·have e:pAlc s i = s:=by unfold pAlc;rw [hp]
  rw [e]
  exact r7st_none A B C L a b c d s i w hs hg h hp
 ·by_cases o1:op = 7
  ·subst o1
   have e:pAlc s i = pAlloc s i ⟨7,pc,[r0,r1,r2,r3,r4,r5,r6,r7],xs⟩ s:=by unfold pAlc;rw [hp];simp
   rw [e]
   obtain ⟨k,n,x,rfl,hx,_,_⟩:=pTop_out hp
   exact r7st_7 A B C L a b c d s (k:Int) _ pc r0 r1 r2 r3 r4 r5 r6 r7 xs w hs hg h hp h6 (fun AF cF w' k1 k2=>ral_any A B C L a b c d s k x AF cF 7 pc r0 r1 r2 r3 r4 r5 r6 r7 xs w' hs hg k1 k2 h6 hF9 hx)
  ·by_cases o2:op = 8
   ·subst o2
    have e:pAlc s i = pDrop s i ⟨8,pc,[r0,r1,r2,r3,r4,r5,r6,r7],xs⟩ s:=by unfold pAlc;rw [hp];simp
    rw [e]
    unfold pDrop
    by_cases q0:pc = 0
    ·subst q0;rw [if_pos rfl];exact r7st_d0 A B C L a b c d s i r0 r1 r2 r3 r4 r5 r6 r7 xs w hs hg h hF9 hp h6
    ·rw [if_neg q0]
     by_cases q1:pc = 1
     ·subst q1;rw [if_pos rfl];exact r7st_d1 A B C L a b c d s i r0 r1 r2 r3 r4 r5 r6 r7 xs w hs hg h hF9 hp h6
     ·rw [if_neg q1];exact r7st_dx A B C L a b c d s i pc r0 r1 r2 r3 r4 r5 r6 r7 xs w hs hg h hF9 hp h6 q0 q1
   ·have e:pAlc s i = pScan s i:=by unfold pAlc;rw [hp];simp [o1,o2]
    rw [e]
    exact r7st_low A B C L a b c d s i _ op pc r0 r1 r2 r3 r4 r5 r6 r7 xs w hs hg h hp h6 o1 o2 (fun w' h'=>r6step_any A B C L a b c d s i w' hs hg h' hF hL)
end Go.Proofs.YthpflcknommpdaaGreat
