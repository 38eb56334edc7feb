/- Contract: a step of a core, by the document's layer 6. -/
import Derived.Test.YtfipcdhodojodaaGreatMQ3
import Derived.Test.YtfipcdhodojodaaGreatMQ5
import Derived.Test.YtfipcdhodojodaaGreatMH8
import Derived.Test.YtfipcdhodojodaaGreatMSS
namespace Go.Proofs.YtfipcdhodojodaaGreat
open Go.RowKit
set_option maxRecDepth 100000
set_option maxHeartbeats 4000000
set_option linter.unusedVariables false
set_option linter.unusedSimpArgs false
theorem r6st_none (A B C L:Option Addr) (a b c d:Nat) (s:Sy) (i:Int) (w:World) (hs:SyFew s) (hg:2≤s.M.G.length) (h:RS w s A B C L) (hp:pTop s i = none) :
  Calls Tryz.prog 41 #[.agg (uS A B C L a b c d s),.int .i64 i] w (RetSys w s):=by
 obtain ⟨b1,b2,bs⟩:=heap2 w (.cells (uS A B C L a b c d s) 30) (.cells uZ 30)
 have hb:Below w.heap.size w ((w.alloc (.cells (uS A B C L a b c d s) 30)).alloc (.cells uZ 30)):=bstep (boxed _ _) (boxed _ _)
 have z1:w.heap.size+1 < ((w.alloc (.cells (uS A B C L a b c d s) 30)).alloc (.cells uZ 30)).heap.size:=by simp
 clear bs
 go_enter Tryz.func41,Tryz.ntmps41
 go_upto_region 1 with (fail)
 generalize ((w.alloc (.cells (uS A B C L a b c d s) 30)).alloc (.cells uZ 30)) = w1 at *
 have K:=h.step hb
 obtain ⟨p0,p1,p2,p3,p4⟩:=cells5 b1
 go_upto_region 2 with (go_at_call 39;(with_reducible refine (rtop_no A B C L a b c d s i _ hs K hp).mono ?_);rintro e wk ⟨rfl,hk⟩)
 have rF:Row wk none []:=Row.nil _ _
 clear p0 p1 p2 p3 p4
 have hj:Below w1.heap.size w1 (wk.alloc (.cells #[.int .i64 0,.int .i64 0,.int .i64 0,.int .i64 0,.int .i64 0,.int .i64 0,.int .i64 0,.int .i64 0,.int .i64 0,.int .i64 0,.slice none 0 0] 60)):=bstep hk (boxed _ _)
 have b3:=heap_alloc_new wk (.cells #[.int .i64 0,.int .i64 0,.int .i64 0,.int .i64 0,.int .i64 0,.int .i64 0,.int .i64 0,.int .i64 0,.int .i64 0,.int .i64 0,.slice none 0 0] 60)
 replace b1:=(hj.block w.heap.size (by omega)).trans b1
 replace b2:=(hj.block (w.heap.size+1) z1).trans b2
 replace K:=K.step hj
 replace hb:=bstep hb hj
 replace z1:=Nat.lt_of_lt_of_le z1 hj.size
 replace rF:=rF.alloc (.cells #[.int .i64 0,.int .i64 0,.int .i64 0,.int .i64 0,.int .i64 0,.int .i64 0,.int .i64 0,.int .i64 0,.int .i64 0,.int .i64 0,.slice none 0 0] 60)
 clear hk hj
 obtain ⟨vF,hv⟩:∃ v,wk.heap.size = v:=⟨_,rfl⟩
 rw [hv] at b3 ⊢
 clear hv
 generalize (wk.alloc (.cells #[.int .i64 0,.int .i64 0,.int .i64 0,.int .i64 0,.int .i64 0,.int .i64 0,.int .i64 0,.int .i64 0,.int .i64 0,.int .i64 0,.slice none 0 0] 60)) = w3 at *
 obtain ⟨p0,p1,p2,p3,p4⟩:=cells5 b1
 obtain ⟨f0,f1,f2,f3,f4,f5,f6,f7,f8,f9,f10⟩:=cells11 b3
 obtain ⟨q0,q1,q2,q3,q4,qf0,qf1,qf2,qf3,qf4⟩:=cf5 b2
 go_wp2_with fail
 refine bodyPost_ret (v:=.agg (uS A B C L a b c d s)) (by simp [uS,results,Tryz.results41,go_sem,q0,q1,q2,q3,q4]) rfl ?_
 exact ret_resV (by omega) b2 hb K.W K.G K.C K.L
theorem r6st_5 (A B C L:Option Addr) (a b c d:Nat) (s:Sy) (i:Int) (t9:Sy) (pc r0 r1 r2 r3 r4 r5 r6 r7:Int) (xs:List Int) (w:World) (hs:SyFew s) (hg:2≤s.M.G.length) (h:RS w s A B C L) (hp:pTop s i = some ⟨5,pc,[r0,r1,r2,r3,r4,r5,r6,r7],xs⟩) (h6:xs.length≤1000000)
  (HC:∀ (AF:Option Addr) (cF:Nat) w',RS w' s A B C L→Row w' AF xs→Calls Tryz.prog 58 #[.agg (uS A B C L a b c d s),.int .i64 i,.agg (uF 5 pc r0 r1 r2 r3 r4 r5 r6 r7 AF xs cF)] w' (RetSys w' t9)) :
  Calls Tryz.prog 41 #[.agg (uS A B C L a b c d s),.int .i64 i] w (RetSys w t9):=by
 have HC2:=hid HC
 clear HC
 obtain ⟨b1,b2,bs⟩:=heap2 w (.cells (uS A B C L a b c d s) 30) (.cells uZ 30)
 have hb:Below w.heap.size w ((w.alloc (.cells (uS A B C L a b c d s) 30)).alloc (.cells uZ 30)):=bstep (boxed _ _) (boxed _ _)
 have z1:w.heap.size+1 < ((w.alloc (.cells (uS A B C L a b c d s) 30)).alloc (.cells uZ 30)).heap.size:=by simp
 clear bs
 go_enter Tryz.func41,Tryz.ntmps41
 go_upto_region 1 with (fail)
 generalize ((w.alloc (.cells (uS A B C L a b c d s) 30)).alloc (.cells uZ 30)) = w1 at *
 have K:=h.step hb
 obtain ⟨p0,p1,p2,p3,p4⟩:=cells5 b1
 go_upto_region 2 with (go_at_call 39;(with_reducible refine (rtop_is A B C L a b c d s i 5 pc r0 r1 r2 r3 r4 r5 r6 r7 xs _ hs K hp h6).mono ?_);rintro e wk ⟨AF,cF,rfl,rF,hk⟩)
 clear p0 p1 p2 p3 p4
 have hj:Below w1.heap.size w1 (wk.alloc (.cells (uF 5 pc r0 r1 r2 r3 r4 r5 r6 r7 AF xs cF) 60)):=bstep hk (boxed _ _)
 have b3:=heap_alloc_new wk (.cells (uF 5 pc r0 r1 r2 r3 r4 r5 r6 r7 AF xs cF) 60)
 replace b1:=(hj.block w.heap.size (by omega)).trans b1
 replace b2:=(hj.block (w.heap.size+1) z1).trans b2
 replace K:=K.step hj
 replace hb:=bstep hb hj
 replace z1:=Nat.lt_of_lt_of_le z1 hj.size
 replace rF:=rF.alloc (.cells (uF 5 pc r0 r1 r2 r3 r4 r5 r6 r7 AF xs cF) 60)
 clear hk hj
 obtain ⟨vF,hv⟩:∃ v,wk.heap.size = v:=⟨_,rfl⟩
 rw [hv] at b3 ⊢
 clear hv
 generalize (wk.alloc (.cells (uF 5 pc r0 r1 r2 r3 r4 r5 r6 r7 AF xs cF) 60)) = w3 at *
 obtain ⟨p0,p1,p2,p3,p4⟩:=cells5 b1
 obtain ⟨f0,f1,f2,f3,f4,f5,f6,f7,f8,f9,f10⟩:=cells11 b3
 go_wp2_with (go_at_call 58;(with_reducible refine (HC2.out AF cF _ K rF).mono ?_);rintro e wz ⟨A9,B9,C9,L9,a9,b9,c9,d9,rfl,rW,rG,rC,rL,hz⟩;have kR:=(hz.block (w.heap.size+1) z1).trans b2;have kb:=bstep hb hz;obtain ⟨q0,q1,q2,q3,q4,qf0,qf1,qf2,qf3,qf4⟩:=cf5 kR)
 refine bodyPost_ret (v:=.agg (uS A9 B9 C9 L9 a9 b9 c9 d9 t9)) (by simp [uS,results,Tryz.results41,go_sem,q0,q1,q2,q3,q4]) rfl ?_
 exact ret_resV (by omega) kR kb rW rG rC rL
theorem r6st_6 (A B C L:Option Addr) (a b c d:Nat) (s:Sy) (i:Int) (t9:Sy) (pc r0 r1 r2 r3 r4 r5 r6 r7:Int) (xs:List Int) (w:World) (hs:SyFew s) (hg:2≤s.M.G.length) (h:RS w s A B C L) (hp:pTop s i = some ⟨6,pc,[r0,r1,r2,r3,r4,r5,r6,r7],xs⟩) (h6:xs.length≤1000000)
  (HC:∀ (AF:Option Addr) (cF:Nat) w',RS w' s A B C L→Row w' AF xs→Calls Tryz.prog 59 #[.agg (uS A B C L a b c d s),.int .i64 i,.agg (uF 6 pc r0 r1 r2 r3 r4 r5 r6 r7 AF xs cF)] w' (RetSys w' t9)) :
  Calls Tryz.prog 41 #[.agg (uS A B C L a b c d s),.int .i64 i] w (RetSys w t9):=by
 have HC2:=hid HC
 clear HC
 obtain ⟨b1,b2,bs⟩:=heap2 w (.cells (uS A B C L a b c d s) 30) (.cells uZ 30)
 have hb:Below w.heap.size w ((w.alloc (.cells (uS A B C L a b c d s) 30)).alloc (.cells uZ 30)):=bstep (boxed _ _) (boxed _ _)
 have z1:w.heap.size+1 < ((w.alloc (.cells (uS A B C L a b c d s) 30)).alloc (.cells uZ 30)).heap.size:=by simp
 clear bs
 go_enter Tryz.func41,Tryz.ntmps41
 go_upto_region 1 with (fail)
 generalize ((w.alloc (.cells (uS A B C L a b c d s) 30)).alloc (.cells uZ 30)) = w1 at *
 have K:=h.step hb
 obtain ⟨p0,p1,p2,p3,p4⟩:=cells5 b1
 go_upto_region 2 with (go_at_call 39;(with_reducible refine (rtop_is A B C L a b c d s i 6 pc r0 r1 r2 r3 r4 r5 r6 r7 xs _ hs K hp h6).mono ?_);rintro e wk ⟨AF,cF,rfl,rF,hk⟩)
 clear p0 p1 p2 p3 p4
 have hj:Below w1.heap.size w1 (wk.alloc (.cells (uF 6 pc r0 r1 r2 r3 r4 r5 r6 r7 AF xs cF) 60)):=bstep hk (boxed _ _)
 have b3:=heap_alloc_new wk (.cells (uF 6 pc r0 r1 r2 r3 r4 r5 r6 r7 AF xs cF) 60)
 replace b1:=(hj.block w.heap.size (by omega)).trans b1
 replace b2:=(hj.block (w.heap.size+1) z1).trans b2
 replace K:=K.step hj
 replace hb:=bstep hb hj
 replace z1:=Nat.lt_of_lt_of_le z1 hj.size
 replace rF:=rF.alloc (.cells (uF 6 pc r0 r1 r2 r3 r4 r5 r6 r7 AF xs cF) 60)
 clear hk hj
 obtain ⟨vF,hv⟩:∃ v,wk.heap.size = v:=⟨_,rfl⟩
 rw [hv] at b3 ⊢
 clear hv
 generalize (wk.alloc (.cells (uF 6 pc r0 r1 r2 r3 r4 r5 r6 r7 AF xs cF) 60)) = w3 at *
 obtain ⟨p0,p1,p2,p3,p4⟩:=cells5 b1
 obtain ⟨f0,f1,f2,f3,f4,f5,f6,f7,f8,f9,f10⟩:=cells11 b3
 go_wp2_with (go_at_call 59;(with_reducible refine (HC2.out AF cF _ K rF).mono ?_);rintro e wz ⟨A9,B9,C9,L9,a9,b9,c9,d9,rfl,rW,rG,rC,rL,hz⟩;have kR:=(hz.block (w.heap.size+1) z1).trans b2;have kb:=bstep hb hz;obtain ⟨q0,q1,q2,q3,q4,qf0,qf1,qf2,qf3,qf4⟩:=cf5 kR)
 refine bodyPost_ret (v:=.agg (uS A9 B9 C9 L9 a9 b9 c9 d9 t9)) (by simp [uS,results,Tryz.results41,go_sem,q0,q1,q2,q3,q4]) rfl ?_
 exact ret_resV (by omega) kR kb rW rG rC rL
theorem r6st_haz (A B C L:Option Addr) (a b c d:Nat) (s:Sy) (i:Int) (t9:Sy) (op pc r0 r1 r2 r3 r4 r5 r6 r7:Int) (xs:List Int) (w:World) (hs:SyFew s) (hg:2≤s.M.G.length) (h:RS w s A B C L) (hp:pTop s i = some ⟨op,pc,[r0,r1,r2,r3,r4,r5,r6,r7],xs⟩) (h6:xs.length≤1000000) (o5:¬ op = 5) (o6:¬ op = 6) (o3:(op == 3 || op == 4) = true)
  (HC:∀ w',RS w' s A B C L→Calls Tryz.prog 61 #[.agg (uS A B C L a b c d s),.int .i64 i] w' (RetSys w' t9)) :
  Calls Tryz.prog 41 #[.agg (uS A B C L a b c d s),.int .i64 i] w (RetSys w t9):=by
 have HC2:=hid HC
 clear HC
 have e5:(op == 5) = false:=by simpa using o5
 have e6:(op == 6) = false:=by simpa using o6
 clear o5 o6
 obtain ⟨b1,b2,bs⟩:=heap2 w (.cells (uS A B C L a b c d s) 30) (.cells uZ 30)
 have hb:Below w.heap.size w ((w.alloc (.cells (uS A B C L a b c d s) 30)).alloc (.cells uZ 30)):=bstep (boxed _ _) (boxed _ _)
 have z1:w.heap.size+1 < ((w.alloc (.cells (uS A B C L a b c d s) 30)).alloc (.cells uZ 30)).heap.size:=by simp
 clear bs
 go_enter Tryz.func41,Tryz.ntmps41
 go_upto_region 1 with (fail)
 generalize ((w.alloc (.cells (uS A B C L a b c d s) 30)).alloc (.cells uZ 30)) = w1 at *
 have K:=h.step hb
 obtain ⟨p0,p1,p2,p3,p4⟩:=cells5 b1
 go_upto_region 2 with (go_at_call 39;(with_reducible refine (rtop_is A B C L a b c d s i op pc r0 r1 r2 r3 r4 r5 r6 r7 xs _ hs K hp h6).mono ?_);rintro e wk ⟨AF,cF,rfl,rF,hk⟩)
 clear p0 p1 p2 p3 p4
 have hj:Below w1.heap.size w1 (wk.alloc (.cells (uF op pc r0 r1 r2 r3 r4 r5 r6 r7 AF xs cF) 60)):=bstep hk (boxed _ _)
 have b3:=heap_alloc_new wk (.cells (uF op pc r0 r1 r2 r3 r4 r5 r6 r7 AF xs cF) 60)
 replace b1:=(hj.block w.heap.size (by omega)).trans b1
 replace b2:=(hj.block (w.heap.size+1) z1).trans b2
 replace K:=K.step hj
 replace hb:=bstep hb hj
 replace z1:=Nat.lt_of_lt_of_le z1 hj.size
 replace rF:=rF.alloc (.cells (uF op pc r0 r1 r2 r3 r4 r5 r6 r7 AF xs cF) 60)
 clear hk hj
 obtain ⟨vF,hv⟩:∃ v,wk.heap.size = v:=⟨_,rfl⟩
 rw [hv] at b3 ⊢
 clear hv
 generalize (wk.alloc (.cells (uF op pc r0 r1 r2 r3 r4 r5 r6 r7 AF xs cF) 60)) = w3 at *
 obtain ⟨p0,p1,p2,p3,p4⟩:=cells5 b1
 obtain ⟨f0,f1,f2,f3,f4,f5,f6,f7,f8,f9,f10⟩:=cells11 b3
 go_wp2_with (first | (go_at_call 60;(with_reducible refine (rown5_any _ _).mono ?_);rintro e wo ⟨rfl,rfl⟩) | (go_at_call 61;(with_reducible refine (HC2.out _ K).mono ?_);rintro e wz ⟨A9,B9,C9,L9,a9,b9,c9,d9,rfl,rW,rG,rC,rL,hz⟩;have kR:=(hz.block (w.heap.size+1) z1).trans b2;have kb:=bstep hb hz;obtain ⟨q0,q1,q2,q3,q4,qf0,qf1,qf2,qf3,qf4⟩:=cf5 kR))
 refine bodyPost_ret (v:=.agg (uS A9 B9 C9 L9 a9 b9 c9 d9 t9)) (by simp [uS,results,Tryz.results41,go_sem,q0,q1,q2,q3,q4]) rfl ?_
 exact ret_resV (by omega) kR kb rW rG rC rL
theorem r6st_low (A B C L:Option Addr) (a b c d:Nat) (s:Sy) (i:Int) (t9:Sy) (op pc r0 r1 r2 r3 r4 r5 r6 r7:Int) (xs:List Int) (w:World) (hs:SyFew s) (hg:2≤s.M.G.length) (h:RS w s A B C L) (hp:pTop s i = some ⟨op,pc,[r0,r1,r2,r3,r4,r5,r6,r7],xs⟩) (h6:xs.length≤1000000) (o5:¬ op = 5) (o6:¬ op = 6) (o3:(op == 3 || op == 4) = false)
  (HC:∀ w',RS w' s A B C L→Calls Tryz.prog 62 #[.agg (uS A B C L a b c d s),.int .i64 i] w' (RetSys w' t9)) :
  Calls Tryz.prog 41 #[.agg (uS A B C L a b c d s),.int .i64 i] w (RetSys w t9):=by
 have HC2:=hid HC
 clear HC
 have e5:(op == 5) = false:=by simpa using o5
 have e6:(op == 6) = false:=by simpa using o6
 clear o5 o6
 obtain ⟨b1,b2,bs⟩:=heap2 w (.cells (uS A B C L a b c d s) 30) (.cells uZ 30)
 have hb:Below w.heap.size w ((w.alloc (.cells (uS A B C L a b c d s) 30)).alloc (.cells uZ 30)):=bstep (boxed _ _) (boxed _ _)
 have z1:w.heap.size+1 < ((w.alloc (.cells (uS A B C L a b c d s) 30)).alloc (.cells uZ 30)).heap.size:=by simp
 clear bs
 go_enter Tryz.func41,Tryz.ntmps41
 go_upto_region 1 with (fail)
 generalize ((w.alloc (.cells (uS A B C L a b c d s) 30)).alloc (.cells uZ 30)) = w1 at *
 have K:=h.step hb
 obtain ⟨p0,p1,p2,p3,p4⟩:=cells5 b1
 go_upto_region 2 with (go_at_call 39;(with_reducible refine (rtop_is A B C L a b c d s i op pc r0 r1 r2 r3 r4 r5 r6 r7 xs _ hs K hp h6).mono ?_);rintro e wk ⟨AF,cF,rfl,rF,hk⟩)
 clear p0 p1 p2 p3 p4
 have hj:Below w1.heap.size w1 (wk.alloc (.cells (uF op pc r0 r1 r2 r3 r4 r5 r6 r7 AF xs cF) 60)):=bstep hk (boxed _ _)
 have b3:=heap_alloc_new wk (.cells (uF op pc r0 r1 r2 r3 r4 r5 r6 r7 AF xs cF) 60)
 replace b1:=(hj.block w.heap.size (by omega)).trans b1
 replace b2:=(hj.block (w.heap.size+1) z1).trans b2
 replace K:=K.step hj
 replace hb:=bstep hb hj
 replace z1:=Nat.lt_of_lt_of_le z1 hj.size
 replace rF:=rF.alloc (.cells (uF op pc r0 r1 r2 r3 r4 r5 r6 r7 AF xs cF) 60)
 clear hk hj
 obtain ⟨vF,hv⟩:∃ v,wk.heap.size = v:=⟨_,rfl⟩
 rw [hv] at b3 ⊢
 clear hv
 generalize (wk.alloc (.cells (uF op pc r0 r1 r2 r3 r4 r5 r6 r7 AF xs cF) 60)) = w3 at *
 obtain ⟨p0,p1,p2,p3,p4⟩:=cells5 b1
 obtain ⟨f0,f1,f2,f3,f4,f5,f6,f7,f8,f9,f10⟩:=cells11 b3
 go_wp2_with (first | (go_at_call 60;(with_reducible refine (rown5_any _ _).mono ?_);rintro e wo ⟨rfl,rfl⟩) | (go_at_call 62;(with_reducible refine (HC2.out _ K).mono ?_);rintro e wz ⟨A9,B9,C9,L9,a9,b9,c9,d9,rfl,rW,rG,rC,rL,hz⟩;have kR:=(hz.block (w.heap.size+1) z1).trans b2;have kb:=bstep hb hz;obtain ⟨q0,q1,q2,q3,q4,qf0,qf1,qf2,qf3,qf4⟩:=cf5 kR))
 refine bodyPost_ret (v:=.agg (uS A9 B9 C9 L9 a9 b9 c9 d9 t9)) (by simp [uS,results,Tryz.results41,go_sem,q0,q1,q2,q3,q4]) rfl ?_
 exact ret_resV (by omega) kR kb rW rG rC rL
theorem r6step_any (A B C L:Option Addr) (a b c d:Nat) (s:Sy) (i:Int) (w:World) (hs:SyFew s) (hg:2≤s.M.G.length) (h:RS w s A B C L) (hF:∀ x ∈ s.C,x.F.length≤999998) (hL:s.L.length≤999998) :
  Calls Tryz.prog 41 #[.agg (uS A B C L a b c d s),.int .i64 i] w (RetSys w (pScan s i)):=by
 have hF9:∀ x ∈ s.C,x.F.length≤999999:=fun x hx=>by have:=hF x hx;omega
 rcases pTop_cases s i hs h.C with hp | ⟨op,pc,r0,r1,r2,r3,r4,r5,r6,r7,xs,hp,h6⟩
 ·have e:pScan s i = s:=by unfold pScan;rw [hp]
  rw [e]
  exact r6st_none A B C L a b c d s i w hs hg h hp
 ·by_cases o1:op = 1 ∨ op = 2
  ·have e:pScan s i = pStep s i:=by unfold pScan;rw [hp];dsimp only;rw [if_pos o1]
   rw [e]
   exact r6st_low A B C L a b c d s i _ op pc r0 r1 r2 r3 r4 r5 r6 r7 xs w hs hg h hp h6 (by omega) (by omega) (by rcases o1 with rfl | rfl <;> rfl) (fun w' h'=>rstep_any A B C L a b c d s i w' hs hg h' hF9 hL)
  ·by_cases o2:op = 3 ∨ op = 4
   ·have e:pScan s i = pHaz s i:=by unfold pScan;rw [hp];dsimp only;rw [if_neg o1,if_pos o2]
    rw [e]
    exact r6st_haz A B C L a b c d s i _ op pc r0 r1 r2 r3 r4 r5 r6 r7 xs w hs hg h hp h6 (by omega) (by omega) (by rcases o2 with rfl | rfl <;> rfl) (fun w' h'=>rhstep_any A B C L a b c d s i w' hs hg h' hF9)
   ·by_cases o5:op = 5
    ·subst o5
     have e:pScan s i = pRetire s i ⟨5,pc,[r0,r1,r2,r3,r4,r5,r6,r7],xs⟩ s:=by unfold pScan;rw [hp];dsimp only;rw [if_neg o1,if_neg o2,if_pos rfl]
     rw [e]
     obtain ⟨k,n,x,rfl,hx,_,_⟩:=pTop_out hp
     exact r6st_5 A B C L a b c d s (k:Int) _ pc r0 r1 r2 r3 r4 r5 r6 r7 xs w hs hg h hp h6 (fun AF cF w' k1 k2=>rret_any A B C L a b c d s k x AF cF 5 pc r0 r1 r2 r3 r4 r5 r6 r7 xs w' hs hg k1 k2 h6 hF hx)
    ·by_cases o6:op = 6
     ·subst o6
      have e:pScan s i = pOScan s i ⟨6,pc,[r0,r1,r2,r3,r4,r5,r6,r7],xs⟩ s:=by unfold pScan;rw [hp];dsimp only;rw [if_neg o1,if_neg o2,if_neg o5,if_pos rfl]
      rw [e]
      obtain ⟨k,n,x,rfl,hx,_,_⟩:=pTop_out hp
      exact r6st_6 A B C L a b c d s (k:Int) _ pc r0 r1 r2 r3 r4 r5 r6 r7 xs w hs hg h hp h6 (fun AF cF w' k1 k2=>rscan_any A B C L a b c d s k x AF cF 6 pc r0 r1 r2 r3 r4 r5 r6 r7 xs w' hs hg k1 k2 h6 hF hx)
     ·have e:pScan s i = s:=by unfold pScan;rw [hp];dsimp only;rw [if_neg o1,if_neg o2,if_neg o5,if_neg o6]
      rw [e]
      have e9:pStep s i = s:=by unfold pStep;rw [hp];simp only [not_or] at o1;simp [o1.1,o1.2]
      exact r6st_low A B C L a b c d s i _ op pc r0 r1 r2 r3 r4 r5 r6 r7 xs w hs hg h hp h6 o5 o6 (by simp only [not_or] at o2;simp [o2.1,o2.2]) (fun w' h'=>by have h9:=rstep_any A B C L a b c d s i w' hs hg h' hF9 hL;rw [e9] at h9;exact h9)
end Go.Proofs.YtfipcdhodojodaaGreat
