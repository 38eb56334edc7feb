/- Contract: scan.Step, by the layers. -/
import Derived.Test.YtfipcdhodojodaaGreatMS2
import Derived.Test.YtfipcdhodojodaaGreatStk9
import Derived.Test.YtfipcdhodojodaaGreatMSn
import Derived.Test.YtfipcdhodojodaaGreatMH4
namespace Go.Proofs.YtfipcdhodojodaaGreat
open Go.RowKit
set_option maxRecDepth 100000
set_option maxHeartbeats 4000000
set_option linter.unusedVariables false
set_option linter.unusedSimpArgs false
theorem lay_0 (A B C L:Option Addr) (a b c d:Nat) (s t9:Sy) (i:Int) (op pc r0 r1 r2 r3 r4 r5 r6 r7:Int) (xs:List Int) (w:World) (hs:SyFew s) (h:RS w s A B C L) (hp:pTop s i = some ⟨op,pc,[r0,r1,r2,r3,r4,r5,r6,r7],xs⟩) (h6:xs.length≤1000000) (o0:(op == 1 || op == 2) = true) (HC:∀ w',RS w' s A B C L→Calls Tryz.prog 85 #[.agg (uS A B C L a b c d s),.int .i64 i] w' (RetSysN w' t9)) :
  Calls Tryz.prog 28 #[.agg (uS A B C L a b c d s),.int .i64 i] w (RetSysN w t9):=by
 have HC2:=hid HC
 clear HC
 have HO0:=hid o0
 clear o0
 obtain ⟨b1,b2,bs⟩:=heap2 w (.cells (uS A B C L a b c d s) 30) (.cells uZ 30)
 have hb:Below w.heap.size w ((w.alloc (.cells (uS A B C L a b c d s) 30)).alloc (.cells uZ 30)):=bstep (boxed _ _) (boxed _ _)
 have z1:w.heap.size+1 < ((w.alloc (.cells (uS A B C L a b c d s) 30)).alloc (.cells uZ 30)).heap.size:=by simp
 clear bs
 go_enter Tryz.func28,Tryz.ntmps28
 go_upto_region 1 with (fail)
 generalize ((w.alloc (.cells (uS A B C L a b c d s) 30)).alloc (.cells uZ 30)) = w1 at *
 have K:=h.step hb
 obtain ⟨p0,p1,p2,p3,p4⟩:=cells5 b1
 go_upto_region 2 with (go_at_call 25;(with_reducible refine (top_is A B C L a b c d s i op pc r0 r1 r2 r3 r4 r5 r6 r7 xs _ hs K hp h6).mono ?_);rintro e wk ⟨AF,cF,rfl,rF,hk⟩)
 clear p0 p1 p2 p3 p4
 have hj:Below w1.heap.size w1 (wk.alloc (.cells (uF op pc r0 r1 r2 r3 r4 r5 r6 r7 AF xs cF) 60)):=bstep hk (boxed _ _)
 have b3:=heap_alloc_new wk (.cells (uF op pc r0 r1 r2 r3 r4 r5 r6 r7 AF xs cF) 60)
 replace b1:=(hj.block w.heap.size (by omega)).trans b1
 replace b2:=(hj.block (w.heap.size+1) z1).trans b2
 replace K:=K.step hj
 replace hb:=bstep hb hj
 replace z1:=Nat.lt_of_lt_of_le z1 hj.size
 replace rF:=rF.alloc (.cells (uF op pc r0 r1 r2 r3 r4 r5 r6 r7 AF xs cF) 60)
 have zF:wk.heap.size < (wk.alloc (.cells (uF op pc r0 r1 r2 r3 r4 r5 r6 r7 AF xs cF) 60)).heap.size:=by simp
 clear hk hj
 obtain ⟨vF,hv⟩:∃ v,wk.heap.size = v:=⟨_,rfl⟩
 rw [hv] at b3 zF ⊢
 clear hv
 generalize (wk.alloc (.cells (uF op pc r0 r1 r2 r3 r4 r5 r6 r7 AF xs cF) 60)) = w3 at *
 have f0:=cells1 b3
 go_upto_region 3 with (go_at_call 51;(with_reducible refine (whose_0 op _ HO0.out).mono ?_);rintro e w4 ⟨rfl,hk⟩)
 clear f0
 have hj:Below w3.heap.size w3 (w4.alloc (.cells #[.func (.func 84) #[] #[],.func (.func 85) #[] #[]] 80)):=bstep hk (boxed _ _)
 have b4:=heap_alloc_new w4 (.cells #[.func (.func 84) #[] #[],.func (.func 85) #[] #[]] 80)
 replace b1:=(hj.block w.heap.size (by omega)).trans b1
 replace b2:=(hj.block (w.heap.size+1) z1).trans b2
 replace b3:=(hj.block vF zF).trans b3
 replace K:=K.step hj
 replace hb:=bstep hb hj
 replace z1:=Nat.lt_of_lt_of_le z1 hj.size
 replace rF:=rF.step hj
 clear hk hj zF
 obtain ⟨vL,hv⟩:∃ v,w4.heap.size = v:=⟨_,rfl⟩
 rw [hv] at b4 ⊢
 clear hv
 generalize (w4.alloc (.cells #[.func (.func 84) #[] #[],.func (.func 85) #[] #[]] 80)) = w5 at *
 obtain ⟨y0,y1,y2,y3,y4⟩:=cells5 b1
 obtain ⟨f0,f1,f2,f3,f4,f5,f6,f7,f8,f9,f10⟩:=cells11 b3
 obtain ⟨l0,l1⟩:=cells2 b4
 go_wp2_with (go_at_call 85;(with_reducible refine (HC2.out _ K).mono ?_);rintro e wz hN;have hz:=hN.2;obtain ⟨A9,B9,C9,L9,a9,b9,c9,d9,he,_,_,_,_,_⟩:=hN.1 wz (Turn.refl _ _);subst he;have HN:=hid hN;clear hN;have kR:=(hz.block (w.heap.size+1) z1).trans b2;have kb:=bstep hb hz;obtain ⟨q0,q1,q2,q3,q4,qf0,qf1,qf2,qf3,qf4⟩:=cf5 kR)
 refine bodyPost_ret (v:=.agg (uS A9 B9 C9 L9 a9 b9 c9 d9 t9)) (by simp [uS,results,Tryz.results28,go_sem,q0,q1,q2,q3,q4]) rfl ?_
 exact ret_resN _ _ _ _ _ HN.out z1 (by omega) kb
theorem lay_1 (A B C L:Option Addr) (a b c d:Nat) (s t9:Sy) (i:Int) (op pc r0 r1 r2 r3 r4 r5 r6 r7:Int) (xs:List Int) (w:World) (hs:SyFew s) (h:RS w s A B C L) (hp:pTop s i = some ⟨op,pc,[r0,r1,r2,r3,r4,r5,r6,r7],xs⟩) (h6:xs.length≤1000000) (o0:(op == 1 || op == 2) = false) (o1:(op == 3 || op == 4) = true) (HC:∀ w',RS w' s A B C L→Calls Tryz.prog 87 #[.agg (uS A B C L a b c d s),.int .i64 i] w' (RetSysN w' t9)) :
  Calls Tryz.prog 28 #[.agg (uS A B C L a b c d s),.int .i64 i] w (RetSysN w t9):=by
 have HC2:=hid HC
 clear HC
 have HO0:=hid o0
 clear o0
 have HO1:=hid o1
 clear o1
 obtain ⟨b1,b2,bs⟩:=heap2 w (.cells (uS A B C L a b c d s) 30) (.cells uZ 30)
 have hb:Below w.heap.size w ((w.alloc (.cells (uS A B C L a b c d s) 30)).alloc (.cells uZ 30)):=bstep (boxed _ _) (boxed _ _)
 have z1:w.heap.size+1 < ((w.alloc (.cells (uS A B C L a b c d s) 30)).alloc (.cells uZ 30)).heap.size:=by simp
 clear bs
 go_enter Tryz.func28,Tryz.ntmps28
 go_upto_region 1 with (fail)
 generalize ((w.alloc (.cells (uS A B C L a b c d s) 30)).alloc (.cells uZ 30)) = w1 at *
 have K:=h.step hb
 obtain ⟨p0,p1,p2,p3,p4⟩:=cells5 b1
 go_upto_region 2 with (go_at_call 25;(with_reducible refine (top_is A B C L a b c d s i op pc r0 r1 r2 r3 r4 r5 r6 r7 xs _ hs K hp h6).mono ?_);rintro e wk ⟨AF,cF,rfl,rF,hk⟩)
 clear p0 p1 p2 p3 p4
 have hj:Below w1.heap.size w1 (wk.alloc (.cells (uF op pc r0 r1 r2 r3 r4 r5 r6 r7 AF xs cF) 60)):=bstep hk (boxed _ _)
 have b3:=heap_alloc_new wk (.cells (uF op pc r0 r1 r2 r3 r4 r5 r6 r7 AF xs cF) 60)
 replace b1:=(hj.block w.heap.size (by omega)).trans b1
 replace b2:=(hj.block (w.heap.size+1) z1).trans b2
 replace K:=K.step hj
 replace hb:=bstep hb hj
 replace z1:=Nat.lt_of_lt_of_le z1 hj.size
 replace rF:=rF.alloc (.cells (uF op pc r0 r1 r2 r3 r4 r5 r6 r7 AF xs cF) 60)
 have zF:wk.heap.size < (wk.alloc (.cells (uF op pc r0 r1 r2 r3 r4 r5 r6 r7 AF xs cF) 60)).heap.size:=by simp
 clear hk hj
 obtain ⟨vF,hv⟩:∃ v,wk.heap.size = v:=⟨_,rfl⟩
 rw [hv] at b3 zF ⊢
 clear hv
 generalize (wk.alloc (.cells (uF op pc r0 r1 r2 r3 r4 r5 r6 r7 AF xs cF) 60)) = w3 at *
 have f0:=cells1 b3
 go_upto_region 3 with (go_at_call 51;(with_reducible refine (whose_1 op _ HO0.out HO1.out).mono ?_);rintro e w4 ⟨rfl,hk⟩)
 clear f0
 have hj:Below w3.heap.size w3 (w4.alloc (.cells #[.func (.func 86) #[] #[],.func (.func 87) #[] #[]] 80)):=bstep hk (boxed _ _)
 have b4:=heap_alloc_new w4 (.cells #[.func (.func 86) #[] #[],.func (.func 87) #[] #[]] 80)
 replace b1:=(hj.block w.heap.size (by omega)).trans b1
 replace b2:=(hj.block (w.heap.size+1) z1).trans b2
 replace b3:=(hj.block vF zF).trans b3
 replace K:=K.step hj
 replace hb:=bstep hb hj
 replace z1:=Nat.lt_of_lt_of_le z1 hj.size
 replace rF:=rF.step hj
 clear hk hj zF
 obtain ⟨vL,hv⟩:∃ v,w4.heap.size = v:=⟨_,rfl⟩
 rw [hv] at b4 ⊢
 clear hv
 generalize (w4.alloc (.cells #[.func (.func 86) #[] #[],.func (.func 87) #[] #[]] 80)) = w5 at *
 obtain ⟨y0,y1,y2,y3,y4⟩:=cells5 b1
 obtain ⟨f0,f1,f2,f3,f4,f5,f6,f7,f8,f9,f10⟩:=cells11 b3
 obtain ⟨l0,l1⟩:=cells2 b4
 go_wp2_with (go_at_call 87;(with_reducible refine (HC2.out _ K).mono ?_);rintro e wz hN;have hz:=hN.2;obtain ⟨A9,B9,C9,L9,a9,b9,c9,d9,he,_,_,_,_,_⟩:=hN.1 wz (Turn.refl _ _);subst he;have HN:=hid hN;clear hN;have kR:=(hz.block (w.heap.size+1) z1).trans b2;have kb:=bstep hb hz;obtain ⟨q0,q1,q2,q3,q4,qf0,qf1,qf2,qf3,qf4⟩:=cf5 kR)
 refine bodyPost_ret (v:=.agg (uS A9 B9 C9 L9 a9 b9 c9 d9 t9)) (by simp [uS,results,Tryz.results28,go_sem,q0,q1,q2,q3,q4]) rfl ?_
 exact ret_resN _ _ _ _ _ HN.out z1 (by omega) kb
theorem lay_2 (A B C L:Option Addr) (a b c d:Nat) (s t9:Sy) (i:Int) (op pc r0 r1 r2 r3 r4 r5 r6 r7:Int) (xs:List Int) (w:World) (hs:SyFew s) (h:RS w s A B C L) (hp:pTop s i = some ⟨op,pc,[r0,r1,r2,r3,r4,r5,r6,r7],xs⟩) (h6:xs.length≤1000000) (o0:(op == 1 || op == 2) = false) (o1:(op == 3 || op == 4) = false) (o2:(op == 5 || op == 6) = true) (HC:∀ w',RS w' s A B C L→Calls Tryz.prog 89 #[.agg (uS A B C L a b c d s),.int .i64 i] w' (RetSysN w' t9)) :
  Calls Tryz.prog 28 #[.agg (uS A B C L a b c d s),.int .i64 i] w (RetSysN w t9):=by
 have HC2:=hid HC
 clear HC
 have HO0:=hid o0
 clear o0
 have HO1:=hid o1
 clear o1
 have HO2:=hid o2
 clear o2
 obtain ⟨b1,b2,bs⟩:=heap2 w (.cells (uS A B C L a b c d s) 30) (.cells uZ 30)
 have hb:Below w.heap.size w ((w.alloc (.cells (uS A B C L a b c d s) 30)).alloc (.cells uZ 30)):=bstep (boxed _ _) (boxed _ _)
 have z1:w.heap.size+1 < ((w.alloc (.cells (uS A B C L a b c d s) 30)).alloc (.cells uZ 30)).heap.size:=by simp
 clear bs
 go_enter Tryz.func28,Tryz.ntmps28
 go_upto_region 1 with (fail)
 generalize ((w.alloc (.cells (uS A B C L a b c d s) 30)).alloc (.cells uZ 30)) = w1 at *
 have K:=h.step hb
 obtain ⟨p0,p1,p2,p3,p4⟩:=cells5 b1
 go_upto_region 2 with (go_at_call 25;(with_reducible refine (top_is A B C L a b c d s i op pc r0 r1 r2 r3 r4 r5 r6 r7 xs _ hs K hp h6).mono ?_);rintro e wk ⟨AF,cF,rfl,rF,hk⟩)
 clear p0 p1 p2 p3 p4
 have hj:Below w1.heap.size w1 (wk.alloc (.cells (uF op pc r0 r1 r2 r3 r4 r5 r6 r7 AF xs cF) 60)):=bstep hk (boxed _ _)
 have b3:=heap_alloc_new wk (.cells (uF op pc r0 r1 r2 r3 r4 r5 r6 r7 AF xs cF) 60)
 replace b1:=(hj.block w.heap.size (by omega)).trans b1
 replace b2:=(hj.block (w.heap.size+1) z1).trans b2
 replace K:=K.step hj
 replace hb:=bstep hb hj
 replace z1:=Nat.lt_of_lt_of_le z1 hj.size
 replace rF:=rF.alloc (.cells (uF op pc r0 r1 r2 r3 r4 r5 r6 r7 AF xs cF) 60)
 have zF:wk.heap.size < (wk.alloc (.cells (uF op pc r0 r1 r2 r3 r4 r5 r6 r7 AF xs cF) 60)).heap.size:=by simp
 clear hk hj
 obtain ⟨vF,hv⟩:∃ v,wk.heap.size = v:=⟨_,rfl⟩
 rw [hv] at b3 zF ⊢
 clear hv
 generalize (wk.alloc (.cells (uF op pc r0 r1 r2 r3 r4 r5 r6 r7 AF xs cF) 60)) = w3 at *
 have f0:=cells1 b3
 go_upto_region 3 with (go_at_call 51;(with_reducible refine (whose_2 op _ HO0.out HO1.out HO2.out).mono ?_);rintro e w4 ⟨rfl,hk⟩)
 clear f0
 have hj:Below w3.heap.size w3 (w4.alloc (.cells #[.func (.func 88) #[] #[],.func (.func 89) #[] #[]] 80)):=bstep hk (boxed _ _)
 have b4:=heap_alloc_new w4 (.cells #[.func (.func 88) #[] #[],.func (.func 89) #[] #[]] 80)
 replace b1:=(hj.block w.heap.size (by omega)).trans b1
 replace b2:=(hj.block (w.heap.size+1) z1).trans b2
 replace b3:=(hj.block vF zF).trans b3
 replace K:=K.step hj
 replace hb:=bstep hb hj
 replace z1:=Nat.lt_of_lt_of_le z1 hj.size
 replace rF:=rF.step hj
 clear hk hj zF
 obtain ⟨vL,hv⟩:∃ v,w4.heap.size = v:=⟨_,rfl⟩
 rw [hv] at b4 ⊢
 clear hv
 generalize (w4.alloc (.cells #[.func (.func 88) #[] #[],.func (.func 89) #[] #[]] 80)) = w5 at *
 obtain ⟨y0,y1,y2,y3,y4⟩:=cells5 b1
 obtain ⟨f0,f1,f2,f3,f4,f5,f6,f7,f8,f9,f10⟩:=cells11 b3
 obtain ⟨l0,l1⟩:=cells2 b4
 go_wp2_with (go_at_call 89;(with_reducible refine (HC2.out _ K).mono ?_);rintro e wz hN;have hz:=hN.2;obtain ⟨A9,B9,C9,L9,a9,b9,c9,d9,he,_,_,_,_,_⟩:=hN.1 wz (Turn.refl _ _);subst he;have HN:=hid hN;clear hN;have kR:=(hz.block (w.heap.size+1) z1).trans b2;have kb:=bstep hb hz;obtain ⟨q0,q1,q2,q3,q4,qf0,qf1,qf2,qf3,qf4⟩:=cf5 kR)
 refine bodyPost_ret (v:=.agg (uS A9 B9 C9 L9 a9 b9 c9 d9 t9)) (by simp [uS,results,Tryz.results28,go_sem,q0,q1,q2,q3,q4]) rfl ?_
 exact ret_resN _ _ _ _ _ HN.out z1 (by omega) kb
theorem lay_x (A B C L:Option Addr) (a b c d:Nat) (s:Sy) (i:Int) (op pc r0 r1 r2 r3 r4 r5 r6 r7:Int) (xs:List Int) (w:World) (hs:SyFew s) (h:RS w s A B C L) (hp:pTop s i = some ⟨op,pc,[r0,r1,r2,r3,r4,r5,r6,r7],xs⟩) (h6:xs.length≤1000000) (o0:(op == 1 || op == 2) = false) (o1:(op == 3 || op == 4) = false) (o2:(op == 5 || op == 6) = false) :
  Calls Tryz.prog 28 #[.agg (uS A B C L a b c d s),.int .i64 i] w (RetSysN w s):=by
 have HR:=pSet_top hp
 have HC:=hid (show ∀ (AF:Option Addr) (cF:Nat) w',RS w' s A B C L→Row w' AF xs→Calls Tryz.prog 50 #[.agg (uS A B C L a b c d s),.int .i64 i,.agg (uF op pc r0 r1 r2 r3 r4 r5 r6 r7 AF xs cF)] w' (RetSysN w' s) from fun AF cF w' k k2=>by have h9:=set_uN A B C L a b c d s i AF cF op pc r0 r1 r2 r3 r4 r5 r6 r7 xs w' hs k k2 h6;rw [HR] at h9;exact h9)
 clear HR
 have HC2:=HC
 clear HC
 have HO0:=hid o0
 clear o0
 have HO1:=hid o1
 clear o1
 have HO2:=hid o2
 clear o2
 obtain ⟨b1,b2,bs⟩:=heap2 w (.cells (uS A B C L a b c d s) 30) (.cells uZ 30)
 have hb:Below w.heap.size w ((w.alloc (.cells (uS A B C L a b c d s) 30)).alloc (.cells uZ 30)):=bstep (boxed _ _) (boxed _ _)
 have z1:w.heap.size+1 < ((w.alloc (.cells (uS A B C L a b c d s) 30)).alloc (.cells uZ 30)).heap.size:=by simp
 clear bs
 go_enter Tryz.func28,Tryz.ntmps28
 go_upto_region 1 with (fail)
 generalize ((w.alloc (.cells (uS A B C L a b c d s) 30)).alloc (.cells uZ 30)) = w1 at *
 have K:=h.step hb
 obtain ⟨p0,p1,p2,p3,p4⟩:=cells5 b1
 go_upto_region 2 with (go_at_call 25;(with_reducible refine (top_is A B C L a b c d s i op pc r0 r1 r2 r3 r4 r5 r6 r7 xs _ hs K hp h6).mono ?_);rintro e wk ⟨AF,cF,rfl,rF,hk⟩)
 clear p0 p1 p2 p3 p4
 have hj:Below w1.heap.size w1 (wk.alloc (.cells (uF op pc r0 r1 r2 r3 r4 r5 r6 r7 AF xs cF) 60)):=bstep hk (boxed _ _)
 have b3:=heap_alloc_new wk (.cells (uF op pc r0 r1 r2 r3 r4 r5 r6 r7 AF xs cF) 60)
 replace b1:=(hj.block w.heap.size (by omega)).trans b1
 replace b2:=(hj.block (w.heap.size+1) z1).trans b2
 replace K:=K.step hj
 replace hb:=bstep hb hj
 replace z1:=Nat.lt_of_lt_of_le z1 hj.size
 replace rF:=rF.alloc (.cells (uF op pc r0 r1 r2 r3 r4 r5 r6 r7 AF xs cF) 60)
 have zF:wk.heap.size < (wk.alloc (.cells (uF op pc r0 r1 r2 r3 r4 r5 r6 r7 AF xs cF) 60)).heap.size:=by simp
 clear hk hj
 obtain ⟨vF,hv⟩:∃ v,wk.heap.size = v:=⟨_,rfl⟩
 rw [hv] at b3 zF ⊢
 clear hv
 generalize (wk.alloc (.cells (uF op pc r0 r1 r2 r3 r4 r5 r6 r7 AF xs cF) 60)) = w3 at *
 have f0:=cells1 b3
 go_upto_region 3 with (go_at_call 51;(with_reducible refine (whose_3 op _ HO0.out HO1.out HO2.out).mono ?_);rintro e w4 ⟨rfl,hk⟩)
 clear f0
 have hj:Below w3.heap.size w3 (w4.alloc (.cells #[.nilFunc,.nilFunc] 80)):=bstep hk (boxed _ _)
 have b4:=heap_alloc_new w4 (.cells #[.nilFunc,.nilFunc] 80)
 replace b1:=(hj.block w.heap.size (by omega)).trans b1
 replace b2:=(hj.block (w.heap.size+1) z1).trans b2
 replace b3:=(hj.block vF zF).trans b3
 replace K:=K.step hj
 replace hb:=bstep hb hj
 replace z1:=Nat.lt_of_lt_of_le z1 hj.size
 replace rF:=rF.step hj
 clear hk hj zF
 obtain ⟨vL,hv⟩:∃ v,w4.heap.size = v:=⟨_,rfl⟩
 rw [hv] at b4 ⊢
 clear hv
 generalize (w4.alloc (.cells #[.nilFunc,.nilFunc] 80)) = w5 at *
 obtain ⟨y0,y1,y2,y3,y4⟩:=cells5 b1
 obtain ⟨f0,f1,f2,f3,f4,f5,f6,f7,f8,f9,f10⟩:=cells11 b3
 obtain ⟨l0,l1⟩:=cells2 b4
 go_wp2_with (go_at_call 50;(with_reducible refine (HC2.out _ _ _ K rF).mono ?_);rintro e wz hN;have hz:=hN.2;obtain ⟨A9,B9,C9,L9,a9,b9,c9,d9,he,_,_,_,_,_⟩:=hN.1 wz (Turn.refl _ _);subst he;have HN:=hid hN;clear hN;have kR:=(hz.block (w.heap.size+1) z1).trans b2;have kb:=bstep hb hz;obtain ⟨q0,q1,q2,q3,q4,qf0,qf1,qf2,qf3,qf4⟩:=cf5 kR)
 refine bodyPost_ret (v:=.agg (uS A9 B9 C9 L9 a9 b9 c9 d9 s)) (by simp [uS,results,Tryz.results28,go_sem,q0,q1,q2,q3,q4]) rfl ?_
 exact ret_resN _ _ _ _ _ HN.out z1 (by omega) kb
theorem lay_none (A B C L:Option Addr) (a b c d:Nat) (s:Sy) (i:Int) (w:World) (hs:SyFew s) (h:RS w s A B C L) (hp:pTop s i = none) :
  Calls Tryz.prog 28 #[.agg (uS A B C L a b c d s),.int .i64 i] w (RetSysN w s):=by
 have HR:=pSet_none hp ⟨0,0,[0,0,0,0,0,0,0,0],[]⟩
 have HC:=hid (show ∀ w',RS w' s A B C L→Calls Tryz.prog 50 #[.agg (uS A B C L a b c d s),.int .i64 i,.agg #[.int .i64 0,.int .i64 0,.int .i64 0,.int .i64 0,.int .i64 0,.int .i64 0,.int .i64 0,.int .i64 0,.int .i64 0,.int .i64 0,.slice none 0 0]] w' (RetSysN w' s) from fun w' k=>by have h9:=set_uN A B C L a b c d s i none 0 0 0 0 0 0 0 0 0 0 0 [] w' hs k (Row.nil _ _) (by simp);rw [HR] at h9;exact h9)
 clear HR
 have HC2:=HC
 clear HC
 have HO0:=hid (show ((0:Int) == 1 || (0:Int) == 2) = false by rfl)
 have HO1:=hid (show ((0:Int) == 3 || (0:Int) == 4) = false by rfl)
 have HO2:=hid (show ((0:Int) == 5 || (0:Int) == 6) = false by rfl)
 obtain ⟨b1,b2,bs⟩:=heap2 w (.cells (uS A B C L a b c d s) 30) (.cells uZ 30)
 have hb:Below w.heap.size w ((w.alloc (.cells (uS A B C L a b c d s) 30)).alloc (.cells uZ 30)):=bstep (boxed _ _) (boxed _ _)
 have z1:w.heap.size+1 < ((w.alloc (.cells (uS A B C L a b c d s) 30)).alloc (.cells uZ 30)).heap.size:=by simp
 clear bs
 go_enter Tryz.func28,Tryz.ntmps28
 go_upto_region 1 with (fail)
 generalize ((w.alloc (.cells (uS A B C L a b c d s) 30)).alloc (.cells uZ 30)) = w1 at *
 have K:=h.step hb
 obtain ⟨p0,p1,p2,p3,p4⟩:=cells5 b1
 go_upto_region 2 with (go_at_call 25;(with_reducible refine (top_no A B C L a b c d s i _ hs K hp).mono ?_);rintro e wk ⟨rfl,hk⟩)
 have rF:Row wk none []:=Row.nil _ _
 clear p0 p1 p2 p3 p4
 have hj:Below w1.heap.size w1 (wk.alloc (.cells #[.int .i64 0,.int .i64 0,.int .i64 0,.int .i64 0,.int .i64 0,.int .i64 0,.int .i64 0,.int .i64 0,.int .i64 0,.int .i64 0,.slice none 0 0] 60)):=bstep hk (boxed _ _)
 have b3:=heap_alloc_new wk (.cells #[.int .i64 0,.int .i64 0,.int .i64 0,.int .i64 0,.int .i64 0,.int .i64 0,.int .i64 0,.int .i64 0,.int .i64 0,.int .i64 0,.slice none 0 0] 60)
 replace b1:=(hj.block w.heap.size (by omega)).trans b1
 replace b2:=(hj.block (w.heap.size+1) z1).trans b2
 replace K:=K.step hj
 replace hb:=bstep hb hj
 replace z1:=Nat.lt_of_lt_of_le z1 hj.size
 replace rF:=rF.alloc (.cells #[.int .i64 0,.int .i64 0,.int .i64 0,.int .i64 0,.int .i64 0,.int .i64 0,.int .i64 0,.int .i64 0,.int .i64 0,.int .i64 0,.slice none 0 0] 60)
 have zF:wk.heap.size < (wk.alloc (.cells #[.int .i64 0,.int .i64 0,.int .i64 0,.int .i64 0,.int .i64 0,.int .i64 0,.int .i64 0,.int .i64 0,.int .i64 0,.int .i64 0,.slice none 0 0] 60)).heap.size:=by simp
 clear hk hj
 obtain ⟨vF,hv⟩:∃ v,wk.heap.size = v:=⟨_,rfl⟩
 rw [hv] at b3 zF ⊢
 clear hv
 generalize (wk.alloc (.cells #[.int .i64 0,.int .i64 0,.int .i64 0,.int .i64 0,.int .i64 0,.int .i64 0,.int .i64 0,.int .i64 0,.int .i64 0,.int .i64 0,.slice none 0 0] 60)) = w3 at *
 have f0:=cells1 b3
 go_upto_region 3 with (go_at_call 51;(with_reducible refine (whose_3 0 _ HO0.out HO1.out HO2.out).mono ?_);rintro e w4 ⟨rfl,hk⟩)
 clear f0
 have hj:Below w3.heap.size w3 (w4.alloc (.cells #[.nilFunc,.nilFunc] 80)):=bstep hk (boxed _ _)
 have b4:=heap_alloc_new w4 (.cells #[.nilFunc,.nilFunc] 80)
 replace b1:=(hj.block w.heap.size (by omega)).trans b1
 replace b2:=(hj.block (w.heap.size+1) z1).trans b2
 replace b3:=(hj.block vF zF).trans b3
 replace K:=K.step hj
 replace hb:=bstep hb hj
 replace z1:=Nat.lt_of_lt_of_le z1 hj.size
 replace rF:=rF.step hj
 clear hk hj zF
 obtain ⟨vL,hv⟩:∃ v,w4.heap.size = v:=⟨_,rfl⟩
 rw [hv] at b4 ⊢
 clear hv
 generalize (w4.alloc (.cells #[.nilFunc,.nilFunc] 80)) = w5 at *
 obtain ⟨y0,y1,y2,y3,y4⟩:=cells5 b1
 obtain ⟨f0,f1,f2,f3,f4,f5,f6,f7,f8,f9,f10⟩:=cells11 b3
 obtain ⟨l0,l1⟩:=cells2 b4
 go_wp2_with (go_at_call 50;(with_reducible refine (HC2.out _ K).mono ?_);rintro e wz hN;have hz:=hN.2;obtain ⟨A9,B9,C9,L9,a9,b9,c9,d9,he,_,_,_,_,_⟩:=hN.1 wz (Turn.refl _ _);subst he;have HN:=hid hN;clear hN;have kR:=(hz.block (w.heap.size+1) z1).trans b2;have kb:=bstep hb hz;obtain ⟨q0,q1,q2,q3,q4,qf0,qf1,qf2,qf3,qf4⟩:=cf5 kR)
 refine bodyPost_ret (v:=.agg (uS A9 B9 C9 L9 a9 b9 c9 d9 s)) (by simp [uS,results,Tryz.results28,go_sem,q0,q1,q2,q3,q4]) rfl ?_
 exact ret_resN _ _ _ _ _ HN.out z1 (by omega) kb
theorem scst_any (A B C L:Option Addr) (a b c d:Nat) (s:Sy) (i:Int) (w:World) (hs:SyFew s) (hg:2≤s.M.G.length) (h:RS w s A B C L) (hL:s.L.length≤999998) (hr:∀ f,pTop s i = some f→W64 (f.R.getD 0 0)) :
  Calls Tryz.prog 28 #[.agg (uS A B C L a b c d s),.int .i64 i] w (RetSysN w (pScan s i)):=by
 rcases pTop_cases s i hs h.C with hp | ⟨op,pc,r0,r1,r2,r3,r4,r5,r6,r7,xs,hp,h6⟩
 ·have e:pScan s i = s:=by unfold pScan;rw [hp]
  rw [e]
  exact lay_none A B C L a b c d s i w hs h hp
 ·by_cases o1:op = 1 ∨ op = 2
  ·have e:pScan s i = pStep s i:=by unfold pScan;rw [hp];dsimp only;rw [if_pos o1]
   rw [e]
   exact lay_0 A B C L a b c d s _ i op pc r0 r1 r2 r3 r4 r5 r6 r7 xs w hs h hp h6 (by rcases o1 with rfl | rfl <;> rfl) (fun w' h'=>step_anyN A B C L a b c d s i w' hs hg h' hL)
  ·have f1:(op == 1 || op == 2) = false:=by simpa [not_or] using o1
   by_cases o2:op = 3 ∨ op = 4
   ·have e:pScan s i = pHaz s i:=by unfold pScan;rw [hp];dsimp only;rw [if_neg o1,if_pos o2]
    rw [e]
    exact lay_1 A B C L a b c d s _ i op pc r0 r1 r2 r3 r4 r5 r6 r7 xs w hs h hp h6 f1 (by rcases o2 with rfl | rfl <;> rfl) (fun w' h'=>hstep_any A B C L a b c d s i w' hs hg h' hr)
   ·have f2:(op == 3 || op == 4) = false:=by simpa [not_or] using o2
    by_cases o5:op = 5
    ·subst o5
     have e:pScan s i = pRetire s i ⟨5,pc,[r0,r1,r2,r3,r4,r5,r6,r7],xs⟩ s:=by unfold pScan;rw [hp];dsimp only;rw [if_neg o1,if_neg o2,if_pos rfl]
     rw [e]
     obtain ⟨k,n,x,rfl,hx,_,_⟩:=pTop_out hp
     refine lay_2 A B C L a b c d s _ k 5 pc r0 r1 r2 r3 r4 r5 r6 r7 xs w hs h hp h6 f1 f2 rfl (fun w' h'=>?_)
     by_cases p0:pc = 0
     ·subst p0;exact here_r0 A B C L a b c d s k x r0 r1 r2 r3 r4 r5 r6 r7 xs w' hs hg h' h6 hx hp
     ·by_cases p1:pc = 1
      ·subst p1;exact here_r1 A B C L a b c d s k x r0 r1 r2 r3 r4 r5 r6 r7 xs w' hs hg h' h6 hx hp
      ·have e2:pRetire s k ⟨5,pc,[r0,r1,r2,r3,r4,r5,r6,r7],xs⟩ s = s:=by unfold pRetire;rw [if_neg p0,if_neg p1]
       rw [e2]
       by_cases q:pc < 0
       ·exact here_5n A B C L a b c d s k x pc r0 r1 r2 r3 r4 r5 r6 r7 xs w' hs hg h' h6 hx hp q
       ·exact here_5p A B C L a b c d s k x pc r0 r1 r2 r3 r4 r5 r6 r7 xs w' hs hg h' h6 hx hp q (by omega)
    ·by_cases o6:op = 6
     ·subst o6
      have e:pScan s i = pOScan s i ⟨6,pc,[r0,r1,r2,r3,r4,r5,r6,r7],xs⟩ s:=by unfold pScan;rw [hp];dsimp only;rw [if_neg o1,if_neg o2,if_neg o5,if_pos rfl]
      rw [e]
      obtain ⟨k,n,x,rfl,hx,_,_⟩:=pTop_out hp
      refine lay_2 A B C L a b c d s _ k 6 pc r0 r1 r2 r3 r4 r5 r6 r7 xs w hs h hp h6 f1 f2 rfl (fun w' h'=>?_)
      by_cases p0:pc = 0
      ·subst p0;exact here_s0 A B C L a b c d s k x r0 r1 r2 r3 r4 r5 r6 r7 xs w' hs hg h' h6 hx hp
      ·by_cases p1:pc = 1
       ·subst p1;exact here_s1 A B C L a b c d s k x r0 r1 r2 r3 r4 r5 r6 r7 xs w' hs hg h' h6 hx hp
       ·have e2:pOScan s k ⟨6,pc,[r0,r1,r2,r3,r4,r5,r6,r7],xs⟩ s = s:=by unfold pOScan;rw [if_neg p0,if_neg p1]
        rw [e2]
        by_cases q:pc < 0
        ·exact here_6n A B C L a b c d s k x pc r0 r1 r2 r3 r4 r5 r6 r7 xs w' hs hg h' h6 hx hp q
        ·exact here_6p A B C L a b c d s k x pc r0 r1 r2 r3 r4 r5 r6 r7 xs w' hs hg h' h6 hx hp q (by omega)
     ·have e:pScan s i = s:=by unfold pScan;rw [hp];dsimp only;rw [if_neg o1,if_neg o2,if_neg o5,if_neg o6]
      rw [e]
      exact lay_x A B C L a b c d s i op pc r0 r1 r2 r3 r4 r5 r6 r7 xs w hs h hp h6 f1 f2 (by simp [o5,o6])
end Go.Proofs.YtfipcdhodojodaaGreat
