/- Contract: a step of a core, by the document's layer 5. -/
import Derived.Test.YtfipcdhodojodaaGreatHaz7
import Derived.Test.YtfipcdhodojodaaGreatMHN
namespace Go.Proofs.YtfipcdhodojodaaGreat
open Go.RowKit
set_option maxRecDepth 100000
set_option maxHeartbeats 4000000
set_option linter.unusedVariables false
set_option linter.unusedSimpArgs false
theorem rhstep_none (A B C L:Option Addr) (a b c d:Nat) (s:Sy) (i:Int) (w:World) (hs:SyFew s) (hg:2≤s.M.G.length) (h:RS w s A B C L) (hF:∀ x ∈ s.C,x.F.length≤999999) (hp:pTop s i = none) :
  Calls Tryz.prog 61 #[.agg (uS A B C L a b c d s),.int .i64 i] w (RetSys w s):=by
 obtain ⟨b1,b2,bs⟩:=heap2 w (.cells (uS A B C L a b c d s) 30) (.cells uZ 30)
 have hb:Below w.heap.size w ((w.alloc (.cells (uS A B C L a b c d s) 30)).alloc (.cells uZ 30)):=bstep (boxed _ _) (boxed _ _)
 have z1:w.heap.size+1 < ((w.alloc (.cells (uS A B C L a b c d s) 30)).alloc (.cells uZ 30)).heap.size:=by simp
 clear bs
 go_enter Tryz.func61,Tryz.ntmps61
 go_upto_region 1 with (fail)
 generalize ((w.alloc (.cells (uS A B C L a b c d s) 30)).alloc (.cells uZ 30)) = w1 at *
 have K:=h.step hb
 obtain ⟨p0,p1,p2,p3,p4⟩:=cells5 b1
 go_upto_region 2 with (go_at_call 39;(with_reducible refine (rtop_no A B C L a b c d s i _ hs K hp).mono ?_);rintro e wk ⟨rfl,hk⟩)
 have rF:Row wk none []:=Row.nil _ _
 clear p0 p1 p2 p3 p4
 have hj:Below w1.heap.size w1 (wk.alloc (.cells #[.int .i64 0,.int .i64 0,.int .i64 0,.int .i64 0,.int .i64 0,.int .i64 0,.int .i64 0,.int .i64 0,.int .i64 0,.int .i64 0,.slice none 0 0] 60)):=bstep hk (boxed _ _)
 have b3:=heap_alloc_new wk (.cells #[.int .i64 0,.int .i64 0,.int .i64 0,.int .i64 0,.int .i64 0,.int .i64 0,.int .i64 0,.int .i64 0,.int .i64 0,.int .i64 0,.slice none 0 0] 60)
 replace b1:=(hj.block w.heap.size (by omega)).trans b1
 replace b2:=(hj.block (w.heap.size+1) z1).trans b2
 replace K:=K.step hj
 replace hb:=bstep hb hj
 replace z1:=Nat.lt_of_lt_of_le z1 hj.size
 replace rF:=rF.alloc (.cells #[.int .i64 0,.int .i64 0,.int .i64 0,.int .i64 0,.int .i64 0,.int .i64 0,.int .i64 0,.int .i64 0,.int .i64 0,.int .i64 0,.slice none 0 0] 60)
 clear hk hj
 obtain ⟨vF,hv⟩:∃ v,wk.heap.size = v:=⟨_,rfl⟩
 rw [hv] at b3 ⊢
 clear hv
 generalize (wk.alloc (.cells #[.int .i64 0,.int .i64 0,.int .i64 0,.int .i64 0,.int .i64 0,.int .i64 0,.int .i64 0,.int .i64 0,.int .i64 0,.int .i64 0,.slice none 0 0] 60)) = w3 at *
 obtain ⟨p0,p1,p2,p3,p4⟩:=cells5 b1
 obtain ⟨f0,f1,f2,f3,f4,f5,f6,f7,f8,f9,f10⟩:=cells11 b3
 obtain ⟨q0,q1,q2,q3,q4,qf0,qf1,qf2,qf3,qf4⟩:=cf5 b2
 go_wp2_with fail
 refine bodyPost_ret (v:=.agg (uS A B C L a b c d s)) (by simp [uS,results,Tryz.results61,go_sem,q0,q1,q2,q3,q4]) rfl ?_
 exact ret_resV (by omega) b2 hb K.W K.G K.C K.L
theorem rhstep_x (A B C L:Option Addr) (a b c d:Nat) (s:Sy) (i:Int) (op pc r0 r1 r2 r3 r4 r5 r6 r7:Int) (xs:List Int) (w:World) (hs:SyFew s) (hg:2≤s.M.G.length) (h:RS w s A B C L) (hF:∀ x ∈ s.C,x.F.length≤999999) (hp:pTop s i = some ⟨op,pc,[r0,r1,r2,r3,r4,r5,r6,r7],xs⟩) (h6:xs.length≤1000000) (o1:¬ op = 3) (o2:¬ op = 4) :
  Calls Tryz.prog 61 #[.agg (uS A B C L a b c d s),.int .i64 i] w (RetSys w s):=by
 have e1:(op == 3) = false:=by simpa using o1
 have e2:(op != 4) = true:=by simpa using o2
 clear o1 o2
 obtain ⟨b1,b2,bs⟩:=heap2 w (.cells (uS A B C L a b c d s) 30) (.cells uZ 30)
 have hb:Below w.heap.size w ((w.alloc (.cells (uS A B C L a b c d s) 30)).alloc (.cells uZ 30)):=bstep (boxed _ _) (boxed _ _)
 have z1:w.heap.size+1 < ((w.alloc (.cells (uS A B C L a b c d s) 30)).alloc (.cells uZ 30)).heap.size:=by simp
 clear bs
 go_enter Tryz.func61,Tryz.ntmps61
 go_upto_region 1 with (fail)
 generalize ((w.alloc (.cells (uS A B C L a b c d s) 30)).alloc (.cells uZ 30)) = w1 at *
 have K:=h.step hb
 obtain ⟨p0,p1,p2,p3,p4⟩:=cells5 b1
 go_upto_region 2 with (go_at_call 39;(with_reducible refine (rtop_is A B C L a b c d s i op pc r0 r1 r2 r3 r4 r5 r6 r7 xs _ hs K hp h6).mono ?_);rintro e wk ⟨AF,cF,rfl,rF,hk⟩)
 clear p0 p1 p2 p3 p4
 have hj:Below w1.heap.size w1 (wk.alloc (.cells (uF op pc r0 r1 r2 r3 r4 r5 r6 r7 AF xs cF) 60)):=bstep hk (boxed _ _)
 have b3:=heap_alloc_new wk (.cells (uF op pc r0 r1 r2 r3 r4 r5 r6 r7 AF xs cF) 60)
 replace b1:=(hj.block w.heap.size (by omega)).trans b1
 replace b2:=(hj.block (w.heap.size+1) z1).trans b2
 replace K:=K.step hj
 replace hb:=bstep hb hj
 replace z1:=Nat.lt_of_lt_of_le z1 hj.size
 replace rF:=rF.alloc (.cells (uF op pc r0 r1 r2 r3 r4 r5 r6 r7 AF xs cF) 60)
 clear hk hj
 obtain ⟨vF,hv⟩:∃ v,wk.heap.size = v:=⟨_,rfl⟩
 rw [hv] at b3 ⊢
 clear hv
 generalize (wk.alloc (.cells (uF op pc r0 r1 r2 r3 r4 r5 r6 r7 AF xs cF) 60)) = w3 at *
 obtain ⟨p0,p1,p2,p3,p4⟩:=cells5 b1
 obtain ⟨f0,f1,f2,f3,f4,f5,f6,f7,f8,f9,f10⟩:=cells11 b3
 obtain ⟨q0,q1,q2,q3,q4,qf0,qf1,qf2,qf3,qf4⟩:=cf5 b2
 go_wp2_with fail
 refine bodyPost_ret (v:=.agg (uS A B C L a b c d s)) (by simp [uS,results,Tryz.results61,go_sem,q0,q1,q2,q3,q4]) rfl ?_
 exact ret_resV (by omega) b2 hb K.W K.G K.C K.L
theorem rhstep_prot (A B C L:Option Addr) (a b c d:Nat) (s:Sy) (i:Int) (pc r0 r1 r2 r3 r4 r5 r6 r7:Int) (xs:List Int) (w:World) (hs:SyFew s) (hg:2≤s.M.G.length) (h:RS w s A B C L) (hF:∀ x ∈ s.C,x.F.length≤999999) (hp:pTop s i = some ⟨3,pc,[r0,r1,r2,r3,r4,r5,r6,r7],xs⟩) (h6:xs.length≤1000000) :
  Calls Tryz.prog 61 #[.agg (uS A B C L a b c d s),.int .i64 i] w (RetSys w (pProt s i ⟨3,pc,[r0,r1,r2,r3,r4,r5,r6,r7],xs⟩ s)):=by
 have HC:=hid (show ∀ (AF:Option Addr) (cF:Nat) w',RS w' s A B C L→Row w' AF xs→Calls Tryz.prog 77 #[.agg (uS A B C L a b c d s),.int .i64 i,.agg (uF 3 pc r0 r1 r2 r3 r4 r5 r6 r7 AF xs cF)] w' (RetSys w' (pProt s i ⟨3,pc,[r0,r1,r2,r3,r4,r5,r6,r7],xs⟩ s)) from fun AF cF w' k k2=>rprot_any A B C L a b c d s i AF cF 3 pc r0 r1 r2 r3 r4 r5 r6 r7 xs s w' hs hg k k2 h6 hF rfl)
 obtain ⟨t9,ht9⟩:∃ t,t = pProt s i ⟨3,pc,[r0,r1,r2,r3,r4,r5,r6,r7],xs⟩ s:=⟨_,rfl⟩
 rw [← ht9] at HC ⊢
 clear ht9
 obtain ⟨b1,b2,bs⟩:=heap2 w (.cells (uS A B C L a b c d s) 30) (.cells uZ 30)
 have hb:Below w.heap.size w ((w.alloc (.cells (uS A B C L a b c d s) 30)).alloc (.cells uZ 30)):=bstep (boxed _ _) (boxed _ _)
 have z1:w.heap.size+1 < ((w.alloc (.cells (uS A B C L a b c d s) 30)).alloc (.cells uZ 30)).heap.size:=by simp
 clear bs
 go_enter Tryz.func61,Tryz.ntmps61
 go_upto_region 1 with (fail)
 generalize ((w.alloc (.cells (uS A B C L a b c d s) 30)).alloc (.cells uZ 30)) = w1 at *
 have K:=h.step hb
 obtain ⟨p0,p1,p2,p3,p4⟩:=cells5 b1
 go_upto_region 2 with (go_at_call 39;(with_reducible refine (rtop_is A B C L a b c d s i 3 pc r0 r1 r2 r3 r4 r5 r6 r7 xs _ hs K hp h6).mono ?_);rintro e wk ⟨AF,cF,rfl,rF,hk⟩)
 clear p0 p1 p2 p3 p4
 have hj:Below w1.heap.size w1 (wk.alloc (.cells (uF 3 pc r0 r1 r2 r3 r4 r5 r6 r7 AF xs cF) 60)):=bstep hk (boxed _ _)
 have b3:=heap_alloc_new wk (.cells (uF 3 pc r0 r1 r2 r3 r4 r5 r6 r7 AF xs cF) 60)
 replace b1:=(hj.block w.heap.size (by omega)).trans b1
 replace b2:=(hj.block (w.heap.size+1) z1).trans b2
 replace K:=K.step hj
 replace hb:=bstep hb hj
 replace z1:=Nat.lt_of_lt_of_le z1 hj.size
 replace rF:=rF.alloc (.cells (uF 3 pc r0 r1 r2 r3 r4 r5 r6 r7 AF xs cF) 60)
 clear hk hj
 obtain ⟨vF,hv⟩:∃ v,wk.heap.size = v:=⟨_,rfl⟩
 rw [hv] at b3 ⊢
 clear hv
 generalize (wk.alloc (.cells (uF 3 pc r0 r1 r2 r3 r4 r5 r6 r7 AF xs cF) 60)) = w3 at *
 obtain ⟨p0,p1,p2,p3,p4⟩:=cells5 b1
 obtain ⟨f0,f1,f2,f3,f4,f5,f6,f7,f8,f9,f10⟩:=cells11 b3
 go_wp2_with (go_at_call 77;(with_reducible refine (HC.out AF cF _ K rF).mono ?_);rintro e wz ⟨A9,B9,C9,L9,a9,b9,c9,d9,rfl,rW,rG,rC,rL,hz⟩;have kR:=(hz.block (w.heap.size+1) z1).trans b2;have kb:=bstep hb hz;obtain ⟨q0,q1,q2,q3,q4,qf0,qf1,qf2,qf3,qf4⟩:=cf5 kR)
 refine bodyPost_ret (v:=.agg (uS A9 B9 C9 L9 a9 b9 c9 d9 t9)) (by simp [uS,results,Tryz.results61,go_sem,q0,q1,q2,q3,q4]) rfl ?_
 exact ret_resV (by omega) kR kb rW rG rC rL
theorem rhstep_lo (A B C L:Option Addr) (a b c d:Nat) (s:Sy) (i:Int) (pc r0 r1 r2 r3 r4 r5 r6 r7:Int) (xs:List Int) (w:World) (hs:SyFew s) (hg:2≤s.M.G.length) (h:RS w s A B C L) (hF:∀ x ∈ s.C,x.F.length≤999999) (hp:pTop s i = some ⟨4,pc,[r0,r1,r2,r3,r4,r5,r6,r7],xs⟩) (h6:xs.length≤1000000) (q:pc < 0) :
  Calls Tryz.prog 61 #[.agg (uS A B C L a b c d s),.int .i64 i] w (RetSys w s):=by
 have e1:decide (pc < 0) = true:=by simpa using q
 obtain ⟨b1,b2,bs⟩:=heap2 w (.cells (uS A B C L a b c d s) 30) (.cells uZ 30)
 have hb:Below w.heap.size w ((w.alloc (.cells (uS A B C L a b c d s) 30)).alloc (.cells uZ 30)):=bstep (boxed _ _) (boxed _ _)
 have z1:w.heap.size+1 < ((w.alloc (.cells (uS A B C L a b c d s) 30)).alloc (.cells uZ 30)).heap.size:=by simp
 clear bs
 go_enter Tryz.func61,Tryz.ntmps61
 go_upto_region 1 with (fail)
 generalize ((w.alloc (.cells (uS A B C L a b c d s) 30)).alloc (.cells uZ 30)) = w1 at *
 have K:=h.step hb
 obtain ⟨p0,p1,p2,p3,p4⟩:=cells5 b1
 go_upto_region 2 with (go_at_call 39;(with_reducible refine (rtop_is A B C L a b c d s i 4 pc r0 r1 r2 r3 r4 r5 r6 r7 xs _ hs K hp h6).mono ?_);rintro e wk ⟨AF,cF,rfl,rF,hk⟩)
 clear p0 p1 p2 p3 p4
 have hj:Below w1.heap.size w1 (wk.alloc (.cells (uF 4 pc r0 r1 r2 r3 r4 r5 r6 r7 AF xs cF) 60)):=bstep hk (boxed _ _)
 have b3:=heap_alloc_new wk (.cells (uF 4 pc r0 r1 r2 r3 r4 r5 r6 r7 AF xs cF) 60)
 replace b1:=(hj.block w.heap.size (by omega)).trans b1
 replace b2:=(hj.block (w.heap.size+1) z1).trans b2
 replace K:=K.step hj
 replace hb:=bstep hb hj
 replace z1:=Nat.lt_of_lt_of_le z1 hj.size
 replace rF:=rF.alloc (.cells (uF 4 pc r0 r1 r2 r3 r4 r5 r6 r7 AF xs cF) 60)
 clear hk hj
 obtain ⟨vF,hv⟩:∃ v,wk.heap.size = v:=⟨_,rfl⟩
 rw [hv] at b3 ⊢
 clear hv
 generalize (wk.alloc (.cells (uF 4 pc r0 r1 r2 r3 r4 r5 r6 r7 AF xs cF) 60)) = w3 at *
 obtain ⟨p0,p1,p2,p3,p4⟩:=cells5 b1
 obtain ⟨f0,f1,f2,f3,f4,f5,f6,f7,f8,f9,f10⟩:=cells11 b3
 obtain ⟨q0,q1,q2,q3,q4,qf0,qf1,qf2,qf3,qf4⟩:=cf5 b2
 go_wp2_with fail
 refine bodyPost_ret (v:=.agg (uS A B C L a b c d s)) (by simp [uS,results,Tryz.results61,go_sem,q0,q1,q2,q3,q4]) rfl ?_
 exact ret_resV (by omega) b2 hb K.W K.G K.C K.L
theorem rhstep_hi (A B C L:Option Addr) (a b c d:Nat) (s:Sy) (i:Int) (pc r0 r1 r2 r3 r4 r5 r6 r7:Int) (xs:List Int) (w:World) (hs:SyFew s) (hg:2≤s.M.G.length) (h:RS w s A B C L) (hF:∀ x ∈ s.C,x.F.length≤999999) (hp:pTop s i = some ⟨4,pc,[r0,r1,r2,r3,r4,r5,r6,r7],xs⟩) (h6:xs.length≤1000000) (q:2 < pc) :
  Calls Tryz.prog 61 #[.agg (uS A B C L a b c d s),.int .i64 i] w (RetSys w s):=by
 have e1:decide (pc < 0) = false:=by simp;omega
 have e2:decide (2 < pc) = true:=by simpa using q
 obtain ⟨b1,b2,bs⟩:=heap2 w (.cells (uS A B C L a b c d s) 30) (.cells uZ 30)
 have hb:Below w.heap.size w ((w.alloc (.cells (uS A B C L a b c d s) 30)).alloc (.cells uZ 30)):=bstep (boxed _ _) (boxed _ _)
 have z1:w.heap.size+1 < ((w.alloc (.cells (uS A B C L a b c d s) 30)).alloc (.cells uZ 30)).heap.size:=by simp
 clear bs
 go_enter Tryz.func61,Tryz.ntmps61
 go_upto_region 1 with (fail)
 generalize ((w.alloc (.cells (uS A B C L a b c d s) 30)).alloc (.cells uZ 30)) = w1 at *
 have K:=h.step hb
 obtain ⟨p0,p1,p2,p3,p4⟩:=cells5 b1
 go_upto_region 2 with (go_at_call 39;(with_reducible refine (rtop_is A B C L a b c d s i 4 pc r0 r1 r2 r3 r4 r5 r6 r7 xs _ hs K hp h6).mono ?_);rintro e wk ⟨AF,cF,rfl,rF,hk⟩)
 clear p0 p1 p2 p3 p4
 have hj:Below w1.heap.size w1 (wk.alloc (.cells (uF 4 pc r0 r1 r2 r3 r4 r5 r6 r7 AF xs cF) 60)):=bstep hk (boxed _ _)
 have b3:=heap_alloc_new wk (.cells (uF 4 pc r0 r1 r2 r3 r4 r5 r6 r7 AF xs cF) 60)
 replace b1:=(hj.block w.heap.size (by omega)).trans b1
 replace b2:=(hj.block (w.heap.size+1) z1).trans b2
 replace K:=K.step hj
 replace hb:=bstep hb hj
 replace z1:=Nat.lt_of_lt_of_le z1 hj.size
 replace rF:=rF.alloc (.cells (uF 4 pc r0 r1 r2 r3 r4 r5 r6 r7 AF xs cF) 60)
 clear hk hj
 obtain ⟨vF,hv⟩:∃ v,wk.heap.size = v:=⟨_,rfl⟩
 rw [hv] at b3 ⊢
 clear hv
 generalize (wk.alloc (.cells (uF 4 pc r0 r1 r2 r3 r4 r5 r6 r7 AF xs cF) 60)) = w3 at *
 obtain ⟨p0,p1,p2,p3,p4⟩:=cells5 b1
 obtain ⟨f0,f1,f2,f3,f4,f5,f6,f7,f8,f9,f10⟩:=cells11 b3
 obtain ⟨q0,q1,q2,q3,q4,qf0,qf1,qf2,qf3,qf4⟩:=cf5 b2
 go_wp2_with fail
 refine bodyPost_ret (v:=.agg (uS A B C L a b c d s)) (by simp [uS,results,Tryz.results61,go_sem,q0,q1,q2,q3,q4]) rfl ?_
 exact ret_resV (by omega) b2 hb K.W K.G K.C K.L
theorem rhstep_c0 (A B C L:Option Addr) (a b c d:Nat) (s:Sy) (i:Int) (r0 r1 r2 r3 r4 r5 r6 r7:Int) (xs:List Int) (w:World) (hs:SyFew s) (hg:2≤s.M.G.length) (h:RS w s A B C L) (hF:∀ x ∈ s.C,x.F.length≤999999) (hp:pTop s i = some ⟨4,0,[r0,r1,r2,r3,r4,r5,r6,r7],xs⟩) (h6:xs.length≤1000000) :
  Calls Tryz.prog 61 #[.agg (uS A B C L a b c d s),.int .i64 i] w (RetSys w (pClr s i ⟨4,0,[r0,r1,r2,r3,r4,r5,r6,r7],xs⟩ s)):=by
 obtain ⟨s2,hs2⟩:∃ t,t = syMem s (mStore s.M (pPlace i 0) 0):=⟨_,rfl⟩
 have HS2:=hid hs2
 have hst:=mStore_len s.M (pPlace i 0) 0
 have fw:SyFew s2:=by rw [hs2];exact few_mem hs hst.1 (congrArg List.length hst.2)
 have HC:=hid (show ∀ w',Row w' A s.M.W→Row w' B s.M.G→Calls Tryz.prog 11 #[.agg #[.slice A s.M.W.length a,.slice B s.M.G.length b,.bool s.M.bad],.int .i64 (pPlace i 0),.int .i64 0] w' (RetMemO w' A B s2.M) from fun w' k1 k2=>by have h9:=rstore_o A B a b s.M (pPlace i 0) 0 w' k1 k2 hs.1 hs.2.1 (by omega);rw [hs2];exact h9)
 have es2:syMem s s2.M = s2:=by rw [hs2];rfl
 have ES:=hid es2
 have hres:pClr s i ⟨4,0,[r0,r1,r2,r3,r4,r5,r6,r7],xs⟩ s = (pSet s2 i ⟨4,1,[r0,r1,r2,r3,r4,r5,r6,r7],xs⟩):=by rw [hs2];rfl
 rw [hres]
 clear hres hs2 es2 hst
 obtain ⟨b1,b2q,bs⟩:=heap2 w (.cells (uS A B C L a b c d s) 30) (.cells uZ 30)
 have hb:Below w.heap.size w ((w.alloc (.cells (uS A B C L a b c d s) 30)).alloc (.cells uZ 30)):=bstep (boxed _ _) (boxed _ _)
 have z1:w.heap.size+1 < ((w.alloc (.cells (uS A B C L a b c d s) 30)).alloc (.cells uZ 30)).heap.size:=by simp
 clear bs
 go_enter Tryz.func61,Tryz.ntmps61
 go_upto_region 1 with (fail)
 generalize ((w.alloc (.cells (uS A B C L a b c d s) 30)).alloc (.cells uZ 30)) = w1 at *
 have K:=h.step hb
 obtain ⟨p0,p1,p2,p3,p4⟩:=cells5 b1
 go_upto_region 2 with (go_at_call 39;(with_reducible refine (rtop_is A B C L a b c d s i 4 0 r0 r1 r2 r3 r4 r5 r6 r7 xs _ hs K hp h6).mono ?_);rintro e wk ⟨AF,cF,rfl,rF,hk⟩)
 clear p0 p1 p2 p3 p4
 have hj:Below w1.heap.size w1 (wk.alloc (.cells (uF 4 0 r0 r1 r2 r3 r4 r5 r6 r7 AF xs cF) 60)):=bstep hk (boxed _ _)
 have b3:=heap_alloc_new wk (.cells (uF 4 0 r0 r1 r2 r3 r4 r5 r6 r7 AF xs cF) 60)
 replace b1:=(hj.block w.heap.size (by omega)).trans b1
 replace b2q:=(hj.block (w.heap.size+1) z1).trans b2q
 replace K:=K.step hj
 replace hb:=bstep hb hj
 replace z1:=Nat.lt_of_lt_of_le z1 hj.size
 replace rF:=rF.alloc (.cells (uF 4 0 r0 r1 r2 r3 r4 r5 r6 r7 AF xs cF) 60)
 clear hk hj
 obtain ⟨vF,hv⟩:∃ v,wk.heap.size = v:=⟨_,rfl⟩
 rw [hv] at b3 ⊢
 clear hv
 generalize (wk.alloc (.cells (uF 4 0 r0 r1 r2 r3 r4 r5 r6 r7 AF xs cF) 60)) = w3 at *
 obtain ⟨p0,p1,p2,p3,p4⟩:=cells5 b1
 obtain ⟨f0,f1,f2,f3,f4,f5,f6,f7,f8,f9,f10⟩:=cells11 b3
 have zF:vF < w3.heap.size:=(Array.getElem?_eq_some_iff.1 b3).1
 have z0:w.heap.size < w3.heap.size:=by omega
 go_upto_region 6 with (fail)
 go_cut [7] from 49 (fun y7 wx=>∃ (vM:Nat) (A2 B2:Option Addr) (a2 b2:Nat),y7 = .pointer (some ⟨vM,0,none⟩)∧wx.heap[vM]? = some (.cells #[.slice A2 s2.M.W.length a2,.slice B2 s2.M.G.length b2,.bool s2.M.bad] 26 (0,0))∧Row wx A2 s2.M.W∧Row wx B2 s2.M.G∧Below w3.heap.size w3 wx)
 case first =>
  have KS:=hid (show ∀ w',Turn (fun b=>w3.heap.size≤b) w3 w'→(w'.cell? ⟨w.heap.size,0,none⟩ = some (.slice A s.M.W.length a)∧w'.cell? ⟨w.heap.size,1,none⟩ = some (.slice B s.M.G.length b)∧w'.cell? ⟨w.heap.size,2,none⟩ = some (.bool s.M.bad)∧w'.cell? ⟨vF,1,none⟩ = some (.int .i64 0)) from fun w' h=>⟨(h.cell z0 (by omega)).trans p0,(h.cell z0 (by omega)).trans p1,(h.cell z0 (by omega)).trans p2,(h.cell zF (by omega)).trans f1⟩)
  go_region_held3 (fun w'=>w'.cell? ⟨w.heap.size,0,none⟩ = some (.slice A s.M.W.length a)∧w'.cell? ⟨w.heap.size,1,none⟩ = some (.slice B s.M.G.length b)∧w'.cell? ⟨w.heap.size,2,none⟩ = some (.bool s.M.bad)∧w'.cell? ⟨vF,1,none⟩ = some (.int .i64 0)) (exact KS.out _ (by repeat (first | (with_reducible exact Turn.refl _ _) | (with_reducible refine Turn.set ?_ (by first | (simp;done) | (simp;omega) | (have h9:=hk9.size;simp at h9 ⊢;omega)) _ _) | (with_reducible refine Turn.drew ?_) | (with_reducible refine Turn.alloc ?_ _) | (with_reducible refine Turn.below ?_ hk9))))
   (first | (go_at_call 12;(with_reducible refine (rplace_w _ _ _).mono ?_);rintro e wq ⟨rfl,rfl⟩) | (go_at_call 11;(with_reducible refine (HC.out _ (K.W.step (by repeat (first | (with_reducible exact Below.refl _ _) | (with_reducible refine Below.drew ?_) | (with_reducible refine bstep ?_ (boxed _ _))))) (K.G.step (by repeat (first | (with_reducible exact Below.refl _ _) | (with_reducible refine Below.drew ?_) | (with_reducible refine bstep ?_ (boxed _ _)))))).mono ?_);rintro e w9 ⟨A2,B2,a2,b2,rfl,s1,s3,hk9,F1,F2⟩;have hj9:Below w3.heap.size w3 w9:=bstep (by repeat (first | (with_reducible exact Below.refl _ _) | (with_reducible refine Below.drew ?_) | (with_reducible refine bstep ?_ (boxed _ _)))) hk9;obtain ⟨gc,gf⟩:=bcell hk9;have hz10:=hk9.size;simp at hz10))
  all_goals go_wp2_with fail
  all_goals go_meet
  all_goals first
   | exact ⟨_,A2,B2,a2,b2,rfl,heap_alloc_new _ _,s1.alloc _,s3.alloc _,bstep hj9 (boxed _ _)⟩
   | exact ⟨_,A2,B2,a2,b2,rfl,set3 (show w9.heap[w3.heap.size]? = some (.cells #[.slice none 0 0,.slice none 0 0,.bool false] 26 (0,0)) from (hk9.block _ (by simp)).trans (heap_alloc_new _ _)),s1.far3 (show w9.heap[w3.heap.size]? = some (.cells #[.slice none 0 0,.slice none 0 0,.bool false] 26 (0,0)) from (hk9.block _ (by simp)).trans (heap_alloc_new _ _)) _ _ _,s3.far3 (show w9.heap[w3.heap.size]? = some (.cells #[.slice none 0 0,.slice none 0 0,.bool false] 26 (0,0)) from (hk9.block _ (by simp)).trans (heap_alloc_new _ _)) _ _ _,below_set3 hj9 _ _ _⟩
 case rest =>
  clear p0 p1 p2 p3 p4 f0 f1 f2 f3 f4 f5 f6 f7 f8 f9 f10
  obtain ⟨vM,A2,B2,a2,b2,rfl,bM,s1,s3,hj⟩:=hcut
  replace b1:=(hj.block w.heap.size z0).trans b1
  replace b2q:=(hj.block (w.heap.size+1) z1).trans b2q
  replace b3:=(hj.block vF zF).trans b3
  replace K:=K.step hj
  replace hb:=bstep hb hj
  replace z1:=Nat.lt_of_lt_of_le z1 hj.size
  replace rF:=rF.step hj
  clear hj
  obtain ⟨p0,p1,p2,p3,p4⟩:=cells5 b1
  obtain ⟨f0,f1,f2,f3,f4,f5,f6,f7,f8,f9,f10⟩:=cells11 b3
  obtain ⟨x0,x1,x2⟩:=cells3 bM
  have HO:=hid (show Calls Tryz.prog 78 #[.agg (uS A B C L a b c d s),.int .i64 i,.agg #[.slice A2 s2.M.W.length a2,.slice B2 s2.M.G.length b2,.bool s2.M.bad],.agg (uF 4 0 r0 r1 r2 r3 r4 r5 r6 r7 AF xs cF),.int .i64 1] wc (RetSys wc (pSet s2 i ⟨4,1,[r0,r1,r2,r3,r4,r5,r6,r7],xs⟩)) by have h9:=on_any A B C L A2 B2 a b c d a2 b2 s s2.M i AF cF 4 0 r0 r1 r2 r3 r4 r5 r6 r7 xs 1 wc (by rw [ES.out];exact fw) hF K s1 s3 rF;rw [ES.out] at h9;exact h9)
  go_wp2_with (go_at_call 78;(with_reducible refine (HO.out).mono ?_);rintro e wz ⟨A9,B9,C9,L9,a9,b9,c9,d9,rfl,rW,rG,rC,rL,hz⟩;have kR:=(hz.block (w.heap.size+1) z1).trans b2q;have kb:=bstep hb hz;obtain ⟨q0,q1,q2,q3,q4,qf0,qf1,qf2,qf3,qf4⟩:=cf5 kR)
  refine bodyPost_ret (v:=.agg (uS A9 B9 C9 L9 a9 b9 c9 d9 (pSet s2 i ⟨4,1,[r0,r1,r2,r3,r4,r5,r6,r7],xs⟩))) (by simp [uS,results,Tryz.results61,go_sem,q0,q1,q2,q3,q4]) rfl ?_
  exact ret_resV (by omega) kR kb rW rG rC rL
theorem rhstep_c1 (A B C L:Option Addr) (a b c d:Nat) (s:Sy) (i:Int) (r0 r1 r2 r3 r4 r5 r6 r7:Int) (xs:List Int) (w:World) (hs:SyFew s) (hg:2≤s.M.G.length) (h:RS w s A B C L) (hF:∀ x ∈ s.C,x.F.length≤999999) (hp:pTop s i = some ⟨4,1,[r0,r1,r2,r3,r4,r5,r6,r7],xs⟩) (h6:xs.length≤1000000) :
  Calls Tryz.prog 61 #[.agg (uS A B C L a b c d s),.int .i64 i] w (RetSys w (pClr s i ⟨4,1,[r0,r1,r2,r3,r4,r5,r6,r7],xs⟩ s)):=by
 obtain ⟨s2,hs2⟩:∃ t,t = syMem s (mStore s.M (pPlace i 1) 0):=⟨_,rfl⟩
 have HS2:=hid hs2
 have hst:=mStore_len s.M (pPlace i 1) 0
 have fw:SyFew s2:=by rw [hs2];exact few_mem hs hst.1 (congrArg List.length hst.2)
 have HC:=hid (show ∀ w',Row w' A s.M.W→Row w' B s.M.G→Calls Tryz.prog 11 #[.agg #[.slice A s.M.W.length a,.slice B s.M.G.length b,.bool s.M.bad],.int .i64 (pPlace i 1),.int .i64 0] w' (RetMemO w' A B s2.M) from fun w' k1 k2=>by have h9:=rstore_o A B a b s.M (pPlace i 1) 0 w' k1 k2 hs.1 hs.2.1 (by omega);rw [hs2];exact h9)
 have es2:syMem s s2.M = s2:=by rw [hs2];rfl
 have ES:=hid es2
 have hres:pClr s i ⟨4,1,[r0,r1,r2,r3,r4,r5,r6,r7],xs⟩ s = (pSet s2 i ⟨4,2,[r0,r1,r2,r3,r4,r5,r6,r7],xs⟩):=by rw [hs2];rfl
 rw [hres]
 clear hres hs2 es2 hst
 obtain ⟨b1,b2q,bs⟩:=heap2 w (.cells (uS A B C L a b c d s) 30) (.cells uZ 30)
 have hb:Below w.heap.size w ((w.alloc (.cells (uS A B C L a b c d s) 30)).alloc (.cells uZ 30)):=bstep (boxed _ _) (boxed _ _)
 have z1:w.heap.size+1 < ((w.alloc (.cells (uS A B C L a b c d s) 30)).alloc (.cells uZ 30)).heap.size:=by simp
 clear bs
 go_enter Tryz.func61,Tryz.ntmps61
 go_upto_region 1 with (fail)
 generalize ((w.alloc (.cells (uS A B C L a b c d s) 30)).alloc (.cells uZ 30)) = w1 at *
 have K:=h.step hb
 obtain ⟨p0,p1,p2,p3,p4⟩:=cells5 b1
 go_upto_region 2 with (go_at_call 39;(with_reducible refine (rtop_is A B C L a b c d s i 4 1 r0 r1 r2 r3 r4 r5 r6 r7 xs _ hs K hp h6).mono ?_);rintro e wk ⟨AF,cF,rfl,rF,hk⟩)
 clear p0 p1 p2 p3 p4
 have hj:Below w1.heap.size w1 (wk.alloc (.cells (uF 4 1 r0 r1 r2 r3 r4 r5 r6 r7 AF xs cF) 60)):=bstep hk (boxed _ _)
 have b3:=heap_alloc_new wk (.cells (uF 4 1 r0 r1 r2 r3 r4 r5 r6 r7 AF xs cF) 60)
 replace b1:=(hj.block w.heap.size (by omega)).trans b1
 replace b2q:=(hj.block (w.heap.size+1) z1).trans b2q
 replace K:=K.step hj
 replace hb:=bstep hb hj
 replace z1:=Nat.lt_of_lt_of_le z1 hj.size
 replace rF:=rF.alloc (.cells (uF 4 1 r0 r1 r2 r3 r4 r5 r6 r7 AF xs cF) 60)
 clear hk hj
 obtain ⟨vF,hv⟩:∃ v,wk.heap.size = v:=⟨_,rfl⟩
 rw [hv] at b3 ⊢
 clear hv
 generalize (wk.alloc (.cells (uF 4 1 r0 r1 r2 r3 r4 r5 r6 r7 AF xs cF) 60)) = w3 at *
 obtain ⟨p0,p1,p2,p3,p4⟩:=cells5 b1
 obtain ⟨f0,f1,f2,f3,f4,f5,f6,f7,f8,f9,f10⟩:=cells11 b3
 have zF:vF < w3.heap.size:=(Array.getElem?_eq_some_iff.1 b3).1
 have z0:w.heap.size < w3.heap.size:=by omega
 go_upto_region 6 with (fail)
 go_cut [7] from 49 (fun y7 wx=>∃ (vM:Nat) (A2 B2:Option Addr) (a2 b2:Nat),y7 = .pointer (some ⟨vM,0,none⟩)∧wx.heap[vM]? = some (.cells #[.slice A2 s2.M.W.length a2,.slice B2 s2.M.G.length b2,.bool s2.M.bad] 26 (0,0))∧Row wx A2 s2.M.W∧Row wx B2 s2.M.G∧Below w3.heap.size w3 wx)
 case first =>
  have KS:=hid (show ∀ w',Turn (fun b=>w3.heap.size≤b) w3 w'→(w'.cell? ⟨w.heap.size,0,none⟩ = some (.slice A s.M.W.length a)∧w'.cell? ⟨w.heap.size,1,none⟩ = some (.slice B s.M.G.length b)∧w'.cell? ⟨w.heap.size,2,none⟩ = some (.bool s.M.bad)∧w'.cell? ⟨vF,1,none⟩ = some (.int .i64 1)) from fun w' h=>⟨(h.cell z0 (by omega)).trans p0,(h.cell z0 (by omega)).trans p1,(h.cell z0 (by omega)).trans p2,(h.cell zF (by omega)).trans f1⟩)
  go_region_held3 (fun w'=>w'.cell? ⟨w.heap.size,0,none⟩ = some (.slice A s.M.W.length a)∧w'.cell? ⟨w.heap.size,1,none⟩ = some (.slice B s.M.G.length b)∧w'.cell? ⟨w.heap.size,2,none⟩ = some (.bool s.M.bad)∧w'.cell? ⟨vF,1,none⟩ = some (.int .i64 1)) (exact KS.out _ (by repeat (first | (with_reducible exact Turn.refl _ _) | (with_reducible refine Turn.set ?_ (by first | (simp;done) | (simp;omega) | (have h9:=hk9.size;simp at h9 ⊢;omega)) _ _) | (with_reducible refine Turn.drew ?_) | (with_reducible refine Turn.alloc ?_ _) | (with_reducible refine Turn.below ?_ hk9))))
   (first | (go_at_call 12;(with_reducible refine (rplace_w _ _ _).mono ?_);rintro e wq ⟨rfl,rfl⟩) | (go_at_call 11;(with_reducible refine (HC.out _ (K.W.step (by repeat (first | (with_reducible exact Below.refl _ _) | (with_reducible refine Below.drew ?_) | (with_reducible refine bstep ?_ (boxed _ _))))) (K.G.step (by repeat (first | (with_reducible exact Below.refl _ _) | (with_reducible refine Below.drew ?_) | (with_reducible refine bstep ?_ (boxed _ _)))))).mono ?_);rintro e w9 ⟨A2,B2,a2,b2,rfl,s1,s3,hk9,F1,F2⟩;have hj9:Below w3.heap.size w3 w9:=bstep (by repeat (first | (with_reducible exact Below.refl _ _) | (with_reducible refine Below.drew ?_) | (with_reducible refine bstep ?_ (boxed _ _)))) hk9;obtain ⟨gc,gf⟩:=bcell hk9;have hz10:=hk9.size;simp at hz10))
  all_goals go_wp2_with fail
  all_goals go_meet
  all_goals first
   | exact ⟨_,A2,B2,a2,b2,rfl,heap_alloc_new _ _,s1.alloc _,s3.alloc _,bstep hj9 (boxed _ _)⟩
   | exact ⟨_,A2,B2,a2,b2,rfl,set3 (show w9.heap[w3.heap.size]? = some (.cells #[.slice none 0 0,.slice none 0 0,.bool false] 26 (0,0)) from (hk9.block _ (by simp)).trans (heap_alloc_new _ _)),s1.far3 (show w9.heap[w3.heap.size]? = some (.cells #[.slice none 0 0,.slice none 0 0,.bool false] 26 (0,0)) from (hk9.block _ (by simp)).trans (heap_alloc_new _ _)) _ _ _,s3.far3 (show w9.heap[w3.heap.size]? = some (.cells #[.slice none 0 0,.slice none 0 0,.bool false] 26 (0,0)) from (hk9.block _ (by simp)).trans (heap_alloc_new _ _)) _ _ _,below_set3 hj9 _ _ _⟩
 case rest =>
  clear p0 p1 p2 p3 p4 f0 f1 f2 f3 f4 f5 f6 f7 f8 f9 f10
  obtain ⟨vM,A2,B2,a2,b2,rfl,bM,s1,s3,hj⟩:=hcut
  replace b1:=(hj.block w.heap.size z0).trans b1
  replace b2q:=(hj.block (w.heap.size+1) z1).trans b2q
  replace b3:=(hj.block vF zF).trans b3
  replace K:=K.step hj
  replace hb:=bstep hb hj
  replace z1:=Nat.lt_of_lt_of_le z1 hj.size
  replace rF:=rF.step hj
  clear hj
  obtain ⟨p0,p1,p2,p3,p4⟩:=cells5 b1
  obtain ⟨f0,f1,f2,f3,f4,f5,f6,f7,f8,f9,f10⟩:=cells11 b3
  obtain ⟨x0,x1,x2⟩:=cells3 bM
  have HO:=hid (show Calls Tryz.prog 78 #[.agg (uS A B C L a b c d s),.int .i64 i,.agg #[.slice A2 s2.M.W.length a2,.slice B2 s2.M.G.length b2,.bool s2.M.bad],.agg (uF 4 1 r0 r1 r2 r3 r4 r5 r6 r7 AF xs cF),.int .i64 2] wc (RetSys wc (pSet s2 i ⟨4,2,[r0,r1,r2,r3,r4,r5,r6,r7],xs⟩)) by have h9:=on_any A B C L A2 B2 a b c d a2 b2 s s2.M i AF cF 4 1 r0 r1 r2 r3 r4 r5 r6 r7 xs 2 wc (by rw [ES.out];exact fw) hF K s1 s3 rF;rw [ES.out] at h9;exact h9)
  go_wp2_with (go_at_call 78;(with_reducible refine (HO.out).mono ?_);rintro e wz ⟨A9,B9,C9,L9,a9,b9,c9,d9,rfl,rW,rG,rC,rL,hz⟩;have kR:=(hz.block (w.heap.size+1) z1).trans b2q;have kb:=bstep hb hz;obtain ⟨q0,q1,q2,q3,q4,qf0,qf1,qf2,qf3,qf4⟩:=cf5 kR)
  refine bodyPost_ret (v:=.agg (uS A9 B9 C9 L9 a9 b9 c9 d9 (pSet s2 i ⟨4,2,[r0,r1,r2,r3,r4,r5,r6,r7],xs⟩))) (by simp [uS,results,Tryz.results61,go_sem,q0,q1,q2,q3,q4]) rfl ?_
  exact ret_resV (by omega) kR kb rW rG rC rL
theorem rhstep_c2 (A B C L:Option Addr) (a b c d:Nat) (s:Sy) (i:Int) (r0 r1 r2 r3 r4 r5 r6 r7:Int) (xs:List Int) (w:World) (hs:SyFew s) (hg:2≤s.M.G.length) (h:RS w s A B C L) (hF:∀ x ∈ s.C,x.F.length≤999999) (hp:pTop s i = some ⟨4,2,[r0,r1,r2,r3,r4,r5,r6,r7],xs⟩) (h6:xs.length≤1000000) :
  Calls Tryz.prog 61 #[.agg (uS A B C L a b c d s),.int .i64 i] w (RetSys w (pClr s i ⟨4,2,[r0,r1,r2,r3,r4,r5,r6,r7],xs⟩ s)):=by
 obtain ⟨s2,hs2⟩:∃ t,t = syMem s (mStore s.M (pPlace i 2) 0):=⟨_,rfl⟩
 have HS2:=hid hs2
 have hst:=mStore_len s.M (pPlace i 2) 0
 have fw:SyFew s2:=by rw [hs2];exact few_mem hs hst.1 (congrArg List.length hst.2)
 have HC:=hid (show ∀ w',Row w' A s.M.W→Row w' B s.M.G→Calls Tryz.prog 11 #[.agg #[.slice A s.M.W.length a,.slice B s.M.G.length b,.bool s.M.bad],.int .i64 (pPlace i 2),.int .i64 0] w' (RetMemO w' A B s2.M) from fun w' k1 k2=>by have h9:=rstore_o A B a b s.M (pPlace i 2) 0 w' k1 k2 hs.1 hs.2.1 (by omega);rw [hs2];exact h9)
 have es2:syMem s s2.M = s2:=by rw [hs2];rfl
 have ES:=hid es2
 have hres:pClr s i ⟨4,2,[r0,r1,r2,r3,r4,r5,r6,r7],xs⟩ s = (pBack s2 i 0 0):=by rw [hs2];rfl
 rw [hres]
 clear hres hs2 es2 hst
 obtain ⟨b1,b2q,bs⟩:=heap2 w (.cells (uS A B C L a b c d s) 30) (.cells uZ 30)
 have hb:Below w.heap.size w ((w.alloc (.cells (uS A B C L a b c d s) 30)).alloc (.cells uZ 30)):=bstep (boxed _ _) (boxed _ _)
 have z1:w.heap.size+1 < ((w.alloc (.cells (uS A B C L a b c d s) 30)).alloc (.cells uZ 30)).heap.size:=by simp
 clear bs
 go_enter Tryz.func61,Tryz.ntmps61
 go_upto_region 1 with (fail)
 generalize ((w.alloc (.cells (uS A B C L a b c d s) 30)).alloc (.cells uZ 30)) = w1 at *
 have K:=h.step hb
 obtain ⟨p0,p1,p2,p3,p4⟩:=cells5 b1
 go_upto_region 2 with (go_at_call 39;(with_reducible refine (rtop_is A B C L a b c d s i 4 2 r0 r1 r2 r3 r4 r5 r6 r7 xs _ hs K hp h6).mono ?_);rintro e wk ⟨AF,cF,rfl,rF,hk⟩)
 clear p0 p1 p2 p3 p4
 have hj:Below w1.heap.size w1 (wk.alloc (.cells (uF 4 2 r0 r1 r2 r3 r4 r5 r6 r7 AF xs cF) 60)):=bstep hk (boxed _ _)
 have b3:=heap_alloc_new wk (.cells (uF 4 2 r0 r1 r2 r3 r4 r5 r6 r7 AF xs cF) 60)
 replace b1:=(hj.block w.heap.size (by omega)).trans b1
 replace b2q:=(hj.block (w.heap.size+1) z1).trans b2q
 replace K:=K.step hj
 replace hb:=bstep hb hj
 replace z1:=Nat.lt_of_lt_of_le z1 hj.size
 replace rF:=rF.alloc (.cells (uF 4 2 r0 r1 r2 r3 r4 r5 r6 r7 AF xs cF) 60)
 clear hk hj
 obtain ⟨vF,hv⟩:∃ v,wk.heap.size = v:=⟨_,rfl⟩
 rw [hv] at b3 ⊢
 clear hv
 generalize (wk.alloc (.cells (uF 4 2 r0 r1 r2 r3 r4 r5 r6 r7 AF xs cF) 60)) = w3 at *
 obtain ⟨p0,p1,p2,p3,p4⟩:=cells5 b1
 obtain ⟨f0,f1,f2,f3,f4,f5,f6,f7,f8,f9,f10⟩:=cells11 b3
 have zF:vF < w3.heap.size:=(Array.getElem?_eq_some_iff.1 b3).1
 have z0:w.heap.size < w3.heap.size:=by omega
 go_upto_region 6 with (fail)
 go_cut [7] from 49 (fun y7 wx=>∃ (vM:Nat) (A2 B2:Option Addr) (a2 b2:Nat),y7 = .pointer (some ⟨vM,0,none⟩)∧wx.heap[vM]? = some (.cells #[.slice A2 s2.M.W.length a2,.slice B2 s2.M.G.length b2,.bool s2.M.bad] 26 (0,0))∧Row wx A2 s2.M.W∧Row wx B2 s2.M.G∧Below w3.heap.size w3 wx)
 case first =>
  have KS:=hid (show ∀ w',Turn (fun b=>w3.heap.size≤b) w3 w'→(w'.cell? ⟨w.heap.size,0,none⟩ = some (.slice A s.M.W.length a)∧w'.cell? ⟨w.heap.size,1,none⟩ = some (.slice B s.M.G.length b)∧w'.cell? ⟨w.heap.size,2,none⟩ = some (.bool s.M.bad)∧w'.cell? ⟨vF,1,none⟩ = some (.int .i64 2)) from fun w' h=>⟨(h.cell z0 (by omega)).trans p0,(h.cell z0 (by omega)).trans p1,(h.cell z0 (by omega)).trans p2,(h.cell zF (by omega)).trans f1⟩)
  go_region_held3 (fun w'=>w'.cell? ⟨w.heap.size,0,none⟩ = some (.slice A s.M.W.length a)∧w'.cell? ⟨w.heap.size,1,none⟩ = some (.slice B s.M.G.length b)∧w'.cell? ⟨w.heap.size,2,none⟩ = some (.bool s.M.bad)∧w'.cell? ⟨vF,1,none⟩ = some (.int .i64 2)) (exact KS.out _ (by repeat (first | (with_reducible exact Turn.refl _ _) | (with_reducible refine Turn.set ?_ (by first | (simp;done) | (simp;omega) | (have h9:=hk9.size;simp at h9 ⊢;omega)) _ _) | (with_reducible refine Turn.drew ?_) | (with_reducible refine Turn.alloc ?_ _) | (with_reducible refine Turn.below ?_ hk9))))
   (first | (go_at_call 12;(with_reducible refine (rplace_w _ _ _).mono ?_);rintro e wq ⟨rfl,rfl⟩) | (go_at_call 11;(with_reducible refine (HC.out _ (K.W.step (by repeat (first | (with_reducible exact Below.refl _ _) | (with_reducible refine Below.drew ?_) | (with_reducible refine bstep ?_ (boxed _ _))))) (K.G.step (by repeat (first | (with_reducible exact Below.refl _ _) | (with_reducible refine Below.drew ?_) | (with_reducible refine bstep ?_ (boxed _ _)))))).mono ?_);rintro e w9 ⟨A2,B2,a2,b2,rfl,s1,s3,hk9,F1,F2⟩;have hj9:Below w3.heap.size w3 w9:=bstep (by repeat (first | (with_reducible exact Below.refl _ _) | (with_reducible refine Below.drew ?_) | (with_reducible refine bstep ?_ (boxed _ _)))) hk9;obtain ⟨gc,gf⟩:=bcell hk9;have hz10:=hk9.size;simp at hz10))
  all_goals go_wp2_with fail
  all_goals go_meet
  all_goals first
   | exact ⟨_,A2,B2,a2,b2,rfl,heap_alloc_new _ _,s1.alloc _,s3.alloc _,bstep hj9 (boxed _ _)⟩
   | exact ⟨_,A2,B2,a2,b2,rfl,set3 (show w9.heap[w3.heap.size]? = some (.cells #[.slice none 0 0,.slice none 0 0,.bool false] 26 (0,0)) from (hk9.block _ (by simp)).trans (heap_alloc_new _ _)),s1.far3 (show w9.heap[w3.heap.size]? = some (.cells #[.slice none 0 0,.slice none 0 0,.bool false] 26 (0,0)) from (hk9.block _ (by simp)).trans (heap_alloc_new _ _)) _ _ _,s3.far3 (show w9.heap[w3.heap.size]? = some (.cells #[.slice none 0 0,.slice none 0 0,.bool false] 26 (0,0)) from (hk9.block _ (by simp)).trans (heap_alloc_new _ _)) _ _ _,below_set3 hj9 _ _ _⟩
 case rest =>
  clear p0 p1 p2 p3 p4 f0 f1 f2 f3 f4 f5 f6 f7 f8 f9 f10
  obtain ⟨vM,A2,B2,a2,b2,rfl,bM,s1,s3,hj⟩:=hcut
  replace b1:=(hj.block w.heap.size z0).trans b1
  replace b2q:=(hj.block (w.heap.size+1) z1).trans b2q
  replace b3:=(hj.block vF zF).trans b3
  replace K:=K.step hj
  replace hb:=bstep hb hj
  replace z1:=Nat.lt_of_lt_of_le z1 hj.size
  replace rF:=rF.step hj
  clear hj
  obtain ⟨p0,p1,p2,p3,p4⟩:=cells5 b1
  obtain ⟨f0,f1,f2,f3,f4,f5,f6,f7,f8,f9,f10⟩:=cells11 b3
  obtain ⟨x0,x1,x2⟩:=cells3 bM
  have HM:=hid (show ∀ w',RS w' s A B C L→Row w' A2 s2.M.W→Row w' B2 s2.M.G→Calls Tryz.prog 37 #[.agg (uS A B C L a b c d s),.agg #[.slice A2 s2.M.W.length a2,.slice B2 s2.M.G.length b2,.bool s2.M.bad]] w' fun e w''=>e = .returned (.agg (uS A2 B2 C L a2 b2 c d s2))∧RS w'' s2 A2 B2 C L∧Below w'.heap.size w' w'' from fun w' k1 k2 k3=>by have h9:=rmem3_any A B C L A2 B2 a b c d a2 b2 s s2.M w' k1 k2 k3;have e8:s2.C = s.C:=(by rw [HS2.out];rfl);have e7:s2.L = s.L:=(by rw [HS2.out];rfl);rw [ES.out] at h9;dsimp only [uS];rw [e8,e7];exact h9)
  go_wp2_with (first | (go_at_call 37;(with_reducible refine (HM.out _ K s1 s3).mono ?_);rintro e w7 ⟨rfl,S7,hk7⟩;have b27:=(hk7.block _ z1).trans b2q;have z7:=Nat.lt_of_lt_of_le z1 hk7.size;have hb7:=bstep hb hk7) | (go_at_call 43;(with_reducible refine (rback_u A2 B2 C L a2 b2 c d s2 i 0 0 _ fw S7).mono ?_);rintro e wz ⟨A9,B9,C9,L9,a9,b9,c9,d9,rfl,rW,rG,rC,rL,hz⟩;have kR:=(hz.block (w.heap.size+1) z7).trans b27;have kb:=bstep hb7 hz;obtain ⟨q0,q1,q2,q3,q4,qf0,qf1,qf2,qf3,qf4⟩:=cf5 kR))
  refine bodyPost_ret (v:=.agg (uS A9 B9 C9 L9 a9 b9 c9 d9 (pBack s2 i 0 0))) (by simp [uS,results,Tryz.results61,go_sem,q0,q1,q2,q3,q4]) rfl ?_
  exact ret_resV (by omega) kR kb rW rG rC rL
theorem rhstep_any (A B C L:Option Addr) (a b c d:Nat) (s:Sy) (i:Int) (w:World) (hs:SyFew s) (hg:2≤s.M.G.length) (h:RS w s A B C L) (hF:∀ x ∈ s.C,x.F.length≤999999) :
  Calls Tryz.prog 61 #[.agg (uS A B C L a b c d s),.int .i64 i] w (RetSys w (pHaz s i)):=by
 rcases pTop_cases s i hs h.C with hp | ⟨op,pc,r0,r1,r2,r3,r4,r5,r6,r7,xs,hp,h6⟩
 ·have e:pHaz s i = s:=by unfold pHaz;rw [hp]
  rw [e]
  exact rhstep_none A B C L a b c d s i w hs hg h hF hp
 ·by_cases o1:op = 3
  ·subst o1
   have e:pHaz s i = pProt s i ⟨3,pc,[r0,r1,r2,r3,r4,r5,r6,r7],xs⟩ s:=by unfold pHaz;rw [hp];simp
   rw [e]
   exact rhstep_prot A B C L a b c d s i pc r0 r1 r2 r3 r4 r5 r6 r7 xs w hs hg h hF hp h6
  ·by_cases o2:op = 4
   ·subst o2
    have e:pHaz s i = pClr s i ⟨4,pc,[r0,r1,r2,r3,r4,r5,r6,r7],xs⟩ s:=by unfold pHaz;rw [hp];simp
    rw [e]
    by_cases q1:pc < 0
    ·have e2:pClr s i ⟨4,pc,[r0,r1,r2,r3,r4,r5,r6,r7],xs⟩ s = s:=by unfold pClr;exact if_pos (Or.inl q1)
     rw [e2]
     exact rhstep_lo A B C L a b c d s i pc r0 r1 r2 r3 r4 r5 r6 r7 xs w hs hg h hF hp h6 q1
    ·by_cases q2:2 < pc
     ·have e2:pClr s i ⟨4,pc,[r0,r1,r2,r3,r4,r5,r6,r7],xs⟩ s = s:=by unfold pClr;exact if_pos (Or.inr q2)
      rw [e2]
      exact rhstep_hi A B C L a b c d s i pc r0 r1 r2 r3 r4 r5 r6 r7 xs w hs hg h hF hp h6 q2
     ·have q3:pc = 0 ∨ pc = 1 ∨ pc = 2:=by omega
      rcases q3 with rfl | rfl | rfl
      ·exact rhstep_c0 A B C L a b c d s i r0 r1 r2 r3 r4 r5 r6 r7 xs w hs hg h hF hp h6
      ·exact rhstep_c1 A B C L a b c d s i r0 r1 r2 r3 r4 r5 r6 r7 xs w hs hg h hF hp h6
      ·exact rhstep_c2 A B C L a b c d s i r0 r1 r2 r3 r4 r5 r6 r7 xs w hs hg h hF hp h6
   ·have e:pHaz s i = s:=by unfold pHaz;rw [hp];simp [o1,o2]
    rw [e]
    exact rhstep_x A B C L a b c d s i op pc r0 r1 r2 r3 r4 r5 r6 r7 xs w hs hg h hF hp h6 o1 o2
end Go.Proofs.YtfipcdhodojodaaGreat
