/- Contract: scan.stepHere, by the program. -/
import Derived.Test.YtfipcdhodojodaaGreatMS9
namespace Go.Proofs.YtfipcdhodojodaaGreat
open Go.RowKit
set_option maxRecDepth 100000
set_option maxHeartbeats 4000000
set_option linter.unusedVariables false
set_option linter.unusedSimpArgs false
theorem here_r0 (A B C L:Option Addr) (a b c d:Nat) (s:Sy) (k:Nat) (x:Co) ( r0 r1 r2 r3 r4 r5 r6 r7:Int) (xs:List Int) (w:World) (hs:SyFew s) (hg:2≤s.M.G.length) (h:RS w s A B C L) (h6:xs.length≤1000000) (hx:s.C[k]? = some x) (hp:pTop s k = some ⟨5,0,[r0,r1,r2,r3,r4,r5,r6,r7],xs⟩)  :
  Calls Tryz.prog 89 #[.agg (uS A B C L a b c d s),.int .i64 k] w (RetSysN w (pRetire0 s k ⟨5,0,[r0,r1,r2,r3,r4,r5,r6,r7],xs⟩)):=by
 obtain ⟨t9,ht9⟩:∃ t,t = pRetire0 s k ⟨5,0,[r0,r1,r2,r3,r4,r5,r6,r7],xs⟩:=⟨_,rfl⟩
 have HC:=hid (show ∀ (AF:Option Addr) (cF p3 p4 p5:Nat) w1,RS w1 s A B C L→Row w1 AF xs→xs.length≤cF→w1.heap[p3]? = some (.cells (uS A B C L a b c d s) 30 (0,0))→w1.heap[p4]? = some (.cells #[.int .i64 (k:Int)] 3 (0,0))→w1.heap[p5]? = some (.cells (uF 5 0 r0 r1 r2 r3 r4 r5 r6 r7 AF xs cF) 60 (0,0))→Calls Tryz.prog 109 #[.pointer (some ⟨p3,0,none⟩),.pointer (some ⟨p4,0,none⟩),.pointer (some ⟨p5,0,none⟩)] w1 (RetSysN w1 t9) from fun AF cF p3 p4 p5 w1 hr hf hcf g3 g4 g5=>by have h9:=clo1_any A B C L a b c d s k x AF cF 5 0 r0 r1 r2 r3 r4 r5 r6 r7 xs p3 p4 p5 w1 hs hg hr hf h6 hx  g3 g4 g5;rw [← ht9] at h9;exact h9)
 rw [← ht9]
 clear ht9
 obtain ⟨b1,b2,bs⟩:=heap2 w (.cells (uS A B C L a b c d s) 30) (.cells uZ 30)
 have hb:Below w.heap.size w ((w.alloc (.cells (uS A B C L a b c d s) 30)).alloc (.cells uZ 30)):=bstep (boxed _ _) (boxed _ _)
 have z1:w.heap.size+1 < ((w.alloc (.cells (uS A B C L a b c d s) 30)).alloc (.cells uZ 30)).heap.size:=by simp
 clear bs
 go_enter Tryz.func89,Tryz.ntmps89
 go_upto_region 1 with (fail)
 generalize ((w.alloc (.cells (uS A B C L a b c d s) 30)).alloc (.cells uZ 30)) = w1 at *
 have K:=h.step hb
 obtain ⟨p0,p1,p2,p3,p4⟩:=cells5 b1
 go_upto_region 2 with (go_at_call 25;(with_reducible refine (top_isC A B C L a b c d s k 5 0 r0 r1 r2 r3 r4 r5 r6 r7 xs _ hs K hp h6).mono ?_);rintro e wk ⟨AF,cF,rfl,rF,hcF,hk⟩)
 clear p0 p1 p2 p3 p4
 have hj:Below w1.heap.size w1 (wk.alloc (.cells (uF 5 0 r0 r1 r2 r3 r4 r5 r6 r7 AF xs cF) 60)):=bstep hk (boxed _ _)
 have b3:=heap_alloc_new wk (.cells (uF 5 0 r0 r1 r2 r3 r4 r5 r6 r7 AF xs cF) 60)
 replace b1:=(hj.block w.heap.size (by omega)).trans b1
 replace b2:=(hj.block (w.heap.size+1) z1).trans b2
 replace K:=K.step hj
 replace hb:=bstep hb hj
 replace z1:=Nat.lt_of_lt_of_le z1 hj.size
 replace rF:=rF.alloc (.cells (uF 5 0 r0 r1 r2 r3 r4 r5 r6 r7 AF xs cF) 60)
 have zF:wk.heap.size < (wk.alloc (.cells (uF 5 0 r0 r1 r2 r3 r4 r5 r6 r7 AF xs cF) 60)).heap.size:=by simp
 clear hk hj
 obtain ⟨vF,hv⟩:∃ v,wk.heap.size = v:=⟨_,rfl⟩
 rw [hv] at b3 zF ⊢
 clear hv
 generalize (wk.alloc (.cells (uF 5 0 r0 r1 r2 r3 r4 r5 r6 r7 AF xs cF) 60)) = w3 at *
 obtain ⟨p0,p1,p2,p3,p4⟩:=cells5 b1
 obtain ⟨f0,f1,f2,f3,f4,f5,f6,f7,f8,f9,f10⟩:=cells11 b3
 have HFF:=hid b3
 go_cut [7] from 14 (fun s0 wx=>∃ (m b5 b6 p3 p4 p5:Nat),s0 = .slice (some ⟨b5,0,none⟩) 2 2∧Steps wx (uS A B C L a b c d s) (uF 5 0 r0 r1 r2 r3 r4 r5 r6 r7 AF xs cF) k m b5 b6 p3 p4 p5∧Below w3.heap.size w3 wx)
 case first =>
  go_region_with (go_at_call 101;(with_reducible refine (steps_any A B C L a b c d s k AF cF 5 0 r0 r1 r2 r3 r4 r5 r6 r7 xs _).mono ?_);rintro e w4 ⟨m,b5,b6,p3,p4,p5,rfl,HSt,hk4⟩;have hj4:Below w3.heap.size w3 w4:=bstep (by repeat (first | (with_reducible exact Below.refl _ _) | (with_reducible refine Below.drew ?_))) hk4;have hlk:=HSt.look5;have g0:w4.cell? ⟨vF,0,none⟩ = some (.int .i64 5):=cell_of_row w4 _ 0 _ _ _ ((hj4.block vF zF).trans HFF.out);have g1:w4.cell? ⟨vF,1,none⟩ = some (.int .i64 0):=cell_of_row w4 _ 1 _ _ _ ((hj4.block vF zF).trans HFF.out))
  all_goals go_wp2_with fail
  all_goals go_meet
  all_goals exact ⟨m,b5,b6,p3,p4,p5,rfl,HSt,hj4⟩
 case rest =>
  obtain ⟨m,b5,b6,p3,p4,p5,rfl,HSt,hj4⟩:=hcut
  replace b1:=(hj4.block w.heap.size (by omega)).trans b1
  replace b2:=(hj4.block (w.heap.size+1) z1).trans b2
  replace b3:=(hj4.block vF zF).trans b3
  replace K:=K.step hj4
  replace hb:=bstep hb hj4
  replace z1:=Nat.lt_of_lt_of_le z1 hj4.size
  replace rF:=rF.step hj4
  clear hj4 HFF zF f0 f1 f2 f3 f4 f5 f6 f7 f8 f9 f10
  obtain ⟨y0,y1,y2,y3,y4⟩:=cells5 b1
  obtain ⟨f0,f1,f2,f3,f4,f5,f6,f7,f8,f9,f10⟩:=cells11 b3
  obtain ⟨c0,c1⟩:=cells2 HSt.c5
  go_wp2_with (go_at_call 109;(with_reducible refine (HC.out AF cF p3 p4 p5 _ K rF hcF HSt.h3 HSt.h4 HSt.h5).mono ?_);rintro e wz hN;have hz:=hN.2;obtain ⟨A9,B9,C9,L9,a9,b9,c9,d9,he,_,_,_,_,_⟩:=hN.1 wz (Turn.refl _ _);subst he;have HN:=hid hN;clear hN;have kR:=(hz.block (w.heap.size+1) z1).trans b2;have kb:=bstep hb hz;obtain ⟨q0,q1,q2,q3,q4,qf0,qf1,qf2,qf3,qf4⟩:=cf5 kR)
  refine bodyPost_ret (v:=.agg (uS A9 B9 C9 L9 a9 b9 c9 d9 t9)) (by simp [uS,results,Tryz.results89,go_sem,q0,q1,q2,q3,q4]) rfl ?_
  exact ret_resN _ _ _ _ _ HN.out z1 (by omega) kb
theorem here_r1 (A B C L:Option Addr) (a b c d:Nat) (s:Sy) (k:Nat) (x:Co) ( r0 r1 r2 r3 r4 r5 r6 r7:Int) (xs:List Int) (w:World) (hs:SyFew s) (hg:2≤s.M.G.length) (h:RS w s A B C L) (h6:xs.length≤1000000) (hx:s.C[k]? = some x) (hp:pTop s k = some ⟨5,1,[r0,r1,r2,r3,r4,r5,r6,r7],xs⟩)  :
  Calls Tryz.prog 89 #[.agg (uS A B C L a b c d s),.int .i64 k] w (RetSysN w (pBack s k r0 0)):=by
 obtain ⟨t9,ht9⟩:∃ t,t = pBack s k r0 0:=⟨_,rfl⟩
 have HC:=hid (show ∀ (AF:Option Addr) (cF p3 p4 p5:Nat) w1,RS w1 s A B C L→Row w1 AF xs→xs.length≤cF→w1.heap[p3]? = some (.cells (uS A B C L a b c d s) 30 (0,0))→w1.heap[p4]? = some (.cells #[.int .i64 (k:Int)] 3 (0,0))→w1.heap[p5]? = some (.cells (uF 5 1 r0 r1 r2 r3 r4 r5 r6 r7 AF xs cF) 60 (0,0))→Calls Tryz.prog 111 #[.pointer (some ⟨p3,0,none⟩),.pointer (some ⟨p4,0,none⟩),.pointer (some ⟨p5,0,none⟩)] w1 (RetSysN w1 t9) from fun AF cF p3 p4 p5 w1 hr hf hcf g3 g4 g5=>by have h9:=clo2_any A B C L a b c d s k x AF cF 5 1 r0 r1 r2 r3 r4 r5 r6 r7 xs p3 p4 p5 w1 hs hg hr hf h6 hx  g3 g4 g5;rw [← ht9] at h9;exact h9)
 rw [← ht9]
 clear ht9
 obtain ⟨b1,b2,bs⟩:=heap2 w (.cells (uS A B C L a b c d s) 30) (.cells uZ 30)
 have hb:Below w.heap.size w ((w.alloc (.cells (uS A B C L a b c d s) 30)).alloc (.cells uZ 30)):=bstep (boxed _ _) (boxed _ _)
 have z1:w.heap.size+1 < ((w.alloc (.cells (uS A B C L a b c d s) 30)).alloc (.cells uZ 30)).heap.size:=by simp
 clear bs
 go_enter Tryz.func89,Tryz.ntmps89
 go_upto_region 1 with (fail)
 generalize ((w.alloc (.cells (uS A B C L a b c d s) 30)).alloc (.cells uZ 30)) = w1 at *
 have K:=h.step hb
 obtain ⟨p0,p1,p2,p3,p4⟩:=cells5 b1
 go_upto_region 2 with (go_at_call 25;(with_reducible refine (top_isC A B C L a b c d s k 5 1 r0 r1 r2 r3 r4 r5 r6 r7 xs _ hs K hp h6).mono ?_);rintro e wk ⟨AF,cF,rfl,rF,hcF,hk⟩)
 clear p0 p1 p2 p3 p4
 have hj:Below w1.heap.size w1 (wk.alloc (.cells (uF 5 1 r0 r1 r2 r3 r4 r5 r6 r7 AF xs cF) 60)):=bstep hk (boxed _ _)
 have b3:=heap_alloc_new wk (.cells (uF 5 1 r0 r1 r2 r3 r4 r5 r6 r7 AF xs cF) 60)
 replace b1:=(hj.block w.heap.size (by omega)).trans b1
 replace b2:=(hj.block (w.heap.size+1) z1).trans b2
 replace K:=K.step hj
 replace hb:=bstep hb hj
 replace z1:=Nat.lt_of_lt_of_le z1 hj.size
 replace rF:=rF.alloc (.cells (uF 5 1 r0 r1 r2 r3 r4 r5 r6 r7 AF xs cF) 60)
 have zF:wk.heap.size < (wk.alloc (.cells (uF 5 1 r0 r1 r2 r3 r4 r5 r6 r7 AF xs cF) 60)).heap.size:=by simp
 clear hk hj
 obtain ⟨vF,hv⟩:∃ v,wk.heap.size = v:=⟨_,rfl⟩
 rw [hv] at b3 zF ⊢
 clear hv
 generalize (wk.alloc (.cells (uF 5 1 r0 r1 r2 r3 r4 r5 r6 r7 AF xs cF) 60)) = w3 at *
 obtain ⟨p0,p1,p2,p3,p4⟩:=cells5 b1
 obtain ⟨f0,f1,f2,f3,f4,f5,f6,f7,f8,f9,f10⟩:=cells11 b3
 have HFF:=hid b3
 go_cut [7] from 14 (fun s0 wx=>∃ (m b5 b6 p3 p4 p5:Nat),s0 = .slice (some ⟨b5,0,none⟩) 2 2∧Steps wx (uS A B C L a b c d s) (uF 5 1 r0 r1 r2 r3 r4 r5 r6 r7 AF xs cF) k m b5 b6 p3 p4 p5∧Below w3.heap.size w3 wx)
 case first =>
  go_region_with (go_at_call 101;(with_reducible refine (steps_any A B C L a b c d s k AF cF 5 1 r0 r1 r2 r3 r4 r5 r6 r7 xs _).mono ?_);rintro e w4 ⟨m,b5,b6,p3,p4,p5,rfl,HSt,hk4⟩;have hj4:Below w3.heap.size w3 w4:=bstep (by repeat (first | (with_reducible exact Below.refl _ _) | (with_reducible refine Below.drew ?_))) hk4;have hlk:=HSt.look5;have g0:w4.cell? ⟨vF,0,none⟩ = some (.int .i64 5):=cell_of_row w4 _ 0 _ _ _ ((hj4.block vF zF).trans HFF.out);have g1:w4.cell? ⟨vF,1,none⟩ = some (.int .i64 1):=cell_of_row w4 _ 1 _ _ _ ((hj4.block vF zF).trans HFF.out))
  all_goals go_wp2_with fail
  all_goals go_meet
  all_goals exact ⟨m,b5,b6,p3,p4,p5,rfl,HSt,hj4⟩
 case rest =>
  obtain ⟨m,b5,b6,p3,p4,p5,rfl,HSt,hj4⟩:=hcut
  replace b1:=(hj4.block w.heap.size (by omega)).trans b1
  replace b2:=(hj4.block (w.heap.size+1) z1).trans b2
  replace b3:=(hj4.block vF zF).trans b3
  replace K:=K.step hj4
  replace hb:=bstep hb hj4
  replace z1:=Nat.lt_of_lt_of_le z1 hj4.size
  replace rF:=rF.step hj4
  clear hj4 HFF zF f0 f1 f2 f3 f4 f5 f6 f7 f8 f9 f10
  obtain ⟨y0,y1,y2,y3,y4⟩:=cells5 b1
  obtain ⟨f0,f1,f2,f3,f4,f5,f6,f7,f8,f9,f10⟩:=cells11 b3
  obtain ⟨c0,c1⟩:=cells2 HSt.c5
  go_wp2_with (go_at_call 111;(with_reducible refine (HC.out AF cF p3 p4 p5 _ K rF hcF HSt.h3 HSt.h4 HSt.h5).mono ?_);rintro e wz hN;have hz:=hN.2;obtain ⟨A9,B9,C9,L9,a9,b9,c9,d9,he,_,_,_,_,_⟩:=hN.1 wz (Turn.refl _ _);subst he;have HN:=hid hN;clear hN;have kR:=(hz.block (w.heap.size+1) z1).trans b2;have kb:=bstep hb hz;obtain ⟨q0,q1,q2,q3,q4,qf0,qf1,qf2,qf3,qf4⟩:=cf5 kR)
  refine bodyPost_ret (v:=.agg (uS A9 B9 C9 L9 a9 b9 c9 d9 t9)) (by simp [uS,results,Tryz.results89,go_sem,q0,q1,q2,q3,q4]) rfl ?_
  exact ret_resN _ _ _ _ _ HN.out z1 (by omega) kb
theorem here_5n (A B C L:Option Addr) (a b c d:Nat) (s:Sy) (k:Nat) (x:Co) (pc r0 r1 r2 r3 r4 r5 r6 r7:Int) (xs:List Int) (w:World) (hs:SyFew s) (hg:2≤s.M.G.length) (h:RS w s A B C L) (h6:xs.length≤1000000) (hx:s.C[k]? = some x) (hp:pTop s k = some ⟨5,pc,[r0,r1,r2,r3,r4,r5,r6,r7],xs⟩) (q:pc < 0) :
  Calls Tryz.prog 89 #[.agg (uS A B C L a b c d s),.int .i64 k] w (RetSysN w (s)):=by
 have HR:=pSet_top hp
 have HC:=hid (show ∀ (AF:Option Addr) (cF:Nat) w',RS w' s A B C L→Row w' AF xs→Calls Tryz.prog 50 #[.agg (uS A B C L a b c d s),.int .i64 k,.agg (uF 5 pc r0 r1 r2 r3 r4 r5 r6 r7 AF xs cF)] w' (RetSysN w' s) from fun AF cF w' k1 k2=>by have h9:=set_uN A B C L a b c d s k AF cF 5 pc r0 r1 r2 r3 r4 r5 r6 r7 xs w' hs k1 k2 h6;rw [HR] at h9;exact h9)
 clear HR
 obtain ⟨b1,b2,bs⟩:=heap2 w (.cells (uS A B C L a b c d s) 30) (.cells uZ 30)
 have hb:Below w.heap.size w ((w.alloc (.cells (uS A B C L a b c d s) 30)).alloc (.cells uZ 30)):=bstep (boxed _ _) (boxed _ _)
 have z1:w.heap.size+1 < ((w.alloc (.cells (uS A B C L a b c d s) 30)).alloc (.cells uZ 30)).heap.size:=by simp
 clear bs
 go_enter Tryz.func89,Tryz.ntmps89
 go_upto_region 1 with (fail)
 generalize ((w.alloc (.cells (uS A B C L a b c d s) 30)).alloc (.cells uZ 30)) = w1 at *
 have K:=h.step hb
 obtain ⟨p0,p1,p2,p3,p4⟩:=cells5 b1
 go_upto_region 2 with (go_at_call 25;(with_reducible refine (top_isC A B C L a b c d s k 5 pc r0 r1 r2 r3 r4 r5 r6 r7 xs _ hs K hp h6).mono ?_);rintro e wk ⟨AF,cF,rfl,rF,hcF,hk⟩)
 clear p0 p1 p2 p3 p4
 have hj:Below w1.heap.size w1 (wk.alloc (.cells (uF 5 pc r0 r1 r2 r3 r4 r5 r6 r7 AF xs cF) 60)):=bstep hk (boxed _ _)
 have b3:=heap_alloc_new wk (.cells (uF 5 pc r0 r1 r2 r3 r4 r5 r6 r7 AF xs cF) 60)
 replace b1:=(hj.block w.heap.size (by omega)).trans b1
 replace b2:=(hj.block (w.heap.size+1) z1).trans b2
 replace K:=K.step hj
 replace hb:=bstep hb hj
 replace z1:=Nat.lt_of_lt_of_le z1 hj.size
 replace rF:=rF.alloc (.cells (uF 5 pc r0 r1 r2 r3 r4 r5 r6 r7 AF xs cF) 60)
 have zF:wk.heap.size < (wk.alloc (.cells (uF 5 pc r0 r1 r2 r3 r4 r5 r6 r7 AF xs cF) 60)).heap.size:=by simp
 clear hk hj
 obtain ⟨vF,hv⟩:∃ v,wk.heap.size = v:=⟨_,rfl⟩
 rw [hv] at b3 zF ⊢
 clear hv
 generalize (wk.alloc (.cells (uF 5 pc r0 r1 r2 r3 r4 r5 r6 r7 AF xs cF) 60)) = w3 at *
 obtain ⟨p0,p1,p2,p3,p4⟩:=cells5 b1
 obtain ⟨f0,f1,f2,f3,f4,f5,f6,f7,f8,f9,f10⟩:=cells11 b3
 have HFF:=hid b3
 go_cut [7] from 14 (fun s0 wx=>∃ (m b5 b6 p3 p4 p5:Nat),s0 = .slice (some ⟨b5,0,none⟩) 2 2∧Steps wx (uS A B C L a b c d s) (uF 5 pc r0 r1 r2 r3 r4 r5 r6 r7 AF xs cF) k m b5 b6 p3 p4 p5∧Below w3.heap.size w3 wx)
 case first =>
  go_region_with (go_at_call 101;(with_reducible refine (steps_any A B C L a b c d s k AF cF 5 pc r0 r1 r2 r3 r4 r5 r6 r7 xs _).mono ?_);rintro e w4 ⟨m,b5,b6,p3,p4,p5,rfl,HSt,hk4⟩;have hj4:Below w3.heap.size w3 w4:=bstep (by repeat (first | (with_reducible exact Below.refl _ _) | (with_reducible refine Below.drew ?_))) hk4;have hlk:=HSt.look5;have g0:w4.cell? ⟨vF,0,none⟩ = some (.int .i64 5):=cell_of_row w4 _ 0 _ _ _ ((hj4.block vF zF).trans HFF.out);have g1:w4.cell? ⟨vF,1,none⟩ = some (.int .i64 pc):=cell_of_row w4 _ 1 _ _ _ ((hj4.block vF zF).trans HFF.out))
  all_goals go_wp2_with fail
  all_goals go_meet
  all_goals exact ⟨m,b5,b6,p3,p4,p5,rfl,HSt,hj4⟩
 case rest =>
  obtain ⟨m,b5,b6,p3,p4,p5,rfl,HSt,hj4⟩:=hcut
  replace b1:=(hj4.block w.heap.size (by omega)).trans b1
  replace b2:=(hj4.block (w.heap.size+1) z1).trans b2
  replace b3:=(hj4.block vF zF).trans b3
  replace K:=K.step hj4
  replace hb:=bstep hb hj4
  replace z1:=Nat.lt_of_lt_of_le z1 hj4.size
  replace rF:=rF.step hj4
  clear hj4 HFF zF f0 f1 f2 f3 f4 f5 f6 f7 f8 f9 f10
  obtain ⟨y0,y1,y2,y3,y4⟩:=cells5 b1
  obtain ⟨f0,f1,f2,f3,f4,f5,f6,f7,f8,f9,f10⟩:=cells11 b3
  go_wp2_with (go_at_call 50;(with_reducible refine (HC.out AF cF _ K rF).mono ?_);rintro e wz hN;have hz:=hN.2;obtain ⟨A9,B9,C9,L9,a9,b9,c9,d9,he,_,_,_,_,_⟩:=hN.1 wz (Turn.refl _ _);subst he;have HN:=hid hN;clear hN;have kR:=(hz.block (w.heap.size+1) z1).trans b2;have kb:=bstep hb hz;obtain ⟨q0,q1,q2,q3,q4,qf0,qf1,qf2,qf3,qf4⟩:=cf5 kR)
  refine bodyPost_ret (v:=.agg (uS A9 B9 C9 L9 a9 b9 c9 d9 s)) (by simp [uS,results,Tryz.results89,go_sem,q0,q1,q2,q3,q4]) rfl ?_
  exact ret_resN _ _ _ _ _ HN.out z1 (by omega) kb
theorem here_5p (A B C L:Option Addr) (a b c d:Nat) (s:Sy) (k:Nat) (x:Co) (pc r0 r1 r2 r3 r4 r5 r6 r7:Int) (xs:List Int) (w:World) (hs:SyFew s) (hg:2≤s.M.G.length) (h:RS w s A B C L) (h6:xs.length≤1000000) (hx:s.C[k]? = some x) (hp:pTop s k = some ⟨5,pc,[r0,r1,r2,r3,r4,r5,r6,r7],xs⟩) (q0:¬ pc < 0) (q:2≤pc) :
  Calls Tryz.prog 89 #[.agg (uS A B C L a b c d s),.int .i64 k] w (RetSysN w (s)):=by
 have HR:=pSet_top hp
 have HC:=hid (show ∀ (AF:Option Addr) (cF:Nat) w',RS w' s A B C L→Row w' AF xs→Calls Tryz.prog 50 #[.agg (uS A B C L a b c d s),.int .i64 k,.agg (uF 5 pc r0 r1 r2 r3 r4 r5 r6 r7 AF xs cF)] w' (RetSysN w' s) from fun AF cF w' k1 k2=>by have h9:=set_uN A B C L a b c d s k AF cF 5 pc r0 r1 r2 r3 r4 r5 r6 r7 xs w' hs k1 k2 h6;rw [HR] at h9;exact h9)
 clear HR
 obtain ⟨b1,b2,bs⟩:=heap2 w (.cells (uS A B C L a b c d s) 30) (.cells uZ 30)
 have hb:Below w.heap.size w ((w.alloc (.cells (uS A B C L a b c d s) 30)).alloc (.cells uZ 30)):=bstep (boxed _ _) (boxed _ _)
 have z1:w.heap.size+1 < ((w.alloc (.cells (uS A B C L a b c d s) 30)).alloc (.cells uZ 30)).heap.size:=by simp
 clear bs
 go_enter Tryz.func89,Tryz.ntmps89
 go_upto_region 1 with (fail)
 generalize ((w.alloc (.cells (uS A B C L a b c d s) 30)).alloc (.cells uZ 30)) = w1 at *
 have K:=h.step hb
 obtain ⟨p0,p1,p2,p3,p4⟩:=cells5 b1
 go_upto_region 2 with (go_at_call 25;(with_reducible refine (top_isC A B C L a b c d s k 5 pc r0 r1 r2 r3 r4 r5 r6 r7 xs _ hs K hp h6).mono ?_);rintro e wk ⟨AF,cF,rfl,rF,hcF,hk⟩)
 clear p0 p1 p2 p3 p4
 have hj:Below w1.heap.size w1 (wk.alloc (.cells (uF 5 pc r0 r1 r2 r3 r4 r5 r6 r7 AF xs cF) 60)):=bstep hk (boxed _ _)
 have b3:=heap_alloc_new wk (.cells (uF 5 pc r0 r1 r2 r3 r4 r5 r6 r7 AF xs cF) 60)
 replace b1:=(hj.block w.heap.size (by omega)).trans b1
 replace b2:=(hj.block (w.heap.size+1) z1).trans b2
 replace K:=K.step hj
 replace hb:=bstep hb hj
 replace z1:=Nat.lt_of_lt_of_le z1 hj.size
 replace rF:=rF.alloc (.cells (uF 5 pc r0 r1 r2 r3 r4 r5 r6 r7 AF xs cF) 60)
 have zF:wk.heap.size < (wk.alloc (.cells (uF 5 pc r0 r1 r2 r3 r4 r5 r6 r7 AF xs cF) 60)).heap.size:=by simp
 clear hk hj
 obtain ⟨vF,hv⟩:∃ v,wk.heap.size = v:=⟨_,rfl⟩
 rw [hv] at b3 zF ⊢
 clear hv
 generalize (wk.alloc (.cells (uF 5 pc r0 r1 r2 r3 r4 r5 r6 r7 AF xs cF) 60)) = w3 at *
 obtain ⟨p0,p1,p2,p3,p4⟩:=cells5 b1
 obtain ⟨f0,f1,f2,f3,f4,f5,f6,f7,f8,f9,f10⟩:=cells11 b3
 have HFF:=hid b3
 go_cut [7] from 14 (fun s0 wx=>∃ (m b5 b6 p3 p4 p5:Nat),s0 = .slice (some ⟨b5,0,none⟩) 2 2∧Steps wx (uS A B C L a b c d s) (uF 5 pc r0 r1 r2 r3 r4 r5 r6 r7 AF xs cF) k m b5 b6 p3 p4 p5∧Below w3.heap.size w3 wx)
 case first =>
  go_region_with (go_at_call 101;(with_reducible refine (steps_any A B C L a b c d s k AF cF 5 pc r0 r1 r2 r3 r4 r5 r6 r7 xs _).mono ?_);rintro e w4 ⟨m,b5,b6,p3,p4,p5,rfl,HSt,hk4⟩;have hj4:Below w3.heap.size w3 w4:=bstep (by repeat (first | (with_reducible exact Below.refl _ _) | (with_reducible refine Below.drew ?_))) hk4;have hlk:=HSt.look5;have g0:w4.cell? ⟨vF,0,none⟩ = some (.int .i64 5):=cell_of_row w4 _ 0 _ _ _ ((hj4.block vF zF).trans HFF.out);have g1:w4.cell? ⟨vF,1,none⟩ = some (.int .i64 pc):=cell_of_row w4 _ 1 _ _ _ ((hj4.block vF zF).trans HFF.out))
  all_goals go_wp2_with fail
  all_goals go_meet
  all_goals exact ⟨m,b5,b6,p3,p4,p5,rfl,HSt,hj4⟩
 case rest =>
  obtain ⟨m,b5,b6,p3,p4,p5,rfl,HSt,hj4⟩:=hcut
  replace b1:=(hj4.block w.heap.size (by omega)).trans b1
  replace b2:=(hj4.block (w.heap.size+1) z1).trans b2
  replace b3:=(hj4.block vF zF).trans b3
  replace K:=K.step hj4
  replace hb:=bstep hb hj4
  replace z1:=Nat.lt_of_lt_of_le z1 hj4.size
  replace rF:=rF.step hj4
  clear hj4 HFF zF f0 f1 f2 f3 f4 f5 f6 f7 f8 f9 f10
  obtain ⟨y0,y1,y2,y3,y4⟩:=cells5 b1
  obtain ⟨f0,f1,f2,f3,f4,f5,f6,f7,f8,f9,f10⟩:=cells11 b3
  go_wp2_with (go_at_call 50;(with_reducible refine (HC.out AF cF _ K rF).mono ?_);rintro e wz hN;have hz:=hN.2;obtain ⟨A9,B9,C9,L9,a9,b9,c9,d9,he,_,_,_,_,_⟩:=hN.1 wz (Turn.refl _ _);subst he;have HN:=hid hN;clear hN;have kR:=(hz.block (w.heap.size+1) z1).trans b2;have kb:=bstep hb hz;obtain ⟨q0,q1,q2,q3,q4,qf0,qf1,qf2,qf3,qf4⟩:=cf5 kR)
  refine bodyPost_ret (v:=.agg (uS A9 B9 C9 L9 a9 b9 c9 d9 s)) (by simp [uS,results,Tryz.results89,go_sem,q0,q1,q2,q3,q4]) rfl ?_
  exact ret_resN _ _ _ _ _ HN.out z1 (by omega) kb
theorem here_s0 (A B C L:Option Addr) (a b c d:Nat) (s:Sy) (k:Nat) (x:Co) ( r0 r1 r2 r3 r4 r5 r6 r7:Int) (xs:List Int) (w:World) (hs:SyFew s) (hg:2≤s.M.G.length) (h:RS w s A B C L) (h6:xs.length≤1000000) (hx:s.C[k]? = some x) (hp:pTop s k = some ⟨6,0,[r0,r1,r2,r3,r4,r5,r6,r7],xs⟩)  :
  Calls Tryz.prog 89 #[.agg (uS A B C L a b c d s),.int .i64 k] w (RetSysN w (pLook s k ⟨6,0,[r0,r1,r2,r3,r4,r5,r6,r7],xs⟩)):=by
 obtain ⟨t9,ht9⟩:∃ t,t = pLook s k ⟨6,0,[r0,r1,r2,r3,r4,r5,r6,r7],xs⟩:=⟨_,rfl⟩
 have HC:=hid (show ∀ (AF:Option Addr) (cF p3 p4 p5:Nat) w1,RS w1 s A B C L→Row w1 AF xs→xs.length≤cF→w1.heap[p3]? = some (.cells (uS A B C L a b c d s) 30 (0,0))→w1.heap[p4]? = some (.cells #[.int .i64 (k:Int)] 3 (0,0))→w1.heap[p5]? = some (.cells (uF 6 0 r0 r1 r2 r3 r4 r5 r6 r7 AF xs cF) 60 (0,0))→Calls Tryz.prog 112 #[.pointer (some ⟨p3,0,none⟩),.pointer (some ⟨p4,0,none⟩),.pointer (some ⟨p5,0,none⟩)] w1 (RetSysN w1 t9) from fun AF cF p3 p4 p5 w1 hr hf hcf g3 g4 g5=>by have h9:=clo3_any A B C L a b c d s k x AF cF 6 0 r0 r1 r2 r3 r4 r5 r6 r7 xs p3 p4 p5 w1 hs hg hr hf h6 hx hcf g3 g4 g5;rw [← ht9] at h9;exact h9)
 rw [← ht9]
 clear ht9
 obtain ⟨b1,b2,bs⟩:=heap2 w (.cells (uS A B C L a b c d s) 30) (.cells uZ 30)
 have hb:Below w.heap.size w ((w.alloc (.cells (uS A B C L a b c d s) 30)).alloc (.cells uZ 30)):=bstep (boxed _ _) (boxed _ _)
 have z1:w.heap.size+1 < ((w.alloc (.cells (uS A B C L a b c d s) 30)).alloc (.cells uZ 30)).heap.size:=by simp
 clear bs
 go_enter Tryz.func89,Tryz.ntmps89
 go_upto_region 1 with (fail)
 generalize ((w.alloc (.cells (uS A B C L a b c d s) 30)).alloc (.cells uZ 30)) = w1 at *
 have K:=h.step hb
 obtain ⟨p0,p1,p2,p3,p4⟩:=cells5 b1
 go_upto_region 2 with (go_at_call 25;(with_reducible refine (top_isC A B C L a b c d s k 6 0 r0 r1 r2 r3 r4 r5 r6 r7 xs _ hs K hp h6).mono ?_);rintro e wk ⟨AF,cF,rfl,rF,hcF,hk⟩)
 clear p0 p1 p2 p3 p4
 have hj:Below w1.heap.size w1 (wk.alloc (.cells (uF 6 0 r0 r1 r2 r3 r4 r5 r6 r7 AF xs cF) 60)):=bstep hk (boxed _ _)
 have b3:=heap_alloc_new wk (.cells (uF 6 0 r0 r1 r2 r3 r4 r5 r6 r7 AF xs cF) 60)
 replace b1:=(hj.block w.heap.size (by omega)).trans b1
 replace b2:=(hj.block (w.heap.size+1) z1).trans b2
 replace K:=K.step hj
 replace hb:=bstep hb hj
 replace z1:=Nat.lt_of_lt_of_le z1 hj.size
 replace rF:=rF.alloc (.cells (uF 6 0 r0 r1 r2 r3 r4 r5 r6 r7 AF xs cF) 60)
 have zF:wk.heap.size < (wk.alloc (.cells (uF 6 0 r0 r1 r2 r3 r4 r5 r6 r7 AF xs cF) 60)).heap.size:=by simp
 clear hk hj
 obtain ⟨vF,hv⟩:∃ v,wk.heap.size = v:=⟨_,rfl⟩
 rw [hv] at b3 zF ⊢
 clear hv
 generalize (wk.alloc (.cells (uF 6 0 r0 r1 r2 r3 r4 r5 r6 r7 AF xs cF) 60)) = w3 at *
 obtain ⟨p0,p1,p2,p3,p4⟩:=cells5 b1
 obtain ⟨f0,f1,f2,f3,f4,f5,f6,f7,f8,f9,f10⟩:=cells11 b3
 have HFF:=hid b3
 go_cut [7] from 14 (fun s0 wx=>∃ (m b5 b6 p3 p4 p5:Nat),s0 = .slice (some ⟨b6,0,none⟩) 2 2∧Steps wx (uS A B C L a b c d s) (uF 6 0 r0 r1 r2 r3 r4 r5 r6 r7 AF xs cF) k m b5 b6 p3 p4 p5∧Below w3.heap.size w3 wx)
 case first =>
  go_region_with (go_at_call 101;(with_reducible refine (steps_any A B C L a b c d s k AF cF 6 0 r0 r1 r2 r3 r4 r5 r6 r7 xs _).mono ?_);rintro e w4 ⟨m,b5,b6,p3,p4,p5,rfl,HSt,hk4⟩;have hj4:Below w3.heap.size w3 w4:=bstep (by repeat (first | (with_reducible exact Below.refl _ _) | (with_reducible refine Below.drew ?_))) hk4;have hlk:=HSt.look6;have g0:w4.cell? ⟨vF,0,none⟩ = some (.int .i64 6):=cell_of_row w4 _ 0 _ _ _ ((hj4.block vF zF).trans HFF.out);have g1:w4.cell? ⟨vF,1,none⟩ = some (.int .i64 0):=cell_of_row w4 _ 1 _ _ _ ((hj4.block vF zF).trans HFF.out))
  all_goals go_wp2_with fail
  all_goals go_meet
  all_goals exact ⟨m,b5,b6,p3,p4,p5,rfl,HSt,hj4⟩
 case rest =>
  obtain ⟨m,b5,b6,p3,p4,p5,rfl,HSt,hj4⟩:=hcut
  replace b1:=(hj4.block w.heap.size (by omega)).trans b1
  replace b2:=(hj4.block (w.heap.size+1) z1).trans b2
  replace b3:=(hj4.block vF zF).trans b3
  replace K:=K.step hj4
  replace hb:=bstep hb hj4
  replace z1:=Nat.lt_of_lt_of_le z1 hj4.size
  replace rF:=rF.step hj4
  clear hj4 HFF zF f0 f1 f2 f3 f4 f5 f6 f7 f8 f9 f10
  obtain ⟨y0,y1,y2,y3,y4⟩:=cells5 b1
  obtain ⟨f0,f1,f2,f3,f4,f5,f6,f7,f8,f9,f10⟩:=cells11 b3
  obtain ⟨c0,c1⟩:=cells2 HSt.c6
  go_wp2_with (go_at_call 112;(with_reducible refine (HC.out AF cF p3 p4 p5 _ K rF hcF HSt.h3 HSt.h4 HSt.h5).mono ?_);rintro e wz hN;have hz:=hN.2;obtain ⟨A9,B9,C9,L9,a9,b9,c9,d9,he,_,_,_,_,_⟩:=hN.1 wz (Turn.refl _ _);subst he;have HN:=hid hN;clear hN;have kR:=(hz.block (w.heap.size+1) z1).trans b2;have kb:=bstep hb hz;obtain ⟨q0,q1,q2,q3,q4,qf0,qf1,qf2,qf3,qf4⟩:=cf5 kR)
  refine bodyPost_ret (v:=.agg (uS A9 B9 C9 L9 a9 b9 c9 d9 t9)) (by simp [uS,results,Tryz.results89,go_sem,q0,q1,q2,q3,q4]) rfl ?_
  exact ret_resN _ _ _ _ _ HN.out z1 (by omega) kb
theorem here_s1 (A B C L:Option Addr) (a b c d:Nat) (s:Sy) (k:Nat) (x:Co) ( r0 r1 r2 r3 r4 r5 r6 r7:Int) (xs:List Int) (w:World) (hs:SyFew s) (hg:2≤s.M.G.length) (h:RS w s A B C L) (h6:xs.length≤1000000) (hx:s.C[k]? = some x) (hp:pTop s k = some ⟨6,1,[r0,r1,r2,r3,r4,r5,r6,r7],xs⟩)  :
  Calls Tryz.prog 89 #[.agg (uS A B C L a b c d s),.int .i64 k] w (RetSysN w (pSweep s k ⟨6,1,[r0,r1,r2,r3,r4,r5,r6,r7],xs⟩)):=by
 obtain ⟨t9,ht9⟩:∃ t,t = pSweep s k ⟨6,1,[r0,r1,r2,r3,r4,r5,r6,r7],xs⟩:=⟨_,rfl⟩
 have HC:=hid (show ∀ (AF:Option Addr) (cF p3 p4 p5:Nat) w1,RS w1 s A B C L→Row w1 AF xs→xs.length≤cF→w1.heap[p3]? = some (.cells (uS A B C L a b c d s) 30 (0,0))→w1.heap[p4]? = some (.cells #[.int .i64 (k:Int)] 3 (0,0))→w1.heap[p5]? = some (.cells (uF 6 1 r0 r1 r2 r3 r4 r5 r6 r7 AF xs cF) 60 (0,0))→Calls Tryz.prog 114 #[.pointer (some ⟨p3,0,none⟩),.pointer (some ⟨p4,0,none⟩),.pointer (some ⟨p5,0,none⟩)] w1 (RetSysN w1 t9) from fun AF cF p3 p4 p5 w1 hr hf hcf g3 g4 g5=>by have h9:=clo4_any A B C L a b c d s k x AF cF 6 1 r0 r1 r2 r3 r4 r5 r6 r7 xs p3 p4 p5 w1 hs hg hr hf h6 hx  g3 g4 g5;rw [← ht9] at h9;exact h9)
 rw [← ht9]
 clear ht9
 obtain ⟨b1,b2,bs⟩:=heap2 w (.cells (uS A B C L a b c d s) 30) (.cells uZ 30)
 have hb:Below w.heap.size w ((w.alloc (.cells (uS A B C L a b c d s) 30)).alloc (.cells uZ 30)):=bstep (boxed _ _) (boxed _ _)
 have z1:w.heap.size+1 < ((w.alloc (.cells (uS A B C L a b c d s) 30)).alloc (.cells uZ 30)).heap.size:=by simp
 clear bs
 go_enter Tryz.func89,Tryz.ntmps89
 go_upto_region 1 with (fail)
 generalize ((w.alloc (.cells (uS A B C L a b c d s) 30)).alloc (.cells uZ 30)) = w1 at *
 have K:=h.step hb
 obtain ⟨p0,p1,p2,p3,p4⟩:=cells5 b1
 go_upto_region 2 with (go_at_call 25;(with_reducible refine (top_isC A B C L a b c d s k 6 1 r0 r1 r2 r3 r4 r5 r6 r7 xs _ hs K hp h6).mono ?_);rintro e wk ⟨AF,cF,rfl,rF,hcF,hk⟩)
 clear p0 p1 p2 p3 p4
 have hj:Below w1.heap.size w1 (wk.alloc (.cells (uF 6 1 r0 r1 r2 r3 r4 r5 r6 r7 AF xs cF) 60)):=bstep hk (boxed _ _)
 have b3:=heap_alloc_new wk (.cells (uF 6 1 r0 r1 r2 r3 r4 r5 r6 r7 AF xs cF) 60)
 replace b1:=(hj.block w.heap.size (by omega)).trans b1
 replace b2:=(hj.block (w.heap.size+1) z1).trans b2
 replace K:=K.step hj
 replace hb:=bstep hb hj
 replace z1:=Nat.lt_of_lt_of_le z1 hj.size
 replace rF:=rF.alloc (.cells (uF 6 1 r0 r1 r2 r3 r4 r5 r6 r7 AF xs cF) 60)
 have zF:wk.heap.size < (wk.alloc (.cells (uF 6 1 r0 r1 r2 r3 r4 r5 r6 r7 AF xs cF) 60)).heap.size:=by simp
 clear hk hj
 obtain ⟨vF,hv⟩:∃ v,wk.heap.size = v:=⟨_,rfl⟩
 rw [hv] at b3 zF ⊢
 clear hv
 generalize (wk.alloc (.cells (uF 6 1 r0 r1 r2 r3 r4 r5 r6 r7 AF xs cF) 60)) = w3 at *
 obtain ⟨p0,p1,p2,p3,p4⟩:=cells5 b1
 obtain ⟨f0,f1,f2,f3,f4,f5,f6,f7,f8,f9,f10⟩:=cells11 b3
 have HFF:=hid b3
 go_cut [7] from 14 (fun s0 wx=>∃ (m b5 b6 p3 p4 p5:Nat),s0 = .slice (some ⟨b6,0,none⟩) 2 2∧Steps wx (uS A B C L a b c d s) (uF 6 1 r0 r1 r2 r3 r4 r5 r6 r7 AF xs cF) k m b5 b6 p3 p4 p5∧Below w3.heap.size w3 wx)
 case first =>
  go_region_with (go_at_call 101;(with_reducible refine (steps_any A B C L a b c d s k AF cF 6 1 r0 r1 r2 r3 r4 r5 r6 r7 xs _).mono ?_);rintro e w4 ⟨m,b5,b6,p3,p4,p5,rfl,HSt,hk4⟩;have hj4:Below w3.heap.size w3 w4:=bstep (by repeat (first | (with_reducible exact Below.refl _ _) | (with_reducible refine Below.drew ?_))) hk4;have hlk:=HSt.look6;have g0:w4.cell? ⟨vF,0,none⟩ = some (.int .i64 6):=cell_of_row w4 _ 0 _ _ _ ((hj4.block vF zF).trans HFF.out);have g1:w4.cell? ⟨vF,1,none⟩ = some (.int .i64 1):=cell_of_row w4 _ 1 _ _ _ ((hj4.block vF zF).trans HFF.out))
  all_goals go_wp2_with fail
  all_goals go_meet
  all_goals exact ⟨m,b5,b6,p3,p4,p5,rfl,HSt,hj4⟩
 case rest =>
  obtain ⟨m,b5,b6,p3,p4,p5,rfl,HSt,hj4⟩:=hcut
  replace b1:=(hj4.block w.heap.size (by omega)).trans b1
  replace b2:=(hj4.block (w.heap.size+1) z1).trans b2
  replace b3:=(hj4.block vF zF).trans b3
  replace K:=K.step hj4
  replace hb:=bstep hb hj4
  replace z1:=Nat.lt_of_lt_of_le z1 hj4.size
  replace rF:=rF.step hj4
  clear hj4 HFF zF f0 f1 f2 f3 f4 f5 f6 f7 f8 f9 f10
  obtain ⟨y0,y1,y2,y3,y4⟩:=cells5 b1
  obtain ⟨f0,f1,f2,f3,f4,f5,f6,f7,f8,f9,f10⟩:=cells11 b3
  obtain ⟨c0,c1⟩:=cells2 HSt.c6
  go_wp2_with (go_at_call 114;(with_reducible refine (HC.out AF cF p3 p4 p5 _ K rF hcF HSt.h3 HSt.h4 HSt.h5).mono ?_);rintro e wz hN;have hz:=hN.2;obtain ⟨A9,B9,C9,L9,a9,b9,c9,d9,he,_,_,_,_,_⟩:=hN.1 wz (Turn.refl _ _);subst he;have HN:=hid hN;clear hN;have kR:=(hz.block (w.heap.size+1) z1).trans b2;have kb:=bstep hb hz;obtain ⟨q0,q1,q2,q3,q4,qf0,qf1,qf2,qf3,qf4⟩:=cf5 kR)
  refine bodyPost_ret (v:=.agg (uS A9 B9 C9 L9 a9 b9 c9 d9 t9)) (by simp [uS,results,Tryz.results89,go_sem,q0,q1,q2,q3,q4]) rfl ?_
  exact ret_resN _ _ _ _ _ HN.out z1 (by omega) kb
theorem here_6n (A B C L:Option Addr) (a b c d:Nat) (s:Sy) (k:Nat) (x:Co) (pc r0 r1 r2 r3 r4 r5 r6 r7:Int) (xs:List Int) (w:World) (hs:SyFew s) (hg:2≤s.M.G.length) (h:RS w s A B C L) (h6:xs.length≤1000000) (hx:s.C[k]? = some x) (hp:pTop s k = some ⟨6,pc,[r0,r1,r2,r3,r4,r5,r6,r7],xs⟩) (q:pc < 0) :
  Calls Tryz.prog 89 #[.agg (uS A B C L a b c d s),.int .i64 k] w (RetSysN w (s)):=by
 have HR:=pSet_top hp
 have HC:=hid (show ∀ (AF:Option Addr) (cF:Nat) w',RS w' s A B C L→Row w' AF xs→Calls Tryz.prog 50 #[.agg (uS A B C L a b c d s),.int .i64 k,.agg (uF 6 pc r0 r1 r2 r3 r4 r5 r6 r7 AF xs cF)] w' (RetSysN w' s) from fun AF cF w' k1 k2=>by have h9:=set_uN A B C L a b c d s k AF cF 6 pc r0 r1 r2 r3 r4 r5 r6 r7 xs w' hs k1 k2 h6;rw [HR] at h9;exact h9)
 clear HR
 obtain ⟨b1,b2,bs⟩:=heap2 w (.cells (uS A B C L a b c d s) 30) (.cells uZ 30)
 have hb:Below w.heap.size w ((w.alloc (.cells (uS A B C L a b c d s) 30)).alloc (.cells uZ 30)):=bstep (boxed _ _) (boxed _ _)
 have z1:w.heap.size+1 < ((w.alloc (.cells (uS A B C L a b c d s) 30)).alloc (.cells uZ 30)).heap.size:=by simp
 clear bs
 go_enter Tryz.func89,Tryz.ntmps89
 go_upto_region 1 with (fail)
 generalize ((w.alloc (.cells (uS A B C L a b c d s) 30)).alloc (.cells uZ 30)) = w1 at *
 have K:=h.step hb
 obtain ⟨p0,p1,p2,p3,p4⟩:=cells5 b1
 go_upto_region 2 with (go_at_call 25;(with_reducible refine (top_isC A B C L a b c d s k 6 pc r0 r1 r2 r3 r4 r5 r6 r7 xs _ hs K hp h6).mono ?_);rintro e wk ⟨AF,cF,rfl,rF,hcF,hk⟩)
 clear p0 p1 p2 p3 p4
 have hj:Below w1.heap.size w1 (wk.alloc (.cells (uF 6 pc r0 r1 r2 r3 r4 r5 r6 r7 AF xs cF) 60)):=bstep hk (boxed _ _)
 have b3:=heap_alloc_new wk (.cells (uF 6 pc r0 r1 r2 r3 r4 r5 r6 r7 AF xs cF) 60)
 replace b1:=(hj.block w.heap.size (by omega)).trans b1
 replace b2:=(hj.block (w.heap.size+1) z1).trans b2
 replace K:=K.step hj
 replace hb:=bstep hb hj
 replace z1:=Nat.lt_of_lt_of_le z1 hj.size
 replace rF:=rF.alloc (.cells (uF 6 pc r0 r1 r2 r3 r4 r5 r6 r7 AF xs cF) 60)
 have zF:wk.heap.size < (wk.alloc (.cells (uF 6 pc r0 r1 r2 r3 r4 r5 r6 r7 AF xs cF) 60)).heap.size:=by simp
 clear hk hj
 obtain ⟨vF,hv⟩:∃ v,wk.heap.size = v:=⟨_,rfl⟩
 rw [hv] at b3 zF ⊢
 clear hv
 generalize (wk.alloc (.cells (uF 6 pc r0 r1 r2 r3 r4 r5 r6 r7 AF xs cF) 60)) = w3 at *
 obtain ⟨p0,p1,p2,p3,p4⟩:=cells5 b1
 obtain ⟨f0,f1,f2,f3,f4,f5,f6,f7,f8,f9,f10⟩:=cells11 b3
 have HFF:=hid b3
 go_cut [7] from 14 (fun s0 wx=>∃ (m b5 b6 p3 p4 p5:Nat),s0 = .slice (some ⟨b6,0,none⟩) 2 2∧Steps wx (uS A B C L a b c d s) (uF 6 pc r0 r1 r2 r3 r4 r5 r6 r7 AF xs cF) k m b5 b6 p3 p4 p5∧Below w3.heap.size w3 wx)
 case first =>
  go_region_with (go_at_call 101;(with_reducible refine (steps_any A B C L a b c d s k AF cF 6 pc r0 r1 r2 r3 r4 r5 r6 r7 xs _).mono ?_);rintro e w4 ⟨m,b5,b6,p3,p4,p5,rfl,HSt,hk4⟩;have hj4:Below w3.heap.size w3 w4:=bstep (by repeat (first | (with_reducible exact Below.refl _ _) | (with_reducible refine Below.drew ?_))) hk4;have hlk:=HSt.look6;have g0:w4.cell? ⟨vF,0,none⟩ = some (.int .i64 6):=cell_of_row w4 _ 0 _ _ _ ((hj4.block vF zF).trans HFF.out);have g1:w4.cell? ⟨vF,1,none⟩ = some (.int .i64 pc):=cell_of_row w4 _ 1 _ _ _ ((hj4.block vF zF).trans HFF.out))
  all_goals go_wp2_with fail
  all_goals go_meet
  all_goals exact ⟨m,b5,b6,p3,p4,p5,rfl,HSt,hj4⟩
 case rest =>
  obtain ⟨m,b5,b6,p3,p4,p5,rfl,HSt,hj4⟩:=hcut
  replace b1:=(hj4.block w.heap.size (by omega)).trans b1
  replace b2:=(hj4.block (w.heap.size+1) z1).trans b2
  replace b3:=(hj4.block vF zF).trans b3
  replace K:=K.step hj4
  replace hb:=bstep hb hj4
  replace z1:=Nat.lt_of_lt_of_le z1 hj4.size
  replace rF:=rF.step hj4
  clear hj4 HFF zF f0 f1 f2 f3 f4 f5 f6 f7 f8 f9 f10
  obtain ⟨y0,y1,y2,y3,y4⟩:=cells5 b1
  obtain ⟨f0,f1,f2,f3,f4,f5,f6,f7,f8,f9,f10⟩:=cells11 b3
  go_wp2_with (go_at_call 50;(with_reducible refine (HC.out AF cF _ K rF).mono ?_);rintro e wz hN;have hz:=hN.2;obtain ⟨A9,B9,C9,L9,a9,b9,c9,d9,he,_,_,_,_,_⟩:=hN.1 wz (Turn.refl _ _);subst he;have HN:=hid hN;clear hN;have kR:=(hz.block (w.heap.size+1) z1).trans b2;have kb:=bstep hb hz;obtain ⟨q0,q1,q2,q3,q4,qf0,qf1,qf2,qf3,qf4⟩:=cf5 kR)
  refine bodyPost_ret (v:=.agg (uS A9 B9 C9 L9 a9 b9 c9 d9 s)) (by simp [uS,results,Tryz.results89,go_sem,q0,q1,q2,q3,q4]) rfl ?_
  exact ret_resN _ _ _ _ _ HN.out z1 (by omega) kb
theorem here_6p (A B C L:Option Addr) (a b c d:Nat) (s:Sy) (k:Nat) (x:Co) (pc r0 r1 r2 r3 r4 r5 r6 r7:Int) (xs:List Int) (w:World) (hs:SyFew s) (hg:2≤s.M.G.length) (h:RS w s A B C L) (h6:xs.length≤1000000) (hx:s.C[k]? = some x) (hp:pTop s k = some ⟨6,pc,[r0,r1,r2,r3,r4,r5,r6,r7],xs⟩) (q0:¬ pc < 0) (q:2≤pc) :
  Calls Tryz.prog 89 #[.agg (uS A B C L a b c d s),.int .i64 k] w (RetSysN w (s)):=by
 have HR:=pSet_top hp
 have HC:=hid (show ∀ (AF:Option Addr) (cF:Nat) w',RS w' s A B C L→Row w' AF xs→Calls Tryz.prog 50 #[.agg (uS A B C L a b c d s),.int .i64 k,.agg (uF 6 pc r0 r1 r2 r3 r4 r5 r6 r7 AF xs cF)] w' (RetSysN w' s) from fun AF cF w' k1 k2=>by have h9:=set_uN A B C L a b c d s k AF cF 6 pc r0 r1 r2 r3 r4 r5 r6 r7 xs w' hs k1 k2 h6;rw [HR] at h9;exact h9)
 clear HR
 obtain ⟨b1,b2,bs⟩:=heap2 w (.cells (uS A B C L a b c d s) 30) (.cells uZ 30)
 have hb:Below w.heap.size w ((w.alloc (.cells (uS A B C L a b c d s) 30)).alloc (.cells uZ 30)):=bstep (boxed _ _) (boxed _ _)
 have z1:w.heap.size+1 < ((w.alloc (.cells (uS A B C L a b c d s) 30)).alloc (.cells uZ 30)).heap.size:=by simp
 clear bs
 go_enter Tryz.func89,Tryz.ntmps89
 go_upto_region 1 with (fail)
 generalize ((w.alloc (.cells (uS A B C L a b c d s) 30)).alloc (.cells uZ 30)) = w1 at *
 have K:=h.step hb
 obtain ⟨p0,p1,p2,p3,p4⟩:=cells5 b1
 go_upto_region 2 with (go_at_call 25;(with_reducible refine (top_isC A B C L a b c d s k 6 pc r0 r1 r2 r3 r4 r5 r6 r7 xs _ hs K hp h6).mono ?_);rintro e wk ⟨AF,cF,rfl,rF,hcF,hk⟩)
 clear p0 p1 p2 p3 p4
 have hj:Below w1.heap.size w1 (wk.alloc (.cells (uF 6 pc r0 r1 r2 r3 r4 r5 r6 r7 AF xs cF) 60)):=bstep hk (boxed _ _)
 have b3:=heap_alloc_new wk (.cells (uF 6 pc r0 r1 r2 r3 r4 r5 r6 r7 AF xs cF) 60)
 replace b1:=(hj.block w.heap.size (by omega)).trans b1
 replace b2:=(hj.block (w.heap.size+1) z1).trans b2
 replace K:=K.step hj
 replace hb:=bstep hb hj
 replace z1:=Nat.lt_of_lt_of_le z1 hj.size
 replace rF:=rF.alloc (.cells (uF 6 pc r0 r1 r2 r3 r4 r5 r6 r7 AF xs cF) 60)
 have zF:wk.heap.size < (wk.alloc (.cells (uF 6 pc r0 r1 r2 r3 r4 r5 r6 r7 AF xs cF) 60)).heap.size:=by simp
 clear hk hj
 obtain ⟨vF,hv⟩:∃ v,wk.heap.size = v:=⟨_,rfl⟩
 rw [hv] at b3 zF ⊢
 clear hv
 generalize (wk.alloc (.cells (uF 6 pc r0 r1 r2 r3 r4 r5 r6 r7 AF xs cF) 60)) = w3 at *
 obtain ⟨p0,p1,p2,p3,p4⟩:=cells5 b1
 obtain ⟨f0,f1,f2,f3,f4,f5,f6,f7,f8,f9,f10⟩:=cells11 b3
 have HFF:=hid b3
 go_cut [7] from 14 (fun s0 wx=>∃ (m b5 b6 p3 p4 p5:Nat),s0 = .slice (some ⟨b6,0,none⟩) 2 2∧Steps wx (uS A B C L a b c d s) (uF 6 pc r0 r1 r2 r3 r4 r5 r6 r7 AF xs cF) k m b5 b6 p3 p4 p5∧Below w3.heap.size w3 wx)
 case first =>
  go_region_with (go_at_call 101;(with_reducible refine (steps_any A B C L a b c d s k AF cF 6 pc r0 r1 r2 r3 r4 r5 r6 r7 xs _).mono ?_);rintro e w4 ⟨m,b5,b6,p3,p4,p5,rfl,HSt,hk4⟩;have hj4:Below w3.heap.size w3 w4:=bstep (by repeat (first | (with_reducible exact Below.refl _ _) | (with_reducible refine Below.drew ?_))) hk4;have hlk:=HSt.look6;have g0:w4.cell? ⟨vF,0,none⟩ = some (.int .i64 6):=cell_of_row w4 _ 0 _ _ _ ((hj4.block vF zF).trans HFF.out);have g1:w4.cell? ⟨vF,1,none⟩ = some (.int .i64 pc):=cell_of_row w4 _ 1 _ _ _ ((hj4.block vF zF).trans HFF.out))
  all_goals go_wp2_with fail
  all_goals go_meet
  all_goals exact ⟨m,b5,b6,p3,p4,p5,rfl,HSt,hj4⟩
 case rest =>
  obtain ⟨m,b5,b6,p3,p4,p5,rfl,HSt,hj4⟩:=hcut
  replace b1:=(hj4.block w.heap.size (by omega)).trans b1
  replace b2:=(hj4.block (w.heap.size+1) z1).trans b2
  replace b3:=(hj4.block vF zF).trans b3
  replace K:=K.step hj4
  replace hb:=bstep hb hj4
  replace z1:=Nat.lt_of_lt_of_le z1 hj4.size
  replace rF:=rF.step hj4
  clear hj4 HFF zF f0 f1 f2 f3 f4 f5 f6 f7 f8 f9 f10
  obtain ⟨y0,y1,y2,y3,y4⟩:=cells5 b1
  obtain ⟨f0,f1,f2,f3,f4,f5,f6,f7,f8,f9,f10⟩:=cells11 b3
  go_wp2_with (go_at_call 50;(with_reducible refine (HC.out AF cF _ K rF).mono ?_);rintro e wz hN;have hz:=hN.2;obtain ⟨A9,B9,C9,L9,a9,b9,c9,d9,he,_,_,_,_,_⟩:=hN.1 wz (Turn.refl _ _);subst he;have HN:=hid hN;clear hN;have kR:=(hz.block (w.heap.size+1) z1).trans b2;have kb:=bstep hb hz;obtain ⟨q0,q1,q2,q3,q4,qf0,qf1,qf2,qf3,qf4⟩:=cf5 kR)
  refine bodyPost_ret (v:=.agg (uS A9 B9 C9 L9 a9 b9 c9 d9 s)) (by simp [uS,results,Tryz.results89,go_sem,q0,q1,q2,q3,q4]) rfl ?_
  exact ret_resN _ _ _ _ _ HN.out z1 (by omega) kb
end Go.Proofs.YtfipcdhodojodaaGreat
