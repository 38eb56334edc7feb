/- Tops over a plain function. Contract: a step of a core, by the program. -/
import Derived.Test.YtfipcdhodojodaaGreatStk8
namespace Go.Proofs.YtfipcdhodojodaaGreat
open Go.RowKit
set_option maxRecDepth 100000
set_option maxHeartbeats 4000000
set_option linter.unusedVariables false
set_option linter.unusedSimpArgs false
theorem pTop_cases (s:Sy) (i:Int) (hs:SyFew s) {w:World} {C:Option Addr} (h0:RowC w C s.C):pTop s i = none ∨ ∃ (op pc r0 r1 r2 r3 r4 r5 r6 r7:Int) (xs:List Int),pTop s i = some ⟨op,pc,[r0,r1,r2,r3,r4,r5,r6,r7],xs⟩∧xs.length≤1000000:=by
 rcases pAt_cases s i with ⟨_,_,h2⟩ | ⟨k,x,rfl,hk,hx,_,h2⟩
 ·left;unfold pTop;rw [h2]
 ·rcases List.eq_nil_or_concat x.F with e | ⟨l,f,e⟩
  ·left;unfold pTop;rw [h2];simp [e]
  ·right
   obtain ⟨_,g2,g3⟩:=hs.2.2.2.2 x (List.mem_of_getElem? hx)
   obtain ⟨b,o,_,_,hat⟩:=h0 (by omega)
   obtain ⟨⟨A,c,_,rF,_⟩,_⟩:=hat k x hx
   have hl:x.F.length = l.length+1:=by rw [e];simp
   have hf:x.F[l.length]? = some f:=by rw [e];simp
   obtain ⟨b',o',_,_,hat'⟩:=rF (by omega)
   have h8:f.R.length = 8:=(hat' _ f hf).1
   have h4:=g3 f (List.mem_of_getElem? hf)
   obtain ⟨op,pc,rs,xs⟩:=f
   obtain ⟨r0,r1,r2,r3,r4,r5,r6,r7,e8⟩:=eight h8
   simp only at e8 h4
   subst e8
   exact ⟨op,pc,r0,r1,r2,r3,r4,r5,r6,r7,xs,by unfold pTop;rw [h2];simp [e],h4⟩
theorem pTop_out {s:Sy} {i:Int} {f:Fr} (h:pTop s i = some f):∃ (k n:Nat) (x:Co),i = (k:Int)∧s.C[k]? = some x∧x.F.length = n+1∧x.F[n]? = some f:=by
 unfold pTop at h
 rcases pAt_cases s i with ⟨_,_,h2⟩ | ⟨k,x,rfl,hk,hx,_,h2⟩
 ·rw [h2] at h;cases h
 ·rw [h2] at h
  dsimp only at h
  rcases List.eq_nil_or_concat x.F with e | ⟨l,g,e⟩
  ·rw [e] at h;cases h
  ·refine ⟨k,l.length,x,rfl,hx,by rw [e];simp,?_⟩
   rw [e] at h ⊢
   simp at h ⊢
   exact h
theorem top_no (A B C L:Option Addr) (a b c d:Nat) (s:Sy) (i:Int) (w:World) (hs:SyFew s) (h:RS w s A B C L) (hp:pTop s i = none) :
  Calls Tryz.prog 25 #[.agg (uS A B C L a b c d s),.int .i64 i] w fun e w'=>e = .returned (.tuple #[.agg #[.int .i64 0,.int .i64 0,.int .i64 0,.int .i64 0,.int .i64 0,.int .i64 0,.int .i64 0,.int .i64 0,.int .i64 0,.int .i64 0,.slice none 0 0],.bool false])∧Below w.heap.size w w':=by
 unfold pTop at hp
 rcases pAt_cases s i with ⟨h1,h1b,h2⟩ | ⟨k,x,rfl,hk,hx,_,h2⟩
 ·exact top_out A B C L a b c d s i w hs.2.2.1 h1
 ·rw [h2] at hp
  exact top_none A B C L a b c d s k x w h.C hs.2.2.1 hx (by have:x.F = []:=(by simpa using hp);simp [this])
theorem top_is (A B C L:Option Addr) (a b c d:Nat) (s:Sy) (i op pc r0 r1 r2 r3 r4 r5 r6 r7:Int) (xs:List Int) (w:World) (hs:SyFew s) (h:RS w s A B C L) (hp:pTop s i = some ⟨op,pc,[r0,r1,r2,r3,r4,r5,r6,r7],xs⟩) (h6:xs.length≤1000000) :
  Calls Tryz.prog 25 #[.agg (uS A B C L a b c d s),.int .i64 i] w fun e w'=>∃ (A':Option Addr) (c':Nat),e = .returned (.tuple #[.agg (uF op pc r0 r1 r2 r3 r4 r5 r6 r7 A' xs c'),.bool true])∧Row w' A' xs∧Below w.heap.size w w':=by
 obtain ⟨k,n,x,rfl,hx,hn,hf⟩:=pTop_out hp
 have g2:=(hs.2.2.2.2 x (List.mem_of_getElem? hx)).2.1
 exact top_yes A B C L a b c d s k n x op pc r0 r1 r2 r3 r4 r5 r6 r7 xs w h.C hs.2.2.1 hx hn (by omega) h6 hf
theorem rtop_no (A B C L:Option Addr) (a b c d:Nat) (s:Sy) (i:Int) (w:World) (hs:SyFew s) (h:RS w s A B C L) (hp:pTop s i = none) :
  Calls Tryz.prog 39 #[.agg (uS A B C L a b c d s),.int .i64 i] w fun e w'=>e = .returned (.tuple #[.agg #[.int .i64 0,.int .i64 0,.int .i64 0,.int .i64 0,.int .i64 0,.int .i64 0,.int .i64 0,.int .i64 0,.int .i64 0,.int .i64 0,.slice none 0 0],.bool false])∧Below w.heap.size w w':=by
 unfold pTop at hp
 rcases pAt_cases s i with ⟨h1,h1b,h2⟩ | ⟨k,x,rfl,hk,hx,_,h2⟩
 ·exact rtop_out A B C L a b c d s i w hs.2.2.1 h1b
 ·rw [h2] at hp
  exact rtop_none A B C L a b c d s k x w h.C hs.2.2.1 hx (by have:x.F = []:=(by simpa using hp);simp [this])
theorem rtop_is (A B C L:Option Addr) (a b c d:Nat) (s:Sy) (i op pc r0 r1 r2 r3 r4 r5 r6 r7:Int) (xs:List Int) (w:World) (hs:SyFew s) (h:RS w s A B C L) (hp:pTop s i = some ⟨op,pc,[r0,r1,r2,r3,r4,r5,r6,r7],xs⟩) (h6:xs.length≤1000000) :
  Calls Tryz.prog 39 #[.agg (uS A B C L a b c d s),.int .i64 i] w fun e w'=>∃ (A':Option Addr) (c':Nat),e = .returned (.tuple #[.agg (uF op pc r0 r1 r2 r3 r4 r5 r6 r7 A' xs c'),.bool true])∧Row w' A' xs∧Below w.heap.size w w':=by
 obtain ⟨k,n,x,rfl,hx,hn,hf⟩:=pTop_out hp
 have g2:=(hs.2.2.2.2 x (List.mem_of_getElem? hx)).2.1
 exact (rtop_yes A B C L a b c d s k n x op pc r0 r1 r2 r3 r4 r5 r6 r7 xs w h.C hs.2.2.1 hx hn (by omega) hf).mono fun e w' ⟨A',c',he,hr,hb⟩=>⟨A',c',he,hr.step hb,hb⟩
theorem ret_resV {w wk:World} {t:Sy} {A B C L:Option Addr} {a b c d v:Nat} (hv:w.heap.size≤v) (hR:wk.heap[v]? = some (.cells uZ 30 (0,0))) (hb:Below w.heap.size w wk) (rW:Row wk A t.M.W) (rG:Row wk B t.M.G) (rC:RowC wk C t.C) (rL:RowE wk L t.L) :
  RetSys w t (.returned (.agg (uS A B C L a b c d t))) (((((wk.setCell ⟨v,0,none⟩ (.slice A t.M.W.length a)).setCell ⟨v,1,none⟩ (.slice B t.M.G.length b)).setCell ⟨v,2,none⟩ (.bool t.M.bad)).setCell ⟨v,3,none⟩ (.slice C t.C.length c)).setCell ⟨v,4,none⟩ (.slice L t.L.length d)) :=
 ret_store rW rG rC rL (turn5 _ _ _ _ _ _ _) (noInt_sys hR) (hb.trans ((turn5 _ _ _ _ _ _ _).to_below hb.size (fun g hg=>by omega)))
theorem step_none (A B C L:Option Addr) (a b c d:Nat) (s:Sy) (i:Int) (w:World) (hs:SyFew s) (hg:2≤s.M.G.length) (h:RS w s A B C L) (hp:pTop s i = none) :
  Calls Tryz.prog 85 #[.agg (uS A B C L a b c d s),.int .i64 i] w (RetSysN w s):=by
 have HR:=pSet_none hp ⟨0,0,[0,0,0,0,0,0,0,0],[]⟩
 have HC:=hid (show ∀ w',RS w' s A B C L→Calls Tryz.prog 50 #[.agg (uS A B C L a b c d s),.int .i64 i,.agg #[.int .i64 0,.int .i64 0,.int .i64 0,.int .i64 0,.int .i64 0,.int .i64 0,.int .i64 0,.int .i64 0,.int .i64 0,.int .i64 0,.slice none 0 0]] w' (RetSysN w' s) from fun w' k=>by have h9:=set_uN A B C L a b c d s i none 0 0 0 0 0 0 0 0 0 0 0 [] w' hs k (Row.nil _ _) (by simp);rw [HR] at h9;exact h9)
 clear HR
 obtain ⟨b1,b2,bs⟩:=heap2 w (.cells (uS A B C L a b c d s) 30) (.cells uZ 30)
 have hb:Below w.heap.size w ((w.alloc (.cells (uS A B C L a b c d s) 30)).alloc (.cells uZ 30)):=bstep (boxed _ _) (boxed _ _)
 have z1:w.heap.size+1 < ((w.alloc (.cells (uS A B C L a b c d s) 30)).alloc (.cells uZ 30)).heap.size:=by simp
 clear bs
 go_enter Tryz.func85,Tryz.ntmps85
 go_upto_region 1 with (fail)
 generalize ((w.alloc (.cells (uS A B C L a b c d s) 30)).alloc (.cells uZ 30)) = w1 at *
 have K:=h.step hb
 obtain ⟨p0,p1,p2,p3,p4⟩:=cells5 b1
 go_upto_region 2 with (go_at_call 25;(with_reducible refine (top_no A B C L a b c d s i _ hs K hp).mono ?_);rintro e wk ⟨rfl,hk⟩)
 have rF:Row wk none []:=Row.nil _ _
 clear p0 p1 p2 p3 p4
 have hj:Below w1.heap.size w1 (wk.alloc (.cells #[.int .i64 0,.int .i64 0,.int .i64 0,.int .i64 0,.int .i64 0,.int .i64 0,.int .i64 0,.int .i64 0,.int .i64 0,.int .i64 0,.slice none 0 0] 60)):=bstep hk (boxed _ _)
 have b3:=heap_alloc_new wk (.cells #[.int .i64 0,.int .i64 0,.int .i64 0,.int .i64 0,.int .i64 0,.int .i64 0,.int .i64 0,.int .i64 0,.int .i64 0,.int .i64 0,.slice none 0 0] 60)
 replace b1:=(hj.block w.heap.size (by omega)).trans b1
 replace b2:=(hj.block (w.heap.size+1) z1).trans b2
 replace K:=K.step hj
 replace hb:=bstep hb hj
 replace z1:=Nat.lt_of_lt_of_le z1 hj.size
 replace rF:=rF.alloc (.cells #[.int .i64 0,.int .i64 0,.int .i64 0,.int .i64 0,.int .i64 0,.int .i64 0,.int .i64 0,.int .i64 0,.int .i64 0,.int .i64 0,.slice none 0 0] 60)
 clear hk hj
 obtain ⟨vF,hv⟩:∃ v,wk.heap.size = v:=⟨_,rfl⟩
 rw [hv] at b3 ⊢
 clear hv
 generalize (wk.alloc (.cells #[.int .i64 0,.int .i64 0,.int .i64 0,.int .i64 0,.int .i64 0,.int .i64 0,.int .i64 0,.int .i64 0,.int .i64 0,.int .i64 0,.slice none 0 0] 60)) = w3 at *
 obtain ⟨p0,p1,p2,p3,p4⟩:=cells5 b1
 obtain ⟨f0,f1,f2,f3,f4,f5,f6,f7,f8,f9,f10⟩:=cells11 b3
 go_wp2_with (go_at_call 50;(with_reducible refine (HC.out _ K).mono ?_);rintro e wz hN;have hz:=hN.2;obtain ⟨A9,B9,C9,L9,a9,b9,c9,d9,he,_,_,_,_,_⟩:=hN.1 wz (Turn.refl _ _);subst he;have HN:=hid hN;clear hN;have kR:=(hz.block (w.heap.size+1) z1).trans b2;have kb:=bstep hb hz;obtain ⟨q0,q1,q2,q3,q4,qf0,qf1,qf2,qf3,qf4⟩:=cf5 kR)
 refine bodyPost_ret (v:=.agg (uS A9 B9 C9 L9 a9 b9 c9 d9 s)) (by simp [uS,results,Tryz.results85,go_sem,q0,q1,q2,q3,q4]) rfl ?_
 exact ret_resN _ _ _ _ _ HN.out z1 (by omega) kb
theorem step_x (A B C L:Option Addr) (a b c d:Nat) (s:Sy) (i:Int) (op pc r0 r1 r2 r3 r4 r5 r6 r7:Int) (xs:List Int) (w:World) (hs:SyFew s) (hg:2≤s.M.G.length) (h:RS w s A B C L) (hp:pTop s i = some ⟨op,pc,[r0,r1,r2,r3,r4,r5,r6,r7],xs⟩) (h6:xs.length≤1000000) (o1:¬ op = 1) (o2:¬ op = 2) :
  Calls Tryz.prog 85 #[.agg (uS A B C L a b c d s),.int .i64 i] w (RetSysN w s):=by
 have e1:(op == 1) = false:=by simpa using o1
 have e2:(op == 2) = false:=by simpa using o2
 clear o1 o2
 have HR:=pSet_top hp
 have HC:=hid (show ∀ (AF:Option Addr) (cF:Nat) w',RS w' s A B C L→Row w' AF xs→Calls Tryz.prog 50 #[.agg (uS A B C L a b c d s),.int .i64 i,.agg (uF op pc r0 r1 r2 r3 r4 r5 r6 r7 AF xs cF)] w' (RetSysN w' s) from fun AF cF w' k k2=>by have h9:=set_uN A B C L a b c d s i AF cF op pc r0 r1 r2 r3 r4 r5 r6 r7 xs w' hs k k2 h6;rw [HR] at h9;exact h9)
 clear HR
 obtain ⟨b1,b2,bs⟩:=heap2 w (.cells (uS A B C L a b c d s) 30) (.cells uZ 30)
 have hb:Below w.heap.size w ((w.alloc (.cells (uS A B C L a b c d s) 30)).alloc (.cells uZ 30)):=bstep (boxed _ _) (boxed _ _)
 have z1:w.heap.size+1 < ((w.alloc (.cells (uS A B C L a b c d s) 30)).alloc (.cells uZ 30)).heap.size:=by simp
 clear bs
 go_enter Tryz.func85,Tryz.ntmps85
 go_upto_region 1 with (fail)
 generalize ((w.alloc (.cells (uS A B C L a b c d s) 30)).alloc (.cells uZ 30)) = w1 at *
 have K:=h.step hb
 obtain ⟨p0,p1,p2,p3,p4⟩:=cells5 b1
 go_upto_region 2 with (go_at_call 25;(with_reducible refine (top_is A B C L a b c d s i op pc r0 r1 r2 r3 r4 r5 r6 r7 xs _ hs K hp h6).mono ?_);rintro e wk ⟨AF,cF,rfl,rF,hk⟩)
 clear p0 p1 p2 p3 p4
 have hj:Below w1.heap.size w1 (wk.alloc (.cells (uF op pc r0 r1 r2 r3 r4 r5 r6 r7 AF xs cF) 60)):=bstep hk (boxed _ _)
 have b3:=heap_alloc_new wk (.cells (uF op pc r0 r1 r2 r3 r4 r5 r6 r7 AF xs cF) 60)
 replace b1:=(hj.block w.heap.size (by omega)).trans b1
 replace b2:=(hj.block (w.heap.size+1) z1).trans b2
 replace K:=K.step hj
 replace hb:=bstep hb hj
 replace z1:=Nat.lt_of_lt_of_le z1 hj.size
 replace rF:=rF.alloc (.cells (uF op pc r0 r1 r2 r3 r4 r5 r6 r7 AF xs cF) 60)
 clear hk hj
 obtain ⟨vF,hv⟩:∃ v,wk.heap.size = v:=⟨_,rfl⟩
 rw [hv] at b3 ⊢
 clear hv
 generalize (wk.alloc (.cells (uF op pc r0 r1 r2 r3 r4 r5 r6 r7 AF xs cF) 60)) = w3 at *
 obtain ⟨p0,p1,p2,p3,p4⟩:=cells5 b1
 obtain ⟨f0,f1,f2,f3,f4,f5,f6,f7,f8,f9,f10⟩:=cells11 b3
 go_wp2_with (go_at_call 50;(with_reducible refine (HC.out AF cF _ K rF).mono ?_);rintro e wz hN;have hz:=hN.2;obtain ⟨A9,B9,C9,L9,a9,b9,c9,d9,he,_,_,_,_,_⟩:=hN.1 wz (Turn.refl _ _);subst he;have HN:=hid hN;clear hN;have kR:=(hz.block (w.heap.size+1) z1).trans b2;have kb:=bstep hb hz;obtain ⟨q0,q1,q2,q3,q4,qf0,qf1,qf2,qf3,qf4⟩:=cf5 kR)
 refine bodyPost_ret (v:=.agg (uS A9 B9 C9 L9 a9 b9 c9 d9 s)) (by simp [uS,results,Tryz.results85,go_sem,q0,q1,q2,q3,q4]) rfl ?_
 exact ret_resN _ _ _ _ _ HN.out z1 (by omega) kb
theorem step_pop (A B C L:Option Addr) (a b c d:Nat) (s:Sy) (i:Int) (pc r0 r1 r2 r3 r4 r5 r6 r7:Int) (xs:List Int) (w:World) (hs:SyFew s) (hg:2≤s.M.G.length) (h:RS w s A B C L) (hL:s.L.length≤999998) (hp:pTop s i = some ⟨1,pc,[r0,r1,r2,r3,r4,r5,r6,r7],xs⟩) (h6:xs.length≤1000000) :
  Calls Tryz.prog 85 #[.agg (uS A B C L a b c d s),.int .i64 i] w (RetSysN w (pPop s i ⟨1,pc,[r0,r1,r2,r3,r4,r5,r6,r7],xs⟩ s)):=by
 have HC:=hid (show ∀ (AF:Option Addr) (cF:Nat) w',RS w' s A B C L→Row w' AF xs→Calls Tryz.prog 97 #[.agg (uS A B C L a b c d s),.int .i64 i,.agg (uF 1 pc r0 r1 r2 r3 r4 r5 r6 r7 AF xs cF)] w' (RetSysN w' (pPop s i ⟨1,pc,[r0,r1,r2,r3,r4,r5,r6,r7],xs⟩ s)) from fun AF cF w' k k2=>pop_any A B C L a b c d s i AF cF 1 pc r0 r1 r2 r3 r4 r5 r6 r7 xs s w' hs hg k k2 h6 hL (pSet_top hp).symm)
 obtain ⟨t9,ht9⟩:∃ t,t = pPop s i ⟨1,pc,[r0,r1,r2,r3,r4,r5,r6,r7],xs⟩ s:=⟨_,rfl⟩
 rw [← ht9] at HC ⊢
 clear ht9
 obtain ⟨b1,b2,bs⟩:=heap2 w (.cells (uS A B C L a b c d s) 30) (.cells uZ 30)
 have hb:Below w.heap.size w ((w.alloc (.cells (uS A B C L a b c d s) 30)).alloc (.cells uZ 30)):=bstep (boxed _ _) (boxed _ _)
 have z1:w.heap.size+1 < ((w.alloc (.cells (uS A B C L a b c d s) 30)).alloc (.cells uZ 30)).heap.size:=by simp
 clear bs
 go_enter Tryz.func85,Tryz.ntmps85
 go_upto_region 1 with (fail)
 generalize ((w.alloc (.cells (uS A B C L a b c d s) 30)).alloc (.cells uZ 30)) = w1 at *
 have K:=h.step hb
 obtain ⟨p0,p1,p2,p3,p4⟩:=cells5 b1
 go_upto_region 2 with (go_at_call 25;(with_reducible refine (top_is A B C L a b c d s i 1 pc r0 r1 r2 r3 r4 r5 r6 r7 xs _ hs K hp h6).mono ?_);rintro e wk ⟨AF,cF,rfl,rF,hk⟩)
 clear p0 p1 p2 p3 p4
 have hj:Below w1.heap.size w1 (wk.alloc (.cells (uF 1 pc r0 r1 r2 r3 r4 r5 r6 r7 AF xs cF) 60)):=bstep hk (boxed _ _)
 have b3:=heap_alloc_new wk (.cells (uF 1 pc r0 r1 r2 r3 r4 r5 r6 r7 AF xs cF) 60)
 replace b1:=(hj.block w.heap.size (by omega)).trans b1
 replace b2:=(hj.block (w.heap.size+1) z1).trans b2
 replace K:=K.step hj
 replace hb:=bstep hb hj
 replace z1:=Nat.lt_of_lt_of_le z1 hj.size
 replace rF:=rF.alloc (.cells (uF 1 pc r0 r1 r2 r3 r4 r5 r6 r7 AF xs cF) 60)
 clear hk hj
 obtain ⟨vF,hv⟩:∃ v,wk.heap.size = v:=⟨_,rfl⟩
 rw [hv] at b3 ⊢
 clear hv
 generalize (wk.alloc (.cells (uF 1 pc r0 r1 r2 r3 r4 r5 r6 r7 AF xs cF) 60)) = w3 at *
 obtain ⟨p0,p1,p2,p3,p4⟩:=cells5 b1
 obtain ⟨f0,f1,f2,f3,f4,f5,f6,f7,f8,f9,f10⟩:=cells11 b3
 go_wp2_with (go_at_call 97;(with_reducible refine (HC.out AF cF _ K rF).mono ?_);rintro e wz hN;have hz:=hN.2;obtain ⟨A9,B9,C9,L9,a9,b9,c9,d9,he,_,_,_,_,_⟩:=hN.1 wz (Turn.refl _ _);subst he;have HN:=hid hN;clear hN;have kR:=(hz.block (w.heap.size+1) z1).trans b2;have kb:=bstep hb hz;obtain ⟨q0,q1,q2,q3,q4,qf0,qf1,qf2,qf3,qf4⟩:=cf5 kR)
 refine bodyPost_ret (v:=.agg (uS A9 B9 C9 L9 a9 b9 c9 d9 t9)) (by simp [uS,results,Tryz.results85,go_sem,q0,q1,q2,q3,q4]) rfl ?_
 exact ret_resN _ _ _ _ _ HN.out z1 (by omega) kb
theorem step_push (A B C L:Option Addr) (a b c d:Nat) (s:Sy) (i:Int) (pc r0 r1 r2 r3 r4 r5 r6 r7:Int) (xs:List Int) (w:World) (hs:SyFew s) (hg:2≤s.M.G.length) (h:RS w s A B C L)  (hp:pTop s i = some ⟨2,pc,[r0,r1,r2,r3,r4,r5,r6,r7],xs⟩) (h6:xs.length≤1000000) :
  Calls Tryz.prog 85 #[.agg (uS A B C L a b c d s),.int .i64 i] w (RetSysN w (pPush s i ⟨2,pc,[r0,r1,r2,r3,r4,r5,r6,r7],xs⟩ s)):=by
 have HC:=hid (show ∀ (AF:Option Addr) (cF:Nat) w',RS w' s A B C L→Row w' AF xs→Calls Tryz.prog 98 #[.agg (uS A B C L a b c d s),.int .i64 i,.agg (uF 2 pc r0 r1 r2 r3 r4 r5 r6 r7 AF xs cF)] w' (RetSysN w' (pPush s i ⟨2,pc,[r0,r1,r2,r3,r4,r5,r6,r7],xs⟩ s)) from fun AF cF w' k k2=>push_any A B C L a b c d s i AF cF 2 pc r0 r1 r2 r3 r4 r5 r6 r7 xs s w' hs hg k k2 h6  (pSet_top hp).symm)
 obtain ⟨t9,ht9⟩:∃ t,t = pPush s i ⟨2,pc,[r0,r1,r2,r3,r4,r5,r6,r7],xs⟩ s:=⟨_,rfl⟩
 rw [← ht9] at HC ⊢
 clear ht9
 obtain ⟨b1,b2,bs⟩:=heap2 w (.cells (uS A B C L a b c d s) 30) (.cells uZ 30)
 have hb:Below w.heap.size w ((w.alloc (.cells (uS A B C L a b c d s) 30)).alloc (.cells uZ 30)):=bstep (boxed _ _) (boxed _ _)
 have z1:w.heap.size+1 < ((w.alloc (.cells (uS A B C L a b c d s) 30)).alloc (.cells uZ 30)).heap.size:=by simp
 clear bs
 go_enter Tryz.func85,Tryz.ntmps85
 go_upto_region 1 with (fail)
 generalize ((w.alloc (.cells (uS A B C L a b c d s) 30)).alloc (.cells uZ 30)) = w1 at *
 have K:=h.step hb
 obtain ⟨p0,p1,p2,p3,p4⟩:=cells5 b1
 go_upto_region 2 with (go_at_call 25;(with_reducible refine (top_is A B C L a b c d s i 2 pc r0 r1 r2 r3 r4 r5 r6 r7 xs _ hs K hp h6).mono ?_);rintro e wk ⟨AF,cF,rfl,rF,hk⟩)
 clear p0 p1 p2 p3 p4
 have hj:Below w1.heap.size w1 (wk.alloc (.cells (uF 2 pc r0 r1 r2 r3 r4 r5 r6 r7 AF xs cF) 60)):=bstep hk (boxed _ _)
 have b3:=heap_alloc_new wk (.cells (uF 2 pc r0 r1 r2 r3 r4 r5 r6 r7 AF xs cF) 60)
 replace b1:=(hj.block w.heap.size (by omega)).trans b1
 replace b2:=(hj.block (w.heap.size+1) z1).trans b2
 replace K:=K.step hj
 replace hb:=bstep hb hj
 replace z1:=Nat.lt_of_lt_of_le z1 hj.size
 replace rF:=rF.alloc (.cells (uF 2 pc r0 r1 r2 r3 r4 r5 r6 r7 AF xs cF) 60)
 clear hk hj
 obtain ⟨vF,hv⟩:∃ v,wk.heap.size = v:=⟨_,rfl⟩
 rw [hv] at b3 ⊢
 clear hv
 generalize (wk.alloc (.cells (uF 2 pc r0 r1 r2 r3 r4 r5 r6 r7 AF xs cF) 60)) = w3 at *
 obtain ⟨p0,p1,p2,p3,p4⟩:=cells5 b1
 obtain ⟨f0,f1,f2,f3,f4,f5,f6,f7,f8,f9,f10⟩:=cells11 b3
 go_wp2_with (go_at_call 98;(with_reducible refine (HC.out AF cF _ K rF).mono ?_);rintro e wz hN;have hz:=hN.2;obtain ⟨A9,B9,C9,L9,a9,b9,c9,d9,he,_,_,_,_,_⟩:=hN.1 wz (Turn.refl _ _);subst he;have HN:=hid hN;clear hN;have kR:=(hz.block (w.heap.size+1) z1).trans b2;have kb:=bstep hb hz;obtain ⟨q0,q1,q2,q3,q4,qf0,qf1,qf2,qf3,qf4⟩:=cf5 kR)
 refine bodyPost_ret (v:=.agg (uS A9 B9 C9 L9 a9 b9 c9 d9 t9)) (by simp [uS,results,Tryz.results85,go_sem,q0,q1,q2,q3,q4]) rfl ?_
 exact ret_resN _ _ _ _ _ HN.out z1 (by omega) kb
theorem step_anyN (A B C L:Option Addr) (a b c d:Nat) (s:Sy) (i:Int) (w:World) (hs:SyFew s) (hg:2≤s.M.G.length) (h:RS w s A B C L) (hL:s.L.length≤999998) :
  Calls Tryz.prog 85 #[.agg (uS A B C L a b c d s),.int .i64 i] w (RetSysN w (pStep s i)):=by
 rcases pTop_cases s i hs h.C with hp | ⟨op,pc,r0,r1,r2,r3,r4,r5,r6,r7,xs,hp,h6⟩
 ·have e:pStep s i = s:=by unfold pStep;rw [hp]
  rw [e]
  exact step_none A B C L a b c d s i w hs hg h hp
 ·by_cases o1:op = 1
  ·subst o1
   have e:pStep s i = pPop s i ⟨1,pc,[r0,r1,r2,r3,r4,r5,r6,r7],xs⟩ s:=by unfold pStep;rw [hp];simp
   rw [e]
   exact step_pop A B C L a b c d s i pc r0 r1 r2 r3 r4 r5 r6 r7 xs w hs hg h hL hp h6
  ·by_cases o2:op = 2
   ·subst o2
    have e:pStep s i = pPush s i ⟨2,pc,[r0,r1,r2,r3,r4,r5,r6,r7],xs⟩ s:=by unfold pStep;rw [hp];simp
    rw [e]
    exact step_push A B C L a b c d s i pc r0 r1 r2 r3 r4 r5 r6 r7 xs w hs hg h hp h6
   ·have e:pStep s i = s:=by unfold pStep;rw [hp];simp [o1,o2]
    rw [e]
    exact step_x A B C L a b c d s i op pc r0 r1 r2 r3 r4 r5 r6 r7 xs w hs hg h hp h6 o1 o2
end Go.Proofs.YtfipcdhodojodaaGreat
