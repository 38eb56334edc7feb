/- Contracts: is there a core, a frame; the last frame's place. -/
import Derived.Test.YtfipcdhodojodaaGreatChecked
import Derived.Test.YtfipcdhodojodaaGreatKBas
import Derived.Test.YtfipcdhodojodaaGreatKCpy
import Derived.Test.YtfipcdhodojodaaGreatCopy4
import Derived.Test.YtfipcdhodojodaaGreatKRef
namespace Go.Proofs.YtfipcdhodojodaaGreat
open Go.RowKit
set_option maxRecDepth 100000
set_option maxHeartbeats 8000000
set_option linter.unusedVariables false
set_option linter.unusedSimpArgs false
def syHas (s:Sy) (i:Int):Bool:=decide (0≤i) && decide (i < (s.C.length:Int))
theorem hasCore_any (A B AC AL:Option Addr) (c d cC cL:Nat) (s:Sy) (i:Int) (w:World) (h2:s.C.length≤1000000) :
  Calls Tryz.prog 64 #[.agg (uS A B AC AL c d cC cL s),.int .i64 i] w fun e w'=>e = .returned (.bool (syHas s i))∧Below w.heap.size w w':=by
 by_cases h:0≤i
 ·go_enter Tryz.func64,Tryz.ntmps64
  go_wp2
  all_goals
   go_ret
   exact ⟨ret_bool (by rw [Bool.eq_iff_iff];simp [syHas];omega),boxed _ _⟩
 ·go_enter Tryz.func64,Tryz.ntmps64
  go_wp2
  all_goals
   go_ret
   exact ⟨ret_bool (by rw [Bool.eq_iff_iff];simp [syHas];omega),boxed _ _⟩
theorem hasFrame_out (A B AC AL:Option Addr) (c d cC cL:Nat) (s:Sy) (i:Int) (w:World) (h2:s.C.length≤1000000) (hi:syHas s i = false) :
  Calls Tryz.prog 45 #[.agg (uS A B AC AL c d cC cL s),.int .i64 i] w fun e w'=>e = .returned (.bool false)∧Below w.heap.size w w':=by
 go_enter Tryz.func45,Tryz.ntmps45
 go_wp2_with (go_at_call 64;refine (hasCore_any _ _ _ _ _ _ _ _ s i _ h2).mono ?_;rintro e wk ⟨rfl,hk⟩)
 go_ret
 exact ⟨rfl,bstep (boxed _ _) hk⟩
theorem hasFrame_at (A B AC AL:Option Addr) (c d cC cL:Nat) (s:Sy) (k:Nat) (x:Co) (w:World) (hC:RowC w AC s.C) (h2:s.C.length≤1000000) (hx:s.C[k]? = some x) (h3:x.F.length≤1000000) :
  Calls Tryz.prog 45 #[.agg (uS A B AC AL c d cC cL s),.int .i64 k] w fun e w'=>e = .returned (.bool (decide (0 < x.F.length)))∧Below w.heap.size w w':=by
 have hlt:k < s.C.length:=(List.getElem?_eq_some_iff.1 hx).1
 have hi:syHas s (k:Int) = true:=by simp [syHas];omega
 obtain ⟨b,o,rfl,hbl,hat⟩:=hC (by omega)
 obtain ⟨⟨AF,cF,c0,rF,_⟩,_⟩:=hat k x hx
 clear hat hx
 have kl:(k:Int) < (s.C.length:Int):=by omega
 go_enter Tryz.func45,Tryz.ntmps45
 go_wp2_with (go_at_call 64;refine (hasCore_any _ _ _ _ _ _ _ _ s _ _ h2).mono ?_;rintro e wk ⟨rfl,hk⟩;have m3:wk.cell? ⟨w.heap.size,3,none⟩ = some (.slice (some ⟨b,o,none⟩) s.C.length cC):=(by rw [hk.cell (by simp)];simp [go_sem]);have d0:wk.cell? ⟨b,o+k * 7,none⟩ = some (.slice AF x.F.length cF):=(by rw [(bstep (boxed _ _) hk).cell hbl];exact c0))
 all_goals
  go_ret
  exact ⟨ret_bool (by first | rfl | (rw [Bool.eq_iff_iff];simp;done) | (rw [Bool.eq_iff_iff];simp;omega)),bstep (boxed _ _) hk⟩
theorem last_at (A B AC AL:Option Addr) (c d cC cL:Nat) (s:Sy) (k:Nat) (x:Co) (w:World) (hC:RowC w AC s.C) (h2:s.C.length≤1000000) (hx:s.C[k]? = some x) (h3:x.F.length≤1000000) :
  Calls Tryz.prog 47 #[.agg (uS A B AC AL c d cC cL s),.int .i64 k] w fun e w'=>e = .returned (.int .i64 ((x.F.length:Int) - 1))∧Below w.heap.size w w':=by
 have hlt:k < s.C.length:=(List.getElem?_eq_some_iff.1 hx).1
 obtain ⟨b,o,rfl,hbl,hat⟩:=hC (by omega)
 obtain ⟨⟨AF,cF,c0,rF,_⟩,_⟩:=hat k x hx
 clear hat hx
 have kl:(k:Int) < (s.C.length:Int):=by omega
 have hbn:b ≠ w.heap.size:=by omega
 go_enter Tryz.func47,Tryz.ntmps47
 go_wp2
 go_ret
 exact ⟨rfl,boxed _ _⟩
theorem top_out (A B AC AL:Option Addr) (c d cC cL:Nat) (s:Sy) (i:Int) (w:World) (h2:s.C.length≤1000000) (hi:syHas s i = false) :
  Calls Tryz.prog 25 #[.agg (uS A B AC AL c d cC cL s),.int .i64 i] w fun e w'=>e = .returned (.tuple #[.agg #[.int .i64 0,.int .i64 0,.int .i64 0,.int .i64 0,.int .i64 0,.int .i64 0,.int .i64 0,.int .i64 0,.int .i64 0,.int .i64 0,.slice none 0 0],.bool false])∧Below w.heap.size w w':=by
 obtain ⟨b1,b2,bs⟩:=heap2 w (.cells (uS A B AC AL c d cC cL s) 30) (.cells #[.int .i64 0,.int .i64 0,.int .i64 0,.int .i64 0,.int .i64 0,.int .i64 0,.int .i64 0,.int .i64 0,.int .i64 0,.int .i64 0,.slice none 0 0] 60)
 have hw2:Below w.heap.size w ((w.alloc (.cells (uS A B AC AL c d cC cL s) 30)).alloc (.cells #[.int .i64 0,.int .i64 0,.int .i64 0,.int .i64 0,.int .i64 0,.int .i64 0,.int .i64 0,.int .i64 0,.int .i64 0,.int .i64 0,.slice none 0 0] 60)):=bstep (boxed _ _) (boxed _ _)
 go_enter Tryz.func25,Tryz.ntmps25
 go_wp2_with fail
 generalize ((w.alloc (.cells (uS A B AC AL c d cC cL s) 30)).alloc (.cells #[.int .i64 0,.int .i64 0,.int .i64 0,.int .i64 0,.int .i64 0,.int .i64 0,.int .i64 0,.int .i64 0,.int .i64 0,.int .i64 0,.slice none 0 0] 60)) = w2 at *
 refine (hasFrame_out _ _ _ _ _ _ _ _ s i _ h2 hi).mono ?_
 rintro e wk ⟨rfl,hk⟩
 replace b2:=(hk.block (w.heap.size+1) (by omega)).trans b2
 obtain ⟨q0,q1,q2,q3,q4,q5,q6,q7,q8,q9,q10,qf0,qf1,qf2,qf3,qf4,qf5,qf6,qf7,qf8,qf9,qf10⟩:=cf11 b2
 have hb:=bstep hw2 hk
 clear hk hw2 bs b1 b2
 go_wp2
 refine bodyPost_ret (v:=.tuple #[.agg #[.int .i64 0,.int .i64 0,.int .i64 0,.int .i64 0,.int .i64 0,.int .i64 0,.int .i64 0,.int .i64 0,.int .i64 0,.int .i64 0,.slice none 0 0],.bool false]) (by simp [results,Tryz.results25,go_sem,q0,q1,q2,q3,q4,q5,q6,q7,q8,q9,q10]) rfl ?_
 refine ⟨rfl,?_⟩
 have key:∀ w',Turn (fun b=>b = w.heap.size+1) wk w'→Below w.heap.size w w':=fun w' hT=>hb.trans (hT.to_below hb.size (fun g hg=>by omega))
 exact key _ (by repeat (first | (with_reducible exact Turn.refl _ _) | (with_reducible refine Turn.set ?_ (by simp) _ _)))
theorem top_none (A B AC AL:Option Addr) (c d cC cL:Nat) (s:Sy) (k:Nat) (x:Co) (w:World) (hC:RowC w AC s.C) (h2:s.C.length≤1000000) (hx:s.C[k]? = some x) (hF:x.F.length = 0) :
  Calls Tryz.prog 25 #[.agg (uS A B AC AL c d cC cL s),.int .i64 k] w fun e w'=>e = .returned (.tuple #[.agg #[.int .i64 0,.int .i64 0,.int .i64 0,.int .i64 0,.int .i64 0,.int .i64 0,.int .i64 0,.int .i64 0,.int .i64 0,.int .i64 0,.slice none 0 0],.bool false])∧Below w.heap.size w w':=by
 obtain ⟨b1,b2,bs⟩:=heap2 w (.cells (uS A B AC AL c d cC cL s) 30) (.cells #[.int .i64 0,.int .i64 0,.int .i64 0,.int .i64 0,.int .i64 0,.int .i64 0,.int .i64 0,.int .i64 0,.int .i64 0,.int .i64 0,.slice none 0 0] 60)
 have hw2:Below w.heap.size w ((w.alloc (.cells (uS A B AC AL c d cC cL s) 30)).alloc (.cells #[.int .i64 0,.int .i64 0,.int .i64 0,.int .i64 0,.int .i64 0,.int .i64 0,.int .i64 0,.int .i64 0,.int .i64 0,.int .i64 0,.slice none 0 0] 60)):=bstep (boxed _ _) (boxed _ _)
 go_enter Tryz.func25,Tryz.ntmps25
 go_wp2_with fail
 generalize ((w.alloc (.cells (uS A B AC AL c d cC cL s) 30)).alloc (.cells #[.int .i64 0,.int .i64 0,.int .i64 0,.int .i64 0,.int .i64 0,.int .i64 0,.int .i64 0,.int .i64 0,.int .i64 0,.int .i64 0,.slice none 0 0] 60)) = w2 at *
 refine (hasFrame_at _ _ _ _ _ _ _ _ s k x _ (hC.step hw2) h2 hx (by omega)).mono ?_
 rintro e wk ⟨rfl,hk⟩
 rw [show decide (0 < x.F.length) = false from decide_eq_false (by omega)]
 replace b2:=(hk.block (w.heap.size+1) (by omega)).trans b2
 obtain ⟨q0,q1,q2,q3,q4,q5,q6,q7,q8,q9,q10,qf0,qf1,qf2,qf3,qf4,qf5,qf6,qf7,qf8,qf9,qf10⟩:=cf11 b2
 have hb:=bstep hw2 hk
 clear hk hw2 bs b1 b2
 go_wp2
 refine bodyPost_ret (v:=.tuple #[.agg #[.int .i64 0,.int .i64 0,.int .i64 0,.int .i64 0,.int .i64 0,.int .i64 0,.int .i64 0,.int .i64 0,.int .i64 0,.int .i64 0,.slice none 0 0],.bool false]) (by simp [results,Tryz.results25,go_sem,q0,q1,q2,q3,q4,q5,q6,q7,q8,q9,q10]) rfl ?_
 refine ⟨rfl,?_⟩
 have key:∀ w',Turn (fun b=>b = w.heap.size+1) wk w'→Below w.heap.size w w':=fun w' hT=>hb.trans (hT.to_below hb.size (fun g hg=>by omega))
 exact key _ (by repeat (first | (with_reducible exact Turn.refl _ _) | (with_reducible refine Turn.set ?_ (by simp) _ _)))
theorem top_yes (A B AC AL:Option Addr) (c d cC cL:Nat) (s:Sy) (k n:Nat) (x:Co) (op pc r0 r1 r2 r3 r4 r5 r6 r7:Int) (xs:List Int) (w:World) (hC:RowC w AC s.C) (h2:s.C.length≤1000000) (hx:s.C[k]? = some x) (hn:x.F.length = n+1) (h3:n≤999999) (h4:xs.length≤1000000) (hf:x.F[n]? = some ⟨op,pc,[r0,r1,r2,r3,r4,r5,r6,r7],xs⟩) :
  Calls Tryz.prog 25 #[.agg (uS A B AC AL c d cC cL s),.int .i64 k] w fun e w'=>∃ A' c',e = .returned (.tuple #[.agg (uF op pc r0 r1 r2 r3 r4 r5 r6 r7 A' xs c'),.bool true])∧Row w' A' xs∧Below w.heap.size w w':=by
 have hlt:k < s.C.length:=(List.getElem?_eq_some_iff.1 hx).1
 obtain ⟨b,o,rfl,hbl,hat⟩:=hC (by omega)
 obtain ⟨⟨AF,cF,c0,rF,_⟩,_⟩:=hat k x hx
 obtain ⟨g,o1,rfl,hgl,hat1⟩:=rF (by omega)
 obtain ⟨⟨AS,cS⟩,_,hc,rS⟩:=(hat1 n _ hf).cs
 dsimp only at rS
 have u0:w.cell? ⟨g,o1+n * 11,none⟩ = some (.int .i64 op):=hc 0 _ rfl
 have u1:w.cell? ⟨g,o1+n * 11+1,none⟩ = some (.int .i64 pc):=hc 1 _ rfl
 have u2:w.cell? ⟨g,o1+n * 11+2,none⟩ = some (.int .i64 r0):=hc 2 _ rfl
 have u3:w.cell? ⟨g,o1+n * 11+3,none⟩ = some (.int .i64 r1):=hc 3 _ rfl
 have u4:w.cell? ⟨g,o1+n * 11+4,none⟩ = some (.int .i64 r2):=hc 4 _ rfl
 have u5:w.cell? ⟨g,o1+n * 11+5,none⟩ = some (.int .i64 r3):=hc 5 _ rfl
 have u6:w.cell? ⟨g,o1+n * 11+6,none⟩ = some (.int .i64 r4):=hc 6 _ rfl
 have u7:w.cell? ⟨g,o1+n * 11+7,none⟩ = some (.int .i64 r5):=hc 7 _ rfl
 have u8:w.cell? ⟨g,o1+n * 11+8,none⟩ = some (.int .i64 r6):=hc 8 _ rfl
 have u9:w.cell? ⟨g,o1+n * 11+9,none⟩ = some (.int .i64 r7):=hc 9 _ rfl
 have u10:w.cell? ⟨g,o1+n * 11+10,none⟩ = some (.slice AS xs.length cS):=hc 10 _ rfl
 clear hat hat1 hc hf
 have HX:=hid hx
 clear hx
 have hpos:decide (0 < x.F.length) = true:=decide_eq_true (by omega)
 have h5:x.F.length≤1000000:=by omega
 have hn':(x.F.length:Int) - 1 = (n:Int):=by omega
 obtain ⟨b1,b2,bs⟩:=heap2 w (.cells (uS A B (some ⟨b,o,none⟩) AL c d cC cL s) 30) (.cells #[.int .i64 0,.int .i64 0,.int .i64 0,.int .i64 0,.int .i64 0,.int .i64 0,.int .i64 0,.int .i64 0,.int .i64 0,.int .i64 0,.slice none 0 0] 60)
 have hw2:Below w.heap.size w ((w.alloc (.cells (uS A B (some ⟨b,o,none⟩) AL c d cC cL s) 30)).alloc (.cells #[.int .i64 0,.int .i64 0,.int .i64 0,.int .i64 0,.int .i64 0,.int .i64 0,.int .i64 0,.int .i64 0,.int .i64 0,.int .i64 0,.slice none 0 0] 60)):=bstep (boxed _ _) (boxed _ _)
 go_enter Tryz.func25,Tryz.ntmps25
 go_wp2_with fail
 generalize ((w.alloc (.cells (uS A B (some ⟨b,o,none⟩) AL c d cC cL s) 30)).alloc (.cells #[.int .i64 0,.int .i64 0,.int .i64 0,.int .i64 0,.int .i64 0,.int .i64 0,.int .i64 0,.int .i64 0,.int .i64 0,.int .i64 0,.slice none 0 0] 60)) = w2 at *
 refine (hasFrame_at _ _ _ _ _ _ _ _ s k x _ (hC.step hw2) h2 HX.out (by omega)).mono ?_
 rintro e wk ⟨rfl,hk⟩
 rw [hpos]
 replace b1:=(hk.block w.heap.size (by omega)).trans b1
 replace b2:=(hk.block (w.heap.size+1) (by omega)).trans b2
 have hb:=bstep hw2 hk
 have hCk:=hC.step hb
 have rSk:=rS.step hb
 have hz:w.heap.size+1 < wk.heap.size:=by have:=hk.size;omega
 obtain ⟨p0,p1,p2,p3,p4⟩:=cells5 b1
 obtain ⟨q0,q1,q2,q3,q4,q5,q6,q7,q8,q9,q10,qf0,qf1,qf2,qf3,qf4,qf5,qf6,qf7,qf8,qf9,qf10⟩:=cf11 b2
 have c1:wk.cell? ⟨b,o+k * 7,none⟩ = some (.slice (some ⟨g,o1,none⟩) x.F.length cF):=(hb.cell hbl).trans c0
 replace u0:=(hb.cell hgl).trans u0
 replace u1:=(hb.cell hgl).trans u1
 replace u2:=(hb.cell hgl).trans u2
 replace u3:=(hb.cell hgl).trans u3
 replace u4:=(hb.cell hgl).trans u4
 replace u5:=(hb.cell hgl).trans u5
 replace u6:=(hb.cell hgl).trans u6
 replace u7:=(hb.cell hgl).trans u7
 replace u8:=(hb.cell hgl).trans u8
 replace u9:=(hb.cell hgl).trans u9
 replace u10:=(hb.cell hgl).trans u10
 have g1:b < wk.heap.size:=Nat.lt_of_lt_of_le hbl hb.size
 have g2:g < wk.heap.size:=Nat.lt_of_lt_of_le hgl hb.size
 have kl:(k:Int) < (s.C.length:Int):=by omega
 have nl:(n:Int) < (x.F.length:Int):=by omega
 have HN:=hid hn'
 have HB:=hid hb
 clear hk hw2 bs b1 b2 hC rS hn hn' hpos rF c0 hb
 have KS:=hid (show ∀ w',Turn (fun b=>b = w.heap.size+1) wk w'→(w'.cell? ⟨w.heap.size,0,none⟩ = some (.slice A s.M.W.length c)∧w'.cell? ⟨w.heap.size,1,none⟩ = some (.slice B s.M.G.length d)∧w'.cell? ⟨w.heap.size,2,none⟩ = some (.bool s.M.bad)∧w'.cell? ⟨w.heap.size,3,none⟩ = some (.slice (some ⟨b,o,none⟩) s.C.length cC)∧w'.cell? ⟨w.heap.size,4,none⟩ = some (.slice AL s.L.length cL)∧w'.cell? ⟨b,o+k * 7,none⟩ = some (.slice (some ⟨g,o1,none⟩) x.F.length cF)∧w'.cell? ⟨g,o1+n * 11,none⟩ = some (.int .i64 op)∧w'.cell? ⟨g,o1+n * 11+1,none⟩ = some (.int .i64 pc)∧w'.cell? ⟨g,o1+n * 11+2,none⟩ = some (.int .i64 r0)∧w'.cell? ⟨g,o1+n * 11+3,none⟩ = some (.int .i64 r1)∧w'.cell? ⟨g,o1+n * 11+4,none⟩ = some (.int .i64 r2)∧w'.cell? ⟨g,o1+n * 11+5,none⟩ = some (.int .i64 r3)∧w'.cell? ⟨g,o1+n * 11+6,none⟩ = some (.int .i64 r4)∧w'.cell? ⟨g,o1+n * 11+7,none⟩ = some (.int .i64 r5)∧w'.cell? ⟨g,o1+n * 11+8,none⟩ = some (.int .i64 r6)∧w'.cell? ⟨g,o1+n * 11+9,none⟩ = some (.int .i64 r7)∧w'.cell? ⟨g,o1+n * 11+10,none⟩ = some (.slice AS xs.length cS)) from fun w' h=>⟨(h.cell (by omega) (by omega)).trans p0,(h.cell (by omega) (by omega)).trans p1,(h.cell (by omega) (by omega)).trans p2,(h.cell (by omega) (by omega)).trans p3,(h.cell (by omega) (by omega)).trans p4,(h.cell g1 (by omega)).trans c1,(h.cell g2 (by omega)).trans u0,(h.cell g2 (by omega)).trans u1,(h.cell g2 (by omega)).trans u2,(h.cell g2 (by omega)).trans u3,(h.cell g2 (by omega)).trans u4,(h.cell g2 (by omega)).trans u5,(h.cell g2 (by omega)).trans u6,(h.cell g2 (by omega)).trans u7,(h.cell g2 (by omega)).trans u8,(h.cell g2 (by omega)).trans u9,(h.cell g2 (by omega)).trans u10⟩)
 go_upto_region 3 with (fail)
 go_region_held3 (fun w'=>w'.cell? ⟨w.heap.size,0,none⟩ = some (.slice A s.M.W.length c)∧w'.cell? ⟨w.heap.size,1,none⟩ = some (.slice B s.M.G.length d)∧w'.cell? ⟨w.heap.size,2,none⟩ = some (.bool s.M.bad)∧w'.cell? ⟨w.heap.size,3,none⟩ = some (.slice (some ⟨b,o,none⟩) s.C.length cC)∧w'.cell? ⟨w.heap.size,4,none⟩ = some (.slice AL s.L.length cL)∧w'.cell? ⟨b,o+k * 7,none⟩ = some (.slice (some ⟨g,o1,none⟩) x.F.length cF)∧w'.cell? ⟨g,o1+n * 11,none⟩ = some (.int .i64 op)∧w'.cell? ⟨g,o1+n * 11+1,none⟩ = some (.int .i64 pc)∧w'.cell? ⟨g,o1+n * 11+2,none⟩ = some (.int .i64 r0)∧w'.cell? ⟨g,o1+n * 11+3,none⟩ = some (.int .i64 r1)∧w'.cell? ⟨g,o1+n * 11+4,none⟩ = some (.int .i64 r2)∧w'.cell? ⟨g,o1+n * 11+5,none⟩ = some (.int .i64 r3)∧w'.cell? ⟨g,o1+n * 11+6,none⟩ = some (.int .i64 r4)∧w'.cell? ⟨g,o1+n * 11+7,none⟩ = some (.int .i64 r5)∧w'.cell? ⟨g,o1+n * 11+8,none⟩ = some (.int .i64 r6)∧w'.cell? ⟨g,o1+n * 11+9,none⟩ = some (.int .i64 r7)∧w'.cell? ⟨g,o1+n * 11+10,none⟩ = some (.slice AS xs.length cS)) (exact KS.out _ (by repeat (first | (with_reducible exact Turn.refl _ _) | (with_reducible refine Turn.set ?_ (by simp) _ _) | (with_reducible refine Turn.drew ?_) | (with_reducible refine Turn.below ?_ hk2) | (with_reducible refine Turn.below ?_ hk1))))
  (first
   | (go_at_call 47;refine (last_at _ _ _ _ _ _ _ _ s k x _ (hCk.step ((Below.refl _ _).drew)) h2 HX.out h5).mono ?_;rintro e w3 ⟨rfl,hk1⟩;rw [HN.out];have hj1:Below wk.heap.size wk w3:=bstep ((Below.refl _ _).drew) hk1)
   | (go_at_call 46;refine (copiedFrame_any AS cS op pc r0 r1 r2 r3 r4 r5 r6 r7 xs _ (rSk.step hj1) h4).mono ?_;rintro e w4 ⟨A',c',rfl,hr4,hk2⟩;have hj2:=bstep hj1 hk2;replace q0:=(hj2.cell hz).trans q0;replace qf0:=(hj2.frozen hz).trans qf0;replace q1:=(hj2.cell hz).trans q1;replace qf1:=(hj2.frozen hz).trans qf1;replace q2:=(hj2.cell hz).trans q2;replace qf2:=(hj2.frozen hz).trans qf2;replace q3:=(hj2.cell hz).trans q3;replace qf3:=(hj2.frozen hz).trans qf3;replace q4:=(hj2.cell hz).trans q4;replace qf4:=(hj2.frozen hz).trans qf4;replace q5:=(hj2.cell hz).trans q5;replace qf5:=(hj2.frozen hz).trans qf5;replace q6:=(hj2.cell hz).trans q6;replace qf6:=(hj2.frozen hz).trans qf6;replace q7:=(hj2.cell hz).trans q7;replace qf7:=(hj2.frozen hz).trans qf7;replace q8:=(hj2.cell hz).trans q8;replace qf8:=(hj2.frozen hz).trans qf8;replace q9:=(hj2.cell hz).trans q9;replace qf9:=(hj2.frozen hz).trans qf9;replace q10:=(hj2.cell hz).trans q10;replace qf10:=(hj2.frozen hz).trans qf10))
 all_goals go_wp2_with fail
 all_goals refine bodyPost_ret (v:=.tuple #[.agg (uF op pc r0 r1 r2 r3 r4 r5 r6 r7 A' xs c'),.bool true]) (by simp [results,Tryz.results25,go_sem,q0,q1,q2,q3,q4,q5,q6,q7,q8,q9,q10]) rfl ?_
 all_goals
  have key:∀ w',Turn (fun b=>b = w.heap.size+1) w4 w'→Row w' A' xs∧Below w.heap.size w w':=fun w' hT =>
   ⟨(hr4.turn hT (fun b _ hb e=>by have:=hj1.size;omega)).row,(bstep HB.out hj2).trans (hT.to_below (by have:=HB.out.size;have:=hj2.size;omega) (fun g hg=>by omega))⟩
  refine ⟨A',c',rfl,?_⟩
  exact key _ (by repeat (first | (with_reducible exact Turn.refl _ _) | (with_reducible refine Turn.set ?_ (by simp) _ _)))
theorem own_val {w:World} {base T k n:Nat} {v:Value} {xs:List Value} (h:w.ownsRow base T k v n xs):∃ A c,v = .slice A n c:=by
 rcases h.2 with ⟨rfl,h0⟩ | ⟨g,cap,cur,rfl,_⟩
 ·subst h0
  exact ⟨none,0,rfl⟩
 ·exact ⟨_,cap,rfl⟩
theorem log_outN (A B AC AL:Option Addr) (c d cC cL:Nat) (s:Sy) (i kind a b z:Int) (hi:syHas s i = false) (w:World) (hW:Row w A s.M.W) (hG:Row w B s.M.G) (hC:RowC w AC s.C) (hL:RowE w AL s.L) (h0:s.M.W.length≤1000000) (h1:s.M.G.length≤1000000) (h2:s.C.length≤1000000) (h3:s.L.length≤1000000) (h4:∀ x ∈ s.C,x.ret.length≤1000000∧x.F.length≤1000000∧∀ f ∈ x.F,f.S.length≤1000000) :
  Calls Tryz.prog 106 #[.agg (uS A B AC AL c d cC cL s),.int .i64 i,.int .i64 kind,.int .i64 a,.int .i64 b,.int .i64 z] w (RetSysN w s):=by
 obtain ⟨b1,b2,bs⟩:=heap2 w (.cells (uS A B AC AL c d cC cL s) 30) (.cells uZ 30)
 have hw2:Below w.heap.size w ((w.alloc (.cells (uS A B AC AL c d cC cL s) 30)).alloc (.cells uZ 30)):=bstep (boxed _ _) (boxed _ _)
 have H4:=hid h4
 clear h4
 go_enter Tryz.func106,Tryz.ntmps106
 go_wp2_with fail
 generalize ((w.alloc (.cells (uS A B AC AL c d cC cL s) 30)).alloc (.cells uZ 30)) = w2 at *
 refine (copied_any A B AC AL c d cC cL s w2 (hW.step hw2) (hG.step hw2) (hC.step hw2) (hL.step hw2) h0 h1 h2 h3 H4.out).mono ?_
 rintro e w3 ⟨lo,hm,own,vs,AW,AG,cW,cG,vC,vL,rfl,hlo,SI,hk⟩
 have hmv:hm≤w3.heap.size:=SI.hw
 have SI:=SI.seal
 have hside:∀ b,w3.heap.size≤b→Side s lo hm (fun b=>if b < w3.heap.size then own b else s.C.length) b:=fun b hb=>.inr ⟨by omega,if_neg (by omega)⟩
 generalize (fun b=>if b < w3.heap.size then own b else s.C.length) = own2 at *
 obtain ⟨AC',cC',rfl⟩:=own_val SI.co
 obtain ⟨AL',cL',rfl⟩:=own_val SI.ev
 replace b1:=(hk.block w.heap.size (by omega)).trans b1
 replace b2:=(hk.block (w.heap.size+1) (by omega)).trans b2
 have hb:=bstep hw2 hk
 have hz:w.heap.size+1 < w3.heap.size:=by have:=hk.size;omega
 have hz0:w.heap.size < w3.heap.size:=by omega
 have hlo2:w.heap.size+1 < lo:=by omega
 clear hk hw2 bs hlo hW hG hL h0 h1
 obtain ⟨p0,p1,p2,p3,p4⟩:=cells5 b1
 go_wp2_with fail
 have bv:=heap_alloc_new w3 (.cells (uS AW AG AC' AL' cW cG cC' cL' s) 30)
 have t4:Turn (fun _=>False) w3 (w3.alloc (.cells (uS AW AG AC' AL' cW cG cC' cL' s) 30)):=(Turn.refl _ _).alloc _
 replace SI:=SI.turn t4 (fun _ _ h=>h)
 replace b1:=(t4.block w.heap.size hz0 id).trans b1
 replace b2:=(t4.block (w.heap.size+1) hz id).trans b2
 skip
 replace hb:=bstep hb (boxed w3 (.cells (uS AW AG AC' AL' cW cG cC' cL' s) 30))
 have vx:w3.heap.size < (w3.alloc (.cells (uS AW AG AC' AL' cW cG cC' cL' s) 30)).heap.size:=by simp
 clear t4 p0 p1 p2 p3 p4
 obtain ⟨v,hv⟩:∃ v,w3.heap.size = v:=⟨_,rfl⟩
 generalize (w3.alloc (.cells (uS AW AG AC' AL' cW cG cC' cL' s) 30)) = w4 at *
 rw [hv] at bv vx hz hz0 hmv hside ⊢
 have HSD:=hid hside
 clear hside
 clear hv
 refine (hasCore_any _ _ _ _ _ _ _ _ s i _ h2).mono ?_
 rintro e w5 ⟨rfl,hk⟩
 rw [hi]
 replace b1:=(hk.block w.heap.size (by omega)).trans b1
 replace b2:=(hk.block (w.heap.size+1) (by omega)).trans b2
 replace bv:=(hk.block v vx).trans bv
 replace SI:=SI.turn (Turn.below (Turn.refl (fun _=>False) _) hk) (fun _ _ h=>h)
 replace hb:=bstep hb hk
 replace vx:=Nat.lt_of_lt_of_le vx hk.size
 clear hk
 obtain ⟨m0,m1,m2,m3,m4,mf0,mf1,mf2,mf3,mf4⟩:=cf5 bv
 obtain ⟨q0,q1,q2,q3,q4,qf0,qf1,qf2,qf3,qf4⟩:=cf5 b2
 clear b1 b2 bv
 go_wp2
 refine bodyPost_ret (v:=.agg (uS AW AG AC' AL' cW cG cC' cL' s)) (by simp [uS,results,Tryz.results106,go_sem,q0,q1,q2,q3,q4]) rfl ?_
 have key:∀ w',Turn (fun b=>(b = w.heap.size+1) ∨ b < w.heap.size) w5 w'→RetSys w' s (.returned (.agg (uS AW AG AC' AL' cW cG cC' cL' s))) w':=fun w' hT=>(SI.turn hT (fun b hb e=>by omega)).told cW cG (Below.refl _ _)
 exact retN (p:=fun b=>b = w.heap.size+1) key (turn5 _ _ _ _ _ _ _) (hb.trans ((turn5 _ _ _ _ _ _ _).to_below hb.size (fun g hg=>by omega)))
theorem log_atN (A B AC AL:Option Addr) (c d cC cL:Nat) (s:Sy) (k:Nat) (kind a b z:Int) (hkl:k < s.C.length) (h5:s.L.length≤999999) (w:World) (hW:Row w A s.M.W) (hG:Row w B s.M.G) (hC:RowC w AC s.C) (hL:RowE w AL s.L) (h0:s.M.W.length≤1000000) (h1:s.M.G.length≤1000000) (h2:s.C.length≤1000000) (h3:s.L.length≤1000000) (h4:∀ x ∈ s.C,x.ret.length≤1000000∧x.F.length≤1000000∧∀ f ∈ x.F,f.S.length≤1000000) :
  Calls Tryz.prog 106 #[.agg (uS A B AC AL c d cC cL s),.int .i64 k,.int .i64 kind,.int .i64 a,.int .i64 b,.int .i64 z] w (RetSysN w (syLog s ⟨k,kind,a,b,z⟩)):=by
 have hi:syHas s (k:Int) = true:=by simp [syHas];omega
 obtain ⟨b1,b2,bs⟩:=heap2 w (.cells (uS A B AC AL c d cC cL s) 30) (.cells uZ 30)
 have hw2:Below w.heap.size w ((w.alloc (.cells (uS A B AC AL c d cC cL s) 30)).alloc (.cells uZ 30)):=bstep (boxed _ _) (boxed _ _)
 have H4:=hid h4
 clear h4
 go_enter Tryz.func106,Tryz.ntmps106
 go_wp2_with fail
 generalize ((w.alloc (.cells (uS A B AC AL c d cC cL s) 30)).alloc (.cells uZ 30)) = w2 at *
 refine (copied_any A B AC AL c d cC cL s w2 (hW.step hw2) (hG.step hw2) (hC.step hw2) (hL.step hw2) h0 h1 h2 h3 H4.out).mono ?_
 rintro e w3 ⟨lo,hm,own,vs,AW,AG,cW,cG,vC,vL,rfl,hlo,SI,hk⟩
 have hmv:hm≤w3.heap.size:=SI.hw
 have SI:=SI.seal
 have hside:∀ b,w3.heap.size≤b→Side s lo hm (fun b=>if b < w3.heap.size then own b else s.C.length) b:=fun b hb=>.inr ⟨by omega,if_neg (by omega)⟩
 generalize (fun b=>if b < w3.heap.size then own b else s.C.length) = own2 at *
 obtain ⟨AC',cC',rfl⟩:=own_val SI.co
 obtain ⟨AL',cL',rfl⟩:=own_val SI.ev
 replace b1:=(hk.block w.heap.size (by omega)).trans b1
 replace b2:=(hk.block (w.heap.size+1) (by omega)).trans b2
 have hb:=bstep hw2 hk
 have hz:w.heap.size+1 < w3.heap.size:=by have:=hk.size;omega
 have hz0:w.heap.size < w3.heap.size:=by omega
 have hlo2:w.heap.size+1 < lo:=by omega
 clear hk hw2 bs hlo hW hG hL h0 h1
 obtain ⟨p0,p1,p2,p3,p4⟩:=cells5 b1
 go_wp2_with fail
 have bv:=heap_alloc_new w3 (.cells (uS AW AG AC' AL' cW cG cC' cL' s) 30)
 have t4:Turn (fun _=>False) w3 (w3.alloc (.cells (uS AW AG AC' AL' cW cG cC' cL' s) 30)):=(Turn.refl _ _).alloc _
 replace SI:=SI.turn t4 (fun _ _ h=>h)
 replace b1:=(t4.block w.heap.size hz0 id).trans b1
 replace b2:=(t4.block (w.heap.size+1) hz id).trans b2
 skip
 replace hb:=bstep hb (boxed w3 (.cells (uS AW AG AC' AL' cW cG cC' cL' s) 30))
 have vx:w3.heap.size < (w3.alloc (.cells (uS AW AG AC' AL' cW cG cC' cL' s) 30)).heap.size:=by simp
 clear t4 p0 p1 p2 p3 p4
 obtain ⟨v,hv⟩:∃ v,w3.heap.size = v:=⟨_,rfl⟩
 generalize (w3.alloc (.cells (uS AW AG AC' AL' cW cG cC' cL' s) 30)) = w4 at *
 rw [hv] at bv vx hz hz0 hmv hside ⊢
 have HSD:=hid hside
 clear hside
 clear hv
 refine (hasCore_any _ _ _ _ _ _ _ _ s k _ h2).mono ?_
 rintro e w5 ⟨rfl,hk⟩
 rw [hi]
 replace b1:=(hk.block w.heap.size (by omega)).trans b1
 replace b2:=(hk.block (w.heap.size+1) (by omega)).trans b2
 replace bv:=(hk.block v vx).trans bv
 replace SI:=SI.turn (Turn.below (Turn.refl (fun _=>False) _) hk) (fun _ _ h=>h)
 replace hb:=bstep hb hk
 replace vx:=Nat.lt_of_lt_of_le vx hk.size
 clear hk
 obtain ⟨m0,m1,m2,m3,m4,mf0,mf1,mf2,mf3,mf4⟩:=cf5 bv
 go_wp2_with (at_builtin;refine wpList_append_onto rfl _ _ _ rfl lo 103 _ 5 40 Tryz.underlying28 infoEv rfl (by omega) (.slice AL' s.L.length cL') s.L.length (s.L.map evCells).flatten rfl (own_step SI.ev (boxed _ _)) ⟨w5.heap.size,0,none⟩ 1 1 [.int .i64 (k:Int),.int .i64 kind,.int .i64 a,.int .i64 b,.int .i64 z] rfl rfl (World.news_of_block (heap_alloc_new _ _)) (evCells_one ⟨k,kind,a,b,z⟩) (by omega) (by omega) (by have h6:=SI.lh;have h7:=SI.hw;simp;omega) ?_;intro v6 w6 ho6 hg6 hat6;obtain ⟨A6,c6,rfl⟩:=own_val ho6;have d2:=(hg6.block (w.heap.size+1) (by simp;omega) (fun e=>by have h6:=(SI.ev.lt _ e.symm).1;omega)).trans ((Below.heap_alloc _ _ _ (by omega)).trans b2);have dv:=(hg6.block v (by simp;omega) (fun e=>by have h6:=SI.eb _ e.symm;omega)).trans ((Below.heap_alloc _ _ _ vx).trans bv);obtain ⟨n0,n1,n2,n3,n4,nf0,nf1,nf2,nf3,nf4⟩:=cf5 dv;obtain ⟨q0,q1,q2,q3,q4,qf0,qf1,qf2,qf3,qf4⟩:=cf5 d2)
 refine bodyPost_ret (v:=.agg #[.slice AW s.M.W.length cW,.slice AG s.M.G.length cG,.bool s.M.bad,.slice AC' s.C.length cC',.slice A6 (s.L.length+1) c6]) (by simp [results,Tryz.results106,go_sem,q0,q1,q2,q3,q4]) rfl ?_
 have key:∀ w',Turn (fun b=>(b = w.heap.size+1 ∨ b = v) ∨ b < w.heap.size) w6 w'→RetSys w' (syLog s ⟨k,kind,a,b,z⟩) (.returned (.agg #[.slice AW s.M.W.length cW,.slice AG s.M.G.length cG,.bool s.M.bad,.slice AC' s.C.length cC',.slice A6 (s.L.length+1) c6])) w':=fun w' hT=>by
  have hT5:Turn (fun b=>Value.ownBlock (.slice AL' s.L.length cL') = some b ∨ Side s lo hm own2 b) w5 w':=(((Turn.refl _ _).alloc _).grown hg6 (fun g hg=>.inl hg)).trans (hT.mono (fun g _ hp=>by rcases hp with (rfl | rfl) | hp;exact .inr (.inl hlo2);exact .inr (HSD.out _ (Nat.le_refl _));exact .inr (.inl (by omega))))
  refine SI.log ⟨k,kind,a,b,z⟩ hT5 ?_ cW cG (Below.refl _ _)
  ·have h7:=own_turn ho6 hT (fun g hg hp=>by
    have h8:=(ho6.lt g hg).1
    rcases hp with (rfl | rfl) | hp
    ·omega
    ·rcases hat6 with h9 | h9
     ·rw [hg] at h9;have:=SI.eb _ h9.symm;omega
     ·rw [hg] at h9;injection h9 with h9;simp at h9;omega
    ·omega)
   simpa [evCells] using h7
 have tz:∀ w',Turn (fun b=>b = w.heap.size+1 ∨ b = v) w6 w'→Below w.heap.size w w':=fun w' hT=>by
  have hT6:Turn (fun b=>Value.ownBlock (.slice AL' s.L.length cL') = some b ∨ b = w.heap.size+1 ∨ b = v) w5 w':=(((Turn.refl _ _).alloc _).grown hg6 (fun g hg=>.inl hg)).trans (hT.mono (fun g _ hp=>.inr hp))
  exact hb.trans (hT6.to_below hb.size (fun g hp=>by
   rcases hp with hp | hp | hp
   ·have:=(SI.ev.lt g hp).1;omega
   ·omega
   ·omega))
 have tu:∀ w',Turn (fun b=>b = w.heap.size+1 ∨ b = v) w6 w'→RetSysN w (syLog s ⟨k,kind,a,b,z⟩) (.returned (.agg #[.slice AW s.M.W.length cW,.slice AG s.M.G.length cG,.bool s.M.bad,.slice AC' s.C.length cC',.slice A6 (s.L.length+1) c6])) w':=fun w' hT=>retN (p:=fun b=>b = w.heap.size+1 ∨ b = v) key hT (tz w' hT)
 exact tu _ (by repeat (first | (with_reducible exact Turn.refl _ _) | (with_reducible refine Turn.set ?_ (by simp) _ _)))
def coZero:Co:=⟨[],0,0,0,0,0,[]⟩
def syNew (k n:Nat):Sy:=⟨mNew n,List.replicate k coZero,[]⟩
def RetSys2 (w:World) (s:Sy) (x:Value) (e:Ending) (w':World):Prop :=
 ∃ (A B AC AL:Option Addr) (c d cC cL:Nat),e = .returned (.tuple #[.agg (uS A B AC AL c d cC cL s),x]) ∧
  Row w' A s.M.W∧Row w' B s.M.G∧RowC w' AC s.C∧RowE w' AL s.L∧Below w.heap.size w w'
theorem make_cores (k:Nat) (hk:k≤1000) (w:World) :
  (Instr.makeSlice 27 (.int .i64 (k:Int)) (.int .i64 (k:Int))).run Tryz.prog w = .ok (.slice (some ⟨w.heap.size,0,none⟩) k k) (w.alloc (.cells (madeCells #[.slice none 0 0,.int .i64 0,.int .i64 0,.int .i64 0,.int .i64 0,.int .i64 0,.slice none 0 0] (k * 7)) 39)):=by
 obtain ⟨i0,hi0,hz0,hz1,hz2⟩:=info_parts infoCo
 have hr:=run_make (P:=Tryz.prog) w 27 39 i0 _ Tryz.underlying27 hi0 hz0 .i64 .i64 k k (by omega) (by omega) (by rw [hz2];omega) (by omega)
 simp only [Int.toNat_natCast,hz1] at hr
 exact hr
theorem made_rowC (w:World) (k:Nat):RowC (w.alloc (.cells (madeCells #[.slice none 0 0,.int .i64 0,.int .i64 0,.int .i64 0,.int .i64 0,.int .i64 0,.slice none 0 0] (k * 7)) 39)) (some ⟨w.heap.size,0,none⟩) (List.replicate k coZero):=fun hn=>by
 refine ⟨_,_,rfl,by simp,fun j x hx=>?_⟩
 rw [List.getElem?_replicate] at hx
 split at hx
 ·rename_i hj
  injection hx with hx
  subst hx
  refine CoAt.mk (AF:=none) (AR:=none) (cF:=0) (cR:=0) (fun r v hv=>?_) (fun h=>absurd h (by simp [coZero])) (Row.nil _ _) (by simp [coZero])
  have hr:r < 7:=(List.getElem?_eq_some_iff.1 hv).1
  rw [cell_of_row _ _ _ _ _ _ (heap_alloc_new w _)]
  have hlt:0+j * 7+r < k * 7:=by omega
  have hmod:(0+j * 7+r) % 7 = r:=by omega
  have hrg:(Array.range (k * 7))[0+j * 7+r]? = some (0+j * 7+r):=by
   rw [Array.getElem?_eq_getElem (by simpa using hlt)]
   simp
  unfold madeCells
  rw [Array.getElem?_map,hrg]
  show some ((#[.slice none 0 0,.int .i64 0,.int .i64 0,.int .i64 0,.int .i64 0,.int .i64 0,.slice none 0 0]:Array Value)[(0+j * 7+r) % 7]!) = some v
  rw [hmod]
  match r,hr,hv with
  | 0,_,hv=>exact hv
  | 1,_,hv=>exact hv
  | 2,_,hv=>exact hv
  | 3,_,hv=>exact hv
  | 4,_,hv=>exact hv
  | 5,_,hv=>exact hv
  | 6,_,hv=>exact hv
 ·cases hx
theorem snew_yes (k n:Nat) (w:World) (hn1:1≤n) (hn2:n≤200) (hk1:1≤k) (hk2:k≤8):Calls Tryz.prog 32 #[.int .i64 k,.int .i64 n] w (RetSys2 w (syNew k n) (.int .i64 0)):=by
 have hmk:=make_cores k (by omega)
 have kk1:¬ ((k:Int) < 1):=by omega
 have kk2:¬ ((8:Int) < k):=by omega
 have b1:=heap_alloc_new w (.cells uZ 30)
 have hb:Below w.heap.size w (w.alloc (.cells uZ 30)):=boxed _ _
 have s1:w.heap.size < (w.alloc (.cells uZ 30)).heap.size:=by simp
 go_enter Tryz.func32,Tryz.ntmps32
 go_wp2_with fail
 generalize (w.alloc (.cells uZ 30)) = w1 at *
 refine (new_yes n _ hn1 hn2).mono ?_
 rintro e w2 ⟨A1,B1,c1,d1,rfl,rW,rG,hk⟩
 replace b1:=(hk.block w.heap.size s1).trans b1
 replace hb:=bstep hb hk
 replace s1:=Nat.lt_of_lt_of_le s1 hk.size
 clear hk
 go_upto_region 2 with (fail)
 replace b1:=(Below.heap_alloc w2 (.cells #[.slice A1 (mNew n).W.length c1,.slice B1 (mNew n).G.length d1,.bool (mNew n).bad] 26) _ s1).trans b1
 have s2:w2.heap.size < (w2.alloc (.cells #[.slice A1 (mNew n).W.length c1,.slice B1 (mNew n).G.length d1,.bool (mNew n).bad] 26)).heap.size:=by simp
 have bm:=heap_alloc_new w2 (.cells #[.slice A1 (mNew n).W.length c1,.slice B1 (mNew n).G.length d1,.bool (mNew n).bad] 26)
 replace hb:=bstep hb (boxed w2 (.cells #[.slice A1 (mNew n).W.length c1,.slice B1 (mNew n).G.length d1,.bool (mNew n).bad] 26))
 replace rW:=rW.step (boxed w2 (.cells #[.slice A1 (mNew n).W.length c1,.slice B1 (mNew n).G.length d1,.bool (mNew n).bad] 26))
 replace rG:=rG.step (boxed w2 (.cells #[.slice A1 (mNew n).W.length c1,.slice B1 (mNew n).G.length d1,.bool (mNew n).bad] 26))
 obtain ⟨y,hy⟩:∃ y,w2.heap.size = y:=⟨_,rfl⟩
 generalize (w2.alloc (.cells #[.slice A1 (mNew n).W.length c1,.slice B1 (mNew n).G.length d1,.bool (mNew n).bad] 26)) = w3 at *
 rw [hy] at bm s2 s1 ⊢
 clear hy
 obtain ⟨q0,q1,q2,q3,q4,qf0,qf1,qf2,qf3,qf4⟩:=cf5 b1
 obtain ⟨m0,m1,m2⟩:=cells3 bm
 have NI:=hid (noInt_sys b1)
 have s3:w.heap.size < w3.heap.size:=by omega
 have hne:w.heap.size ≠ w3.heap.size:=by omega
 clear b1 bm
 go_wp2
 go_region
 all_goals go_wp2_with fail
 all_goals refine bodyPost_ret (v:=.tuple #[.agg #[.slice A1 (mNew n).W.length c1,.slice B1 (mNew n).G.length d1,.bool (mNew n).bad,.slice (some ⟨w3.heap.size,0,none⟩) k k,.slice none 0 0],.int .i64 0]) (by simp [results,Tryz.results32,go_sem,hne,s3,q0,q1,q2,q3,q4]) rfl ?_
 all_goals
  have t5:=turn5 w3 w.heap.size (.slice A1 (mNew n).W.length c1) (.slice B1 (mNew n).G.length d1) (.bool (mNew n).bad) (.slice (some ⟨w3.heap.size,0,none⟩) k k) (.slice none 0 0)
  have e5:(((((w3.setCell ⟨w.heap.size,0,none⟩ (.slice A1 (mNew n).W.length c1)).setCell ⟨w.heap.size,1,none⟩ (.slice B1 (mNew n).G.length d1)).setCell ⟨w.heap.size,2,none⟩ (.bool (mNew n).bad)).setCell ⟨w.heap.size,3,none⟩ (.slice (some ⟨w3.heap.size,0,none⟩) k k)).setCell ⟨w.heap.size,4,none⟩ (.slice none 0 0)).heap.size = w3.heap.size:=by simp [World.setCell]
  have rC:=made_rowC (((((w3.setCell ⟨w.heap.size,0,none⟩ (.slice A1 (mNew n).W.length c1)).setCell ⟨w.heap.size,1,none⟩ (.slice B1 (mNew n).G.length d1)).setCell ⟨w.heap.size,2,none⟩ (.bool (mNew n).bad)).setCell ⟨w.heap.size,3,none⟩ (.slice (some ⟨w3.heap.size,0,none⟩) k k)).setCell ⟨w.heap.size,4,none⟩ (.slice none 0 0)) k
  rw [e5] at rC
  have hb5:Below w.heap.size w (((((w3.setCell ⟨w.heap.size,0,none⟩ (.slice A1 (mNew n).W.length c1)).setCell ⟨w.heap.size,1,none⟩ (.slice B1 (mNew n).G.length d1)).setCell ⟨w.heap.size,2,none⟩ (.bool (mNew n).bad)).setCell ⟨w.heap.size,3,none⟩ (.slice (some ⟨w3.heap.size,0,none⟩) k k)).setCell ⟨w.heap.size,4,none⟩ (.slice none 0 0)):=hb.trans (t5.to_below hb.size (fun g hg=>by omega))
  have bA:=(boxed (((((w3.setCell ⟨w.heap.size,0,none⟩ (.slice A1 (mNew n).W.length c1)).setCell ⟨w.heap.size,1,none⟩ (.slice B1 (mNew n).G.length d1)).setCell ⟨w.heap.size,2,none⟩ (.bool (mNew n).bad)).setCell ⟨w.heap.size,3,none⟩ (.slice (some ⟨w3.heap.size,0,none⟩) k k)).setCell ⟨w.heap.size,4,none⟩ (.slice none 0 0)) (.cells (madeCells #[.slice none 0 0,.int .i64 0,.int .i64 0,.int .i64 0,.int .i64 0,.int .i64 0,.slice none 0 0] (k * 7)) 39)).drew
  refine ⟨A1,B1,some ⟨w3.heap.size,0,none⟩,none,c1,d1,k,0,?_,(rW.turnN t5 NI.out).step bA,(rG.turnN t5 NI.out).step bA,rC.step ((Below.refl _ _).drew),fun h=>absurd h (by simp [syNew]),bstep hb5 bA⟩
  simp [syNew]
theorem rsnew_yes (k n:Nat) (w:World) (hn1:1≤n) (hn2:n≤200) (hk1:1≤k) (hk2:k≤8):Calls Tryz.prog 21 #[.int .i64 k,.int .i64 n] w (RetSys2 w (syNew k n) (.int .i64 0)):=by
 have hmk:=make_cores k (by omega)
 have kk1:¬ ((k:Int) < 1):=by omega
 have kk2:¬ ((8:Int) < k):=by omega
 have b1:=heap_alloc_new w (.cells uZ 30)
 have hb:Below w.heap.size w (w.alloc (.cells uZ 30)):=boxed _ _
 have s1:w.heap.size < (w.alloc (.cells uZ 30)).heap.size:=by simp
 go_enter Tryz.func21,Tryz.ntmps21
 go_wp2_with fail
 generalize (w.alloc (.cells uZ 30)) = w1 at *
 refine (rnew_yes n _ hn1 hn2).mono ?_
 rintro e w2 ⟨A1,B1,c1,d1,rfl,rW,rG,hk⟩
 replace b1:=(hk.block w.heap.size s1).trans b1
 replace hb:=bstep hb hk
 replace s1:=Nat.lt_of_lt_of_le s1 hk.size
 clear hk
 go_upto_region 2 with (fail)
 replace b1:=(Below.heap_alloc w2 (.cells #[.slice A1 (mNew n).W.length c1,.slice B1 (mNew n).G.length d1,.bool (mNew n).bad] 26) _ s1).trans b1
 have s2:w2.heap.size < (w2.alloc (.cells #[.slice A1 (mNew n).W.length c1,.slice B1 (mNew n).G.length d1,.bool (mNew n).bad] 26)).heap.size:=by simp
 have bm:=heap_alloc_new w2 (.cells #[.slice A1 (mNew n).W.length c1,.slice B1 (mNew n).G.length d1,.bool (mNew n).bad] 26)
 replace hb:=bstep hb (boxed w2 (.cells #[.slice A1 (mNew n).W.length c1,.slice B1 (mNew n).G.length d1,.bool (mNew n).bad] 26))
 replace rW:=rW.step (boxed w2 (.cells #[.slice A1 (mNew n).W.length c1,.slice B1 (mNew n).G.length d1,.bool (mNew n).bad] 26))
 replace rG:=rG.step (boxed w2 (.cells #[.slice A1 (mNew n).W.length c1,.slice B1 (mNew n).G.length d1,.bool (mNew n).bad] 26))
 obtain ⟨y,hy⟩:∃ y,w2.heap.size = y:=⟨_,rfl⟩
 generalize (w2.alloc (.cells #[.slice A1 (mNew n).W.length c1,.slice B1 (mNew n).G.length d1,.bool (mNew n).bad] 26)) = w3 at *
 rw [hy] at bm s2 s1 ⊢
 clear hy
 obtain ⟨q0,q1,q2,q3,q4,qf0,qf1,qf2,qf3,qf4⟩:=cf5 b1
 obtain ⟨m0,m1,m2⟩:=cells3 bm
 have NI:=hid (noInt_sys b1)
 have s3:w.heap.size < w3.heap.size:=by omega
 have hne:w.heap.size ≠ w3.heap.size:=by omega
 clear b1 bm
 go_wp2
 go_region
 all_goals go_wp2_with fail
 all_goals refine bodyPost_ret (v:=.tuple #[.agg #[.slice A1 (mNew n).W.length c1,.slice B1 (mNew n).G.length d1,.bool (mNew n).bad,.slice (some ⟨w3.heap.size,0,none⟩) k k,.slice none 0 0],.int .i64 0]) (by simp [results,Tryz.results21,go_sem,hne,s3,q0,q1,q2,q3,q4]) rfl ?_
 all_goals
  have t5:=turn5 w3 w.heap.size (.slice A1 (mNew n).W.length c1) (.slice B1 (mNew n).G.length d1) (.bool (mNew n).bad) (.slice (some ⟨w3.heap.size,0,none⟩) k k) (.slice none 0 0)
  have e5:(((((w3.setCell ⟨w.heap.size,0,none⟩ (.slice A1 (mNew n).W.length c1)).setCell ⟨w.heap.size,1,none⟩ (.slice B1 (mNew n).G.length d1)).setCell ⟨w.heap.size,2,none⟩ (.bool (mNew n).bad)).setCell ⟨w.heap.size,3,none⟩ (.slice (some ⟨w3.heap.size,0,none⟩) k k)).setCell ⟨w.heap.size,4,none⟩ (.slice none 0 0)).heap.size = w3.heap.size:=by simp [World.setCell]
  have rC:=made_rowC (((((w3.setCell ⟨w.heap.size,0,none⟩ (.slice A1 (mNew n).W.length c1)).setCell ⟨w.heap.size,1,none⟩ (.slice B1 (mNew n).G.length d1)).setCell ⟨w.heap.size,2,none⟩ (.bool (mNew n).bad)).setCell ⟨w.heap.size,3,none⟩ (.slice (some ⟨w3.heap.size,0,none⟩) k k)).setCell ⟨w.heap.size,4,none⟩ (.slice none 0 0)) k
  rw [e5] at rC
  have hb5:Below w.heap.size w (((((w3.setCell ⟨w.heap.size,0,none⟩ (.slice A1 (mNew n).W.length c1)).setCell ⟨w.heap.size,1,none⟩ (.slice B1 (mNew n).G.length d1)).setCell ⟨w.heap.size,2,none⟩ (.bool (mNew n).bad)).setCell ⟨w.heap.size,3,none⟩ (.slice (some ⟨w3.heap.size,0,none⟩) k k)).setCell ⟨w.heap.size,4,none⟩ (.slice none 0 0)):=hb.trans (t5.to_below hb.size (fun g hg=>by omega))
  have bA:=(boxed (((((w3.setCell ⟨w.heap.size,0,none⟩ (.slice A1 (mNew n).W.length c1)).setCell ⟨w.heap.size,1,none⟩ (.slice B1 (mNew n).G.length d1)).setCell ⟨w.heap.size,2,none⟩ (.bool (mNew n).bad)).setCell ⟨w.heap.size,3,none⟩ (.slice (some ⟨w3.heap.size,0,none⟩) k k)).setCell ⟨w.heap.size,4,none⟩ (.slice none 0 0)) (.cells (madeCells #[.slice none 0 0,.int .i64 0,.int .i64 0,.int .i64 0,.int .i64 0,.int .i64 0,.slice none 0 0] (k * 7)) 39)).drew
  refine ⟨A1,B1,some ⟨w3.heap.size,0,none⟩,none,c1,d1,k,0,?_,(rW.turnN t5 NI.out).step bA,(rG.turnN t5 NI.out).step bA,rC.step ((Below.refl _ _).drew),fun h=>absurd h (by simp [syNew]),bstep hb5 bA⟩
  simp [syNew]
end Go.Proofs.YtfipcdhodojodaaGreat
