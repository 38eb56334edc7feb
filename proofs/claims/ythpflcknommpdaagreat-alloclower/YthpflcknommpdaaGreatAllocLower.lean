/- For every system and every int, the law AllocLower (of the ops below a step is what chapters 4 to 6 tell; a core without a frame stands still) returns true, and the arguments read afterwards as before. No conditions. -/
import Derived.Test.YthpflcknommpdaaGreatRows
import Derived.Test.YthpflcknommpdaaGreatKAlB
import Derived.Test.YthpflcknommpdaaGreatAlR2
import Derived.Test.YthpflcknommpdaaGreatKAlA
import Derived.Test.YthpflcknommpdaaGreatMPl
import Derived.Test.YthpflcknommpdaaGreatMOp
import Derived.Test.YthpflcknommpdaaGreatKCoB
import Derived.Test.YthpflcknommpdaaGreatKBas
namespace Go.Proofs.YthpflcknommpdaaGreat
namespace AllocLower
open Go.ChangeShapes Go.WideShapes Go.ChangeAt Go.RowKit
set_option maxRecDepth 100000
set_option maxHeartbeats 8000000
set_option linter.unusedVariables false
set_option linter.unusedSimpArgs false
theorem own:ownKnob Tryz.prog.godebug = none:=by kernel_rfl
theorem top_W {s:Sy} (h:SyW s) {i:Int} {f:Fr} (ht:pTop s i = some f):W64 (f.R.getD 0 0):=by
 obtain ⟨k,n,x,rfl,hx,_,hf⟩:=pTop_out ht
 have h1:=((h.2 x (List.mem_of_getElem? hx)).1 f (List.mem_of_getElem? hf)).2.2.1
 cases hR:f.R with
 | nil=>simp [W64]
 | cons r rs=>exact h1 r (by rw [hR];simp)
theorem alc_none {s:Sy} {i:Int} (h:pTop s i = none):pAlc s i = s:=by unfold pAlc;rw [h]
theorem alc_out {s:Sy} {i:Int} {f:Fr} (h:pTop s i = some f) (ho:f.op < 1 ∨ 8 < f.op):pAlc s i = s:=by
 unfold pAlc pScan;rw [h]
 dsimp only
 rw [if_neg (by omega),if_neg (by omega),if_neg (by omega),if_neg (by omega),if_neg (by omega),if_neg (by omega)]
theorem then_ML (s:Sy) (i:Int) (f:Fr) (a b c:Int):(pThen s i f a b c).M = s.M∧(pThen s i f a b c).L = s.L:=by
 unfold pThen
 exact ⟨(call_M _ _ _).1.trans (set_M _ _ _).1,(call_M _ _ _).2.trans (set_M _ _ _).2⟩
theorem alc_own {s:Sy} {i:Int} {f:Fr} (h:pTop s i = some f) (ho:f.op = 7 ∨ f.op = 8):(pAlc s i).M = s.M∧(pAlc s i).L = s.L:=by
 unfold pAlc;rw [h]
 dsimp only
 rcases ho with ho | ho
 ·rw [if_pos ho]
  unfold pAlloc
  (repeat' split) <;> first | (with_reducible exact then_ML _ _ _ _ _ _) | (with_reducible exact back_M _ _ _ _) | exact ⟨rfl,rfl⟩
 ·rw [if_neg (by omega),if_pos ho]
  unfold pDrop
  (repeat' split) <;> first | (with_reducible exact then_ML _ _ _ _ _ _) | (with_reducible exact back_M _ _ _ _) | exact ⟨rfl,rfl⟩
theorem m_self (m:Ar):mSame m m = true:=by simp [mSame,mInts]
theorem walk_not (A0 B0 C0 L0:Option Addr) (a0 b0 c0 d0:Nat) (s0:Sy) (n1:Int) (w0:World)
  (rW:Row w0 A0 s0.M.W) (rG:Row w0 B0 s0.M.G) (rC:RowC w0 C0 s0.C) (rL:RowE w0 L0 s0.L) (g0:s0.M.W.length≤maxLen) (g1:s0.M.G.length≤maxLen) (g2:s0.C.length≤maxLen) (g3:s0.L.length≤maxLen) (hw:SyW s0) (q0:syMays s0 = false) :
  Calls Tryz.prog 7 #[.agg #[.slice A0 s0.M.W.length a0,.slice B0 s0.M.G.length b0,.bool s0.M.bad,.slice C0 s0.C.length c0,.slice L0 s0.L.length d0],.int .i64 n1] w0 fun e w'=>e = .returned (.bool true)∧Below w0.heap.size w0 w':=by
 have S0:RS w0 s0 A0 B0 C0 L0:=⟨rW,rG,rC,rL⟩
 have hb:Below w0.heap.size w0 w0:=Below.refl _ _
 have HC:=rmay3_any A0 B0 C0 L0 a0 b0 c0 d0 s0
 rw [q0] at HC
 replace HC:=hid (show ∀ w,RS w s0 A0 B0 C0 L0→Calls Tryz.prog 14 #[.agg #[.slice A0 s0.M.W.length a0,.slice B0 s0.M.G.length b0,.bool s0.M.bad,.slice C0 s0.C.length c0,.slice L0 s0.L.length d0],.int .i64 60] w fun e w'=>e = .returned (.bool false)∧Below w.heap.size w w' from fun w h=>HC w h.G h.C g1 g0 g2 g3)
 clear rW rG rC rL g0 g1 g2 g3
 have HW:=hid hw
 clear hw
 go_enter Tryz.func7,Tryz.ntmps7
 go_upto_region 1 with (fail)
 have Bk0:=heap_alloc_new w0 (.cells #[.slice A0 s0.M.W.length a0,.slice B0 s0.M.G.length b0,.bool s0.M.bad,.slice C0 s0.C.length c0,.slice L0 s0.L.length d0] 28)
 have lt0:w0.heap.size < (w0.alloc (.cells #[.slice A0 s0.M.W.length a0,.slice B0 s0.M.G.length b0,.bool s0.M.bad,.slice C0 s0.C.length c0,.slice L0 s0.L.length d0] 28)).heap.size:=by simp
 have hk:Below w0.heap.size w0 (w0.alloc (.cells #[.slice A0 s0.M.W.length a0,.slice B0 s0.M.G.length b0,.bool s0.M.bad,.slice C0 s0.C.length c0,.slice L0 s0.L.length d0] 28)):=boxed _ _
 replace S0:=S0.step hk
 replace hb:=bstep hb hk
 clear hk
 obtain ⟨v0,hv⟩:∃ v,w0.heap.size = v:=⟨_,rfl⟩
 rw [hv] at Bk0 lt0 ⊢
 clear hv
 generalize (w0.alloc (.cells #[.slice A0 s0.M.W.length a0,.slice B0 s0.M.G.length b0,.bool s0.M.bad,.slice C0 s0.C.length c0,.slice L0 s0.L.length d0] 28)) = w1 at *
 go_wp2_with fail
 refine (shown7_any _).mono ?_
 rintro e w2 ⟨rfl,hk⟩
 replace Bk0:=(hk.block v0 lt0).trans Bk0
 replace lt0:=Nat.lt_of_lt_of_le lt0 hk.size
 replace S0:=S0.step hk
 replace hb:=bstep hb hk
 clear hk
 go_upto_region 2 with (fail)
 obtain ⟨m0_0,m0_1,m0_2,m0_3,m0_4⟩:=cells5 Bk0
 go_wp2_with (go_at_call 14;refine (HC.out _ S0).mono ?_;rintro e wm ⟨rfl,hk⟩)
 go_ret
 exact ⟨rfl,bstep hb hk⟩
theorem walk_none (A0 B0 C0 L0:Option Addr) (a0 b0 c0 d0:Nat) (s0:Sy) (n1:Int) (w0:World)
  (rW:Row w0 A0 s0.M.W) (rG:Row w0 B0 s0.M.G) (rC:RowC w0 C0 s0.C) (rL:RowE w0 L0 s0.L) (g0:s0.M.W.length≤maxLen) (g1:s0.M.G.length≤maxLen) (g2:s0.C.length≤maxLen) (g3:s0.L.length≤maxLen) (hw:SyW s0) (q0:syMays s0 = true) (hp:pTop s0 n1 = none) :
  Calls Tryz.prog 7 #[.agg #[.slice A0 s0.M.W.length a0,.slice B0 s0.M.G.length b0,.bool s0.M.bad,.slice C0 s0.C.length c0,.slice L0 s0.L.length d0],.int .i64 n1] w0 fun e w'=>e = .returned (.bool true)∧Below w0.heap.size w0 w':=by
 have S0:RS w0 s0 A0 B0 C0 L0:=⟨rW,rG,rC,rL⟩
 have hb:Below w0.heap.size w0 w0:=Below.refl _ _
 have HC:=rmay3_any A0 B0 C0 L0 a0 b0 c0 d0 s0
 rw [q0] at HC
 replace HC:=hid (show ∀ w,RS w s0 A0 B0 C0 L0→Calls Tryz.prog 14 #[.agg #[.slice A0 s0.M.W.length a0,.slice B0 s0.M.G.length b0,.bool s0.M.bad,.slice C0 s0.C.length c0,.slice L0 s0.L.length d0],.int .i64 60] w fun e w'=>e = .returned (.bool true)∧Below w.heap.size w w' from fun w h=>HC w h.G h.C g1 g0 g2 g3)
 clear rW rG rC rL g0 g1 g2 g3
 have HW:=hid hw
 clear hw
 go_enter Tryz.func7,Tryz.ntmps7
 go_upto_region 1 with (fail)
 have Bk0:=heap_alloc_new w0 (.cells #[.slice A0 s0.M.W.length a0,.slice B0 s0.M.G.length b0,.bool s0.M.bad,.slice C0 s0.C.length c0,.slice L0 s0.L.length d0] 28)
 have lt0:w0.heap.size < (w0.alloc (.cells #[.slice A0 s0.M.W.length a0,.slice B0 s0.M.G.length b0,.bool s0.M.bad,.slice C0 s0.C.length c0,.slice L0 s0.L.length d0] 28)).heap.size:=by simp
 have hk:Below w0.heap.size w0 (w0.alloc (.cells #[.slice A0 s0.M.W.length a0,.slice B0 s0.M.G.length b0,.bool s0.M.bad,.slice C0 s0.C.length c0,.slice L0 s0.L.length d0] 28)):=boxed _ _
 replace S0:=S0.step hk
 replace hb:=bstep hb hk
 clear hk
 obtain ⟨v0,hv⟩:∃ v,w0.heap.size = v:=⟨_,rfl⟩
 rw [hv] at Bk0 lt0 ⊢
 clear hv
 generalize (w0.alloc (.cells #[.slice A0 s0.M.W.length a0,.slice B0 s0.M.G.length b0,.bool s0.M.bad,.slice C0 s0.C.length c0,.slice L0 s0.L.length d0] 28)) = w1 at *
 go_wp2_with fail
 refine (shown7_any _).mono ?_
 rintro e w2 ⟨rfl,hk⟩
 replace Bk0:=(hk.block v0 lt0).trans Bk0
 replace lt0:=Nat.lt_of_lt_of_le lt0 hk.size
 replace S0:=S0.step hk
 replace hb:=bstep hb hk
 clear hk
 go_upto_region 2 with (fail)
 obtain ⟨m0_0,m0_1,m0_2,m0_3,m0_4⟩:=cells5 Bk0
 go_upto_region 4 with (go_at_call 14;refine (HC.out _ S0).mono ?_;rintro e w3 ⟨rfl,hk⟩)
 clear m0_0 m0_1 m0_2 m0_3 m0_4
 replace Bk0:=(hk.block v0 lt0).trans Bk0
 replace lt0:=Nat.lt_of_lt_of_le lt0 hk.size
 replace S0:=S0.step hk
 replace hb:=bstep hb hk
 clear hk
 clear HC
 have hmay:sySmall s0 = true∧syRight s0 = true:=by simpa [syMays] using q0
 have hf:=few_of_small hmay.1
 have hsm:=sySmall_few hmay.1
 have hr:=hmay.2
 simp only [syRight,Bool.and_eq_true,decide_eq_true_eq] at hr
 have hR:=Rt.of hr.1.1.1
 clear hmay q0 hr
 have g2:=hR.g2
 have hL:=hsm.2.2.2.1
 obtain ⟨t1,ht1⟩:∃ t,t = pAlc s0 n1:=⟨_,rfl⟩
 have ok4:Ok4 200 s0:=⟨hf,g2,hL⟩
 have HT1:=hid (show SyFew t1 by rw [ht1];exact (ok4.alc (by omega) n1).few)
 have HS1:=hid (show ∀ (w:World),RS w s0 A0 B0 C0 L0→Calls Tryz.prog 32 #[.agg #[.slice A0 s0.M.W.length a0,.slice B0 s0.M.G.length b0,.bool s0.M.bad,.slice C0 s0.C.length c0,.slice L0 s0.L.length d0],.int .i64 n1] w (RetSys w t1) from fun w k=>by rw [ht1];exact (alst_any A0 B0 C0 L0 a0 b0 c0 d0 s0 n1 w hf g2 k (by omega) (fun f h=>top_W HW.out h)).mono (fun _ _ h=>h.weak))
 have HS2:=hid (show ∀ (w:World),RS w s0 A0 B0 C0 L0→Calls Tryz.prog 33 #[.agg #[.slice A0 s0.M.W.length a0,.slice B0 s0.M.G.length b0,.bool s0.M.bad,.slice C0 s0.C.length c0,.slice L0 s0.L.length d0],.int .i64 n1] w (RetSys w t1) from fun w k=>by rw [ht1];exact r7step_any A0 B0 C0 L0 a0 b0 c0 d0 s0 n1 w hf g2 k (fun x hx=>by have:=(hsm.2.2.2.2 x hx).1;omega) (by omega))
 obtain rfl:t1 = s0:=ht1.trans (alc_none hp)
 have HSS:=hid (show ∀ (A1 B1 C1 L1 A2 B2 C2 L2:Option Addr) (a1 b1 c1 d1 a2 b2 c2 d2:Nat) (w:World),RS w t1 A1 B1 C1 L1→RS w t1 A2 B2 C2 L2→Calls Tryz.prog 22 #[.agg #[.slice A1 t1.M.W.length a1,.slice B1 t1.M.G.length b1,.bool t1.M.bad,.slice C1 t1.C.length c1,.slice L1 t1.L.length d1],.agg #[.slice A2 t1.M.W.length a2,.slice B2 t1.M.G.length b2,.bool t1.M.bad,.slice C2 t1.C.length c2,.slice L2 t1.L.length d2]] w fun e w'=>e = .returned (.bool true)∧Below w.heap.size w w' from fun A1 B1 C1 L1 A2 B2 C2 L2 a1 b1 c1 d1 a2 b2 c2 d2 w k1 k2=>by have h9:=rsame_u A1 B1 C1 L1 A2 B2 C2 L2 a1 b1 c1 d1 a2 b2 c2 d2 t1 t1 w HT1.out k1 k2;rw [sySame_self] at h9;exact h9)
 have HTP:=hid (show ∀ w,RS w t1 A0 B0 C0 L0→Calls Tryz.prog 43 #[.agg #[.slice A0 t1.M.W.length a0,.slice B0 t1.M.G.length b0,.bool t1.M.bad,.slice C0 t1.C.length c0,.slice L0 t1.L.length d0],.int .i64 n1] w fun e w'=>e = .returned (.tuple #[.agg #[.int .i64 0,.int .i64 0,.int .i64 0,.int .i64 0,.int .i64 0,.int .i64 0,.int .i64 0,.int .i64 0,.int .i64 0,.int .i64 0,.slice none 0 0],.bool false])∧Below w.heap.size w w' from fun w k=>rtop_no A0 B0 C0 L0 a0 b0 c0 d0 t1 n1 w hf k hp)
 have d1:True:=trivial
 clear hf hsm hR ok4 hL g2 hp ht1
 obtain ⟨m0_0,m0_1,m0_2,m0_3,m0_4⟩:=cells5 Bk0
 go_upto_region 5 with (go_at_call 43;(with_reducible refine (HTP.out _ S0).mono ?_);rintro e w4 ⟨rfl,hk⟩)
 clear m0_0 m0_1 m0_2 m0_3 m0_4
 replace Bk0:=(hk.block v0 lt0).trans Bk0
 replace lt0:=Nat.lt_of_lt_of_le lt0 hk.size
 replace S0:=S0.step hk
 replace hb:=bstep hb hk
 clear hk
 have Bk6:=heap_alloc_new w4 (.cells #[.int .i64 0,.int .i64 0,.int .i64 0,.int .i64 0,.int .i64 0,.int .i64 0,.int .i64 0,.int .i64 0,.int .i64 0,.int .i64 0,.slice none 0 0] 69)
 have lt6:w4.heap.size < (w4.alloc (.cells #[.int .i64 0,.int .i64 0,.int .i64 0,.int .i64 0,.int .i64 0,.int .i64 0,.int .i64 0,.int .i64 0,.int .i64 0,.int .i64 0,.slice none 0 0] 69)).heap.size:=by simp
 have hk:Below w4.heap.size w4 (w4.alloc (.cells #[.int .i64 0,.int .i64 0,.int .i64 0,.int .i64 0,.int .i64 0,.int .i64 0,.int .i64 0,.int .i64 0,.int .i64 0,.int .i64 0,.slice none 0 0] 69)):=boxed _ _
 replace Bk0:=(hk.block v0 lt0).trans Bk0
 replace lt0:=Nat.lt_of_lt_of_le lt0 hk.size
 replace S0:=S0.step hk
 replace hb:=bstep hb hk
 clear hk
 obtain ⟨v6,hv⟩:∃ v,w4.heap.size = v:=⟨_,rfl⟩
 rw [hv] at Bk6 lt6 ⊢
 clear hv
 generalize (w4.alloc (.cells #[.int .i64 0,.int .i64 0,.int .i64 0,.int .i64 0,.int .i64 0,.int .i64 0,.int .i64 0,.int .i64 0,.int .i64 0,.int .i64 0,.slice none 0 0] 69)) = w5 at *
 obtain ⟨m0_0,m0_1,m0_2,m0_3,m0_4⟩:=cells5 Bk0
 go_upto_region 6 with (go_at_call 32;(with_reducible refine (HS1.out _ S0).mono ?_);rintro e w6 ⟨A5,B5,C5,L5,a5,b5,c5,d5,rfl,tW,tG,tC,tL,hk⟩)
 clear m0_0 m0_1 m0_2 m0_3 m0_4
 replace Bk0:=(hk.block v0 lt0).trans Bk0
 replace lt0:=Nat.lt_of_lt_of_le lt0 hk.size
 replace Bk6:=(hk.block v6 lt6).trans Bk6
 replace lt6:=Nat.lt_of_lt_of_le lt6 hk.size
 replace S0:=S0.step hk
 replace hb:=bstep hb hk
 clear hk
 have S5:RS w6 t1 A5 B5 C5 L5:=⟨tW,tG,tC,tL⟩
 clear tW tG tC tL
 have Bk5:=heap_alloc_new w6 (.cells #[.slice A5 t1.M.W.length a5,.slice B5 t1.M.G.length b5,.bool t1.M.bad,.slice C5 t1.C.length c5,.slice L5 t1.L.length d5] 28)
 have lt5:w6.heap.size < (w6.alloc (.cells #[.slice A5 t1.M.W.length a5,.slice B5 t1.M.G.length b5,.bool t1.M.bad,.slice C5 t1.C.length c5,.slice L5 t1.L.length d5] 28)).heap.size:=by simp
 have hk:Below w6.heap.size w6 (w6.alloc (.cells #[.slice A5 t1.M.W.length a5,.slice B5 t1.M.G.length b5,.bool t1.M.bad,.slice C5 t1.C.length c5,.slice L5 t1.L.length d5] 28)):=boxed _ _
 replace Bk0:=(hk.block v0 lt0).trans Bk0
 replace lt0:=Nat.lt_of_lt_of_le lt0 hk.size
 replace Bk6:=(hk.block v6 lt6).trans Bk6
 replace lt6:=Nat.lt_of_lt_of_le lt6 hk.size
 replace S0:=S0.step hk
 replace S5:=S5.step hk
 replace hb:=bstep hb hk
 clear hk
 obtain ⟨v5,hv⟩:∃ v,w6.heap.size = v:=⟨_,rfl⟩
 rw [hv] at Bk5 lt5 ⊢
 clear hv
 generalize (w6.alloc (.cells #[.slice A5 t1.M.W.length a5,.slice B5 t1.M.G.length b5,.bool t1.M.bad,.slice C5 t1.C.length c5,.slice L5 t1.L.length d5] 28)) = w7 at *
 obtain ⟨m0_0,m0_1,m0_2,m0_3,m0_4⟩:=cells5 Bk0
 obtain ⟨m5_0,m5_1,m5_2,m5_3,m5_4⟩:=cells5 Bk5
 obtain ⟨m6_0,m6_1,m6_2,m6_3,m6_4,m6_5,m6_6,m6_7,m6_8,m6_9,m6_10⟩:=cells11 Bk6
 go_wp2_with (go_at_call 22;(with_reducible refine (HSS.out _ _ _ _ _ _ _ _ _ _ _ _ _ _ _ _ _ S5 S0).mono ?_);rintro e w8 ⟨rfl,hk⟩)
 clear m0_0 m0_1 m0_2 m0_3 m0_4 m5_0 m5_1 m5_2 m5_3 m5_4 m6_0 m6_1 m6_2 m6_3 m6_4 m6_5 m6_6 m6_7 m6_8 m6_9 m6_10
 replace Bk0:=(hk.block v0 lt0).trans Bk0
 replace lt0:=Nat.lt_of_lt_of_le lt0 hk.size
 replace Bk6:=(hk.block v6 lt6).trans Bk6
 replace lt6:=Nat.lt_of_lt_of_le lt6 hk.size
 replace Bk5:=(hk.block v5 lt5).trans Bk5
 replace lt5:=Nat.lt_of_lt_of_le lt5 hk.size
 replace S0:=S0.step hk
 replace S5:=S5.step hk
 replace hb:=bstep hb hk
 clear hk
 go_ret
 exact ⟨rfl,hb⟩
theorem walk_some (A0 B0 C0 L0:Option Addr) (a0 b0 c0 d0:Nat) (s0:Sy) (n1:Int) (w0:World)
  (rW:Row w0 A0 s0.M.W) (rG:Row w0 B0 s0.M.G) (rC:RowC w0 C0 s0.C) (rL:RowE w0 L0 s0.L) (g0:s0.M.W.length≤maxLen) (g1:s0.M.G.length≤maxLen) (g2:s0.C.length≤maxLen) (g3:s0.L.length≤maxLen) (hw:SyW s0) (q0:syMays s0 = true) (op pc r0 r1 r2 r3 r4 r5 r6 r7:Int) (xs:List Int) (hp:pTop s0 n1 = some ⟨op,pc,[r0,r1,r2,r3,r4,r5,r6,r7],xs⟩) (h6:xs.length≤1000000) :
  Calls Tryz.prog 7 #[.agg #[.slice A0 s0.M.W.length a0,.slice B0 s0.M.G.length b0,.bool s0.M.bad,.slice C0 s0.C.length c0,.slice L0 s0.L.length d0],.int .i64 n1] w0 fun e w'=>e = .returned (.bool true)∧Below w0.heap.size w0 w':=by
 have S0:RS w0 s0 A0 B0 C0 L0:=⟨rW,rG,rC,rL⟩
 have hb:Below w0.heap.size w0 w0:=Below.refl _ _
 have HC:=rmay3_any A0 B0 C0 L0 a0 b0 c0 d0 s0
 rw [q0] at HC
 replace HC:=hid (show ∀ w,RS w s0 A0 B0 C0 L0→Calls Tryz.prog 14 #[.agg #[.slice A0 s0.M.W.length a0,.slice B0 s0.M.G.length b0,.bool s0.M.bad,.slice C0 s0.C.length c0,.slice L0 s0.L.length d0],.int .i64 60] w fun e w'=>e = .returned (.bool true)∧Below w.heap.size w w' from fun w h=>HC w h.G h.C g1 g0 g2 g3)
 clear rW rG rC rL g0 g1 g2 g3
 have HW:=hid hw
 clear hw
 go_enter Tryz.func7,Tryz.ntmps7
 go_upto_region 1 with (fail)
 have Bk0:=heap_alloc_new w0 (.cells #[.slice A0 s0.M.W.length a0,.slice B0 s0.M.G.length b0,.bool s0.M.bad,.slice C0 s0.C.length c0,.slice L0 s0.L.length d0] 28)
 have lt0:w0.heap.size < (w0.alloc (.cells #[.slice A0 s0.M.W.length a0,.slice B0 s0.M.G.length b0,.bool s0.M.bad,.slice C0 s0.C.length c0,.slice L0 s0.L.length d0] 28)).heap.size:=by simp
 have hk:Below w0.heap.size w0 (w0.alloc (.cells #[.slice A0 s0.M.W.length a0,.slice B0 s0.M.G.length b0,.bool s0.M.bad,.slice C0 s0.C.length c0,.slice L0 s0.L.length d0] 28)):=boxed _ _
 replace S0:=S0.step hk
 replace hb:=bstep hb hk
 clear hk
 obtain ⟨v0,hv⟩:∃ v,w0.heap.size = v:=⟨_,rfl⟩
 rw [hv] at Bk0 lt0 ⊢
 clear hv
 generalize (w0.alloc (.cells #[.slice A0 s0.M.W.length a0,.slice B0 s0.M.G.length b0,.bool s0.M.bad,.slice C0 s0.C.length c0,.slice L0 s0.L.length d0] 28)) = w1 at *
 go_wp2_with fail
 refine (shown7_any _).mono ?_
 rintro e w2 ⟨rfl,hk⟩
 replace Bk0:=(hk.block v0 lt0).trans Bk0
 replace lt0:=Nat.lt_of_lt_of_le lt0 hk.size
 replace S0:=S0.step hk
 replace hb:=bstep hb hk
 clear hk
 go_upto_region 2 with (fail)
 obtain ⟨m0_0,m0_1,m0_2,m0_3,m0_4⟩:=cells5 Bk0
 go_upto_region 4 with (go_at_call 14;refine (HC.out _ S0).mono ?_;rintro e w3 ⟨rfl,hk⟩)
 clear m0_0 m0_1 m0_2 m0_3 m0_4
 replace Bk0:=(hk.block v0 lt0).trans Bk0
 replace lt0:=Nat.lt_of_lt_of_le lt0 hk.size
 replace S0:=S0.step hk
 replace hb:=bstep hb hk
 clear hk
 clear HC
 have hmay:sySmall s0 = true∧syRight s0 = true:=by simpa [syMays] using q0
 have hf:=few_of_small hmay.1
 have hsm:=sySmall_few hmay.1
 have hr:=hmay.2
 simp only [syRight,Bool.and_eq_true,decide_eq_true_eq] at hr
 have hR:=Rt.of hr.1.1.1
 clear hmay q0 hr
 have g2:=hR.g2
 have hL:=hsm.2.2.2.1
 obtain ⟨t1,ht1⟩:∃ t,t = pAlc s0 n1:=⟨_,rfl⟩
 have ok4:Ok4 200 s0:=⟨hf,g2,hL⟩
 have HT1:=hid (show SyFew t1 by rw [ht1];exact (ok4.alc (by omega) n1).few)
 have HS1:=hid (show ∀ (w:World),RS w s0 A0 B0 C0 L0→Calls Tryz.prog 32 #[.agg #[.slice A0 s0.M.W.length a0,.slice B0 s0.M.G.length b0,.bool s0.M.bad,.slice C0 s0.C.length c0,.slice L0 s0.L.length d0],.int .i64 n1] w (RetSys w t1) from fun w k=>by rw [ht1];exact (alst_any A0 B0 C0 L0 a0 b0 c0 d0 s0 n1 w hf g2 k (by omega) (fun f h=>top_W HW.out h)).mono (fun _ _ h=>h.weak))
 have HS2:=hid (show ∀ (w:World),RS w s0 A0 B0 C0 L0→Calls Tryz.prog 33 #[.agg #[.slice A0 s0.M.W.length a0,.slice B0 s0.M.G.length b0,.bool s0.M.bad,.slice C0 s0.C.length c0,.slice L0 s0.L.length d0],.int .i64 n1] w (RetSys w t1) from fun w k=>by rw [ht1];exact r7step_any A0 B0 C0 L0 a0 b0 c0 d0 s0 n1 w hf g2 k (fun x hx=>by have:=(hsm.2.2.2.2 x hx).1;omega) (by omega))
 have HSS:=hid (show ∀ (A1 B1 C1 L1 A2 B2 C2 L2:Option Addr) (a1 b1 c1 d1 a2 b2 c2 d2:Nat) (w:World),RS w t1 A1 B1 C1 L1→RS w t1 A2 B2 C2 L2→Calls Tryz.prog 22 #[.agg #[.slice A1 t1.M.W.length a1,.slice B1 t1.M.G.length b1,.bool t1.M.bad,.slice C1 t1.C.length c1,.slice L1 t1.L.length d1],.agg #[.slice A2 t1.M.W.length a2,.slice B2 t1.M.G.length b2,.bool t1.M.bad,.slice C2 t1.C.length c2,.slice L2 t1.L.length d2]] w fun e w'=>e = .returned (.bool true)∧Below w.heap.size w w' from fun A1 B1 C1 L1 A2 B2 C2 L2 a1 b1 c1 d1 a2 b2 c2 d2 w k1 k2=>by have h9:=rsame_u A1 B1 C1 L1 A2 B2 C2 L2 a1 b1 c1 d1 a2 b2 c2 d2 t1 t1 w HT1.out k1 k2;rw [sySame_self] at h9;exact h9)
 have HMM:=hid (show ∀ (A A' B B':Option Addr) (c c' d d':Nat) (w:World),Row w A s0.M.W→Row w A' s0.M.G→Row w B s0.M.W→Row w B' s0.M.G→Calls Tryz.prog 44 #[.agg #[.slice A s0.M.W.length c,.slice A' s0.M.G.length c',.bool s0.M.bad],.agg #[.slice B s0.M.W.length d,.slice B' s0.M.G.length d',.bool s0.M.bad]] w fun e w'=>e = .returned (.bool true)∧Below w.heap.size w w' from fun A A' B B' c c' d d' w h1 h2 h3 h4=>by have h9:=rsame_any A A' B B' c c' d d' s0.M s0.M w h1 h2 h3 h4 (by have:=hf.1;omega) (by have:=hf.2.1;omega);rw [m_self] at h9;exact h9)
 have HTP:=hid (show ∀ w,RS w s0 A0 B0 C0 L0→Calls Tryz.prog 43 #[.agg #[.slice A0 s0.M.W.length a0,.slice B0 s0.M.G.length b0,.bool s0.M.bad,.slice C0 s0.C.length c0,.slice L0 s0.L.length d0],.int .i64 n1] w fun e w'=>∃ (A':Option Addr) (c':Nat),e = .returned (.tuple #[.agg #[.int .i64 op,.int .i64 pc,.int .i64 r0,.int .i64 r1,.int .i64 r2,.int .i64 r3,.int .i64 r4,.int .i64 r5,.int .i64 r6,.int .i64 r7,.slice A' xs.length c'],.bool true])∧Row w' A' xs∧Below w.heap.size w w' from fun w k=>rtop_is A0 B0 C0 L0 a0 b0 c0 d0 s0 n1 op pc r0 r1 r2 r3 r4 r5 r6 r7 xs w hf k hp h6)
 have HP:=hid hp
 have HT9:=hid ht1
 clear hf hsm hR ok4 hL g2 hp ht1 h6
 obtain ⟨m0_0,m0_1,m0_2,m0_3,m0_4⟩:=cells5 Bk0
 go_upto_region 5 with (go_at_call 43;(with_reducible refine (HTP.out _ S0).mono ?_);rintro e w4 ⟨AF,cF,rfl,rF,hk⟩)
 clear m0_0 m0_1 m0_2 m0_3 m0_4
 replace Bk0:=(hk.block v0 lt0).trans Bk0
 replace lt0:=Nat.lt_of_lt_of_le lt0 hk.size
 replace S0:=S0.step hk
 replace hb:=bstep hb hk
 clear hk
 clear rF HTP
 have Bk6:=heap_alloc_new w4 (.cells #[.int .i64 op,.int .i64 pc,.int .i64 r0,.int .i64 r1,.int .i64 r2,.int .i64 r3,.int .i64 r4,.int .i64 r5,.int .i64 r6,.int .i64 r7,.slice AF xs.length cF] 69)
 have lt6:w4.heap.size < (w4.alloc (.cells #[.int .i64 op,.int .i64 pc,.int .i64 r0,.int .i64 r1,.int .i64 r2,.int .i64 r3,.int .i64 r4,.int .i64 r5,.int .i64 r6,.int .i64 r7,.slice AF xs.length cF] 69)).heap.size:=by simp
 have hk:Below w4.heap.size w4 (w4.alloc (.cells #[.int .i64 op,.int .i64 pc,.int .i64 r0,.int .i64 r1,.int .i64 r2,.int .i64 r3,.int .i64 r4,.int .i64 r5,.int .i64 r6,.int .i64 r7,.slice AF xs.length cF] 69)):=boxed _ _
 replace Bk0:=(hk.block v0 lt0).trans Bk0
 replace lt0:=Nat.lt_of_lt_of_le lt0 hk.size
 replace S0:=S0.step hk
 replace hb:=bstep hb hk
 clear hk
 obtain ⟨v6,hv⟩:∃ v,w4.heap.size = v:=⟨_,rfl⟩
 rw [hv] at Bk6 lt6 ⊢
 clear hv
 generalize (w4.alloc (.cells #[.int .i64 op,.int .i64 pc,.int .i64 r0,.int .i64 r1,.int .i64 r2,.int .i64 r3,.int .i64 r4,.int .i64 r5,.int .i64 r6,.int .i64 r7,.slice AF xs.length cF] 69)) = w5 at *
 obtain ⟨m0_0,m0_1,m0_2,m0_3,m0_4⟩:=cells5 Bk0
 go_upto_region 6 with (go_at_call 32;(with_reducible refine (HS1.out _ S0).mono ?_);rintro e w6 ⟨A5,B5,C5,L5,a5,b5,c5,d5,rfl,tW,tG,tC,tL,hk⟩)
 clear m0_0 m0_1 m0_2 m0_3 m0_4
 replace Bk0:=(hk.block v0 lt0).trans Bk0
 replace lt0:=Nat.lt_of_lt_of_le lt0 hk.size
 replace Bk6:=(hk.block v6 lt6).trans Bk6
 replace lt6:=Nat.lt_of_lt_of_le lt6 hk.size
 replace S0:=S0.step hk
 replace hb:=bstep hb hk
 clear hk
 have S5:RS w6 t1 A5 B5 C5 L5:=⟨tW,tG,tC,tL⟩
 clear tW tG tC tL
 have Bk5:=heap_alloc_new w6 (.cells #[.slice A5 t1.M.W.length a5,.slice B5 t1.M.G.length b5,.bool t1.M.bad,.slice C5 t1.C.length c5,.slice L5 t1.L.length d5] 28)
 have lt5:w6.heap.size < (w6.alloc (.cells #[.slice A5 t1.M.W.length a5,.slice B5 t1.M.G.length b5,.bool t1.M.bad,.slice C5 t1.C.length c5,.slice L5 t1.L.length d5] 28)).heap.size:=by simp
 have hk:Below w6.heap.size w6 (w6.alloc (.cells #[.slice A5 t1.M.W.length a5,.slice B5 t1.M.G.length b5,.bool t1.M.bad,.slice C5 t1.C.length c5,.slice L5 t1.L.length d5] 28)):=boxed _ _
 replace Bk0:=(hk.block v0 lt0).trans Bk0
 replace lt0:=Nat.lt_of_lt_of_le lt0 hk.size
 replace Bk6:=(hk.block v6 lt6).trans Bk6
 replace lt6:=Nat.lt_of_lt_of_le lt6 hk.size
 replace S0:=S0.step hk
 replace S5:=S5.step hk
 replace hb:=bstep hb hk
 clear hk
 obtain ⟨v5,hv⟩:∃ v,w6.heap.size = v:=⟨_,rfl⟩
 rw [hv] at Bk5 lt5 ⊢
 clear hv
 generalize (w6.alloc (.cells #[.slice A5 t1.M.W.length a5,.slice B5 t1.M.G.length b5,.bool t1.M.bad,.slice C5 t1.C.length c5,.slice L5 t1.L.length d5] 28)) = w7 at *
 by_cases ho:op < 1 ∨ 8 < op
 ·obtain rfl:s0 = t1:=(HT9.out.trans (alc_out HP.out (by dsimp only;exact ho))).symm
  obtain ⟨m0_0,m0_1,m0_2,m0_3,m0_4⟩:=cells5 Bk0
  obtain ⟨m5_0,m5_1,m5_2,m5_3,m5_4⟩:=cells5 Bk5
  obtain ⟨m6_0,m6_1,m6_2,m6_3,m6_4,m6_5,m6_6,m6_7,m6_8,m6_9,m6_10⟩:=cells11 Bk6
  clear HP HT9
  by_cases ho1:op < 1
  ·have d1:decide (op < 1) = true:=by simp;omega
   go_wp2_with (go_at_call 22;(with_reducible refine (HSS.out _ _ _ _ _ _ _ _ _ _ _ _ _ _ _ _ _ S5 S0).mono ?_);rintro e w8 ⟨rfl,hk⟩)
   go_ret
   exact ⟨rfl,bstep hb hk⟩
  ·have d1:decide (op < 1) = false:=by simp;omega
   have d2:decide (8 < op) = true:=by simp;omega
   go_wp2_with (go_at_call 22;(with_reducible refine (HSS.out _ _ _ _ _ _ _ _ _ _ _ _ _ _ _ _ _ S5 S0).mono ?_);rintro e w8 ⟨rfl,hk⟩)
   go_ret
   exact ⟨rfl,bstep hb hk⟩
 have d1:decide (op < 1) = false:=by simp;omega
 have d2:decide (8 < op) = false:=by simp;omega
 by_cases h78:op = 7 ∨ op = 8
 ·obtain ⟨hM9,hL9⟩:t1.M = s0.M∧t1.L = s0.L:=by rw [HT9.out];exact alc_own HP.out h78
  have S5W:=S5.W
  have S5G:=S5.G
  rw [hM9] at S5W S5G
  rw [hM9,hL9] at Bk5
  clear hM9 hL9 S5 HP HT9 HSS HT1 HS1 HS2
  obtain ⟨m0_0,m0_1,m0_2,m0_3,m0_4⟩:=cells5 Bk0
  obtain ⟨m5_0,m5_1,m5_2,m5_3,m5_4⟩:=cells5 Bk5
  obtain ⟨m6_0,m6_1,m6_2,m6_3,m6_4,m6_5,m6_6,m6_7,m6_8,m6_9,m6_10⟩:=cells11 Bk6
  have hn:((s0.L.length:Int) == (s0.L.length:Int)) = true:=by simp
  rcases h78 with rfl | rfl
  ·go_wp2_with (go_at_call 44;(with_reducible refine (HMM.out _ _ _ _ _ _ _ _ _ S5W S5G S0.W S0.G).mono ?_);rintro e wq ⟨rfl,hq⟩;have mq0:=(hq.cell (by omega)).trans m0_4;have mq5:=(hq.cell (by omega)).trans m5_4)
   go_ret
   exact ⟨rfl,bstep hb hq⟩
  ·go_wp2_with (go_at_call 44;(with_reducible refine (HMM.out _ _ _ _ _ _ _ _ _ S5W S5G S0.W S0.G).mono ?_);rintro e wq ⟨rfl,hq⟩;have mq0:=(hq.cell (by omega)).trans m0_4;have mq5:=(hq.cell (by omega)).trans m5_4)
   go_ret
   exact ⟨rfl,bstep hb hq⟩
 have d3:(op == 7) = false:=by simp;omega
 have d4:(op == 8) = false:=by simp;omega
 clear HP HT9 HMM ho h78
 obtain ⟨m6_0,m6_1,m6_2,m6_3,m6_4,m6_5,m6_6,m6_7,m6_8,m6_9,m6_10⟩:=cells11 Bk6
 go_upto_region 10 with (fail)
 clear m6_0 m6_1 m6_2 m6_3 m6_4 m6_5 m6_6 m6_7 m6_8 m6_9 m6_10
 clear Bk6 lt6
 obtain ⟨m0_0,m0_1,m0_2,m0_3,m0_4⟩:=cells5 Bk0
 obtain ⟨m5_0,m5_1,m5_2,m5_3,m5_4⟩:=cells5 Bk5
 have KS:=hid (show ∀ w',Below w7.heap.size w7 w'→(w'.cell? ⟨v0,0,none⟩ = some (.slice A0 s0.M.W.length a0)∧w'.cell? ⟨v0,1,none⟩ = some (.slice B0 s0.M.G.length b0)∧w'.cell? ⟨v0,2,none⟩ = some (.bool s0.M.bad)∧w'.cell? ⟨v0,3,none⟩ = some (.slice C0 s0.C.length c0)∧w'.cell? ⟨v0,4,none⟩ = some (.slice L0 s0.L.length d0)∧w'.cell? ⟨v5,0,none⟩ = some (.slice A5 t1.M.W.length a5)∧w'.cell? ⟨v5,1,none⟩ = some (.slice B5 t1.M.G.length b5)∧w'.cell? ⟨v5,2,none⟩ = some (.bool t1.M.bad)∧w'.cell? ⟨v5,3,none⟩ = some (.slice C5 t1.C.length c5)∧w'.cell? ⟨v5,4,none⟩ = some (.slice L5 t1.L.length d5)) from fun w' h=>⟨(h.cell lt0).trans m0_0,(h.cell lt0).trans m0_1,(h.cell lt0).trans m0_2,(h.cell lt0).trans m0_3,(h.cell lt0).trans m0_4,(h.cell lt5).trans m5_0,(h.cell lt5).trans m5_1,(h.cell lt5).trans m5_2,(h.cell lt5).trans m5_3,(h.cell lt5).trans m5_4⟩)
 go_region_held3 (fun w'=>w'.cell? ⟨v0,0,none⟩ = some (.slice A0 s0.M.W.length a0)∧w'.cell? ⟨v0,1,none⟩ = some (.slice B0 s0.M.G.length b0)∧w'.cell? ⟨v0,2,none⟩ = some (.bool s0.M.bad)∧w'.cell? ⟨v0,3,none⟩ = some (.slice C0 s0.C.length c0)∧w'.cell? ⟨v0,4,none⟩ = some (.slice L0 s0.L.length d0)∧w'.cell? ⟨v5,0,none⟩ = some (.slice A5 t1.M.W.length a5)∧w'.cell? ⟨v5,1,none⟩ = some (.slice B5 t1.M.G.length b5)∧w'.cell? ⟨v5,2,none⟩ = some (.bool t1.M.bad)∧w'.cell? ⟨v5,3,none⟩ = some (.slice C5 t1.C.length c5)∧w'.cell? ⟨v5,4,none⟩ = some (.slice L5 t1.L.length d5)) (exact KS.out _ (by repeat (first | (with_reducible exact Below.refl _ _) | (with_reducible refine Below.drew ?_) | (with_reducible refine bstep ?_ (boxed _ _)) | (with_reducible refine bstep ?_ hk2) | (with_reducible refine bstep ?_ hk1))))
  (first | (go_at_call 33;(with_reducible refine (HS2.out _ (S0.step (by repeat (first | (with_reducible exact Below.refl _ _) | (with_reducible refine Below.drew ?_) | (with_reducible refine bstep ?_ (boxed _ _)) | (with_reducible refine bstep ?_ hk2) | (with_reducible refine bstep ?_ hk1))))).mono ?_);rintro e wk1 ⟨A15,B15,C15,L15,a15,b15,c15,d15,rfl,x1,x2,x3,x4,hk1⟩;have S15:RS wk1 t1 A15 B15 C15 L15:=⟨x1,x2,x3,x4⟩;clear x1 x2 x3 x4) | (go_at_call 22;(with_reducible refine (HSS.out _ _ _ _ _ _ _ _ _ _ _ _ _ _ _ _ _ (S5.step (by repeat (first | (with_reducible exact Below.refl _ _) | (with_reducible refine Below.drew ?_) | (with_reducible refine bstep ?_ (boxed _ _)) | (with_reducible refine bstep ?_ hk2) | (with_reducible refine bstep ?_ hk1)))) (S15.step (by repeat (first | (with_reducible exact Below.refl _ _) | (with_reducible refine Below.drew ?_) | (with_reducible refine bstep ?_ (boxed _ _)) | (with_reducible refine bstep ?_ hk2) | (with_reducible refine bstep ?_ hk1))))).mono ?_);rintro e wk2 ⟨rfl,hk2⟩))
 rename_i hHeld
 have hbw:Below w7.heap.size w7 wk2:=(by repeat (first | (with_reducible exact Below.refl _ _) | (with_reducible refine Below.drew ?_) | (with_reducible refine bstep ?_ (boxed _ _)) | (with_reducible refine bstep ?_ hk2) | (with_reducible refine bstep ?_ hk1)))
 clear hHeld KS hk1 hk2
 clear m0_0 m0_1 m0_2 m0_3 m0_4 m5_0 m5_1 m5_2 m5_3 m5_4
 replace Bk0:=(hbw.block v0 lt0).trans Bk0
 replace lt0:=Nat.lt_of_lt_of_le lt0 hbw.size
 replace Bk5:=(hbw.block v5 lt5).trans Bk5
 replace lt5:=Nat.lt_of_lt_of_le lt5 hbw.size
 replace S0:=S0.step hbw
 replace S5:=S5.step hbw
 replace hb:=bstep hb hbw
 clear hbw
 generalize wk2 = w8 at *
 go_wp2_with fail
 go_ret
 exact ⟨rfl,hb⟩
theorem walk (A0 B0 C0 L0:Option Addr) (a0 b0 c0 d0:Nat) (s0:Sy) (n1:Int) (w0:World)
  (rW:Row w0 A0 s0.M.W) (rG:Row w0 B0 s0.M.G) (rC:RowC w0 C0 s0.C) (rL:RowE w0 L0 s0.L) (g0:s0.M.W.length≤maxLen) (g1:s0.M.G.length≤maxLen) (g2:s0.C.length≤maxLen) (g3:s0.L.length≤maxLen) (hw:SyW s0) :
  Calls Tryz.prog 7 #[.agg #[.slice A0 s0.M.W.length a0,.slice B0 s0.M.G.length b0,.bool s0.M.bad,.slice C0 s0.C.length c0,.slice L0 s0.L.length d0],.int .i64 n1] w0 fun e w'=>e = .returned (.bool true)∧Below w0.heap.size w0 w':=by
 rcases q0:syMays s0 with _ | _
 ·exact walk_not A0 B0 C0 L0 a0 b0 c0 d0 s0 n1 w0 rW rG rC rL g0 g1 g2 g3 hw q0
 ·have hf:=few_of_small (show sySmall s0 = true from by simp only [syMays,Bool.and_eq_true] at q0;exact q0.1)
  rcases pTop_cases s0 n1 hf rC with hp | ⟨op,pc,r0,r1,r2,r3,r4,r5,r6,r7,xs,hp,h6⟩
  ·exact walk_none A0 B0 C0 L0 a0 b0 c0 d0 s0 n1 w0 rW rG rC rL g0 g1 g2 g3 hw q0 hp
  ·exact walk_some A0 B0 C0 L0 a0 b0 c0 d0 s0 n1 w0 rW rG rC rL g0 g1 g2 g3 hw q0 op pc r0 r1 r2 r3 r4 r5 r6 r7 xs hp h6
theorem lifted (os:Os) (started:os.Started) (H:Type) (enc:TypeId × Value→H) :
  ReturnsInHanded {} Tryz.checked os 7 .any (Rows.allocLowerSpec.pre6 enc Tryz.prog Tryz.f7 Rows.allocLowerRow.domain false) (Rows.allocLowerSpec.post enc Tryz.prog Tryz.f7 false true false false):=by
 refine returnsInHanded_of_change (C:=Tryz.checked) own started (by kernel_rfl) Tryz.func7
  (ChangeSpec.witness6 (enc:=enc) (C:=Tryz.checked) false ⟨#[],#[.agg #[.slice none 0 0,.slice none 0 0,.bool false,.slice none 0 0,.slice none 0 0],.int .i64 0],[]⟩ 8 (by kernel_rfl) (by kernel_rfl) (by kernel_rfl) (by kernel_rfl)) ?_
 intro W base args ds gs before hval0 hW hcnd _
 have hval:∀ (j:Nat) t v,Tryz.f7.params[j]? = some t→args[j]? = some v→Value.okWide Tryz.prog W .any base t v:=hval0
 have hW':=hW
 obtain ⟨p,q,hA0,hV,rfl,hfz,hnd⟩:=hW
 have hA:DataW.TrodAll enc Tryz.prog W 0 (fun _=>true) true Tryz.f7.params.toList args.toList ds p:=hA0
 rw [Tryz.params7] at hA hval
 obtain ⟨v0,vs0,d0,ds0,p0,q0,hargs,rfl,rfl,h0,r0⟩:=trodAll_cons hA
 obtain ⟨v1,vs1,d1,ds1,p1,q1,rfl,rfl,rfl,h1,r1⟩:=trodAll_cons r0
 obtain ⟨rfl,rfl,rfl⟩:=trodAll_nil r1
 obtain rfl:args = #[v0,v1]:=by cases args;simp_all
 obtain ⟨rfl,rfl⟩:=trodVars_none hV
 clear hA0 hval0
 obtain ⟨A0,B0,C0,L0,a0,b0,c0,d0,s0,rfl,rW,rG,rC,rL,l0,l1,l2,l3,hw⟩:=open_system8 (hval 0 _ v0 rfl rfl) h0
 obtain ⟨m1,hm1⟩:=h1
 obtain ⟨n1,en⟩:=open_int Tryz.underlying3 hm1
 obtain rfl:v1 = .int .i64 n1:=by
  obtain ⟨a',ha'⟩:=okWide_int Tryz.underlying3 (hval 1 3 v1 rfl rfl)
  subst ha'
  simpa [Value.cells] using en
 refine (walk A0 B0 C0 L0 a0 b0 c0 d0 s0 n1 W rW rG rC rL l0 l1 l2 l3 hw).mono fun e W' ⟨he,hb⟩=>?_
 subst he
 exact ⟨_,rfl,law_post (tb:=4) (by kernel_rfl) (by kernel_rfl) (by kernel_rfl) Tryz.underlying4 rfl hW' rfl hb⟩
theorem over:Rows.allocLowerRow.holds Tryz.pinned (OpenSpec.ofChange Rows.allocLowerSpec) :=
 OpenClaim.holds_of_wide 7 Tryz.f7 rfl rfl rfl rfl rfl rfl rfl ⟨rfl,rfl,rfl,rfl,rfl⟩ rfl rfl rfl rfl rfl (by kernel_rfl) Tryz.func7 (by kernel_rfl)
  (of_decide_eq_true (by kernel_rfl)) (by unfold Func.isWrapper;first | (rw [if_pos (by decide +kernel)];kernel_rfl) | (rw [if_neg (by decide +kernel)];exact ⟨rfl,rfl⟩))
  (fun os started H enc _=>lifted os started H enc)
end AllocLower
theorem allocLower_holds:Rows.AllocLowerSaid:=AllocLower.over
#print axioms allocLower_holds
end Go.Proofs.YthpflcknommpdaaGreat
