/- For every system and every four ints, the law AllocTells (a step, which ops these are, the parts, and new systems, are as the document says) returns true, and the arguments read afterwards as before. No conditions. -/
import Derived.Test.YthpflcknommpdaaGreatRows
import Derived.Test.YthpflcknommpdaaGreatKAlB
import Derived.Test.YthpflcknommpdaaGreatAlR2
import Derived.Test.YthpflcknommpdaaGreatAlR3
import Derived.Test.YthpflcknommpdaaGreatKAlA
import Derived.Test.YthpflcknommpdaaGreatMPl
import Derived.Test.YthpflcknommpdaaGreatMOp
import Derived.Test.YthpflcknommpdaaGreatKCoB
import Derived.Test.YthpflcknommpdaaGreatKBas
namespace Go.Proofs.YthpflcknommpdaaGreat
namespace AllocTells
open Go.ChangeShapes Go.WideShapes Go.ChangeAt Go.RowKit
set_option maxRecDepth 100000
set_option maxHeartbeats 8000000
set_option linter.unusedVariables false
set_option linter.unusedSimpArgs false
theorem own:ownKnob Tryz.prog.godebug = none:=by kernel_rfl
theorem top_W {s:Sy} (h:SyW s) {i:Int} {f:Fr} (ht:pTop s i = some f):W64 (f.R.getD 0 0):=by
 obtain ⟨k,n,x,rfl,hx,_,hf⟩:=pTop_out ht
 have h1:=((h.2 x (List.mem_of_getElem? hx)).1 f (List.mem_of_getElem? hf)).2.2.1
 cases hR:f.R with
 | nil=>simp [W64]
 | cons r rs=>exact h1 r (by rw [hR];simp)
theorem start_few (k n:Int):SyFew (pStart k n):=by
 unfold pStart
 split
 ·next h=>exact few_mem (few_new _ _ (by omega) (by omega)) ((pFill_len _).1) (congrArg List.length (pFill_len _).2)
 ·exact few_none
section
variable {H:Type} {enc:TypeId × Value→H} {w:World} {base:Nat} {spare:Nat→Bool} {held:Bool}
theorem open_in {r:Reach} {b0:Nat} {v:Value} {d:DataW H} {p:List MemPlace} (hv:Value.okWide Tryz.prog w r b0 41 v) (h:DataW.Trod enc Tryz.prog w base spare held 41 v d p) :
  ∃ (A B C L:Option Addr) (a b c d:Nat) (s:Sy) (n1 n2 n3 n4:Int),v = .agg #[.slice A s.M.W.length a,.slice B s.M.G.length b,.bool s.M.bad,.slice C s.C.length c,.slice L s.L.length d,.int .i64 n1,.int .i64 n2,.int .i64 n3,.int .i64 n4]∧(Row w A s.M.W∧Row w B s.M.G∧RowC w C s.C∧RowE w L s.L ∧
   s.M.W.length≤maxLen∧s.M.G.length≤maxLen∧s.C.length≤maxLen∧s.L.length≤maxLen∧SyW s):=by
 obtain ⟨cs,rfl,_⟩:=okWide_struct Tryz.underlying41 hv
 obtain ⟨fuel,hf0⟩:=h
 obtain ⟨ls,hls⟩:∃ ls,ls = cs.toList:=⟨_,rfl⟩
 have hf1:DataW.trod enc Tryz.prog w base spare held fuel 41 ls = some (d,p):=by rw [hls];exact hf0
 obtain ⟨xs,n,_,_,hlen,hxl,hf⟩:=DataW.trod_struct Tryz.underlying41 hf1
 have k1:Tryz.prog.cellsOf 41 = 9:=by kernel_rfl
 have k2:Tryz.prog.cellsOf 28 = 5:=by kernel_rfl
 have k3:Tryz.prog.cellsOf 3 = 1:=by kernel_rfl
 rw [k1] at hlen
 match ls,hlen with
 | [c0,c1,c2,c3,c4,c5,c6,c7,c8],_ =>
  match xs,hxl with
  | [y0,y1,y2,y3,y4],_ =>
   have f0:=hf 0 _ rfl
   have f1:=hf 1 _ rfl
   have f2:=hf 2 _ rfl
   have f3:=hf 3 _ rfl
   have f4:=hf 4 _ rfl
   simp [k2,k3] at f0 f1 f2 f3 f4
   obtain ⟨A,B,C,L,a,b,c,d,s,e0,q0⟩:=open_sys8 f0
   obtain ⟨n1,e1⟩:=open_int Tryz.underlying3 f1
   obtain ⟨n2,e2⟩:=open_int Tryz.underlying3 f2
   obtain ⟨n3,e3⟩:=open_int Tryz.underlying3 f3
   obtain ⟨n4,e4⟩:=open_int Tryz.underlying3 f4
   refine ⟨A,B,C,L,a,b,c,d,s,n1,n2,n3,n4,?_,q0⟩
   simp only [List.cons.injEq,and_true] at e0 e1 e2 e3 e4
   obtain ⟨g0,g1,g2,g3,g4⟩:=e0
   subst g0 g1 g2 g3 g4 e1 e2 e3 e4
   congr 1
   apply Array.toList_inj.1
   rw [← hls]
end
theorem walk_not (A0 B0 C0 L0:Option Addr) (a0 b0 c0 d0:Nat) (s0:Sy) (n1 n2 n3 n4:Int) (w0:World)
  (rW:Row w0 A0 s0.M.W) (rG:Row w0 B0 s0.M.G) (rC:RowC w0 C0 s0.C) (rL:RowE w0 L0 s0.L) (g0:s0.M.W.length≤maxLen) (g1:s0.M.G.length≤maxLen) (g2:s0.C.length≤maxLen) (g3:s0.L.length≤maxLen) (hw:SyW s0) (q0:syMays s0 = false) :
  Calls Tryz.prog 4 #[.agg #[.slice A0 s0.M.W.length a0,.slice B0 s0.M.G.length b0,.bool s0.M.bad,.slice C0 s0.C.length c0,.slice L0 s0.L.length d0,.int .i64 n1,.int .i64 n2,.int .i64 n3,.int .i64 n4]] w0 fun e w'=>e = .returned (.bool true)∧Below w0.heap.size w0 w':=by
 have S0:RS w0 s0 A0 B0 C0 L0:=⟨rW,rG,rC,rL⟩
 have hb:Below w0.heap.size w0 w0:=Below.refl _ _
 have HC:=rmay3_any A0 B0 C0 L0 a0 b0 c0 d0 s0
 rw [q0] at HC
 replace HC:=hid (show ∀ w,RS w s0 A0 B0 C0 L0→Calls Tryz.prog 14 #[.agg (uS A0 B0 C0 L0 a0 b0 c0 d0 s0),.int .i64 60] w fun e w'=>e = .returned (.bool false)∧Below w.heap.size w w' from fun w h=>HC w h.G h.C g1 g0 g2 g3)
 clear rW rG rC rL g0 g1 g2 g3
 have HW:=hid hw
 clear hw
 go_enter Tryz.func4,Tryz.ntmps4
 go_upto_region 1 with (fail)
 have Bk9:=heap_alloc_new w0 (.cells #[.slice A0 s0.M.W.length a0,.slice B0 s0.M.G.length b0,.bool s0.M.bad,.slice C0 s0.C.length c0,.slice L0 s0.L.length d0,.int .i64 n1,.int .i64 n2,.int .i64 n3,.int .i64 n4] 41)
 have lt9:w0.heap.size < (w0.alloc (.cells #[.slice A0 s0.M.W.length a0,.slice B0 s0.M.G.length b0,.bool s0.M.bad,.slice C0 s0.C.length c0,.slice L0 s0.L.length d0,.int .i64 n1,.int .i64 n2,.int .i64 n3,.int .i64 n4] 41)).heap.size:=by simp
 have hk:Below w0.heap.size w0 (w0.alloc (.cells #[.slice A0 s0.M.W.length a0,.slice B0 s0.M.G.length b0,.bool s0.M.bad,.slice C0 s0.C.length c0,.slice L0 s0.L.length d0,.int .i64 n1,.int .i64 n2,.int .i64 n3,.int .i64 n4] 41)):=boxed _ _
 replace S0:=S0.step hk
 replace hb:=bstep hb hk
 clear hk
 obtain ⟨v9,hv⟩:∃ v,w0.heap.size = v:=⟨_,rfl⟩
 rw [hv] at Bk9 lt9 ⊢
 clear hv
 generalize (w0.alloc (.cells #[.slice A0 s0.M.W.length a0,.slice B0 s0.M.G.length b0,.bool s0.M.bad,.slice C0 s0.C.length c0,.slice L0 s0.L.length d0,.int .i64 n1,.int .i64 n2,.int .i64 n3,.int .i64 n4] 41)) = w1 at *
 obtain ⟨m9_0,m9_1,m9_2,m9_3,m9_4,m9_5,m9_6,m9_7,m9_8⟩:=cells9 Bk9
 go_upto_region 2 with (fail)
 clear m9_0 m9_1 m9_2 m9_3 m9_4 m9_5 m9_6 m9_7 m9_8
 have Bk0:=heap_alloc_new w1 (.cells (uS A0 B0 C0 L0 a0 b0 c0 d0 s0) 28)
 have lt0:w1.heap.size < (w1.alloc (.cells (uS A0 B0 C0 L0 a0 b0 c0 d0 s0) 28)).heap.size:=by simp
 have hk:Below w1.heap.size w1 (w1.alloc (.cells (uS A0 B0 C0 L0 a0 b0 c0 d0 s0) 28)):=boxed _ _
 replace Bk9:=(hk.block v9 lt9).trans Bk9
 replace lt9:=Nat.lt_of_lt_of_le lt9 hk.size
 replace S0:=S0.step hk
 replace hb:=bstep hb hk
 clear hk
 obtain ⟨v0,hv⟩:∃ v,w1.heap.size = v:=⟨_,rfl⟩
 rw [hv] at Bk0 lt0 ⊢
 clear hv
 generalize (w1.alloc (.cells (uS A0 B0 C0 L0 a0 b0 c0 d0 s0) 28)) = w2 at *
 obtain ⟨m9_0,m9_1,m9_2,m9_3,m9_4,m9_5,m9_6,m9_7,m9_8⟩:=cells9 Bk9
 go_upto_region 6 with (fail)
 clear m9_0 m9_1 m9_2 m9_3 m9_4 m9_5 m9_6 m9_7 m9_8
 clear Bk9 lt9
 go_wp2_with fail
 refine (shown7_any _).mono ?_
 rintro e w3 ⟨rfl,hk⟩
 replace Bk0:=(hk.block v0 lt0).trans Bk0
 replace lt0:=Nat.lt_of_lt_of_le lt0 hk.size
 replace S0:=S0.step hk
 replace hb:=bstep hb hk
 clear hk
 go_upto_region 7 with (fail)
 obtain ⟨m0_0,m0_1,m0_2,m0_3,m0_4⟩:=cells5 Bk0
 go_wp2_with (go_at_call 14;refine (HC.out _ S0).mono ?_;rintro e wm ⟨rfl,hk⟩)
 go_ret
 exact ⟨rfl,bstep hb hk⟩
theorem walk_yes (A0 B0 C0 L0:Option Addr) (a0 b0 c0 d0:Nat) (s0:Sy) (n1 n2 n3 n4:Int) (w0:World)
  (rW:Row w0 A0 s0.M.W) (rG:Row w0 B0 s0.M.G) (rC:RowC w0 C0 s0.C) (rL:RowE w0 L0 s0.L) (g0:s0.M.W.length≤maxLen) (g1:s0.M.G.length≤maxLen) (g2:s0.C.length≤maxLen) (g3:s0.L.length≤maxLen) (hw:SyW s0) (q0:syMays s0 = true) :
  Calls Tryz.prog 4 #[.agg #[.slice A0 s0.M.W.length a0,.slice B0 s0.M.G.length b0,.bool s0.M.bad,.slice C0 s0.C.length c0,.slice L0 s0.L.length d0,.int .i64 n1,.int .i64 n2,.int .i64 n3,.int .i64 n4]] w0 fun e w'=>e = .returned (.bool true)∧Below w0.heap.size w0 w':=by
 have S0:RS w0 s0 A0 B0 C0 L0:=⟨rW,rG,rC,rL⟩
 have hb:Below w0.heap.size w0 w0:=Below.refl _ _
 have HC:=rmay3_any A0 B0 C0 L0 a0 b0 c0 d0 s0
 rw [q0] at HC
 replace HC:=hid (show ∀ w,RS w s0 A0 B0 C0 L0→Calls Tryz.prog 14 #[.agg (uS A0 B0 C0 L0 a0 b0 c0 d0 s0),.int .i64 60] w fun e w'=>e = .returned (.bool true)∧Below w.heap.size w w' from fun w h=>HC w h.G h.C g1 g0 g2 g3)
 clear rW rG rC rL g0 g1 g2 g3
 have HW:=hid hw
 clear hw
 go_enter Tryz.func4,Tryz.ntmps4
 go_upto_region 1 with (fail)
 have Bk9:=heap_alloc_new w0 (.cells #[.slice A0 s0.M.W.length a0,.slice B0 s0.M.G.length b0,.bool s0.M.bad,.slice C0 s0.C.length c0,.slice L0 s0.L.length d0,.int .i64 n1,.int .i64 n2,.int .i64 n3,.int .i64 n4] 41)
 have lt9:w0.heap.size < (w0.alloc (.cells #[.slice A0 s0.M.W.length a0,.slice B0 s0.M.G.length b0,.bool s0.M.bad,.slice C0 s0.C.length c0,.slice L0 s0.L.length d0,.int .i64 n1,.int .i64 n2,.int .i64 n3,.int .i64 n4] 41)).heap.size:=by simp
 have hk:Below w0.heap.size w0 (w0.alloc (.cells #[.slice A0 s0.M.W.length a0,.slice B0 s0.M.G.length b0,.bool s0.M.bad,.slice C0 s0.C.length c0,.slice L0 s0.L.length d0,.int .i64 n1,.int .i64 n2,.int .i64 n3,.int .i64 n4] 41)):=boxed _ _
 replace S0:=S0.step hk
 replace hb:=bstep hb hk
 clear hk
 obtain ⟨v9,hv⟩:∃ v,w0.heap.size = v:=⟨_,rfl⟩
 rw [hv] at Bk9 lt9 ⊢
 clear hv
 generalize (w0.alloc (.cells #[.slice A0 s0.M.W.length a0,.slice B0 s0.M.G.length b0,.bool s0.M.bad,.slice C0 s0.C.length c0,.slice L0 s0.L.length d0,.int .i64 n1,.int .i64 n2,.int .i64 n3,.int .i64 n4] 41)) = w1 at *
 obtain ⟨m9_0,m9_1,m9_2,m9_3,m9_4,m9_5,m9_6,m9_7,m9_8⟩:=cells9 Bk9
 go_upto_region 2 with (fail)
 clear m9_0 m9_1 m9_2 m9_3 m9_4 m9_5 m9_6 m9_7 m9_8
 have Bk0:=heap_alloc_new w1 (.cells (uS A0 B0 C0 L0 a0 b0 c0 d0 s0) 28)
 have lt0:w1.heap.size < (w1.alloc (.cells (uS A0 B0 C0 L0 a0 b0 c0 d0 s0) 28)).heap.size:=by simp
 have hk:Below w1.heap.size w1 (w1.alloc (.cells (uS A0 B0 C0 L0 a0 b0 c0 d0 s0) 28)):=boxed _ _
 replace Bk9:=(hk.block v9 lt9).trans Bk9
 replace lt9:=Nat.lt_of_lt_of_le lt9 hk.size
 replace S0:=S0.step hk
 replace hb:=bstep hb hk
 clear hk
 obtain ⟨v0,hv⟩:∃ v,w1.heap.size = v:=⟨_,rfl⟩
 rw [hv] at Bk0 lt0 ⊢
 clear hv
 generalize (w1.alloc (.cells (uS A0 B0 C0 L0 a0 b0 c0 d0 s0) 28)) = w2 at *
 obtain ⟨m9_0,m9_1,m9_2,m9_3,m9_4,m9_5,m9_6,m9_7,m9_8⟩:=cells9 Bk9
 go_upto_region 6 with (fail)
 clear m9_0 m9_1 m9_2 m9_3 m9_4 m9_5 m9_6 m9_7 m9_8
 clear Bk9 lt9
 go_wp2_with fail
 refine (shown7_any _).mono ?_
 rintro e w3 ⟨rfl,hk⟩
 replace Bk0:=(hk.block v0 lt0).trans Bk0
 replace lt0:=Nat.lt_of_lt_of_le lt0 hk.size
 replace S0:=S0.step hk
 replace hb:=bstep hb hk
 clear hk
 go_upto_region 7 with (fail)
 obtain ⟨m0_0,m0_1,m0_2,m0_3,m0_4⟩:=cells5 Bk0
 go_upto_region 9 with (go_at_call 14;refine (HC.out _ S0).mono ?_;rintro e w4 ⟨rfl,hk⟩)
 clear m0_0 m0_1 m0_2 m0_3 m0_4
 replace Bk0:=(hk.block v0 lt0).trans Bk0
 replace lt0:=Nat.lt_of_lt_of_le lt0 hk.size
 replace S0:=S0.step hk
 replace hb:=bstep hb hk
 clear hk
 clear HC
 have hmay:sySmall s0 = true∧syRight s0 = true:=by simpa [syMays] using q0
 have hf:=few_of_small hmay.1
 have hsm:=sySmall_few hmay.1
 have hr:=hmay.2
 simp only [syRight,Bool.and_eq_true,decide_eq_true_eq] at hr
 have hR:=Rt.of hr.1.1.1
 clear hmay q0 hr
 have g2:=hR.g2
 have hL:=hsm.2.2.2.1
 obtain ⟨l0,hl0⟩:∃ l,l = pPart s0.M.G 0:=⟨_,rfl⟩
 have ll0:l0.length≤1000000:=by rw [hl0];have:=pPartTo_le s0.M.G 0 s0.M.G.length;have:=hf.2.1;unfold pPart;omega
 obtain ⟨l1,hl1⟩:∃ l,l = pPart s0.M.G 1:=⟨_,rfl⟩
 have ll1:l1.length≤1000000:=by rw [hl1];have:=pPartTo_le s0.M.G 1 s0.M.G.length;have:=hf.2.1;unfold pPart;omega
 obtain ⟨l2,hl2⟩:∃ l,l = pPart s0.M.G 2:=⟨_,rfl⟩
 have ll2:l2.length≤1000000:=by rw [hl2];have:=pPartTo_le s0.M.G 2 s0.M.G.length;have:=hf.2.1;unfold pPart;omega
 have HP1:=hid (show ∀ (w:World),RS w s0 A0 B0 C0 L0→Calls Tryz.prog 26 #[.agg (uS A0 B0 C0 L0 a0 b0 c0 d0 s0)] w (RetL3 w l0 l1 l2) from fun w k=>by rw [hl0,hl1,hl2];exact parts_any A0 B0 C0 L0 a0 b0 c0 d0 s0 w k.G hf.2.1)
 have HP2:=hid (show ∀ (w:World),RS w s0 A0 B0 C0 L0→Calls Tryz.prog 27 #[.agg (uS A0 B0 C0 L0 a0 b0 c0 d0 s0)] w (RetL3 w l0 l1 l2) from fun w k=>by rw [hl0,hl1,hl2];exact rparts_any A0 B0 C0 L0 a0 b0 c0 d0 s0 w k.G hf.2.1 (by omega))
 have HI0:=hid (show ∀ (A B:Option Addr) (c d:Nat) (w:World),Row w A l0→Row w B l0→Calls Tryz.prog 19 #[.slice A l0.length c,.slice B l0.length d] w fun e w'=>e = .returned (.bool true)∧Below w.heap.size w w' from fun A B c d w k1 k2=>by have h9:=rints_any A B c d l0 l0 w k1 k2 (by omega);rw [show mInts l0 l0 = true by simp [mInts]] at h9;exact h9)
 have HI1:=hid (show ∀ (A B:Option Addr) (c d:Nat) (w:World),Row w A l1→Row w B l1→Calls Tryz.prog 19 #[.slice A l1.length c,.slice B l1.length d] w fun e w'=>e = .returned (.bool true)∧Below w.heap.size w w' from fun A B c d w k1 k2=>by have h9:=rints_any A B c d l1 l1 w k1 k2 (by omega);rw [show mInts l1 l1 = true by simp [mInts]] at h9;exact h9)
 have HI2:=hid (show ∀ (A B:Option Addr) (c d:Nat) (w:World),Row w A l2→Row w B l2→Calls Tryz.prog 19 #[.slice A l2.length c,.slice B l2.length d] w fun e w'=>e = .returned (.bool true)∧Below w.heap.size w w' from fun A B c d w k1 k2=>by have h9:=rints_any A B c d l2 l2 w k1 k2 (by omega);rw [show mInts l2 l2 = true by simp [mInts]] at h9;exact h9)
 obtain ⟨t5,ht5⟩:∃ t,t = pStart n3 n4:=⟨_,rfl⟩
 obtain ⟨er,her⟩:∃ t,t = pCode n3 n4:=⟨_,rfl⟩
 have HT5:=hid (show SyFew t5 by rw [ht5];exact start_few _ _)
 have HA1:=hid (show ∀ (w:World),Calls Tryz.prog 28 #[.int .i64 n3,.int .i64 n4] w (RetSys2 w t5 (.int .i64 er)) from fun w=>by rw [ht5,her];exact start_any n3 n4 w)
 have HA2:=hid (show ∀ (w:World),Calls Tryz.prog 29 #[.int .i64 n3,.int .i64 n4] w (RetSys2 w t5 (.int .i64 er)) from fun w=>by rw [ht5,her];exact rstart_any n3 n4 w)
 obtain ⟨ob,hob⟩:∃ b,b = pOwn7 n2:=⟨_,rfl⟩
 have HO1:=hid (show ∀ (w:World),Calls Tryz.prog 30 #[.int .i64 n2] w fun e w'=>e = .returned (.bool ob)∧Below w.heap.size w w' from fun w=>by rw [hob];exact own7_any n2 w)
 have HO2:=hid (show ∀ (w:World),Calls Tryz.prog 31 #[.int .i64 n2] w fun e w'=>e = .returned (.bool ob)∧Below w.heap.size w w' from fun w=>by rw [hob];exact (rown7_any n2 w).mono (fun e w' h=>⟨h.1,by rw [← h.2];exact Below.refl _ _⟩))
 obtain ⟨t1,ht1⟩:∃ t,t = pAlc s0 n1:=⟨_,rfl⟩
 have ok4:Ok4 200 s0:=⟨hf,g2,hL⟩
 have HT1:=hid (show SyFew t1 by rw [ht1];exact (ok4.alc (by omega) n1).few)
 have HS1:=hid (show ∀ (w:World),RS w s0 A0 B0 C0 L0→Calls Tryz.prog 32 #[.agg (uS A0 B0 C0 L0 a0 b0 c0 d0 s0),.int .i64 n1] w (RetSys w t1) from fun w k=>by rw [ht1];exact (alst_any A0 B0 C0 L0 a0 b0 c0 d0 s0 n1 w hf g2 k (by omega) (fun f h=>top_W HW.out h)).mono (fun _ _ h=>h.weak))
 have HS2:=hid (show ∀ (w:World),RS w s0 A0 B0 C0 L0→Calls Tryz.prog 33 #[.agg (uS A0 B0 C0 L0 a0 b0 c0 d0 s0),.int .i64 n1] w (RetSys w t1) from fun w k=>by rw [ht1];exact r7step_any A0 B0 C0 L0 a0 b0 c0 d0 s0 n1 w hf g2 k (fun x hx=>by have:=(hsm.2.2.2.2 x hx).1;omega) (by omega))
 have HSS:=hid (show ∀ (A1 B1 C1 L1 A2 B2 C2 L2:Option Addr) (a1 b1 c1 d1 a2 b2 c2 d2:Nat) (w:World),RS w t1 A1 B1 C1 L1→RS w t1 A2 B2 C2 L2→Calls Tryz.prog 22 #[.agg (uS A1 B1 C1 L1 a1 b1 c1 d1 t1),.agg (uS A2 B2 C2 L2 a2 b2 c2 d2 t1)] w fun e w'=>e = .returned (.bool true)∧Below w.heap.size w w' from fun A1 B1 C1 L1 A2 B2 C2 L2 a1 b1 c1 d1 a2 b2 c2 d2 w k1 k2=>by have h9:=rsame_u A1 B1 C1 L1 A2 B2 C2 L2 a1 b1 c1 d1 a2 b2 c2 d2 t1 t1 w HT1.out k1 k2;rw [sySame_self] at h9;exact h9)
 have HS5:=hid (show ∀ (A1 B1 C1 L1 A2 B2 C2 L2:Option Addr) (a1 b1 c1 d1 a2 b2 c2 d2:Nat) (w:World),RS w t5 A1 B1 C1 L1→RS w t5 A2 B2 C2 L2→Calls Tryz.prog 22 #[.agg (uS A1 B1 C1 L1 a1 b1 c1 d1 t5),.agg (uS A2 B2 C2 L2 a2 b2 c2 d2 t5)] w fun e w'=>e = .returned (.bool true)∧Below w.heap.size w w' from fun A1 B1 C1 L1 A2 B2 C2 L2 a1 b1 c1 d1 a2 b2 c2 d2 w k1 k2=>by have h9:=rsame_u A1 B1 C1 L1 A2 B2 C2 L2 a1 b1 c1 d1 a2 b2 c2 d2 t5 t5 w HT5.out k1 k2;rw [sySame_self] at h9;exact h9)
 clear hob ht1 ht5 her hf hsm hR ok4 hL g2 hl0 hl1 hl2 ll0 ll1 ll2
 have ne1:(er != er) = false:=by simp
 have ne2:(ob != ob) = false:=by simp
 obtain ⟨m0_0,m0_1,m0_2,m0_3,m0_4⟩:=cells5 Bk0
 go_upto_region 10 with (go_at_call 26;(with_reducible refine (HP1.out _ S0).mono ?_);rintro e w5 ⟨A11,A12,A13,c11,c12,c13,rfl,r11,r12,r13,hk⟩)
 clear m0_0 m0_1 m0_2 m0_3 m0_4
 replace Bk0:=(hk.block v0 lt0).trans Bk0
 replace lt0:=Nat.lt_of_lt_of_le lt0 hk.size
 replace S0:=S0.step hk
 replace hb:=bstep hb hk
 clear hk
 obtain ⟨m0_0,m0_1,m0_2,m0_3,m0_4⟩:=cells5 Bk0
 go_upto_region 11 with (go_at_call 27;(with_reducible refine (HP2.out _ S0).mono ?_);rintro e w6 ⟨A21,A22,A23,c21,c22,c23,rfl,r21,r22,r23,hk⟩)
 clear m0_0 m0_1 m0_2 m0_3 m0_4
 replace Bk0:=(hk.block v0 lt0).trans Bk0
 replace lt0:=Nat.lt_of_lt_of_le lt0 hk.size
 replace S0:=S0.step hk
 replace r11:=r11.step hk
 replace r12:=r12.step hk
 replace r13:=r13.step hk
 replace hb:=bstep hb hk
 clear hk
 go_upto_region 12 with (go_at_call 28;(with_reducible refine (HA1.out _).mono ?_);rintro e w7 ⟨A5,B5,C5,L5,a5,b5,c5,d5,rfl,tW,tG,tC,tL,hk⟩)
 replace Bk0:=(hk.block v0 lt0).trans Bk0
 replace lt0:=Nat.lt_of_lt_of_le lt0 hk.size
 replace S0:=S0.step hk
 replace r11:=r11.step hk
 replace r12:=r12.step hk
 replace r13:=r13.step hk
 replace r21:=r21.step hk
 replace r22:=r22.step hk
 replace r23:=r23.step hk
 replace hb:=bstep hb hk
 clear hk
 have S5:RS w7 t5 A5 B5 C5 L5:=⟨tW,tG,tC,tL⟩
 clear tW tG tC tL
 have Bk5:=heap_alloc_new w7 (.cells (uS A5 B5 C5 L5 a5 b5 c5 d5 t5) 28)
 have lt5:w7.heap.size < (w7.alloc (.cells (uS A5 B5 C5 L5 a5 b5 c5 d5 t5) 28)).heap.size:=by simp
 have hk:Below w7.heap.size w7 (w7.alloc (.cells (uS A5 B5 C5 L5 a5 b5 c5 d5 t5) 28)):=boxed _ _
 replace Bk0:=(hk.block v0 lt0).trans Bk0
 replace lt0:=Nat.lt_of_lt_of_le lt0 hk.size
 replace S0:=S0.step hk
 replace r11:=r11.step hk
 replace r12:=r12.step hk
 replace r13:=r13.step hk
 replace r21:=r21.step hk
 replace r22:=r22.step hk
 replace r23:=r23.step hk
 replace S5:=S5.step hk
 replace hb:=bstep hb hk
 clear hk
 obtain ⟨v5,hv⟩:∃ v,w7.heap.size = v:=⟨_,rfl⟩
 rw [hv] at Bk5 lt5 ⊢
 clear hv
 generalize (w7.alloc (.cells (uS A5 B5 C5 L5 a5 b5 c5 d5 t5) 28)) = w8 at *
 go_upto_region 13 with (go_at_call 29;(with_reducible refine (HA2.out _).mono ?_);rintro e w9 ⟨A6,B6,C6,L6,a6,b6,c6,d6,rfl,tW,tG,tC,tL,hk⟩)
 replace Bk0:=(hk.block v0 lt0).trans Bk0
 replace lt0:=Nat.lt_of_lt_of_le lt0 hk.size
 replace Bk5:=(hk.block v5 lt5).trans Bk5
 replace lt5:=Nat.lt_of_lt_of_le lt5 hk.size
 replace S0:=S0.step hk
 replace r11:=r11.step hk
 replace r12:=r12.step hk
 replace r13:=r13.step hk
 replace r21:=r21.step hk
 replace r22:=r22.step hk
 replace r23:=r23.step hk
 replace S5:=S5.step hk
 replace hb:=bstep hb hk
 clear hk
 have S6:RS w9 t5 A6 B6 C6 L6:=⟨tW,tG,tC,tL⟩
 clear tW tG tC tL
 have Bk6:=heap_alloc_new w9 (.cells (uS A6 B6 C6 L6 a6 b6 c6 d6 t5) 28)
 have lt6:w9.heap.size < (w9.alloc (.cells (uS A6 B6 C6 L6 a6 b6 c6 d6 t5) 28)).heap.size:=by simp
 have hk:Below w9.heap.size w9 (w9.alloc (.cells (uS A6 B6 C6 L6 a6 b6 c6 d6 t5) 28)):=boxed _ _
 replace Bk0:=(hk.block v0 lt0).trans Bk0
 replace lt0:=Nat.lt_of_lt_of_le lt0 hk.size
 replace Bk5:=(hk.block v5 lt5).trans Bk5
 replace lt5:=Nat.lt_of_lt_of_le lt5 hk.size
 replace S0:=S0.step hk
 replace r11:=r11.step hk
 replace r12:=r12.step hk
 replace r13:=r13.step hk
 replace r21:=r21.step hk
 replace r22:=r22.step hk
 replace r23:=r23.step hk
 replace S5:=S5.step hk
 replace S6:=S6.step hk
 replace hb:=bstep hb hk
 clear hk
 obtain ⟨v6,hv⟩:∃ v,w9.heap.size = v:=⟨_,rfl⟩
 rw [hv] at Bk6 lt6 ⊢
 clear hv
 generalize (w9.alloc (.cells (uS A6 B6 C6 L6 a6 b6 c6 d6 t5) 28)) = w10 at *
 obtain ⟨m0_0,m0_1,m0_2,m0_3,m0_4⟩:=cells5 Bk0
 obtain ⟨m5_0,m5_1,m5_2,m5_3,m5_4⟩:=cells5 Bk5
 obtain ⟨m6_0,m6_1,m6_2,m6_3,m6_4⟩:=cells5 Bk6
 go_upto_region 15 with (first | (go_at_call 30;(with_reducible refine (HO1.out _).mono ?_);rintro e w11 ⟨rfl,hk⟩;replace Bk0:=(hk.block v0 lt0).trans Bk0;replace lt0:=Nat.lt_of_lt_of_le lt0 hk.size;replace Bk5:=(hk.block v5 lt5).trans Bk5;replace lt5:=Nat.lt_of_lt_of_le lt5 hk.size;replace Bk6:=(hk.block v6 lt6).trans Bk6;replace lt6:=Nat.lt_of_lt_of_le lt6 hk.size;replace S0:=S0.step hk;replace r11:=r11.step hk;replace r12:=r12.step hk;replace r13:=r13.step hk;replace r21:=r21.step hk;replace r22:=r22.step hk;replace r23:=r23.step hk;replace S5:=S5.step hk;replace S6:=S6.step hk;replace hb:=bstep hb hk;clear hk;clear m0_0 m0_1 m0_2 m0_3 m0_4 m5_0 m5_1 m5_2 m5_3 m5_4 m6_0 m6_1 m6_2 m6_3 m6_4;obtain ⟨p0_0,p0_1,p0_2,p0_3,p0_4⟩:=cells5 Bk0;obtain ⟨p5_0,p5_1,p5_2,p5_3,p5_4⟩:=cells5 Bk5;obtain ⟨p6_0,p6_1,p6_2,p6_3,p6_4⟩:=cells5 Bk6) | (go_at_call 31;(with_reducible refine (HO2.out _).mono ?_);rintro e w12 ⟨rfl,hk⟩;replace Bk0:=(hk.block v0 lt0).trans Bk0;replace lt0:=Nat.lt_of_lt_of_le lt0 hk.size;replace Bk5:=(hk.block v5 lt5).trans Bk5;replace lt5:=Nat.lt_of_lt_of_le lt5 hk.size;replace Bk6:=(hk.block v6 lt6).trans Bk6;replace lt6:=Nat.lt_of_lt_of_le lt6 hk.size;replace S0:=S0.step hk;replace r11:=r11.step hk;replace r12:=r12.step hk;replace r13:=r13.step hk;replace r21:=r21.step hk;replace r22:=r22.step hk;replace r23:=r23.step hk;replace S5:=S5.step hk;replace S6:=S6.step hk;replace hb:=bstep hb hk;clear hk;clear p0_0 p0_1 p0_2 p0_3 p0_4 p5_0 p5_1 p5_2 p5_3 p5_4 p6_0 p6_1 p6_2 p6_3 p6_4;obtain ⟨m0_0,m0_1,m0_2,m0_3,m0_4⟩:=cells5 Bk0;obtain ⟨m5_0,m5_1,m5_2,m5_3,m5_4⟩:=cells5 Bk5;obtain ⟨m6_0,m6_1,m6_2,m6_3,m6_4⟩:=cells5 Bk6) | (go_at_call 19;(with_reducible refine (HI0.out _ _ _ _ _ r11 r21).mono ?_);rintro e w13 ⟨rfl,hk⟩;replace Bk0:=(hk.block v0 lt0).trans Bk0;replace lt0:=Nat.lt_of_lt_of_le lt0 hk.size;replace Bk5:=(hk.block v5 lt5).trans Bk5;replace lt5:=Nat.lt_of_lt_of_le lt5 hk.size;replace Bk6:=(hk.block v6 lt6).trans Bk6;replace lt6:=Nat.lt_of_lt_of_le lt6 hk.size;replace S0:=S0.step hk;replace r11:=r11.step hk;replace r12:=r12.step hk;replace r13:=r13.step hk;replace r21:=r21.step hk;replace r22:=r22.step hk;replace r23:=r23.step hk;replace S5:=S5.step hk;replace S6:=S6.step hk;replace hb:=bstep hb hk;clear hk;clear m0_0 m0_1 m0_2 m0_3 m0_4 m5_0 m5_1 m5_2 m5_3 m5_4 m6_0 m6_1 m6_2 m6_3 m6_4;obtain ⟨p0_0,p0_1,p0_2,p0_3,p0_4⟩:=cells5 Bk0;obtain ⟨p5_0,p5_1,p5_2,p5_3,p5_4⟩:=cells5 Bk5;obtain ⟨p6_0,p6_1,p6_2,p6_3,p6_4⟩:=cells5 Bk6) | (go_at_call 19;(with_reducible refine (HI1.out _ _ _ _ _ r12 r22).mono ?_);rintro e w14 ⟨rfl,hk⟩;replace Bk0:=(hk.block v0 lt0).trans Bk0;replace lt0:=Nat.lt_of_lt_of_le lt0 hk.size;replace Bk5:=(hk.block v5 lt5).trans Bk5;replace lt5:=Nat.lt_of_lt_of_le lt5 hk.size;replace Bk6:=(hk.block v6 lt6).trans Bk6;replace lt6:=Nat.lt_of_lt_of_le lt6 hk.size;replace S0:=S0.step hk;replace r11:=r11.step hk;replace r12:=r12.step hk;replace r13:=r13.step hk;replace r21:=r21.step hk;replace r22:=r22.step hk;replace r23:=r23.step hk;replace S5:=S5.step hk;replace S6:=S6.step hk;replace hb:=bstep hb hk;clear hk;clear p0_0 p0_1 p0_2 p0_3 p0_4 p5_0 p5_1 p5_2 p5_3 p5_4 p6_0 p6_1 p6_2 p6_3 p6_4;obtain ⟨m0_0,m0_1,m0_2,m0_3,m0_4⟩:=cells5 Bk0;obtain ⟨m5_0,m5_1,m5_2,m5_3,m5_4⟩:=cells5 Bk5;obtain ⟨m6_0,m6_1,m6_2,m6_3,m6_4⟩:=cells5 Bk6) | (go_at_call 19;(with_reducible refine (HI2.out _ _ _ _ _ r13 r23).mono ?_);rintro e w15 ⟨rfl,hk⟩;replace Bk0:=(hk.block v0 lt0).trans Bk0;replace lt0:=Nat.lt_of_lt_of_le lt0 hk.size;replace Bk5:=(hk.block v5 lt5).trans Bk5;replace lt5:=Nat.lt_of_lt_of_le lt5 hk.size;replace Bk6:=(hk.block v6 lt6).trans Bk6;replace lt6:=Nat.lt_of_lt_of_le lt6 hk.size;replace S0:=S0.step hk;replace r11:=r11.step hk;replace r12:=r12.step hk;replace r13:=r13.step hk;replace r21:=r21.step hk;replace r22:=r22.step hk;replace r23:=r23.step hk;replace S5:=S5.step hk;replace S6:=S6.step hk;replace hb:=bstep hb hk;clear hk;clear m0_0 m0_1 m0_2 m0_3 m0_4 m5_0 m5_1 m5_2 m5_3 m5_4 m6_0 m6_1 m6_2 m6_3 m6_4;obtain ⟨p0_0,p0_1,p0_2,p0_3,p0_4⟩:=cells5 Bk0;obtain ⟨p5_0,p5_1,p5_2,p5_3,p5_4⟩:=cells5 Bk5;obtain ⟨p6_0,p6_1,p6_2,p6_3,p6_4⟩:=cells5 Bk6) | (go_at_call 22;(with_reducible refine (HS5.out _ _ _ _ _ _ _ _ _ _ _ _ _ _ _ _ _ S5 S6).mono ?_);rintro e w16 ⟨rfl,hk⟩;replace Bk0:=(hk.block v0 lt0).trans Bk0;replace lt0:=Nat.lt_of_lt_of_le lt0 hk.size;replace Bk5:=(hk.block v5 lt5).trans Bk5;replace lt5:=Nat.lt_of_lt_of_le lt5 hk.size;replace Bk6:=(hk.block v6 lt6).trans Bk6;replace lt6:=Nat.lt_of_lt_of_le lt6 hk.size;replace S0:=S0.step hk;replace r11:=r11.step hk;replace r12:=r12.step hk;replace r13:=r13.step hk;replace r21:=r21.step hk;replace r22:=r22.step hk;replace r23:=r23.step hk;replace S5:=S5.step hk;replace S6:=S6.step hk;replace hb:=bstep hb hk;clear hk;clear p0_0 p0_1 p0_2 p0_3 p0_4 p5_0 p5_1 p5_2 p5_3 p5_4 p6_0 p6_1 p6_2 p6_3 p6_4;obtain ⟨m0_0,m0_1,m0_2,m0_3,m0_4⟩:=cells5 Bk0;obtain ⟨m5_0,m5_1,m5_2,m5_3,m5_4⟩:=cells5 Bk5;obtain ⟨m6_0,m6_1,m6_2,m6_3,m6_4⟩:=cells5 Bk6))
 clear m0_0 m0_1 m0_2 m0_3 m0_4 m5_0 m5_1 m5_2 m5_3 m5_4 m6_0 m6_1 m6_2 m6_3 m6_4
 clear Bk5 lt5
 clear Bk6 lt6
 obtain ⟨m0_0,m0_1,m0_2,m0_3,m0_4⟩:=cells5 Bk0
 have KS:=hid (show ∀ w',Below w16.heap.size w16 w'→(w'.cell? ⟨v0,0,none⟩ = some (.slice A0 s0.M.W.length a0)∧w'.cell? ⟨v0,1,none⟩ = some (.slice B0 s0.M.G.length b0)∧w'.cell? ⟨v0,2,none⟩ = some (.bool s0.M.bad)∧w'.cell? ⟨v0,3,none⟩ = some (.slice C0 s0.C.length c0)∧w'.cell? ⟨v0,4,none⟩ = some (.slice L0 s0.L.length d0)) from fun w' h=>⟨(h.cell lt0).trans m0_0,(h.cell lt0).trans m0_1,(h.cell lt0).trans m0_2,(h.cell lt0).trans m0_3,(h.cell lt0).trans m0_4⟩)
 go_region_held3 (fun w'=>w'.cell? ⟨v0,0,none⟩ = some (.slice A0 s0.M.W.length a0)∧w'.cell? ⟨v0,1,none⟩ = some (.slice B0 s0.M.G.length b0)∧w'.cell? ⟨v0,2,none⟩ = some (.bool s0.M.bad)∧w'.cell? ⟨v0,3,none⟩ = some (.slice C0 s0.C.length c0)∧w'.cell? ⟨v0,4,none⟩ = some (.slice L0 s0.L.length d0)) (exact KS.out _ (by repeat (first | (with_reducible exact Below.refl _ _) | (with_reducible refine Below.drew ?_) | (with_reducible refine bstep ?_ (boxed _ _)) | (with_reducible refine bstep ?_ hk3) | (with_reducible refine bstep ?_ hk2) | (with_reducible refine bstep ?_ hk1))))
  (first | (go_at_call 32;(with_reducible refine (HS1.out _ (S0.step (by repeat (first | (with_reducible exact Below.refl _ _) | (with_reducible refine Below.drew ?_) | (with_reducible refine bstep ?_ (boxed _ _)) | (with_reducible refine bstep ?_ hk3) | (with_reducible refine bstep ?_ hk2) | (with_reducible refine bstep ?_ hk1))))).mono ?_);rintro e wk1 ⟨A14,B14,C14,L14,a14,b14,c14,d14,rfl,x1,x2,x3,x4,hk1⟩;have S14:RS wk1 t1 A14 B14 C14 L14:=⟨x1,x2,x3,x4⟩;clear x1 x2 x3 x4) | (go_at_call 33;(with_reducible refine (HS2.out _ (S0.step (by repeat (first | (with_reducible exact Below.refl _ _) | (with_reducible refine Below.drew ?_) | (with_reducible refine bstep ?_ (boxed _ _)) | (with_reducible refine bstep ?_ hk3) | (with_reducible refine bstep ?_ hk2) | (with_reducible refine bstep ?_ hk1))))).mono ?_);rintro e wk2 ⟨A15,B15,C15,L15,a15,b15,c15,d15,rfl,x1,x2,x3,x4,hk2⟩;have S15:RS wk2 t1 A15 B15 C15 L15:=⟨x1,x2,x3,x4⟩;clear x1 x2 x3 x4) | (go_at_call 22;(with_reducible refine (HSS.out _ _ _ _ _ _ _ _ _ _ _ _ _ _ _ _ _ (S14.step (by repeat (first | (with_reducible exact Below.refl _ _) | (with_reducible refine Below.drew ?_) | (with_reducible refine bstep ?_ (boxed _ _)) | (with_reducible refine bstep ?_ hk3) | (with_reducible refine bstep ?_ hk2) | (with_reducible refine bstep ?_ hk1)))) (S15.step (by repeat (first | (with_reducible exact Below.refl _ _) | (with_reducible refine Below.drew ?_) | (with_reducible refine bstep ?_ (boxed _ _)) | (with_reducible refine bstep ?_ hk3) | (with_reducible refine bstep ?_ hk2) | (with_reducible refine bstep ?_ hk1))))).mono ?_);rintro e wk3 ⟨rfl,hk3⟩))
 rename_i hHeld
 have hbw:Below w16.heap.size w16 wk3:=(by repeat (first | (with_reducible exact Below.refl _ _) | (with_reducible refine Below.drew ?_) | (with_reducible refine bstep ?_ (boxed _ _)) | (with_reducible refine bstep ?_ hk3) | (with_reducible refine bstep ?_ hk2) | (with_reducible refine bstep ?_ hk1)))
 clear hHeld KS hk1 hk2 hk3
 clear m0_0 m0_1 m0_2 m0_3 m0_4
 replace Bk0:=(hbw.block v0 lt0).trans Bk0
 replace lt0:=Nat.lt_of_lt_of_le lt0 hbw.size
 replace S0:=S0.step hbw
 replace r11:=r11.step hbw
 replace r12:=r12.step hbw
 replace r13:=r13.step hbw
 replace r21:=r21.step hbw
 replace r22:=r22.step hbw
 replace r23:=r23.step hbw
 replace S5:=S5.step hbw
 replace S6:=S6.step hbw
 replace hb:=bstep hb hbw
 clear hbw
 generalize wk3 = w17 at *
 go_wp2_with fail
 go_ret
 exact ⟨rfl,hb⟩
theorem walk (A0 B0 C0 L0:Option Addr) (a0 b0 c0 d0:Nat) (s0:Sy) (n1 n2 n3 n4:Int) (w0:World)
  (rW:Row w0 A0 s0.M.W) (rG:Row w0 B0 s0.M.G) (rC:RowC w0 C0 s0.C) (rL:RowE w0 L0 s0.L) (g0:s0.M.W.length≤maxLen) (g1:s0.M.G.length≤maxLen) (g2:s0.C.length≤maxLen) (g3:s0.L.length≤maxLen) (hw:SyW s0) :
  Calls Tryz.prog 4 #[.agg #[.slice A0 s0.M.W.length a0,.slice B0 s0.M.G.length b0,.bool s0.M.bad,.slice C0 s0.C.length c0,.slice L0 s0.L.length d0,.int .i64 n1,.int .i64 n2,.int .i64 n3,.int .i64 n4]] w0 fun e w'=>e = .returned (.bool true)∧Below w0.heap.size w0 w':=by
 rcases q0:syMays s0 with _ | _
 ·exact walk_not A0 B0 C0 L0 a0 b0 c0 d0 s0 n1 n2 n3 n4 w0 rW rG rC rL g0 g1 g2 g3 hw q0
 ·exact walk_yes A0 B0 C0 L0 a0 b0 c0 d0 s0 n1 n2 n3 n4 w0 rW rG rC rL g0 g1 g2 g3 hw q0
theorem lifted (os:Os) (started:os.Started) (H:Type) (enc:TypeId × Value→H) :
  ReturnsInHanded {} Tryz.checked os 4 .any (Rows.allocTellsSpec.pre6 enc Tryz.prog Tryz.f4 Rows.allocTellsRow.domain false) (Rows.allocTellsSpec.post enc Tryz.prog Tryz.f4 false true false false):=by
 refine returnsInHanded_of_change (C:=Tryz.checked) own started (by kernel_rfl) Tryz.func4
  (ChangeSpec.witness6 (enc:=enc) (C:=Tryz.checked) false ⟨#[],#[.agg #[.slice none 0 0,.slice none 0 0,.bool false,.slice none 0 0,.slice none 0 0,.int .i64 0,.int .i64 0,.int .i64 0,.int .i64 0]],[]⟩ 8 (by kernel_rfl) (by kernel_rfl) (by kernel_rfl) (by kernel_rfl)) ?_
 intro W base args ds gs before hval0 hW hcnd _
 have hval:∀ (j:Nat) t v,Tryz.f4.params[j]? = some t→args[j]? = some v→Value.okWide Tryz.prog W .any base t v:=hval0
 have hW':=hW
 obtain ⟨p,q,hA0,hV,rfl,hfz,hnd⟩:=hW
 have hA:DataW.TrodAll enc Tryz.prog W 0 (fun _=>true) true Tryz.f4.params.toList args.toList ds p:=hA0
 rw [Tryz.params4] at hA hval
 obtain ⟨v0,vs0,d0,ds0,p0,q0,hargs,rfl,rfl,h0,r0⟩:=trodAll_cons hA
 obtain ⟨rfl,rfl,rfl⟩:=trodAll_nil r0
 obtain rfl:args = #[v0]:=by cases args;simp_all
 obtain ⟨rfl,rfl⟩:=trodVars_none hV
 clear hA0 hval0
 obtain ⟨A0,B0,C0,L0,a0,b0,c0,d0,s0,n1,n2,n3,n4,rfl,rW,rG,rC,rL,l0,l1,l2,l3,hw⟩:=open_in (hval 0 _ v0 rfl rfl) h0
 refine (walk A0 B0 C0 L0 a0 b0 c0 d0 s0 n1 n2 n3 n4 W rW rG rC rL l0 l1 l2 l3 hw).mono fun e W' ⟨he,hb⟩=>?_
 subst he
 exact ⟨_,rfl,law_post (tb:=4) (by kernel_rfl) (by kernel_rfl) (by kernel_rfl) Tryz.underlying4 rfl hW' rfl hb⟩
theorem over:Rows.allocTellsRow.holds Tryz.pinned (OpenSpec.ofChange Rows.allocTellsSpec) :=
 OpenClaim.holds_of_wide 4 Tryz.f4 rfl rfl rfl rfl rfl rfl rfl ⟨rfl,rfl,rfl,rfl,rfl⟩ rfl rfl rfl rfl rfl (by kernel_rfl) Tryz.func4 (by kernel_rfl)
  (of_decide_eq_true (by kernel_rfl)) (by unfold Func.isWrapper;first | (rw [if_pos (by decide +kernel)];kernel_rfl) | (rw [if_neg (by decide +kernel)];exact ⟨rfl,rfl⟩))
  (fun os started H enc _=>lifted os started H enc)
end AllocTells
theorem allocTells_holds:Rows.AllocTellsSaid:=AllocTells.over
#print axioms allocTells_holds
end Go.Proofs.YthpflcknommpdaaGreat
