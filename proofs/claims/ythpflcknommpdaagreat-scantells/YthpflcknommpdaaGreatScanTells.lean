/- For every system, every two ints and byte, the law ScanTells (limits, which ops these are, what is retired, and a step, are as the document says) returns true, and the arguments read afterwards as before. No conditions. -/
import Derived.Test.YthpflcknommpdaaGreatRows
import Derived.Test.YthpflcknommpdaaGreatKShS
import Derived.Test.YthpflcknommpdaaGreatScS
import Derived.Test.YthpflcknommpdaaGreatKScD
import Derived.Test.YthpflcknommpdaaGreatMPl
import Derived.Test.YthpflcknommpdaaGreatMOp
import Derived.Test.YthpflcknommpdaaGreatKCoB
import Derived.Test.YthpflcknommpdaaGreatKBas
namespace Go.Proofs.YthpflcknommpdaaGreat
namespace ScanTells
open Go.ChangeShapes Go.WideShapes Go.ChangeAt Go.RowKit
set_option maxRecDepth 100000
set_option maxHeartbeats 8000000
set_option linter.unusedVariables false
set_option linter.unusedSimpArgs false
theorem own:ownKnob Tryz.prog.godebug = none:=by kernel_rfl
theorem top_W {s:Sy} (h:SyW s) {i:Int} {f:Fr} (ht:pTop s i = some f):W64 (f.R.getD 0 0):=by
 obtain ⟨k,n,x,rfl,hx,_,hf⟩:=pTop_out ht
 have h1:=((h.2 x (List.mem_of_getElem? hx)).1 f (List.mem_of_getElem? hf)).2.2.1
 cases hR:f.R with
 | nil=>simp [W64]
 | cons r rs=>exact h1 r (by rw [hR];simp)
theorem ret_few {s:Sy} (h1:s.C.length≤9) (h2:∀ x ∈ s.C,x.ret.length≤210):(pRetired s).length≤1000000:=by
 have h3:∀ l:List Co,(∀ x ∈ l,x.ret.length≤210)→((l.map (·.ret)).flatten).length≤210 * l.length:=by
  intro l
  induction l with
  | nil=>intro _;simp
  | cons x l ih =>
   intro h
   have h4:=ih (fun y hy=>h y (by simp [hy]))
   have h5:=h x (by simp)
   simp only [List.map_cons,List.flatten_cons,List.length_append,List.length_cons]
   omega
 have:=h3 s.C h2
 unfold pRetired
 omega
theorem rown6_any (op:Int) (w:World):Calls Tryz.prog 18 #[.int .i64 op] w fun e w'=>e = .returned (.bool (pOwn6 op))∧w = w':=by
 by_cases h1:1≤op
 ·by_cases h2:op≤6
  ·have e:pOwn6 op = true:=by
    have:op = 1 ∨ op = 2 ∨ op = 3 ∨ op = 4 ∨ op = 5 ∨ op = 6:=by omega
    rcases this with rfl | rfl | rfl | rfl | rfl | rfl <;> rfl
   rw [e]
   go_enter Tryz.func18,Tryz.ntmps18
   go_wp2
   go_ret
   exact ⟨rfl,rfl⟩
  ·have e:pOwn6 op = false:=by unfold pOwn6;simp;omega
   rw [e]
   go_enter Tryz.func18,Tryz.ntmps18
   go_wp2
   go_ret
   exact ⟨rfl,rfl⟩
 ·have e:pOwn6 op = false:=by unfold pOwn6;simp;omega
  rw [e]
  go_enter Tryz.func18,Tryz.ntmps18
  go_wp2
  go_ret
  exact ⟨rfl,rfl⟩
section
variable {H:Type} {enc:TypeId × Value→H} {w:World} {base:Nat} {spare:Nat→Bool} {held:Bool}
theorem open_in {r:Reach} {b0:Nat} {v:Value} {d:DataW H} {p:List MemPlace} (hv:Value.okWide Tryz.prog w r b0 30 v) (h:DataW.Trod enc Tryz.prog w base spare held 30 v d p) :
  ∃ (A B C L:Option Addr) (a b c d:Nat) (s:Sy) (n1 n2 n3:Int),v = .agg #[.slice A s.M.W.length a,.slice B s.M.G.length b,.bool s.M.bad,.slice C s.C.length c,.slice L s.L.length d,.int .i64 n1,.int .i64 n2,.int .u8 n3]∧(Row w A s.M.W∧Row w B s.M.G∧RowC w C s.C∧RowE w L s.L ∧
   s.M.W.length≤maxLen∧s.M.G.length≤maxLen∧s.C.length≤maxLen∧s.L.length≤maxLen∧SyW s)∧0≤n3∧n3≤255:=by
 obtain ⟨cs,rfl,_⟩:=okWide_struct Tryz.underlying30 hv
 obtain ⟨fuel,hf0⟩:=h
 obtain ⟨ls,hls⟩:∃ ls,ls = cs.toList:=⟨_,rfl⟩
 have hf1:DataW.trod enc Tryz.prog w base spare held fuel 30 ls = some (d,p):=by rw [hls];exact hf0
 obtain ⟨xs,n,_,_,hlen,hxl,hf⟩:=DataW.trod_struct Tryz.underlying30 hf1
 have k1:Tryz.prog.cellsOf 30 = 8:=by kernel_rfl
 have k2:Tryz.prog.cellsOf 28 = 5:=by kernel_rfl
 have k3:Tryz.prog.cellsOf 3 = 1:=by kernel_rfl
 have k6:Tryz.prog.cellsOf 5 = 1:=by kernel_rfl
 rw [k1] at hlen
 match ls,hlen with
 | [c0,c1,c2,c3,c4,c5,c6,c7],_ =>
  match xs,hxl with
  | [y0,y1,y2,y3],_ =>
   have f0:=hf 0 _ rfl
   have f1:=hf 1 _ rfl
   have f2:=hf 2 _ rfl
   have f3:=hf 3 _ rfl
   simp [k2,k3,k6] at f0 f1 f2 f3
   obtain ⟨A,B,C,L,a,b,c,d,s,e0,q0⟩:=open_sys8 f0
   obtain ⟨n1,e1⟩:=open_int Tryz.underlying3 f1
   obtain ⟨n2,e2⟩:=open_int Tryz.underlying3 f2
   obtain ⟨n3,e3,_,u3⟩:=DataW.trod_int Tryz.underlying5 f3
   refine ⟨A,B,C,L,a,b,c,d,s,n1,n2,n3,?_,q0,bounds_u8 u3⟩
   simp only [List.cons.injEq,and_true] at e0 e1 e2 e3
   obtain ⟨g0,g1,g2,g3,g4⟩:=e0
   subst g0 g1 g2 g3 g4 e1 e2 e3
   congr 1
   apply Array.toList_inj.1
   rw [← hls]
end
theorem walk_not (A0 B0 C0 L0:Option Addr) (a0 b0 c0 d0:Nat) (s0:Sy) (n1 n2 n3:Int) (w0:World) (u0:0≤n3) (u1:n3≤255)
  (rW:Row w0 A0 s0.M.W) (rG:Row w0 B0 s0.M.G) (rC:RowC w0 C0 s0.C) (rL:RowE w0 L0 s0.L) (g0:s0.M.W.length≤maxLen) (g1:s0.M.G.length≤maxLen) (g2:s0.C.length≤maxLen) (g3:s0.L.length≤maxLen) (hw:SyW s0) (q0:syMays s0 = false) :
  Calls Tryz.prog 3 #[.agg #[.slice A0 s0.M.W.length a0,.slice B0 s0.M.G.length b0,.bool s0.M.bad,.slice C0 s0.C.length c0,.slice L0 s0.L.length d0,.int .i64 n1,.int .i64 n2,.int .u8 n3]] w0 fun e w'=>e = .returned (.bool true)∧Below w0.heap.size w0 w':=by
 have S0:RS w0 s0 A0 B0 C0 L0:=⟨rW,rG,rC,rL⟩
 have hb:Below w0.heap.size w0 w0:=Below.refl _ _
 have HC:=rmay3_any A0 B0 C0 L0 a0 b0 c0 d0 s0
 rw [q0] at HC
 replace HC:=hid (show ∀ w,RS w s0 A0 B0 C0 L0→Calls Tryz.prog 14 #[.agg (uS A0 B0 C0 L0 a0 b0 c0 d0 s0),.int .i64 60] w fun e w'=>e = .returned (.bool false)∧Below w.heap.size w w' from fun w h=>HC w h.G h.C g1 g0 g2 g3)
 clear rW rG rC rL g0 g1 g2 g3
 have HW:=hid hw
 clear hw
 go_enter Tryz.func3,Tryz.ntmps3
 go_upto_region 1 with (fail)
 have Bk9:=heap_alloc_new w0 (.cells #[.slice A0 s0.M.W.length a0,.slice B0 s0.M.G.length b0,.bool s0.M.bad,.slice C0 s0.C.length c0,.slice L0 s0.L.length d0,.int .i64 n1,.int .i64 n2,.int .u8 n3] 30)
 have lt9:w0.heap.size < (w0.alloc (.cells #[.slice A0 s0.M.W.length a0,.slice B0 s0.M.G.length b0,.bool s0.M.bad,.slice C0 s0.C.length c0,.slice L0 s0.L.length d0,.int .i64 n1,.int .i64 n2,.int .u8 n3] 30)).heap.size:=by simp
 have hk:Below w0.heap.size w0 (w0.alloc (.cells #[.slice A0 s0.M.W.length a0,.slice B0 s0.M.G.length b0,.bool s0.M.bad,.slice C0 s0.C.length c0,.slice L0 s0.L.length d0,.int .i64 n1,.int .i64 n2,.int .u8 n3] 30)):=boxed _ _
 replace S0:=S0.step hk
 replace hb:=bstep hb hk
 clear hk
 obtain ⟨v9,hv⟩:∃ v,w0.heap.size = v:=⟨_,rfl⟩
 rw [hv] at Bk9 lt9 ⊢
 clear hv
 generalize (w0.alloc (.cells #[.slice A0 s0.M.W.length a0,.slice B0 s0.M.G.length b0,.bool s0.M.bad,.slice C0 s0.C.length c0,.slice L0 s0.L.length d0,.int .i64 n1,.int .i64 n2,.int .u8 n3] 30)) = w1 at *
 obtain ⟨m9_0,m9_1,m9_2,m9_3,m9_4,m9_5,m9_6,m9_7⟩:=cells8 Bk9
 go_upto_region 2 with (fail)
 clear m9_0 m9_1 m9_2 m9_3 m9_4 m9_5 m9_6 m9_7
 have Bk0:=heap_alloc_new w1 (.cells (uS A0 B0 C0 L0 a0 b0 c0 d0 s0) 28)
 have lt0:w1.heap.size < (w1.alloc (.cells (uS A0 B0 C0 L0 a0 b0 c0 d0 s0) 28)).heap.size:=by simp
 have hk:Below w1.heap.size w1 (w1.alloc (.cells (uS A0 B0 C0 L0 a0 b0 c0 d0 s0) 28)):=boxed _ _
 replace Bk9:=(hk.block v9 lt9).trans Bk9
 replace lt9:=Nat.lt_of_lt_of_le lt9 hk.size
 replace S0:=S0.step hk
 replace hb:=bstep hb hk
 clear hk
 obtain ⟨v0,hv⟩:∃ v,w1.heap.size = v:=⟨_,rfl⟩
 rw [hv] at Bk0 lt0 ⊢
 clear hv
 generalize (w1.alloc (.cells (uS A0 B0 C0 L0 a0 b0 c0 d0 s0) 28)) = w2 at *
 obtain ⟨m9_0,m9_1,m9_2,m9_3,m9_4,m9_5,m9_6,m9_7⟩:=cells8 Bk9
 go_upto_region 5 with (fail)
 clear m9_0 m9_1 m9_2 m9_3 m9_4 m9_5 m9_6 m9_7
 clear Bk9 lt9
 go_wp2_with fail
 refine (shown6_any _).mono ?_
 rintro e w3 ⟨rfl,hk⟩
 replace Bk0:=(hk.block v0 lt0).trans Bk0
 replace lt0:=Nat.lt_of_lt_of_le lt0 hk.size
 replace S0:=S0.step hk
 replace hb:=bstep hb hk
 clear hk
 go_upto_region 6 with (fail)
 obtain ⟨m0_0,m0_1,m0_2,m0_3,m0_4⟩:=cells5 Bk0
 go_wp2_with (go_at_call 14;refine (HC.out _ S0).mono ?_;rintro e wm ⟨rfl,hk⟩)
 go_ret
 exact ⟨rfl,bstep hb hk⟩
theorem walk_yes (A0 B0 C0 L0:Option Addr) (a0 b0 c0 d0:Nat) (s0:Sy) (n1 n2 n3:Int) (w0:World) (u0:0≤n3) (u1:n3≤255)
  (rW:Row w0 A0 s0.M.W) (rG:Row w0 B0 s0.M.G) (rC:RowC w0 C0 s0.C) (rL:RowE w0 L0 s0.L) (g0:s0.M.W.length≤maxLen) (g1:s0.M.G.length≤maxLen) (g2:s0.C.length≤maxLen) (g3:s0.L.length≤maxLen) (hw:SyW s0) (q0:syMays s0 = true) :
  Calls Tryz.prog 3 #[.agg #[.slice A0 s0.M.W.length a0,.slice B0 s0.M.G.length b0,.bool s0.M.bad,.slice C0 s0.C.length c0,.slice L0 s0.L.length d0,.int .i64 n1,.int .i64 n2,.int .u8 n3]] w0 fun e w'=>e = .returned (.bool true)∧Below w0.heap.size w0 w':=by
 have S0:RS w0 s0 A0 B0 C0 L0:=⟨rW,rG,rC,rL⟩
 have hb:Below w0.heap.size w0 w0:=Below.refl _ _
 have HC:=rmay3_any A0 B0 C0 L0 a0 b0 c0 d0 s0
 rw [q0] at HC
 replace HC:=hid (show ∀ w,RS w s0 A0 B0 C0 L0→Calls Tryz.prog 14 #[.agg (uS A0 B0 C0 L0 a0 b0 c0 d0 s0),.int .i64 60] w fun e w'=>e = .returned (.bool true)∧Below w.heap.size w w' from fun w h=>HC w h.G h.C g1 g0 g2 g3)
 clear rW rG rC rL g0 g1 g2 g3
 have HW:=hid hw
 clear hw
 go_enter Tryz.func3,Tryz.ntmps3
 go_upto_region 1 with (fail)
 have Bk9:=heap_alloc_new w0 (.cells #[.slice A0 s0.M.W.length a0,.slice B0 s0.M.G.length b0,.bool s0.M.bad,.slice C0 s0.C.length c0,.slice L0 s0.L.length d0,.int .i64 n1,.int .i64 n2,.int .u8 n3] 30)
 have lt9:w0.heap.size < (w0.alloc (.cells #[.slice A0 s0.M.W.length a0,.slice B0 s0.M.G.length b0,.bool s0.M.bad,.slice C0 s0.C.length c0,.slice L0 s0.L.length d0,.int .i64 n1,.int .i64 n2,.int .u8 n3] 30)).heap.size:=by simp
 have hk:Below w0.heap.size w0 (w0.alloc (.cells #[.slice A0 s0.M.W.length a0,.slice B0 s0.M.G.length b0,.bool s0.M.bad,.slice C0 s0.C.length c0,.slice L0 s0.L.length d0,.int .i64 n1,.int .i64 n2,.int .u8 n3] 30)):=boxed _ _
 replace S0:=S0.step hk
 replace hb:=bstep hb hk
 clear hk
 obtain ⟨v9,hv⟩:∃ v,w0.heap.size = v:=⟨_,rfl⟩
 rw [hv] at Bk9 lt9 ⊢
 clear hv
 generalize (w0.alloc (.cells #[.slice A0 s0.M.W.length a0,.slice B0 s0.M.G.length b0,.bool s0.M.bad,.slice C0 s0.C.length c0,.slice L0 s0.L.length d0,.int .i64 n1,.int .i64 n2,.int .u8 n3] 30)) = w1 at *
 obtain ⟨m9_0,m9_1,m9_2,m9_3,m9_4,m9_5,m9_6,m9_7⟩:=cells8 Bk9
 go_upto_region 2 with (fail)
 clear m9_0 m9_1 m9_2 m9_3 m9_4 m9_5 m9_6 m9_7
 have Bk0:=heap_alloc_new w1 (.cells (uS A0 B0 C0 L0 a0 b0 c0 d0 s0) 28)
 have lt0:w1.heap.size < (w1.alloc (.cells (uS A0 B0 C0 L0 a0 b0 c0 d0 s0) 28)).heap.size:=by simp
 have hk:Below w1.heap.size w1 (w1.alloc (.cells (uS A0 B0 C0 L0 a0 b0 c0 d0 s0) 28)):=boxed _ _
 replace Bk9:=(hk.block v9 lt9).trans Bk9
 replace lt9:=Nat.lt_of_lt_of_le lt9 hk.size
 replace S0:=S0.step hk
 replace hb:=bstep hb hk
 clear hk
 obtain ⟨v0,hv⟩:∃ v,w1.heap.size = v:=⟨_,rfl⟩
 rw [hv] at Bk0 lt0 ⊢
 clear hv
 generalize (w1.alloc (.cells (uS A0 B0 C0 L0 a0 b0 c0 d0 s0) 28)) = w2 at *
 obtain ⟨m9_0,m9_1,m9_2,m9_3,m9_4,m9_5,m9_6,m9_7⟩:=cells8 Bk9
 go_upto_region 5 with (fail)
 clear m9_0 m9_1 m9_2 m9_3 m9_4 m9_5 m9_6 m9_7
 clear Bk9 lt9
 go_wp2_with fail
 refine (shown6_any _).mono ?_
 rintro e w3 ⟨rfl,hk⟩
 replace Bk0:=(hk.block v0 lt0).trans Bk0
 replace lt0:=Nat.lt_of_lt_of_le lt0 hk.size
 replace S0:=S0.step hk
 replace hb:=bstep hb hk
 clear hk
 go_upto_region 6 with (fail)
 obtain ⟨m0_0,m0_1,m0_2,m0_3,m0_4⟩:=cells5 Bk0
 go_upto_region 8 with (go_at_call 14;refine (HC.out _ S0).mono ?_;rintro e w4 ⟨rfl,hk⟩)
 clear m0_0 m0_1 m0_2 m0_3 m0_4
 replace Bk0:=(hk.block v0 lt0).trans Bk0
 replace lt0:=Nat.lt_of_lt_of_le lt0 hk.size
 replace S0:=S0.step hk
 replace hb:=bstep hb hk
 clear hk
 clear HC
 have hmay:sySmall s0 = true∧syRight s0 = true:=by simpa [syMays] using q0
 have hf:=few_of_small hmay.1
 have hsm:=sySmall_few hmay.1
 have hr:=hmay.2
 simp only [syRight,Bool.and_eq_true,decide_eq_true_eq] at hr
 have hR:=Rt.of hr.1.1.1
 clear hmay q0 hr
 have g2:=hR.g2
 have hL:=hsm.2.2.2.1
 have hT:=ret_few hsm.2.2.1 (fun x hx=>(hsm.2.2.2.2 x hx).2.1)
 obtain ⟨rl,hrl⟩:∃ l,l = pRetired s0:=⟨_,rfl⟩
 have HR1:=hid (show ∀ (w:World),RS w s0 A0 B0 C0 L0→Calls Tryz.prog 20 #[.agg (uS A0 B0 C0 L0 a0 b0 c0 d0 s0)] w (RetL w rl) from fun w k=>by rw [hrl];exact retired_any A0 B0 C0 L0 a0 b0 c0 d0 s0 w k.C hf.2.2.1 hT)
 have HR2:=hid (show ∀ (w:World),RS w s0 A0 B0 C0 L0→Calls Tryz.prog 21 #[.agg (uS A0 B0 C0 L0 a0 b0 c0 d0 s0)] w (RetL w rl) from fun w k=>by rw [hrl];exact rretired_any A0 B0 C0 L0 a0 b0 c0 d0 s0 w k.C hf.2.2.1 hT)
 have HI:=hid (show ∀ (A B:Option Addr) (c d:Nat) (w:World),Row w A rl→Row w B rl→Calls Tryz.prog 19 #[.slice A rl.length c,.slice B rl.length d] w fun e w'=>e = .returned (.bool true)∧Below w.heap.size w w' from fun A B c d w k1 k2=>by have h9:=rints_any A B c d rl rl w k1 k2 (by rw [hrl];omega);rw [show mInts rl rl = true by simp [mInts]] at h9;exact h9)
 obtain ⟨ob,hob⟩:∃ b,b = pOwn6 n2:=⟨_,rfl⟩
 have HO1:=hid (show ∀ (w:World),Calls Tryz.prog 17 #[.int .i64 n2] w fun e w'=>e = .returned (.bool ob)∧Below w.heap.size w w' from fun w=>by rw [hob];exact own6_any n2 w)
 have HO2:=hid (show ∀ (w:World),Calls Tryz.prog 18 #[.int .i64 n2] w fun e w'=>e = .returned (.bool ob)∧w = w' from fun w=>by rw [hob];exact rown6_any n2 w)
 have HM1:=hid (show ∀ (w:World),Calls Tryz.prog 15 #[.int .i64 n3] w fun e w'=>e = .returned (.int .i64 (3 * n3+1))∧w = w' from fun w=>by have h9:=limit_any n3 w;rw [pLimit_in (by omega) (by omega)] at h9;exact h9)
 have HM2:=hid (show ∀ (w:World),Calls Tryz.prog 16 #[.int .i64 n3] w fun e w'=>e = .returned (.int .i64 (3 * n3+1))∧w = w' from fun w=>rlimit_any n3 w (by omega) (by omega))
 obtain ⟨t1,ht1⟩:∃ t,t = pScan s0 n1:=⟨_,rfl⟩
 have ok4:Ok4 200 s0:=⟨hf,g2,hL⟩
 have HT1:=hid (show SyFew t1 by rw [ht1];exact (ok4.scan (by omega) n1).few)
 have HS1:=hid (show ∀ (w:World),RS w s0 A0 B0 C0 L0→Calls Tryz.prog 23 #[.agg (uS A0 B0 C0 L0 a0 b0 c0 d0 s0),.int .i64 n1] w (RetSys w t1) from fun w k=>by rw [ht1];exact (scst_any A0 B0 C0 L0 a0 b0 c0 d0 s0 n1 w hf g2 k (by omega) (fun f h=>top_W HW.out h)).mono (fun _ _ h=>h.weak))
 have HS2:=hid (show ∀ (w:World),RS w s0 A0 B0 C0 L0→Calls Tryz.prog 24 #[.agg (uS A0 B0 C0 L0 a0 b0 c0 d0 s0),.int .i64 n1] w (RetSys w t1) from fun w k=>by rw [ht1];exact r6step_any A0 B0 C0 L0 a0 b0 c0 d0 s0 n1 w hf g2 k (fun x hx=>by have:=(hsm.2.2.2.2 x hx).1;omega) (by omega))
 have HSS:=hid (show ∀ (A1 B1 C1 L1 A2 B2 C2 L2:Option Addr) (a1 b1 c1 d1 a2 b2 c2 d2:Nat) (w:World),RS w t1 A1 B1 C1 L1→RS w t1 A2 B2 C2 L2→Calls Tryz.prog 22 #[.agg (uS A1 B1 C1 L1 a1 b1 c1 d1 t1),.agg (uS A2 B2 C2 L2 a2 b2 c2 d2 t1)] w fun e w'=>e = .returned (.bool true)∧Below w.heap.size w w' from fun A1 B1 C1 L1 A2 B2 C2 L2 a1 b1 c1 d1 a2 b2 c2 d2 w k1 k2=>by have h9:=rsame_u A1 B1 C1 L1 A2 B2 C2 L2 a1 b1 c1 d1 a2 b2 c2 d2 t1 t1 w HT1.out k1 k2;rw [sySame_self] at h9;exact h9)
 clear hob ht1 hf hsm hR ok4 hrl hT hL g2
 have ne1:(3 * n3+1 != 3 * n3+1) = false:=by simp
 have hcv:IntKind.i64.wrap n3 = n3:=IntWalk.i64_in _ (by omega)
 go_upto_region 10 with (first | (go_at_call 15;(with_reducible refine (HM1.out _).mono ?_);rintro e wo ⟨rfl,rfl⟩) | (go_at_call 16;(with_reducible refine (HM2.out _).mono ?_);rintro e wp ⟨rfl,rfl⟩) | (go_at_call 17;(with_reducible refine (HO1.out _).mono ?_);rintro e w5 ⟨rfl,hk⟩) | (go_at_call 18;(with_reducible refine (HO2.out _).mono ?_);rintro e wr ⟨rfl,rfl⟩))
 replace Bk0:=(hk.block v0 lt0).trans Bk0
 replace lt0:=Nat.lt_of_lt_of_le lt0 hk.size
 replace S0:=S0.step hk
 replace hb:=bstep hb hk
 clear hk
 obtain ⟨m0_0,m0_1,m0_2,m0_3,m0_4⟩:=cells5 Bk0
 have KS:=hid (show ∀ w',Below w5.heap.size w5 w'→(w'.cell? ⟨v0,0,none⟩ = some (.slice A0 s0.M.W.length a0)∧w'.cell? ⟨v0,1,none⟩ = some (.slice B0 s0.M.G.length b0)∧w'.cell? ⟨v0,2,none⟩ = some (.bool s0.M.bad)∧w'.cell? ⟨v0,3,none⟩ = some (.slice C0 s0.C.length c0)∧w'.cell? ⟨v0,4,none⟩ = some (.slice L0 s0.L.length d0)) from fun w' h=>⟨(h.cell lt0).trans m0_0,(h.cell lt0).trans m0_1,(h.cell lt0).trans m0_2,(h.cell lt0).trans m0_3,(h.cell lt0).trans m0_4⟩)
 go_region_held3 (fun w'=>w'.cell? ⟨v0,0,none⟩ = some (.slice A0 s0.M.W.length a0)∧w'.cell? ⟨v0,1,none⟩ = some (.slice B0 s0.M.G.length b0)∧w'.cell? ⟨v0,2,none⟩ = some (.bool s0.M.bad)∧w'.cell? ⟨v0,3,none⟩ = some (.slice C0 s0.C.length c0)∧w'.cell? ⟨v0,4,none⟩ = some (.slice L0 s0.L.length d0)) (exact KS.out _ (by repeat (first | (with_reducible exact Below.refl _ _) | (with_reducible refine Below.drew ?_) | (with_reducible refine bstep ?_ (boxed _ _)) | (with_reducible refine bstep ?_ hk6) | (with_reducible refine bstep ?_ hk5) | (with_reducible refine bstep ?_ hk4) | (with_reducible refine bstep ?_ hk3) | (with_reducible refine bstep ?_ hk2) | (with_reducible refine bstep ?_ hk1))))
  (first | (go_at_call 20;(with_reducible refine (HR1.out _ (S0.step (by repeat (first | (with_reducible exact Below.refl _ _) | (with_reducible refine Below.drew ?_) | (with_reducible refine bstep ?_ (boxed _ _)) | (with_reducible refine bstep ?_ hk6) | (with_reducible refine bstep ?_ hk5) | (with_reducible refine bstep ?_ hk4) | (with_reducible refine bstep ?_ hk3) | (with_reducible refine bstep ?_ hk2) | (with_reducible refine bstep ?_ hk1))))).mono ?_);rintro e wk1 ⟨A11,c11,rfl,y1,hk1⟩) | (go_at_call 21;(with_reducible refine (HR2.out _ (S0.step (by repeat (first | (with_reducible exact Below.refl _ _) | (with_reducible refine Below.drew ?_) | (with_reducible refine bstep ?_ (boxed _ _)) | (with_reducible refine bstep ?_ hk6) | (with_reducible refine bstep ?_ hk5) | (with_reducible refine bstep ?_ hk4) | (with_reducible refine bstep ?_ hk3) | (with_reducible refine bstep ?_ hk2) | (with_reducible refine bstep ?_ hk1))))).mono ?_);rintro e wk2 ⟨A12,c12,rfl,y2,hk2⟩) | (go_at_call 19;(with_reducible refine (HI.out _ _ _ _ _ (y1.step (by repeat (first | (with_reducible exact Below.refl _ _) | (with_reducible refine Below.drew ?_) | (with_reducible refine bstep ?_ (boxed _ _)) | (with_reducible refine bstep ?_ hk6) | (with_reducible refine bstep ?_ hk5) | (with_reducible refine bstep ?_ hk4) | (with_reducible refine bstep ?_ hk3) | (with_reducible refine bstep ?_ hk2) | (with_reducible refine bstep ?_ hk1)))) (y2.step (by repeat (first | (with_reducible exact Below.refl _ _) | (with_reducible refine Below.drew ?_) | (with_reducible refine bstep ?_ (boxed _ _)) | (with_reducible refine bstep ?_ hk6) | (with_reducible refine bstep ?_ hk5) | (with_reducible refine bstep ?_ hk4) | (with_reducible refine bstep ?_ hk3) | (with_reducible refine bstep ?_ hk2) | (with_reducible refine bstep ?_ hk1))))).mono ?_);rintro e wk3 ⟨rfl,hk3⟩) | (go_at_call 23;(with_reducible refine (HS1.out _ (S0.step (by repeat (first | (with_reducible exact Below.refl _ _) | (with_reducible refine Below.drew ?_) | (with_reducible refine bstep ?_ (boxed _ _)) | (with_reducible refine bstep ?_ hk6) | (with_reducible refine bstep ?_ hk5) | (with_reducible refine bstep ?_ hk4) | (with_reducible refine bstep ?_ hk3) | (with_reducible refine bstep ?_ hk2) | (with_reducible refine bstep ?_ hk1))))).mono ?_);rintro e wk4 ⟨A14,B14,C14,L14,a14,b14,c14,d14,rfl,x1,x2,x3,x4,hk4⟩;have S4:RS wk4 t1 A14 B14 C14 L14:=⟨x1,x2,x3,x4⟩;clear x1 x2 x3 x4) | (go_at_call 24;(with_reducible refine (HS2.out _ (S0.step (by repeat (first | (with_reducible exact Below.refl _ _) | (with_reducible refine Below.drew ?_) | (with_reducible refine bstep ?_ (boxed _ _)) | (with_reducible refine bstep ?_ hk6) | (with_reducible refine bstep ?_ hk5) | (with_reducible refine bstep ?_ hk4) | (with_reducible refine bstep ?_ hk3) | (with_reducible refine bstep ?_ hk2) | (with_reducible refine bstep ?_ hk1))))).mono ?_);rintro e wk5 ⟨A15,B15,C15,L15,a15,b15,c15,d15,rfl,x1,x2,x3,x4,hk5⟩;have S5:RS wk5 t1 A15 B15 C15 L15:=⟨x1,x2,x3,x4⟩;clear x1 x2 x3 x4) | (go_at_call 22;(with_reducible refine (HSS.out _ _ _ _ _ _ _ _ _ _ _ _ _ _ _ _ _ (S4.step (by repeat (first | (with_reducible exact Below.refl _ _) | (with_reducible refine Below.drew ?_) | (with_reducible refine bstep ?_ (boxed _ _)) | (with_reducible refine bstep ?_ hk6) | (with_reducible refine bstep ?_ hk5) | (with_reducible refine bstep ?_ hk4) | (with_reducible refine bstep ?_ hk3) | (with_reducible refine bstep ?_ hk2) | (with_reducible refine bstep ?_ hk1)))) (S5.step (by repeat (first | (with_reducible exact Below.refl _ _) | (with_reducible refine Below.drew ?_) | (with_reducible refine bstep ?_ (boxed _ _)) | (with_reducible refine bstep ?_ hk6) | (with_reducible refine bstep ?_ hk5) | (with_reducible refine bstep ?_ hk4) | (with_reducible refine bstep ?_ hk3) | (with_reducible refine bstep ?_ hk2) | (with_reducible refine bstep ?_ hk1))))).mono ?_);rintro e wk6 ⟨rfl,hk6⟩))
 rename_i hHeld
 have hbw:Below w5.heap.size w5 wk6:=(by repeat (first | (with_reducible exact Below.refl _ _) | (with_reducible refine Below.drew ?_) | (with_reducible refine bstep ?_ (boxed _ _)) | (with_reducible refine bstep ?_ hk6) | (with_reducible refine bstep ?_ hk5) | (with_reducible refine bstep ?_ hk4) | (with_reducible refine bstep ?_ hk3) | (with_reducible refine bstep ?_ hk2) | (with_reducible refine bstep ?_ hk1)))
 clear hHeld KS hk1 hk2 hk3 hk4 hk5 hk6
 clear m0_0 m0_1 m0_2 m0_3 m0_4
 replace Bk0:=(hbw.block v0 lt0).trans Bk0
 replace lt0:=Nat.lt_of_lt_of_le lt0 hbw.size
 replace S0:=S0.step hbw
 replace hb:=bstep hb hbw
 clear hbw
 generalize wk6 = w6 at *
 go_wp2_with fail
 go_ret
 exact ⟨rfl,hb⟩
theorem walk (A0 B0 C0 L0:Option Addr) (a0 b0 c0 d0:Nat) (s0:Sy) (n1 n2 n3:Int) (w0:World) (u0:0≤n3) (u1:n3≤255)
  (rW:Row w0 A0 s0.M.W) (rG:Row w0 B0 s0.M.G) (rC:RowC w0 C0 s0.C) (rL:RowE w0 L0 s0.L) (g0:s0.M.W.length≤maxLen) (g1:s0.M.G.length≤maxLen) (g2:s0.C.length≤maxLen) (g3:s0.L.length≤maxLen) (hw:SyW s0) :
  Calls Tryz.prog 3 #[.agg #[.slice A0 s0.M.W.length a0,.slice B0 s0.M.G.length b0,.bool s0.M.bad,.slice C0 s0.C.length c0,.slice L0 s0.L.length d0,.int .i64 n1,.int .i64 n2,.int .u8 n3]] w0 fun e w'=>e = .returned (.bool true)∧Below w0.heap.size w0 w':=by
 rcases q0:syMays s0 with _ | _
 ·exact walk_not A0 B0 C0 L0 a0 b0 c0 d0 s0 n1 n2 n3 w0 u0 u1 rW rG rC rL g0 g1 g2 g3 hw q0
 ·exact walk_yes A0 B0 C0 L0 a0 b0 c0 d0 s0 n1 n2 n3 w0 u0 u1 rW rG rC rL g0 g1 g2 g3 hw q0
theorem lifted (os:Os) (started:os.Started) (H:Type) (enc:TypeId × Value→H) :
  ReturnsInHanded {} Tryz.checked os 3 .any (Rows.scanTellsSpec.pre6 enc Tryz.prog Tryz.f3 Rows.scanTellsRow.domain false) (Rows.scanTellsSpec.post enc Tryz.prog Tryz.f3 false true false false):=by
 refine returnsInHanded_of_change (C:=Tryz.checked) own started (by kernel_rfl) Tryz.func3
  (ChangeSpec.witness6 (enc:=enc) (C:=Tryz.checked) false ⟨#[],#[.agg #[.slice none 0 0,.slice none 0 0,.bool false,.slice none 0 0,.slice none 0 0,.int .i64 0,.int .i64 0,.int .u8 0]],[]⟩ 8 (by kernel_rfl) (by kernel_rfl) (by kernel_rfl) (by kernel_rfl)) ?_
 intro W base args ds gs before hval0 hW hcnd _
 have hval:∀ (j:Nat) t v,Tryz.f3.params[j]? = some t→args[j]? = some v→Value.okWide Tryz.prog W .any base t v:=hval0
 have hW':=hW
 obtain ⟨p,q,hA0,hV,rfl,hfz,hnd⟩:=hW
 have hA:DataW.TrodAll enc Tryz.prog W 0 (fun _=>true) true Tryz.f3.params.toList args.toList ds p:=hA0
 rw [Tryz.params3] at hA hval
 obtain ⟨v0,vs0,d0,ds0,p0,q0,hargs,rfl,rfl,h0,r0⟩:=trodAll_cons hA
 obtain ⟨rfl,rfl,rfl⟩:=trodAll_nil r0
 obtain rfl:args = #[v0]:=by cases args;simp_all
 obtain ⟨rfl,rfl⟩:=trodVars_none hV
 clear hA0 hval0
 obtain ⟨A0,B0,C0,L0,a0,b0,c0,d0,s0,n1,n2,n3,rfl,⟨rW,rG,rC,rL,l0,l1,l2,l3,hw⟩,u0,u1⟩:=open_in (hval 0 _ v0 rfl rfl) h0
 refine (walk A0 B0 C0 L0 a0 b0 c0 d0 s0 n1 n2 n3 W u0 u1 rW rG rC rL l0 l1 l2 l3 hw).mono fun e W' ⟨he,hb⟩=>?_
 subst he
 exact ⟨_,rfl,law_post (tb:=4) (by kernel_rfl) (by kernel_rfl) (by kernel_rfl) Tryz.underlying4 rfl hW' rfl hb⟩
theorem over:Rows.scanTellsRow.holds Tryz.pinned (OpenSpec.ofChange Rows.scanTellsSpec) :=
 OpenClaim.holds_of_wide 3 Tryz.f3 rfl rfl rfl rfl rfl rfl rfl ⟨rfl,rfl,rfl,rfl,rfl⟩ rfl rfl rfl rfl rfl (by kernel_rfl) Tryz.func3 (by kernel_rfl)
  (of_decide_eq_true (by kernel_rfl)) (by unfold Func.isWrapper;first | (rw [if_pos (by decide +kernel)];kernel_rfl) | (rw [if_neg (by decide +kernel)];exact ⟨rfl,rfl⟩))
  (fun os started H enc _=>lifted os started H enc)
end ScanTells
theorem scanTells_holds:Rows.ScanTellsSaid:=ScanTells.over
#print axioms scanTells_holds
end Go.Proofs.YthpflcknommpdaaGreat
