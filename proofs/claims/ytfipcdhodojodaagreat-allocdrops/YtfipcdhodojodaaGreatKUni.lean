/- core.New, hazelref03.New, and the two Tops, stated once for all inputs. -/
import Derived.Test.YtfipcdhodojodaaGreatKBas
import Derived.Test.YtfipcdhodojodaaGreatKCoT
import Derived.Test.YtfipcdhodojodaaGreatKCoA
import Derived.Test.YtfipcdhodojodaaGreatKCoB
import Derived.Test.YtfipcdhodojodaaGreatMCo
import Derived.Test.YtfipcdhodojodaaGreatKCoD
import Derived.Test.YtfipcdhodojodaaGreatKCpy
namespace Go.Proofs.YtfipcdhodojodaaGreat
open Go.RowKit
set_option maxRecDepth 100000
set_option maxHeartbeats 8000000
set_option linter.unusedVariables false
theorem eight {l:List Int} (h:l.length = 8):∃ r0 r1 r2 r3 r4 r5 r6 r7:Int,l = [r0,r1,r2,r3,r4,r5,r6,r7]:=by
 match l,h with
 | [r0,r1,r2,r3,r4,r5,r6,r7],_=>exact ⟨r0,r1,r2,r3,r4,r5,r6,r7,rfl⟩
set_option linter.unusedSimpArgs false
structure RS (w:World) (s:Sy) (A B C L:Option Addr):Prop where
 W:Row w A s.M.W
 G:Row w B s.M.G
 C:RowC w C s.C
 L:RowE w L s.L
theorem RS.step {w w':World} {s:Sy} {A B C L:Option Addr} (h:RS w s A B C L) (hb:Below w.heap.size w w'):RS w' s A B C L:=⟨h.W.step hb,h.G.step hb,h.C.step hb,h.L.step hb⟩
theorem RS.nine {w:World} {s:Sy} {A B C L:Option Addr} (h:RS w s A B C L) {j n:Nat} {x:Co} {f:Fr} (hx:s.C[j]? = some x) (hf:x.F[n]? = some f):f.R.length = 8:=by
 have hj:j < s.C.length:=by
  rcases Nat.lt_or_ge j s.C.length with q | q
  ·exact q
  ·rw [List.getElem?_eq_none q] at hx;cases hx
 have hn:n < x.F.length:=by
  rcases Nat.lt_or_ge n x.F.length with q | q
  ·exact q
  ·rw [List.getElem?_eq_none q] at hf;cases hf
 obtain ⟨b,o,_,_,hat⟩:=h.C (by omega)
 obtain ⟨⟨A,c,_,rF,_⟩,_⟩:=hat j x hx
 obtain ⟨b',o',_,_,hat'⟩:=rF (by omega)
 exact (hat' n f hf).1
def pAt (s:Sy) (i:Int):Option Co:=if syHas s i then s.C[i.toNat]? else none
def pTop (s:Sy) (i:Int):Option Fr:=match pAt s i with
 | none=>none
 | some x=>x.F.getLast?
def pSet (s:Sy) (i:Int) (f:Fr):Sy:=match pAt s i with
 | none=>s
 | some x=>if x.F.length = 0 then s else syWith s i.toNat (coSet x (x.F.length - 1) f)
def pBack (s:Sy) (i v e:Int):Sy:=match pAt s i with
 | none=>s
 | some x=>if x.F.length = 0 then s else syWith s i.toNat (coBack x (x.F.length - 1) v e)
def pCall (s:Sy) (i:Int) (f:Fr):Sy:=match pAt s i with
 | none=>s
 | some x=>if 40≤x.F.length then s else syWith s i.toNat (coCall x f)
def pLog (s:Sy) (i kind a b v:Int):Sy:=if syHas s i then syLog s ⟨i,kind,a,b,v⟩ else s
theorem pAt_cases (s:Sy) (i:Int):(syHas s i = false∧(i < 0 ∨ (s.C.length:Int)≤i)∧pAt s i = none) ∨ ∃ (k:Nat) (x:Co),i = (k:Int)∧k < s.C.length∧s.C[k]? = some x∧syHas s i = true∧pAt s i = some x:=by
 by_cases q:0≤i∧i < (s.C.length:Int)
 ·obtain ⟨j,rfl⟩:∃ j:Nat,i = j:=⟨i.toNat,by omega⟩
  have hj:j < s.C.length:=by omega
  have h1:syHas s j = true:=by simp [syHas];omega
  exact Or.inr ⟨j,_,rfl,hj,List.getElem?_eq_getElem hj,h1,by simp [pAt,h1]⟩
 ·have h1:syHas s i = false:=by simp [syHas];omega
  exact Or.inl ⟨h1,by omega,by simp [pAt,h1]⟩
theorem set_uN (A B C L:Option Addr) (a b c d:Nat) (s:Sy) (i:Int) (AS:Option Addr) (cS:Nat) (op pc r0 r1 r2 r3 r4 r5 r6 r7:Int) (xs:List Int) (w:World) (hs:SyFew s) (h:RS w s A B C L) (hS:Row w AS xs) (h6:xs.length≤1000000) :
  Calls Tryz.prog 50 #[.agg (uS A B C L a b c d s),.int .i64 i,.agg (uF op pc r0 r1 r2 r3 r4 r5 r6 r7 AS xs cS)] w (RetSysN w (pSet s i ⟨op,pc,[r0,r1,r2,r3,r4,r5,r6,r7],xs⟩)):=by
 obtain ⟨f0,f1,f2,f3,f4⟩:=hs
 rcases pAt_cases s i with ⟨h1,h1b,h2⟩ | ⟨k,x,rfl,hk,hx,h1,h2⟩
 ·have e:pSet s i ⟨op,pc,[r0,r1,r2,r3,r4,r5,r6,r7],xs⟩ = s:=by unfold pSet;rw [h2]
  rw [e]
  exact set_outN A B C L a b c d s i AS cS op pc r0 r1 r2 r3 r4 r5 r6 r7 xs h1 w h.W h.G h.C h.L f0 f1 f2 (by omega) f4
 ·obtain ⟨g1,g2,g3⟩:=f4 x (List.mem_of_getElem? hx)
  rcases Nat.eq_zero_or_pos x.F.length with q | q
  ·have e:pSet s (k:Int) ⟨op,pc,[r0,r1,r2,r3,r4,r5,r6,r7],xs⟩ = s:=by unfold pSet;rw [h2];simp [List.length_eq_zero_iff.mp q]
   rw [e]
   exact set_noneN A B C L a b c d s k x AS cS op pc r0 r1 r2 r3 r4 r5 r6 r7 xs hx q w h.W h.G h.C h.L f0 f1 f2 (by omega) f4
  ·obtain ⟨n,hn⟩:∃ n,x.F.length = n+1:=⟨x.F.length - 1,by omega⟩
   have e:pSet s (k:Int) ⟨op,pc,[r0,r1,r2,r3,r4,r5,r6,r7],xs⟩ = syWith s k (coSet x n ⟨op,pc,[r0,r1,r2,r3,r4,r5,r6,r7],xs⟩):=by unfold pSet;rw [h2];simp [hn]
   rw [e]
   exact set_yesN A B C L a b c d s k n x AS cS op pc r0 r1 r2 r3 r4 r5 r6 r7 xs hx hn h6 w hS h.W h.G h.C h.L f0 f1 f2 (by omega) f4
theorem rset_u (A B C L:Option Addr) (a b c d:Nat) (s:Sy) (i:Int) (AS:Option Addr) (cS:Nat) (op pc r0 r1 r2 r3 r4 r5 r6 r7:Int) (xs:List Int) (w:World) (hs:SyFew s) (h:RS w s A B C L) (hS:Row w AS xs) (hk6:∀ x ∈ s.C,x.F.length≤999999) :
  Calls Tryz.prog 63 #[.agg (uS A B C L a b c d s),.int .i64 i,.agg (uF op pc r0 r1 r2 r3 r4 r5 r6 r7 AS xs cS)] w (RetSys w (pSet s i ⟨op,pc,[r0,r1,r2,r3,r4,r5,r6,r7],xs⟩)):=by
 obtain ⟨f0,f1,f2,f3,f4⟩:=hs
 rcases pAt_cases s i with ⟨h1,h1b,h2⟩ | ⟨k,x,rfl,hk,hx,h1,h2⟩
 ·have e:pSet s i ⟨op,pc,[r0,r1,r2,r3,r4,r5,r6,r7],xs⟩ = s:=by unfold pSet;rw [h2]
  rw [e]
  exact rset_out A B C L a b c d s i AS cS op pc r0 r1 r2 r3 r4 r5 r6 r7 xs h1b w h.W h.G h.C h.L f2
 ·obtain ⟨g1,g2,g3⟩:=f4 x (List.mem_of_getElem? hx)
  rcases Nat.eq_zero_or_pos x.F.length with q | q
  ·have e:pSet s (k:Int) ⟨op,pc,[r0,r1,r2,r3,r4,r5,r6,r7],xs⟩ = s:=by unfold pSet;rw [h2];simp [List.length_eq_zero_iff.mp q]
   rw [e]
   exact rset_none A B C L a b c d s k x AS cS op pc r0 r1 r2 r3 r4 r5 r6 r7 xs hx q w h.W h.G h.C h.L f2
  ·obtain ⟨n,hn⟩:∃ n,x.F.length = n+1:=⟨x.F.length - 1,by omega⟩
   have e:pSet s (k:Int) ⟨op,pc,[r0,r1,r2,r3,r4,r5,r6,r7],xs⟩ = syWith s k (coSet x n ⟨op,pc,[r0,r1,r2,r3,r4,r5,r6,r7],xs⟩):=by unfold pSet;rw [h2];simp [hn]
   rw [e]
   exact rset_yes A B C L a b c d s k n x AS cS op pc r0 r1 r2 r3 r4 r5 r6 r7 xs hx hn (by have:=hk6 x (List.mem_of_getElem? hx);omega) w hS h.W h.G h.C h.L f2
theorem back_uN (A B C L:Option Addr) (a b c d:Nat) (s:Sy) (i:Int) (z er:Int) (w:World) (hs:SyFew s) (h:RS w s A B C L)  :
  Calls Tryz.prog 49 #[.agg (uS A B C L a b c d s),.int .i64 i,.int .i64 z,.int .i64 er] w (RetSysN w (pBack s i z er)):=by
 obtain ⟨f0,f1,f2,f3,f4⟩:=hs
 rcases pAt_cases s i with ⟨h1,h1b,h2⟩ | ⟨k,x,rfl,hk,hx,h1,h2⟩
 ·have e:pBack s i z er = s:=by unfold pBack;rw [h2]
  rw [e]
  exact back_outN A B C L a b c d s i z er h1 w h.W h.G h.C h.L f0 f1 f2 (by omega) f4
 ·obtain ⟨g1,g2,g3⟩:=f4 x (List.mem_of_getElem? hx)
  rcases Nat.eq_zero_or_pos x.F.length with q | q
  ·have e:pBack s (k:Int) z er = s:=by unfold pBack;rw [h2];simp [List.length_eq_zero_iff.mp q]
   rw [e]
   exact back_noneN A B C L a b c d s k x z er hx q w h.W h.G h.C h.L f0 f1 f2 (by omega) f4
  ·obtain ⟨n,hn⟩:∃ n,x.F.length = n+1:=⟨x.F.length - 1,by omega⟩
   have e:pBack s (k:Int) z er = syWith s k (coBack x n z er):=by unfold pBack;rw [h2];simp [hn]
   rw [e]
   exact back_yesN A B C L a b c d s k n x z er hx hn w h.W h.G h.C h.L f0 f1 f2 (by omega) f4
theorem rback_u (A B C L:Option Addr) (a b c d:Nat) (s:Sy) (i:Int) (z er:Int) (w:World) (hs:SyFew s) (h:RS w s A B C L)  :
  Calls Tryz.prog 43 #[.agg (uS A B C L a b c d s),.int .i64 i,.int .i64 z,.int .i64 er] w (RetSys w (pBack s i z er)):=by
 obtain ⟨f0,f1,f2,f3,f4⟩:=hs
 rcases pAt_cases s i with ⟨h1,h1b,h2⟩ | ⟨k,x,rfl,hk,hx,h1,h2⟩
 ·have e:pBack s i z er = s:=by unfold pBack;rw [h2]
  rw [e]
  exact rback_out A B C L a b c d s i z er h1b w h.W h.G h.C h.L f2
 ·obtain ⟨g1,g2,g3⟩:=f4 x (List.mem_of_getElem? hx)
  rcases Nat.eq_zero_or_pos x.F.length with q | q
  ·have e:pBack s (k:Int) z er = s:=by unfold pBack;rw [h2];simp [List.length_eq_zero_iff.mp q]
   rw [e]
   exact rback_none A B C L a b c d s k x z er hx q w h.W h.G h.C h.L f2
  ·obtain ⟨n,hn⟩:∃ n,x.F.length = n+1:=⟨x.F.length - 1,by omega⟩
   have e:pBack s (k:Int) z er = syWith s k (coBack x n z er):=by unfold pBack;rw [h2];simp [hn]
   rw [e]
   exact rback_yes A B C L a b c d s k n x z er hx hn (by omega) w h.W h.G h.C h.L f2
theorem rcall_u (A B C L:Option Addr) (a b c d:Nat) (s:Sy) (i:Int) (op e1 e2 e3:Int) (w:World) (hs:SyFew s) (h:RS w s A B C L)  :
  Calls Tryz.prog 8 #[.agg (uS A B C L a b c d s),.int .i64 i,.int .i64 op,.int .i64 e1,.int .i64 e2,.int .i64 e3] w (RetSys w (pCall s i ⟨op,0,[e1,e2,e3,0,0,0,0,0],[]⟩)):=by
 obtain ⟨f0,f1,f2,f3,f4⟩:=hs
 rcases pAt_cases s i with ⟨h1,h1b,h2⟩ | ⟨k,x,rfl,hk,hx,h1,h2⟩
 ·have e:pCall s i ⟨op,0,[e1,e2,e3,0,0,0,0,0],[]⟩ = s:=by unfold pCall;rw [h2]
  rw [e]
  exact rcall_out A B C L a b c d s i op e1 e2 e3 h1b w h.W h.G h.C h.L f2
 ·by_cases q:40≤x.F.length
  ·have e:pCall s (k:Int) ⟨op,0,[e1,e2,e3,0,0,0,0,0],[]⟩ = s:=by unfold pCall;rw [h2];simp [q]
   rw [e]
   exact rcall_full A B C L a b c d s k x op e1 e2 e3 hx q (f4 x (List.mem_of_getElem? hx)).2.1 w h.W h.G h.C h.L f2
  ·have e:pCall s (k:Int) ⟨op,0,[e1,e2,e3,0,0,0,0,0],[]⟩ = syWith s k (coCall x ⟨op,0,[e1,e2,e3,0,0,0,0,0],[]⟩):=by unfold pCall;rw [h2];simp [q]
   rw [e]
   exact rcall_yes A B C L a b c d s k x op e1 e2 e3 hx (by omega) w h.W h.G h.C h.L f2
theorem log_uN (A B C L:Option Addr) (a b c d:Nat) (s:Sy) (i kind p q z:Int) (w:World) (hs:SyFew s) (h:RS w s A B C L) :
  Calls Tryz.prog 106 #[.agg (uS A B C L a b c d s),.int .i64 i,.int .i64 kind,.int .i64 p,.int .i64 q,.int .i64 z] w (RetSysN w (pLog s i kind p q z)):=by
 obtain ⟨f0,f1,f2,f3,f4⟩:=hs
 rcases pAt_cases s i with ⟨h1,h1b,h2⟩ | ⟨k,x,rfl,hk,hx,h1,h2⟩
 ·have e:pLog s i kind p q z = s:=by unfold pLog;rw [h1];rfl
  rw [e]
  exact log_outN A B C L a b c d s i kind p q z h1 w h.W h.G h.C h.L f0 f1 f2 (by omega) f4
 ·have e:pLog s (k:Int) kind p q z = syLog s ⟨k,kind,p,q,z⟩:=by unfold pLog;rw [h1];rfl
  rw [e]
  exact log_atN A B C L a b c d s k kind p q z hk f3 w h.W h.G h.C h.L f0 f1 f2 (by omega) f4
theorem log_u (A B C L:Option Addr) (a b c d:Nat) (s:Sy) (i kind p q z:Int) (w:World) (hs:SyFew s) (h:RS w s A B C L) :
  Calls Tryz.prog 106 #[.agg (uS A B C L a b c d s),.int .i64 i,.int .i64 kind,.int .i64 p,.int .i64 q,.int .i64 z] w (RetSys w (pLog s i kind p q z)) :=
 (log_uN A B C L a b c d s i kind p q z w hs h).mono (fun _ _ h=>h.weak)
theorem few_with {s:Sy} (h:SyFew s) {k:Nat} {x:Co} (hx:x.ret.length≤1000000∧x.F.length≤1000000∧∀ f ∈ x.F,f.S.length≤1000000):SyFew (syWith s k x):=by
 obtain ⟨f0,f1,f2,f3,f4⟩:=h
 refine ⟨f0,f1,by simpa [syWith] using f2,f3,fun y hy=>?_⟩
 rcases List.mem_or_eq_of_mem_set hy with q | q
 ·exact f4 y q
 ·rw [q];exact hx
theorem rlog_out (A B AC AL:Option Addr) (c d cC cL:Nat) (s:Sy) (i y0 kind a b z:Int) (hi:i < 0 ∨ (s.C.length:Int)≤i) (w:World) (hW:Row w A s.M.W) (hG:Row w B s.M.G) (hC:RowC w AC s.C) (hL:RowE w AL s.L) (h2:s.C.length≤1000000) :
  Calls Tryz.prog 93 #[.agg (uS A B AC AL c d cC cL s),.int .i64 i,.agg #[.int .i64 y0,.int .i64 kind,.int .i64 a,.int .i64 b,.int .i64 z]] w (RetSys w s):=by
 have hb:Below w.heap.size w (((w.alloc (.cells (uS A B AC AL c d cC cL s) 30)).alloc (.cells #[.int .i64 y0,.int .i64 kind,.int .i64 a,.int .i64 b,.int .i64 z] 103)).alloc (.cells (uS A B AC AL c d cC cL s) 30)):=bstep (bstep (boxed _ _) (boxed _ _)) (boxed _ _)
 go_enter Tryz.func93,Tryz.ntmps93
 rcases hi with q | q
 all_goals go_wp2_with fail
 all_goals refine bodyPost_ret (v:=.agg (uS A B AC AL c d cC cL s)) (by simp [uS,results,Tryz.results93,go_sem]) rfl ?_
 all_goals exact ⟨A,B,AC,AL,c,d,cC,cL,rfl,hW.step hb,hG.step hb,hC.step hb,hL.step hb,hb⟩
theorem rlog_at (A B AC AL:Option Addr) (c d cC cL:Nat) (s:Sy) (k:Nat) (y0 kind a b z:Int) (hk:k < s.C.length) (w:World) (hW:Row w A s.M.W) (hG:Row w B s.M.G) (hC:RowC w AC s.C) (hL:RowE w AL s.L) (h2:s.C.length≤1000000) (h3:s.L.length≤999999) :
  Calls Tryz.prog 93 #[.agg (uS A B AC AL c d cC cL s),.int .i64 k,.agg #[.int .i64 y0,.int .i64 kind,.int .i64 a,.int .i64 b,.int .i64 z]] w (RetSys w (syLog s ⟨k,kind,a,b,z⟩)):=by
 have kl:(k:Int) < (s.C.length:Int):=by omega
 obtain ⟨b1,b2,b3,bs⟩:=heap3b w (.cells (uS A B AC AL c d cC cL s) 30) (.cells #[.int .i64 (k:Int),.int .i64 kind,.int .i64 a,.int .i64 b,.int .i64 z] 103) (.cells uZ 30)
 have hw2:Below w.heap.size w (((w.alloc (.cells (uS A B AC AL c d cC cL s) 30)).alloc (.cells #[.int .i64 (k:Int),.int .i64 kind,.int .i64 a,.int .i64 b,.int .i64 z] 103)).alloc (.cells uZ 30)):=bstep (bstep (boxed _ _) (boxed _ _)) (boxed _ _)
 go_enter Tryz.func93,Tryz.ntmps93
 go_upto_region 4 with (fail)
 generalize (((w.alloc (.cells (uS A B AC AL c d cC cL s) 30)).alloc (.cells #[.int .i64 (k:Int),.int .i64 kind,.int .i64 a,.int .i64 b,.int .i64 z] 103)).alloc (.cells uZ 30)) = w2 at *
 obtain ⟨p0,p1,p2,p3,p4⟩:=cells5 b1
 obtain ⟨y0,y1,y2,y3,y4⟩:=cells5 b2
 obtain ⟨q0,q1,q2,q3,q4,qf0,qf1,qf2,qf3,qf4⟩:=cf5 b3
 have KS:=hid (show ∀ w',Turn (fun b=>w.heap.size+2≤b) w2 w'→(w'.cell? ⟨w.heap.size,0,none⟩ = some (.slice A s.M.W.length c)∧w'.cell? ⟨w.heap.size,1,none⟩ = some (.slice B s.M.G.length d)∧w'.cell? ⟨w.heap.size,2,none⟩ = some (.bool s.M.bad)∧w'.cell? ⟨w.heap.size,3,none⟩ = some (.slice AC s.C.length cC)∧w'.cell? ⟨w.heap.size,4,none⟩ = some (.slice AL s.L.length cL)∧w'.cell? ⟨w.heap.size+1,0,none⟩ = some (.int .i64 (k:Int))∧w'.cell? ⟨w.heap.size+1,1,none⟩ = some (.int .i64 kind)∧w'.cell? ⟨w.heap.size+1,2,none⟩ = some (.int .i64 a)∧w'.cell? ⟨w.heap.size+1,3,none⟩ = some (.int .i64 b)∧w'.cell? ⟨w.heap.size+1,4,none⟩ = some (.int .i64 z)) from fun w' h=>⟨(h.cell (by omega) (by omega)).trans p0,(h.cell (by omega) (by omega)).trans p1,(h.cell (by omega) (by omega)).trans p2,(h.cell (by omega) (by omega)).trans p3,(h.cell (by omega) (by omega)).trans p4,(h.cell (by omega) (by omega)).trans y0,(h.cell (by omega) (by omega)).trans y1,(h.cell (by omega) (by omega)).trans y2,(h.cell (by omega) (by omega)).trans y3,(h.cell (by omega) (by omega)).trans y4⟩)
 have QS:=hid (show ∀ w',Turn (fun b=>w.heap.size+3≤b) w2 w'→(w'.cell? ⟨w.heap.size+1+1,0,none⟩ = some (.slice none 0 0)∧w'.cell? ⟨w.heap.size+1+1,1,none⟩ = some (.slice none 0 0)∧w'.cell? ⟨w.heap.size+1+1,2,none⟩ = some (.bool false)∧w'.cell? ⟨w.heap.size+1+1,3,none⟩ = some (.slice none 0 0)∧w'.cell? ⟨w.heap.size+1+1,4,none⟩ = some (.slice none 0 0)∧w'.frozen? ⟨w.heap.size+1+1,0,none⟩ = false∧w'.frozen? ⟨w.heap.size+1+1,1,none⟩ = false∧w'.frozen? ⟨w.heap.size+1+1,2,none⟩ = false∧w'.frozen? ⟨w.heap.size+1+1,3,none⟩ = false∧w'.frozen? ⟨w.heap.size+1+1,4,none⟩ = false) from fun w' h=>⟨(h.cell (by omega) (by omega)).trans q0,(h.cell (by omega) (by omega)).trans q1,(h.cell (by omega) (by omega)).trans q2,(h.cell (by omega) (by omega)).trans q3,(h.cell (by omega) (by omega)).trans q4,(h.frozen (by omega) (by omega)).trans qf0,(h.frozen (by omega) (by omega)).trans qf1,(h.frozen (by omega) (by omega)).trans qf2,(h.frozen (by omega) (by omega)).trans qf3,(h.frozen (by omega) (by omega)).trans qf4⟩)
 have hsL:=hid hL.src
 clear q0 qf0 q1 qf1 q2 qf2 q3 qf3 q4 qf4 b1 b2 b3
 have BS:=hid bs
 have z2:w.heap.size+1+1 < w2.heap.size:=by omega
 clear bs
 have HW2:=hid hw2
 clear hw2
 have HX4:=hid (heap2 w2.drew (.cells #[] 103) (.cells #[.int .i64 (k:Int),.int .i64 kind,.int .i64 a,.int .i64 b,.int .i64 z] 103))
 have HX9:=hid (heap2 w2.drew (.cells #[.int .i64 (k:Int),.int .i64 kind,.int .i64 a,.int .i64 b,.int .i64 z] 103) (.cells #[] 103))
 go_region_held3 (fun w'=>w'.cell? ⟨w.heap.size,0,none⟩ = some (.slice A s.M.W.length c)∧w'.cell? ⟨w.heap.size,1,none⟩ = some (.slice B s.M.G.length d)∧w'.cell? ⟨w.heap.size,2,none⟩ = some (.bool s.M.bad)∧w'.cell? ⟨w.heap.size,3,none⟩ = some (.slice AC s.C.length cC)∧w'.cell? ⟨w.heap.size,4,none⟩ = some (.slice AL s.L.length cL)∧w'.cell? ⟨w.heap.size+1,0,none⟩ = some (.int .i64 (k:Int))∧w'.cell? ⟨w.heap.size+1,1,none⟩ = some (.int .i64 kind)∧w'.cell? ⟨w.heap.size+1,2,none⟩ = some (.int .i64 a)∧w'.cell? ⟨w.heap.size+1,3,none⟩ = some (.int .i64 b)∧w'.cell? ⟨w.heap.size+1,4,none⟩ = some (.int .i64 z)) (exact KS.out _ (by repeat (first | (with_reducible exact Turn.refl _ _) | (with_reducible refine Turn.set ?_ (by simp) _ _) | (with_reducible refine Turn.drew ?_) | (with_reducible refine Turn.alloc ?_ _) | (with_reducible refine Turn.grown ?_ hg8 (fun g hg=>by have h9:=BS.out;first | (injection hg with hg;omega) | (have h8:=(ho7.lt g hg).1;omega))) | (with_reducible refine Turn.grown ?_ hg7 (fun g hg=>by have h9:=BS.out;first | (injection hg with hg;omega) | (have h8:=(ho7.lt g hg).1;omega))))))
  (first | ((refine step_append_onto (by rfl) _ _ _ (by rfl) _ 103 _ 5 40 Tryz.underlying28 infoEv rfl (by omega) (.slice A7 s.L.length c7) s.L.length (s.L.map evCells).flatten (by rfl) (own_step ho7 (boxed _ _)) ⟨w7.heap.size,0,none⟩ 1 1 [.int .i64 (k:Int),.int .i64 kind,.int .i64 a,.int .i64 b,.int .i64 z] (by rfl) (by rfl) (World.news_of_block (heap_alloc_new w7 _)) (evCells_one ⟨k,kind,a,b,z⟩) (by omega) (by omega) (by have h8:=hg7.size;simp at h8 ⊢;omega) ?_);intro v8 w8 ho8 hg8 hat8;obtain ⟨A8,c8,rfl⟩:=own_val ho8;have t8:Turn (fun b=>w.heap.size+3≤b) w2 w8:=(by repeat (first | (with_reducible exact Turn.refl _ _) | (with_reducible refine Turn.set ?_ (by simp) _ _) | (with_reducible refine Turn.drew ?_) | (with_reducible refine Turn.alloc ?_ _) | (with_reducible refine Turn.grown ?_ hg8 (fun g hg=>by have h9:=BS.out;first | (injection hg with hg;omega) | (have h8:=(ho7.lt g hg).1;omega))) | (with_reducible refine Turn.grown ?_ hg7 (fun g hg=>by have h9:=BS.out;first | (injection hg with hg;omega) | (have h8:=(ho7.lt g hg).1;omega)))));obtain ⟨q0,q1,q2,q3,q4,qf0,qf1,qf2,qf3,qf4⟩:=QS.out _ t8) | ((refine step_append_onto (by rfl) _ _ _ (by rfl) _ 103 _ 5 40 Tryz.underlying28 infoEv rfl (by omega) (.slice A7 s.L.length c7) s.L.length (s.L.map evCells).flatten (by rfl) (ho7) ⟨w2.heap.size+1,0,none⟩ 1 1 [.int .i64 (k:Int),.int .i64 kind,.int .i64 a,.int .i64 b,.int .i64 z] (by rfl) (by rfl) (World.news_of_block (hx7)) (evCells_one ⟨k,kind,a,b,z⟩) (by omega) (by omega) (by have h8:=hg7.size;simp at h8 ⊢;omega) ?_);intro v8 w8 ho8 hg8 hat8;obtain ⟨A8,c8,rfl⟩:=own_val ho8;have t8:Turn (fun b=>w.heap.size+3≤b) w2 w8:=(by repeat (first | (with_reducible exact Turn.refl _ _) | (with_reducible refine Turn.set ?_ (by simp) _ _) | (with_reducible refine Turn.drew ?_) | (with_reducible refine Turn.alloc ?_ _) | (with_reducible refine Turn.grown ?_ hg8 (fun g hg=>by have h9:=BS.out;first | (injection hg with hg;omega) | (have h8:=(ho7.lt g hg).1;omega))) | (with_reducible refine Turn.grown ?_ hg7 (fun g hg=>by have h9:=BS.out;first | (injection hg with hg;omega) | (have h8:=(ho7.lt g hg).1;omega)))));obtain ⟨q0,q1,q2,q3,q4,qf0,qf1,qf2,qf3,qf4⟩:=QS.out _ t8) | ((refine step_append_onto (by rfl) _ _ _ (by rfl) _ 103 _ 5 40 Tryz.underlying28 infoEv rfl (by omega) (.slice A7 s.L.length c7) s.L.length (s.L.map evCells).flatten (by rfl) (ho7) ⟨w2.heap.size,0,none⟩ 1 1 [.int .i64 (k:Int),.int .i64 kind,.int .i64 a,.int .i64 b,.int .i64 z] (by rfl) (by rfl) (World.news_of_block (hx7)) (evCells_one ⟨k,kind,a,b,z⟩) (by omega) (by omega) (by have h8:=hg7.size;simp at h8 ⊢;omega) ?_);intro v8 w8 ho8 hg8 hat8;obtain ⟨A8,c8,rfl⟩:=own_val ho8;have t8:Turn (fun b=>w.heap.size+3≤b) w2 w8:=(by repeat (first | (with_reducible exact Turn.refl _ _) | (with_reducible refine Turn.set ?_ (by simp) _ _) | (with_reducible refine Turn.drew ?_) | (with_reducible refine Turn.alloc ?_ _) | (with_reducible refine Turn.grown ?_ hg8 (fun g hg=>by have h9:=BS.out;first | (injection hg with hg;omega) | (have h8:=(ho7.lt g hg).1;omega))) | (with_reducible refine Turn.grown ?_ hg7 (fun g hg=>by have h9:=BS.out;first | (injection hg with hg;omega) | (have h8:=(ho7.lt g hg).1;omega)))));obtain ⟨q0,q1,q2,q3,q4,qf0,qf1,qf2,qf3,qf4⟩:=QS.out _ t8) | ((refine step_append_any (by rfl) _ _ _ (by rfl) 103 _ 5 40 Tryz.underlying28 infoEv rfl (by omega) (w2.heap.size) (by rfl) (heap_alloc_new w2.drew _) AL cL (s.L.map evCells) s.L.length (by simp) (by rfl) (hsL.out.step (bstep HW2.out (by repeat (first | (with_reducible exact Below.refl _ _) | (with_reducible refine Below.drew ?_) | (with_reducible refine bstep ?_ (boxed _ _)))))) (by omega) (by omega) ?_);intro v7 w7 ho7 hg7;obtain ⟨A7,c7,rfl⟩:=own_val ho7) | ((refine step_append_any (by rfl) _ _ _ (by rfl) 103 _ 5 40 Tryz.underlying28 infoEv rfl (by omega) (w2.heap.size) (by rfl) (HX4.out.1) AL cL (s.L.map evCells) s.L.length (by simp) (by rfl) (hsL.out.step (bstep HW2.out (by repeat (first | (with_reducible exact Below.refl _ _) | (with_reducible refine Below.drew ?_) | (with_reducible refine bstep ?_ (boxed _ _)))))) (by omega) (by omega) ?_);intro v7 w7 ho7 hg7;obtain ⟨A7,c7,rfl⟩:=own_val ho7;have hx7:=(hg7.block (w2.heap.size+1) (by simp) (by simp)).trans HX4.out.2.1) | ((refine step_append_any (by rfl) _ _ _ (by rfl) 103 _ 5 40 Tryz.underlying28 infoEv rfl (by omega) (w2.heap.size+1) (by rfl) (HX9.out.2.1) AL cL (s.L.map evCells) s.L.length (by simp) (by rfl) (hsL.out.step (bstep HW2.out (by repeat (first | (with_reducible exact Below.refl _ _) | (with_reducible refine Below.drew ?_) | (with_reducible refine bstep ?_ (boxed _ _)))))) (by omega) (by omega) ?_);intro v7 w7 ho7 hg7;obtain ⟨A7,c7,rfl⟩:=own_val ho7;have hx7:=(hg7.block w2.heap.size (by simp;omega) (by simp)).trans HX9.out.1))
 all_goals go_wp2_with fail
 all_goals refine bodyPost_ret (v:=.agg #[.slice A s.M.W.length c,.slice B s.M.G.length d,.bool s.M.bad,.slice AC s.C.length cC,.slice A8 (s.L.length+1) c8]) (by simp [results,Tryz.results93,go_sem,q0,q1,q2,q3,q4]) rfl ?_
 all_goals
  have key:∀ w',Turn (fun b=>b = w.heap.size+1+1) w8 w'→RetSys w (syLog s ⟨k,kind,a,b,z⟩) (.returned (.agg #[.slice A s.M.W.length c,.slice B s.M.G.length d,.bool s.M.bad,.slice AC s.C.length cC,.slice A8 (s.L.length+1) c8])) w':=fun w' hT=>by
   have h9:=BS.out
   have h8:=HW2.out
   have hb8:Below w.heap.size w w8:=h8.trans (t8.to_below h8.size (fun g hg=>by omega))
   have hb':Below w.heap.size w w':=hb8.trans (hT.to_below hb8.size (fun g hg=>by omega))
   have h7:=own_turn ho8 hT (fun g hg hp=>by have h6:=(ho8.lt g hg).1;omega)
   have e1:(s.L.map evCells).flatten++[.int .i64 (k:Int),.int .i64 kind,.int .i64 a,.int .i64 b,.int .i64 z] = ((s.L++[(⟨k,kind,a,b,z⟩:Evt)]).map evCells).flatten:=by simp [evCells]
   rw [e1] at h7
   have e2:s.L.length+1 = (s.L++[(⟨k,kind,a,b,z⟩:Evt)]).length:=by simp
   rw [e2] at h7
   obtain ⟨A9,c9,e9,r9⟩:=ev_told h7
   obtain ⟨rfl,rfl⟩:A8 = A9∧c8 = c9:=by simpa using e9
   refine ⟨A,B,AC,A8,c,d,cC,c8,?_,hW.step hb',hG.step hb',hC.step hb',r9,hb'⟩
   simp [syLog]
  exact key _ (turn5 _ _ _ _ _ _ _)
theorem rlog_u (A B C L:Option Addr) (a b c d:Nat) (s:Sy) (i y0 kind p q z:Int) (w:World) (hs:SyFew s) (h:RS w s A B C L) :
  Calls Tryz.prog 93 #[.agg (uS A B C L a b c d s),.int .i64 i,.agg #[.int .i64 y0,.int .i64 kind,.int .i64 p,.int .i64 q,.int .i64 z]] w (RetSys w (pLog s i kind p q z)):=by
 obtain ⟨f0,f1,f2,f3,f4⟩:=hs
 rcases pAt_cases s i with ⟨h1,h1b,h2⟩ | ⟨k,x,rfl,hk,hx,h1,h2⟩
 ·have e:pLog s i kind p q z = s:=by unfold pLog;rw [h1];rfl
  rw [e]
  exact rlog_out A B C L a b c d s i y0 kind p q z h1b w h.W h.G h.C h.L f2
 ·have e:pLog s (k:Int) kind p q z = syLog s ⟨k,kind,p,q,z⟩:=by unfold pLog;rw [h1];rfl
  rw [e]
  exact rlog_at A B C L a b c d s k y0 kind p q z hk w h.W h.G h.C h.L f2 f3
theorem few_log {s:Sy} (h:SyFew s) (h3:s.L.length≤999998) (i kind p q z:Int):SyFew (pLog s i kind p q z):=by
 obtain ⟨f0,f1,f2,f3,f4⟩:=h
 unfold pLog
 split
 ·exact ⟨f0,f1,f2,by simp [syLog];omega,f4⟩
 ·exact ⟨f0,f1,f2,f3,f4⟩
theorem few_set {s:Sy} (h:SyFew s) {f:Fr} (hf:f.S.length≤1000000) (i:Int):SyFew (pSet s i f):=by
 unfold pSet
 split
 ·exact h
 ·next x hx =>
  split
  ·exact h
  ·have hm:x ∈ s.C:=by
    unfold pAt at hx
    split at hx
    ·exact List.mem_of_getElem? hx
    ·cases hx
   obtain ⟨g1,g2,g3⟩:=h.2.2.2.2 x hm
   refine few_with h ⟨g1,by simpa [coSet] using g2,fun y hy=>?_⟩
   rcases List.mem_or_eq_of_mem_set hy with q | q
   ·exact g3 y q
   ·rw [q];exact hf
theorem few_back {s:Sy} (h:SyFew s) (i v e:Int):SyFew (pBack s i v e):=by
 unfold pBack
 split
 ·exact h
 ·next x hx =>
  split
  ·exact h
  ·have hm:x ∈ s.C:=by
    unfold pAt at hx
    split at hx
    ·exact List.mem_of_getElem? hx
    ·cases hx
   obtain ⟨g1,g2,g3⟩:=h.2.2.2.2 x hm
   exact few_with h ⟨g1,by simp [coBack];omega,fun y hy=>g3 y (List.mem_of_mem_take hy)⟩
theorem few_call {s:Sy} (h:SyFew s) {f:Fr} (hf:f.S.length≤1000000) (i:Int):SyFew (pCall s i f):=by
 unfold pCall
 split
 ·exact h
 ·next x hx =>
  split
  ·exact h
  ·have hm:x ∈ s.C:=by
    unfold pAt at hx
    split at hx
    ·exact List.mem_of_getElem? hx
    ·cases hx
   obtain ⟨g1,g2,g3⟩:=h.2.2.2.2 x hm
   refine few_with h ⟨g1,by simp [coCall];omega,fun y hy=>?_⟩
   rcases List.mem_append.1 hy with q | q
   ·exact g3 y q
   ·simp at q;rw [q];exact hf
end Go.Proofs.YtfipcdhodojodaaGreat
