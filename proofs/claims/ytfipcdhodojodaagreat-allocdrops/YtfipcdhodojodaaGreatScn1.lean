/- Layer 6 as plain functions: the limit, what is retired, a step of a core. No Go text. -/
import Derived.Test.YtfipcdhodojodaaGreatKHzA
namespace Go.Proofs.YtfipcdhodojodaaGreat
open Go.RowKit
set_option linter.unusedVariables false
def coKeep (x:Co) (l:List Int):Co:=⟨x.F,x.v,x.e,x.x0,x.x1,x.x2,l⟩
def pRet (s:Sy) (i:Int):List Int:=match pAt s i with
 | none=>[]
 | some x=>x.ret
def pKeep (s:Sy) (i:Int) (l:List Int):Sy:=match pAt s i with
 | none=>s
 | some x=>syWith s i.toNat (coKeep x l)
def pLimit (n:Int):Int:=wrap64 (3 * n+1)
theorem pLimit_in {n:Int} (h0:-1000000000000≤n) (h1:n≤1000000000000):pLimit n = 3 * n+1:=by unfold pLimit wrap64;omega
def frS (op a:Int):Fr:=⟨op,0,[a,0,0,0,0,0,0,0],[]⟩
def pMore (s:Sy) (i n:Int):Sy:=syMem (pKeep s i (pRet s i++[n])) (mTurn s.M n 2)
def pRetire0 (s:Sy) (i:Int) (f:Fr):Sy :=
 if 200≤(pRet s i).length then pBack s i 0 2
 else if (pRet s i).length+1 < 3 * s.C.length+1 then pBack (pMore s i (f.R.getD 0 0)) i (f.R.getD 0 0) 0
 else pCall (pSet (pMore s i (f.R.getD 0 0)) i ⟨f.op,1,f.R,f.S⟩) i (frS 6 0)
def pRetire (s:Sy) (i:Int) (f:Fr) (d:Sy):Sy:=if f.pc = 0 then pRetire0 s i f else if f.pc = 1 then pBack s i (f.R.getD 0 0) 0 else d
def pSeen (S:List Int) (p:Int):List Int:=if p ≠ 0∧S.length < 24 then S++[p] else S
def pLook (s:Sy) (i:Int) (f:Fr):Sy :=
 pSet (syMem s (mLoad s.M (wrap64 (8+f.R.getD 0 0)))) i ⟨f.op,if 3 * (s.C.length:Int)≤wrap64 (f.R.getD 0 0+1) then 1 else f.pc,f.R.set 0 (wrap64 (f.R.getD 0 0+1)),pSeen f.S (mVal s.M (wrap64 (8+f.R.getD 0 0)))⟩
def pUn (ret seen:List Int) (r:Int):Option Nat:=if r < 0 then none else (List.range ret.length).find? fun j=>decide (r≤(j:Int)) && !decide (ret.getD j 0 ∈ seen)
def pSweep (s:Sy) (i:Int) (f:Fr):Sy:=match pUn (pRet s i) f.S (f.R.getD 1 0) with
 | none=>pBack s i ((pRet s i).length:Int) 0
 | some j=>pCall (pSet (pKeep s i ((pRet s i).take j++(pRet s i).drop (j+1))) i ⟨f.op,f.pc,f.R.set 1 (j:Int),f.S⟩) i (frS 2 ((pRet s i).getD j 0))
def pOScan (s:Sy) (i:Int) (f:Fr) (d:Sy):Sy:=if f.pc = 0 then pLook s i f else if f.pc = 1 then pSweep s i f else d
def pScan (s:Sy) (i:Int):Sy:=match pTop s i with
 | none=>s
 | some f=>if f.op = 1 ∨ f.op = 2 then pStep s i else if f.op = 3 ∨ f.op = 4 then pHaz s i else if f.op = 5 then pRetire s i f s else if f.op = 6 then pOScan s i f s else s
theorem pUn_no {ret seen:List Int} {r:Int} (h:r < 0):pUn ret seen r = none:=if_pos h
theorem pUn_at {ret seen:List Int} {r j:Nat} (h1:r≤j) (h2:j < ret.length) (h3:ret.getD j 0 ∉ seen) (h4:∀ q,r≤q→q < j→ret.getD q 0 ∈ seen):pUn ret seen r = some j:=by
 unfold pUn
 rw [if_neg (by omega),List.find?_range_eq_some]
 refine ⟨by simp only [Bool.and_eq_true,decide_eq_true_eq,Bool.not_eq_true',decide_eq_false_iff_not];exact ⟨by omega,h3⟩,by simpa using h2,fun q hq=>?_⟩
 by_cases hr:r≤q
 ·simp only [Bool.not_and,Bool.not_not,Bool.or_eq_true,decide_eq_true_eq,Bool.not_eq_true',decide_eq_false_iff_not];right;exact h4 q hr hq
 ·simp only [Bool.not_and,Bool.not_not,Bool.or_eq_true,decide_eq_true_eq,Bool.not_eq_true',decide_eq_false_iff_not];left;omega
theorem pUn_none {ret seen:List Int} {r:Nat} (h4:∀ q,r≤q→q < ret.length→ret.getD q 0 ∈ seen):pUn ret seen r = none:=by
 unfold pUn
 rw [if_neg (by omega),List.find?_range_eq_none]
 intro q hq
 by_cases hr:r≤q
 ·simp only [Bool.not_and,Bool.not_not,Bool.or_eq_true,decide_eq_true_eq,Bool.not_eq_true',decide_eq_false_iff_not];right;exact h4 q hr hq
 ·simp only [Bool.not_and,Bool.not_not,Bool.or_eq_true,decide_eq_true_eq,Bool.not_eq_true',decide_eq_false_iff_not];left;omega
theorem pUn_lt {ret seen:List Int} {r:Int} {j:Nat} (h:pUn ret seen r = some j):j < ret.length:=by
 unfold pUn at h
 split at h
 ·cases h
 ·have:=List.mem_of_find?_eq_some h
  simpa using this
theorem pAt_nat {s:Sy} {k:Nat} {x:Co} (hx:s.C[k]? = some x):pAt s (k:Int) = some x:=by
 have hk:k < s.C.length:=(List.getElem?_eq_some_iff.1 hx).1
 unfold pAt
 rw [if_pos (by simp [syHas];omega)]
 exact hx
theorem pRet_nat {s:Sy} {k:Nat} {x:Co} (hx:s.C[k]? = some x):pRet s (k:Int) = x.ret:=by unfold pRet;rw [pAt_nat hx]
theorem pKeep_nat {s:Sy} {k:Nat} {x:Co} (hx:s.C[k]? = some x) (l:List Int):pKeep s (k:Int) l = syWith s k (coKeep x l):=by unfold pKeep;rw [pAt_nat hx];rfl
theorem few_keep {s:Sy} (h:SyFew s) {k:Nat} {x:Co} (hx:s.C[k]? = some x) {l:List Int} (hl:l.length≤1000000):SyFew (syWith s k (coKeep x l)):=by
 have g:=h.2.2.2.2 x (List.mem_of_getElem? hx)
 exact few_with h ⟨hl,g.2.1,g.2.2⟩
end Go.Proofs.YtfipcdhodojodaaGreat
