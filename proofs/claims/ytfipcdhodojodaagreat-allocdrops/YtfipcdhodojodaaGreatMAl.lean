/- A core that alone allocates and drops, among cores that stand still: plain mathematics. No Go text. -/
import Derived.Test.YtfipcdhodojodaaGreatMPl
import Derived.Test.YtfipcdhodojodaaGreatStk9
import Derived.Test.YtfipcdhodojodaaGreatKNew
namespace Go.Proofs.YtfipcdhodojodaaGreat
open Go.RowKit
set_option linter.unusedVariables false
def atK (C:List Co) (k:Nat) (x:Co) (M:Ar) (F:List Fr) (v e:Int) (L:List Evt):Sy:=⟨M,C.set k ⟨F,v,e,x.x0,x.x1,x.x2,x.ret⟩,L⟩
section
variable {C:List Co} {k:Nat} {x:Co} {M:Ar} {F:List Fr} {v e:Int} {L:List Evt} {f g:Fr}
theorem at_get (hk:k < C.length):(atK C k x M F v e L).C[k]? = some ⟨F,v,e,x.x0,x.x1,x.x2,x.ret⟩:=List.getElem?_set_self hk
theorem at_len:(atK C k x M F v e L).C.length = C.length:=List.length_set
theorem at_call (hk:k < C.length) (hl:F.length < 40) (g:Fr):pCall (atK C k x M F v e L) (k:Int) g = atK C k x M (F++[g]) v e L:=by
 rw [core_call (at_get hk) hl]
 simp [atK,cF,List.set_set]
theorem at_top (hk:k < C.length):pTop (atK C k x M (F++[f]) v e L) (k:Int) = some f:=core_top (at_get hk) rfl
theorem at_top1 (hk:k < C.length):pTop (atK C k x M [f] v e L) (k:Int) = some f:=at_top (F:=[]) hk
theorem at_none (hk:k < C.length):pTop (atK C k x M [] v e L) (k:Int) = none:=by
 unfold pTop
 rw [pAt_nat (at_get hk)]
 rfl
theorem at_set (hk:k < C.length) (g:Fr):pSet (atK C k x M (F++[f]) v e L) (k:Int) g = atK C k x M (F++[g]) v e L:=by
 rw [core_set (at_get hk) rfl]
 simp [atK,cF,List.set_set]
theorem at_set1 (hk:k < C.length) (g:Fr):pSet (atK C k x M [f] v e L) (k:Int) g = atK C k x M [g] v e L:=at_set (F:=[]) hk g
theorem at_back (hk:k < C.length) (v' e':Int):pBack (atK C k x M (F++[f]) v e L) (k:Int) v' e' = atK C k x M F v' e' L:=by
 rw [core_back (at_get hk) rfl]
 simp [atK,List.set_set]
theorem at_log (hk:k < C.length) (a b c d:Int):pLog (atK C k x M F v e L) (k:Int) a b c d = atK C k x M F v e (L++[⟨(k:Int),a,b,c,d⟩]):=by
 unfold pLog
 rw [if_pos (by simp [syHas,at_len];exact hk)]
 rfl
theorem at_mem (M':Ar):syMem (atK C k x M F v e L) M' = atK C k x M' F v e L:=rfl
end
theorem alc_st {s:Sy} {i:Int} {f:Fr} (h:pTop s i = some f) (ho:f.op = 1 ∨ f.op = 2):pAlc s i = pStep s i:=by
 unfold pAlc pScan
 rw [h]
 dsimp only
 rw [if_neg (by omega),if_neg (by omega),if_pos ho]
theorem alc_7 {s:Sy} {i:Int} {f:Fr} (h:pTop s i = some f) (ho:f.op = 7):pAlc s i = pAlloc s i f s:=by
 unfold pAlc
 rw [h]
 dsimp only
 rw [if_pos ho]
theorem alc_8 {s:Sy} {i:Int} {f:Fr} (h:pTop s i = some f) (ho:f.op = 8):pAlc s i = pDrop s i f s:=by
 unfold pAlc
 rw [h]
 dsimp only
 rw [if_neg (by omega),if_pos ho]
theorem alc_stand {s:Sy} {i:Int} (h:pTop s i = none):pAlc s i = s:=by unfold pAlc;rw [h]
def popM (M:Ar):Ar:=mTurn (mCas M 0 (mVal M 0) (pNext (mVal M 0) (mVal M (pLink (pIdx (mVal M 0)))) 0)) (pIdx (mVal M 0)) 1
def pushM (M:Ar) (p:Int):Ar:=mTurn (mCas (mStore M (pLink p) (pIdx (mVal M 0))) 0 (mVal M 0) (pNext (mVal M 0) p 0)) p 0
section
variable {C:List Co} {k:Nat} {x:Co} {M:Ar} {F:List Fr} {v e:Int} {L:List Evt}
theorem at_pop0 (hk:k < C.length) (h0:mBad M 0 = M.bad) (hi:¬ pIdx (mVal M 0) = 0):pAlc (atK C k x M (F++[fr1 1 0 0 0]) v e L) (k:Int) = atK C k x M (F++[fr1 1 1 (mVal M 0) 0]) v e L:=by
 rw [alc_st (at_top hk) (.inl rfl),pstep_pop (at_top hk) rfl]
 unfold pPop
 rw [if_pos (show (fr1 1 0 0 0).pc = 0 from rfl),if_neg (show ¬ pIdx (mVal (atK C k x M (F++[fr1 1 0 0 0]) v e L).M 0) = 0 from hi)]
 show pSet (syMem (atK C k x M (F++[fr1 1 0 0 0]) v e L) (mLoad M 0)) (k:Int) _ = _
 rw [load_same h0,at_mem]
 exact at_set hk _
theorem at_pop1 (hk:k < C.length) {a:Int} (hl:mBad M (pLink (pIdx a)) = M.bad):pAlc (atK C k x M (F++[fr1 1 1 a 0]) v e L) (k:Int) = atK C k x M (F++[fr1 1 2 a (mVal M (pLink (pIdx a)))]) v e L:=by
 rw [alc_st (at_top hk) (.inl rfl),pstep_pop (at_top hk) rfl]
 unfold pPop
 rw [if_neg (show ¬ (fr1 1 1 a 0).pc = 0 by simp [fr1]),if_pos (show (fr1 1 1 a 0).pc = 1 from rfl)]
 show pSet (syMem (atK C k x M (F++[fr1 1 1 a 0]) v e L) (mLoad M (pLink (pIdx a)))) (k:Int) _ = _
 rw [load_same hl,at_mem]
 exact at_set hk _
theorem at_pop2 (hk:k < C.length) (hin:mIs M 0 (mVal M 0) = true):pAlc (atK C k x M (F++[fr1 1 2 (mVal M 0) (mVal M (pLink (pIdx (mVal M 0))))]) v e L) (k:Int) = atK C k x (popM M) F (pIdx (mVal M 0)) 0 L:=by
 rw [alc_st (at_top hk) (.inl rfl),pstep_pop (at_top hk) rfl]
 unfold pPop
 rw [if_neg (show ¬ (fr1 1 2 (mVal M 0) (mVal M (pLink (pIdx (mVal M 0))))).pc = 0 by simp [fr1]),if_neg (show ¬ (fr1 1 2 (mVal M 0) (mVal M (pLink (pIdx (mVal M 0))))).pc = 1 by simp [fr1]),if_pos (show (fr1 1 2 (mVal M 0) (mVal M (pLink (pIdx (mVal M 0))))).pc = 2 from rfl)]
 show pSwap _ (k:Int) _ (mVal M 0) (mVal M (pLink (pIdx (mVal M 0)))) (pIdx (mVal M 0)) 1 = _
 unfold pSwap
 rw [if_pos (show mIs (atK C k x M _ v e L).M 0 (mVal M 0) = true from hin)]
 exact at_back (M:=popM M) hk _ 0
theorem at_empty (hk:k < C.length) (h0:mBad M 0 = M.bad) (hi:pIdx (mVal M 0) = 0):pAlc (atK C k x M (F++[fr1 1 0 0 0]) v e L) (k:Int) = atK C k x M F 0 2 (L++[⟨(k:Int),9,0,0,0⟩]):=by
 rw [alc_st (at_top hk) (.inl rfl),pstep_pop (at_top hk) rfl]
 unfold pPop
 rw [if_pos (show (fr1 1 0 0 0).pc = 0 from rfl),if_pos (show pIdx (mVal (atK C k x M (F++[fr1 1 0 0 0]) v e L).M 0) = 0 from hi)]
 show pBack (pLog (syMem (atK C k x M (F++[fr1 1 0 0 0]) v e L) (mLoad M 0)) (k:Int) 9 0 0 0) (k:Int) 0 2 = _
 rw [load_same h0,at_mem,at_log hk]
 exact at_back hk 0 2
theorem at_push0 (hk:k < C.length) {p:Int} (h0:mBad M 0 = M.bad):pAlc (atK C k x M (F++[fr1 2 0 p 0]) v e L) (k:Int) = atK C k x M (F++[fr1 2 1 p (mVal M 0)]) v e L:=by
 rw [alc_st (at_top hk) (.inr rfl),pstep_push (at_top hk) rfl]
 unfold pPush
 rw [if_pos (show (fr1 2 0 p 0).pc = 0 from rfl)]
 show pSet (syMem (atK C k x M (F++[fr1 2 0 p 0]) v e L) (mLoad M 0)) (k:Int) _ = _
 rw [load_same h0,at_mem]
 exact at_set hk _
theorem at_push1 (hk:k < C.length) {p a:Int}:pAlc (atK C k x M (F++[fr1 2 1 p a]) v e L) (k:Int) = atK C k x (mStore M (pLink p) (pIdx a)) (F++[fr1 2 2 p a]) v e L:=by
 rw [alc_st (at_top hk) (.inr rfl),pstep_push (at_top hk) rfl]
 unfold pPush
 rw [if_neg (show ¬ (fr1 2 1 p a).pc = 0 by simp [fr1]),if_pos (show (fr1 2 1 p a).pc = 1 from rfl)]
 exact at_set (M:=mStore M (pLink p) (pIdx a)) hk _
theorem at_push2 (hk:k < C.length) {p a:Int} (hin:mIs M 0 a = true):pAlc (atK C k x M (F++[fr1 2 2 p a]) v e L) (k:Int) = atK C k x (mTurn (mCas M 0 a (pNext a p 0)) p 0) F p 0 L:=by
 rw [alc_st (at_top hk) (.inr rfl),pstep_push (at_top hk) rfl]
 unfold pPush
 rw [if_neg (show ¬ (fr1 2 2 p a).pc = 0 by simp [fr1]),if_neg (show ¬ (fr1 2 2 p a).pc = 1 by simp [fr1]),if_pos (show (fr1 2 2 p a).pc = 2 from rfl)]
 show pSwap _ (k:Int) _ a p p 0 = _
 unfold pSwap
 rw [if_pos (show mIs (atK C k x M _ v e L).M 0 a = true from hin)]
 exact at_back (M:=mTurn (mCas M 0 a (pNext a p 0)) p 0) hk _ 0
theorem at_alloc0 (hk:k < C.length):pAlc (atK C k x M [fr1 7 0 0 0] v e L) (k:Int) = atK C k x M ([fr1 7 1 0 0]++[fr1 1 0 0 0]) v e L:=by
 rw [alc_7 (at_top1 hk) rfl]
 unfold pAlloc
 rw [if_pos (show (fr1 7 0 0 0).pc = 0 from rfl)]
 unfold pThen
 rw [at_set1 hk]
 exact at_call hk (by simp) _
theorem at_alloc1 (hk:k < C.length):pAlc (atK C k x M [fr1 7 1 0 0] v 0 L) (k:Int) = atK C k x M [] v 0 L:=by
 rw [alc_7 (at_top1 hk) rfl]
 unfold pAlloc
 rw [if_neg (show ¬ (fr1 7 1 0 0).pc = 0 by simp [fr1]),if_pos (show (fr1 7 1 0 0).pc = 1 from rfl),if_pos (by rw [pE_nat (at_get hk)]),pV_nat (at_get hk)]
 exact at_back (F:=[]) hk v 0
theorem at_alloc2 (hk:k < C.length) (hr:x.ret = []):pAlc (atK C k x M [fr1 7 1 0 0] v 2 L) (k:Int) = atK C k x M [] 0 2 L:=by
 rw [alc_7 (at_top1 hk) rfl]
 unfold pAlloc
 rw [if_neg (show ¬ (fr1 7 1 0 0).pc = 0 by simp [fr1]),if_pos (show (fr1 7 1 0 0).pc = 1 from rfl),if_neg (by rw [pE_nat (at_get hk)];simp),if_pos (by rw [pRet_nat (at_get hk)];simp [hr])]
 exact at_back (F:=[]) hk 0 2
theorem at_drop0 (hk:k < C.length) {p:Int}:pAlc (atK C k x M [fr1 8 0 p 0] v e L) (k:Int) = atK C k x M ([fr1 8 1 p 0]++[fr1 2 0 p 0]) v e L:=by
 rw [alc_8 (at_top1 hk) rfl]
 unfold pDrop
 rw [if_pos (show (fr1 8 0 p 0).pc = 0 from rfl)]
 unfold pThen
 rw [at_set1 hk]
 exact at_call hk (by simp) _
theorem at_drop1 (hk:k < C.length) {p:Int}:pAlc (atK C k x M [fr1 8 1 p 0] v e L) (k:Int) = atK C k x M [] p 0 L:=by
 rw [alc_8 (at_top1 hk) rfl]
 unfold pDrop
 rw [if_neg (show ¬ (fr1 8 1 p 0).pc = 0 by simp [fr1]),if_pos (show (fr1 8 1 p 0).pc = 1 from rfl)]
 exact at_back (F:=[]) hk p 0
end
def alcN (s:Sy) (k:Nat):Nat→Sy
 | 0=>s
 | j+1=>pAlc (alcN s k j) (k:Int)
theorem alcN_stand {s:Sy} {k m:Nat} (h:pTop (alcN s k m) (k:Int) = none) (j:Nat):alcN s k (m+j) = alcN s k m:=by
 induction j with
 | zero=>rfl
 | succ j ih=>show pAlc (alcN s k (m+j)) (k:Int) = _;rw [ih];exact alc_stand h
theorem I1.next {n j:Nat} {M:Ar} (h:I1 n j M) (hn:n≤200) (hj:j < n):I1 n (j+1) (popM M)∧pIdx (mVal M 0) = (j:Int)+1∧mBad M (pLink (pIdx (mVal M 0))) = M.bad:=by
 have hv:mVal M 0 = pWord j (nx n j) 0:=h.ia.v0.trans h.hd
 have hnk:nx n j = ((j+1:Nat):Int):=by unfold nx;rw [if_pos hj];omega
 have hi:pIdx (mVal M 0) = ((j+1:Nat):Int):=by rw [hv,word_idx (nx_bd hn).1 (nx_bd hn).2,hnk]
 have hl:mBad M (pLink (pIdx (mVal M 0))) = M.bad:=by rw [hi];exact h.ia.ml hn (by omega) (by omega)
 obtain ⟨M',e1,e2⟩:=h.pop hn hj 0 0 []
 have e3:=pop_alone (v:=0) (e:=0) (L:=[]) h.ia.m0 (by rw [hi];omega) hl h.ia.is
 rw [e3] at e1
 have e4:popM M = M':=congrArg Sy.M e1
 rw [e4]
 exact ⟨e2,by omega,hl⟩
theorem I1.none {n:Nat} {M:Ar} (h:I1 n n M) (hn:n≤200):pIdx (mVal M 0) = 0:=by
 rw [h.ia.v0,h.hd,word_idx (nx_bd hn).1 (nx_bd hn).2]
 unfold nx
 rw [if_neg (by omega)]
section
variable {C:List Co} {k:Nat} {x:Co} {M:Ar} {v e:Int} {L:List Evt}
theorem alloc_steps {n j:Nat} (h:I1 n j M) (hn:n≤200) (hj:j < n) (hk:k < C.length) :
  alcN (atK C k x M [fr1 7 0 0 0] v e L) k 1 = atK C k x M ([fr1 7 1 0 0]++[fr1 1 0 0 0]) v e L ∧
  alcN (atK C k x M [fr1 7 0 0 0] v e L) k 2 = atK C k x M ([fr1 7 1 0 0]++[fr1 1 1 (mVal M 0) 0]) v e L ∧
  alcN (atK C k x M [fr1 7 0 0 0] v e L) k 3 = atK C k x M ([fr1 7 1 0 0]++[fr1 1 2 (mVal M 0) (mVal M (pLink (pIdx (mVal M 0))))]) v e L ∧
  alcN (atK C k x M [fr1 7 0 0 0] v e L) k 4 = atK C k x (popM M) [fr1 7 1 0 0] ((j:Int)+1) 0 L ∧
  alcN (atK C k x M [fr1 7 0 0 0] v e L) k 5 = atK C k x (popM M) [] ((j:Int)+1) 0 L:=by
 obtain ⟨h1,h2,h3⟩:=h.next hn hj
 have e1:alcN (atK C k x M [fr1 7 0 0 0] v e L) k 1 = atK C k x M ([fr1 7 1 0 0]++[fr1 1 0 0 0]) v e L:=at_alloc0 hk
 have e2:alcN (atK C k x M [fr1 7 0 0 0] v e L) k 2 = atK C k x M ([fr1 7 1 0 0]++[fr1 1 1 (mVal M 0) 0]) v e L:=by
  show pAlc (alcN _ k 1) (k:Int) = _
  rw [e1];exact at_pop0 hk h.ia.m0 (by rw [h2];omega)
 have e3:alcN (atK C k x M [fr1 7 0 0 0] v e L) k 3 = atK C k x M ([fr1 7 1 0 0]++[fr1 1 2 (mVal M 0) (mVal M (pLink (pIdx (mVal M 0))))]) v e L:=by
  show pAlc (alcN _ k 2) (k:Int) = _
  rw [e2];exact at_pop1 hk h3
 have e4:alcN (atK C k x M [fr1 7 0 0 0] v e L) k 4 = atK C k x (popM M) [fr1 7 1 0 0] ((j:Int)+1) 0 L:=by
  show pAlc (alcN _ k 3) (k:Int) = _
  rw [e3,at_pop2 hk h.ia.is,h2]
 refine ⟨e1,e2,e3,e4,?_⟩
 show pAlc (alcN _ k 4) (k:Int) = _
 rw [e4];exact at_alloc1 hk
theorem alloc_none {n:Nat} (h:I1 n n M) (hn:n≤200) (hk:k < C.length) (hr:x.ret = []) :
  alcN (atK C k x M [fr1 7 0 0 0] v e L) k 1 = atK C k x M ([fr1 7 1 0 0]++[fr1 1 0 0 0]) v e L ∧
  alcN (atK C k x M [fr1 7 0 0 0] v e L) k 2 = atK C k x M [fr1 7 1 0 0] 0 2 (L++[⟨(k:Int),9,0,0,0⟩]) ∧
  alcN (atK C k x M [fr1 7 0 0 0] v e L) k 3 = atK C k x M [] 0 2 (L++[⟨(k:Int),9,0,0,0⟩]):=by
 have e1:alcN (atK C k x M [fr1 7 0 0 0] v e L) k 1 = atK C k x M ([fr1 7 1 0 0]++[fr1 1 0 0 0]) v e L:=at_alloc0 hk
 have e2:alcN (atK C k x M [fr1 7 0 0 0] v e L) k 2 = atK C k x M [fr1 7 1 0 0] 0 2 (L++[⟨(k:Int),9,0,0,0⟩]):=by
  show pAlc (alcN _ k 1) (k:Int) = _
  rw [e1];exact at_empty hk h.ia.m0 (h.none hn)
 refine ⟨e1,e2,?_⟩
 show pAlc (alcN _ k 2) (k:Int) = _
 rw [e2];exact at_alloc2 hk hr
end
theorem fill_I1 {n:Nat} (h1:1≤n) (h2:n≤200):I1 n 0 (pFill (mNew n)):=by
 obtain ⟨M,e,h⟩:=stA0 h1 h2
 have e2:pFill (mNew n) = M:=congrArg Sy.M e
 rw [e2];exact h
def upFrom (j n:Nat):List Int:=(List.range (n - j)).map (fun (i:Nat)=>(j:Int)+i+1)
theorem upFrom_len (j n:Nat):(upFrom j n).length = n - j:=by simp [upFrom]
theorem upFrom_head {j n:Nat} (h:j < n):(upFrom j n).getD 0 0 = (j:Int)+1:=by
 unfold upFrom
 rw [List.getD_eq_getElem?_getD,List.getElem?_map,List.getElem?_range (by omega)]
 simp
def upTo' (j t:Nat):List Int:=(List.range t).map (fun (i:Nat)=>(j:Int)+i+1)
theorem upTo'_succ (j t:Nat):upTo' j (t+1) = upTo' j t++[(j:Int)+t+1]:=by simp [upTo',List.range_succ]
theorem upTo'_mem {j t:Nat} {x:Int} (h:x ∈ upTo' j t):x≤(j:Int)+t:=by
 unfold upTo' at h
 obtain ⟨i,hi,rfl⟩:=List.mem_map.1 h
 have:=List.mem_range.1 hi
 omega
theorem walk_up_at {n j:Nat} {M:Ar} (hg:M.G.length = n+1) (hj:j≤n) (hd:pIdx (mVal M 0) = nx n j) (ln:∀ i,j < i→i≤n→mVal M (pLink ((i:Nat):Int)) = nx n i):∀ t,j+t≤n→WalkAt M (nx n (j+t)) (upTo' j t)
 | 0,_=>by
  have:=WalkAt.start M
  rw [hd] at this
  simpa [upTo'] using this
 | t+1,ht=>by
  have ih:=walk_up_at hg hj hd ln t (by omega)
  have e1:nx n (j+t) = ((j+t+1:Nat):Int):=by unfold nx;rw [if_pos (by omega)];omega
  rw [e1] at ih
  have h2:=ih.next (by omega) (by omega) (fun hm=>by have:=upTo'_mem hm;omega)
  rw [ln (j+t+1) (by omega) (by omega)] at h2
  rw [upTo'_succ,show (j:Int)+t+1 = ((j+t+1:Nat):Int) by omega]
  exact h2
theorem walk_up {n j:Nat} {M:Ar} (hg:M.G.length = n+1) (hj:j≤n) (hd:pIdx (mVal M 0) = nx n j) (ln:∀ i,j < i→i≤n→mVal M (pLink ((i:Nat):Int)) = nx n i):pWalk M = some (upFrom j n):=by
 have h:=walk_up_at hg hj hd ln (n - j) (by omega)
 rw [show j+(n - j) = n by omega,show nx n n = 0 by unfold nx;rw [if_neg (by omega)]] at h
 exact h.done
theorem I1.idx {n j:Nat} {M:Ar} (h:I1 n j M) (hn:n≤200):pIdx (mVal M 0) = nx n j:=by rw [h.ia.v0,h.hd,word_idx (nx_bd hn).1 (nx_bd hn).2]
theorem I1.link {n j:Nat} {M:Ar} (h:I1 n j M) (hn:n≤200) {i:Nat} (h1:1≤i) (h2:i≤n):mVal M (pLink (i:Int)) = nx n i:=by rw [h.ia.vl hn h1 h2];exact h.ln i h1 h2
theorem I1.walk {n j:Nat} {M:Ar} (h:I1 n j M) (hn:n≤200) (hj:j≤n):pWalk M = some (upFrom j n) :=
 walk_up h.ia.g hj (h.idx hn) (fun i h1 h2=>h.link hn (by omega) h2)
theorem I1.popM_eq {n j:Nat} {M:Ar} (h:I1 n j M) (hn:n≤200) (hj:j < n):popM M = ⟨M.W.set 0 (pWord ((j+1:Nat):Int) (nx n (j+1)) 0),M.G.set (j+1) 1,false⟩:=by
 have hv:mVal M 0 = pWord j (nx n j) 0:=h.ia.v0.trans h.hd
 have hi:pIdx (mVal M 0) = ((j+1:Nat):Int):=by rw [h.idx hn];unfold nx;rw [if_pos hj];omega
 have hb:=nx_bd (n:=n) (k:=j+1) hn
 have hN:pNext (mVal M 0) (nx n (j+1)) 0 = pWord ((j+1:Nat):Int) (nx n (j+1)) 0:=by
  rw [hv,word_next (by omega) (by omega) (nx_bd hn).1 (nx_bd hn).2 hb.1 hb.2]
  congr 1
 unfold popM
 rw [hi,h.link hn (by omega) (by omega),hN]
 exact (cas_turn (j:=j+1) (z:=1) h.ia (by omega) (by omega) (word_bd (t:=((j+1:Nat):Int)) (i:=nx n (j+1)) (by omega) (by omega) hb.1 hb.2) (h.gs (j+1) (by omega) (by omega)) (by rw [if_neg (by omega)];rfl)).1
theorem set_back {l:List Int} {i:Nat} {a b:Int} (hi:i < l.length) (h:l.getD i 0 = a):(l.set i b).set i a = l:=by
 rw [List.set_set]
 apply List.ext_getElem?
 intro q
 rw [List.getElem?_set]
 by_cases e:i = q
 ·subst e
  rw [if_pos rfl,if_pos hi,← h,List.getD_eq_getElem?_getD,List.getElem?_eq_getElem hi]
  rfl
 ·rw [if_neg e]
theorem I1.drop {n j:Nat} {M:Ar} (h:I1 n j M) (hn:n≤200) (hj:j < n) :
  mBad (popM M) 0 = (popM M).bad∧mIs (mStore (popM M) (pLink ((j:Int)+1)) (pIdx (mVal (popM M) 0))) 0 (mVal (popM M) 0) = true ∧
  (pushM (popM M) ((j:Int)+1)).G = M.G∧(pushM (popM M) ((j:Int)+1)).bad = false∧pWalk (pushM (popM M) ((j:Int)+1)) = some (upFrom j n)∧IA n (pushM (popM M) ((j:Int)+1)):=by
 obtain ⟨g1,_,_⟩:=h.next hn hj
 have eq:=h.popM_eq hn hj
 obtain ⟨P,hP⟩:∃ P,P = popM M:=⟨_,rfl⟩
 rw [← hP] at g1 eq ⊢
 have hw:=g1.ia.w
 have hv:mVal P 0 = pWord ((j+1:Nat):Int) (nx n (j+1)) 0:=g1.ia.v0.trans g1.hd
 have hi:pIdx (mVal P 0) = nx n (j+1):=g1.idx hn
 have hb:=nx_bd (n:=n) (k:=j+1) hn
 have ek:(j:Int)+1 = ((j+1:Nat):Int):=by omega
 obtain ⟨M1,hM1⟩:∃ m,m = mStore P (pLink ((j:Int)+1)) (pIdx (mVal P 0)):=⟨_,rfl⟩
 have hlt:124+4 * (j+1) < P.W.length:=by omega
 have e1:M1 = ⟨P.W.set (124+4 * (j+1)) (nx n (j+1)),P.G,false⟩:=by
  rw [hM1,ek,link_nat hn (by omega),hi]
  have a1:=mStore_in (m:=P) hlt (nx n (j+1))
  have a2:=mStore_bad (m:=P) hlt (by omega) (nx n (j+1))
  have a3:=(mStore_len P ((124+4 * (j+1):Nat):Int) (nx n (j+1))).2
  rw [g1.ia.bad] at a2
  cases hm:mStore P ((124+4 * (j+1):Nat):Int) (nx n (j+1))
  rw [hm] at a1 a2 a3
  simp only at a1 a2 a3
  rw [a1,a2,a3]
 have ia1:IA n M1:=by
  rw [e1]
  exact ⟨g1.ia.g,by simp [hw],rfl,mem_set g1.ia.inn (by omega)⟩
 have hv1:mVal M1 0 = mVal P 0:=by
  rw [ia1.v0,g1.ia.v0,e1]
  show (P.W.set _ _).getD 0 0 = _
  rw [getD_set _ _ _ _ hlt,if_neg (by omega)]
 have hN:pNext (mVal P 0) ((j:Int)+1) 0 = pWord ((j+2:Nat):Int) ((j+1:Nat):Int) 0:=by
  rw [hv,word_next (by omega) (by omega) hb.1 hb.2 (by omega) (by omega),ek]
  congr 1
 have hgk:M1.G.getD (j+1) 0 = 1:=by rw [e1];show P.G.getD (j+1) 0 = 1;rw [g1.gs (j+1) (by omega) (by omega),if_pos (by omega)]
 obtain ⟨e3,ia⟩:=cas_turn (j:=j+1) (z:=0) ia1 (by omega) (by omega) (word_bd (t:=((j+2:Nat):Int)) (i:=((j+1:Nat):Int)) (by omega) (by omega) (by omega) (by omega)) hgk rfl
 have ep:pushM P ((j:Int)+1) = ⟨M1.W.set 0 (pWord ((j+2:Nat):Int) ((j+1:Nat):Int) 0),M1.G.set (j+1) 0,false⟩:=by
  unfold pushM
  rw [← hM1,hN,← hv1,ek]
  exact e3
 have iap:IA n (pushM P ((j:Int)+1)):=by rw [ep,← e3];exact ia
 have hw1:=ia1.w
 have hgl:=h.ia.g
 have eG:(pushM P ((j:Int)+1)).G = M.G:=by
  rw [ep]
  show M1.G.set (j+1) 0 = M.G
  rw [e1]
  show P.G.set (j+1) 0 = M.G
  rw [eq]
  show (M.G.set (j+1) 1).set (j+1) 0 = M.G
  exact set_back (by omega) (by rw [h.gs (j+1) (by omega) (by omega),if_neg (by omega)])
 have eW:(pushM P ((j:Int)+1)).W = (P.W.set (124+4 * (j+1)) (nx n (j+1))).set 0 (pWord ((j+2:Nat):Int) ((j+1:Nat):Int) 0):=by rw [ep];show M1.W.set 0 _ = _;rw [e1]
 refine ⟨g1.ia.m0,by rw [← hM1,← hv1];exact ia1.is,eG,by rw [ep],?_,iap⟩
 refine walk_up (by rw [eG];exact hgl) (by omega) ?_ (fun i h1 h2=>?_)
 ·rw [iap.v0,eW,getD_set _ _ _ _ (by simp;omega),if_pos rfl,word_idx (by omega) (by omega)]
  unfold nx
  rw [if_pos hj]
  omega
 ·rw [iap.vl hn (by omega) h2,eW,getD_set _ _ _ _ (by simp;omega),if_neg (by omega),getD_set _ _ _ _ hlt]
  by_cases q:124+4 * (j+1) = 124+4 * i
  ·rw [if_pos q,show j+1 = i by omega]
  ·rw [if_neg q];exact g1.ln i (by omega) h2
theorem alcN_ok {b:Nat} {s:Sy} (h:Ok4 b s) (k:Nat):∀ j,b+j≤999997→Ok4 (b+j) (alcN s k j)
 | 0,_=>h
 | j+1,hj=>(alcN_ok h k j (by omega)).alc (by omega) (k:Int)
theorem at_F {C:List Co} {k:Nat} {x:Co} {M:Ar} {F:List Fr} {v e:Int} {L:List Evt} (hC:∀ y ∈ C,y.F = []):∀ y ∈ (atK C k x M F v e L).C,y.F.length≤F.length:=by
 intro y hy
 rcases List.mem_or_eq_of_mem_set (show y ∈ C.set k ⟨F,v,e,x.x0,x.x1,x.x2,x.ret⟩ from hy) with h | h
 ·rw [hC y h];simp
 ·rw [h];exact Nat.le_refl _
structure Idle (c n:Nat) (s:Sy):Prop where
 len:s.C.length = c
 nof:∀ y ∈ s.C,y.F = []∧y.ret.length = 0
 ia:IA n s.M
theorem Idle.ok {c n b:Nat} {s:Sy} (h:Idle c n s) (hc:c≤8) (h1:1≤n) (h2:n≤200) (hb:b≤999998) (hL:s.L.length≤b):Ok4 b s:=by
 have hw:=h.ia.w
 have hg:=h.ia.g
 refine ⟨⟨by omega,by omega,by rw [h.len];omega,by omega,fun y hy=>?_⟩,by omega,hL⟩
 obtain ⟨e1,e2⟩:=h.nof y hy
 rw [e1]
 exact ⟨by omega,by simp,by simp⟩
theorem Idle.atK {c n k:Nat} {s:Sy} {x:Co} (h:Idle c n s) (hx:s.C[k]? = some x):s = atK s.C k x s.M [] x.v x.e s.L:=by
 have hk:=(List.getElem?_eq_some_iff.1 hx).1
 have e1:(⟨[],x.v,x.e,x.x0,x.x1,x.x2,x.ret⟩:Co) = x:=by
  have:=(h.nof x (List.mem_of_getElem? hx)).1
  cases x
  simp only at this
  subst this
  rfl
 unfold Go.Proofs.YtfipcdhodojodaaGreat.atK
 rw [e1,show s.C.set k x = s.C from ?_]
 apply List.ext_getElem?
 intro i
 rw [List.getElem?_set]
 by_cases q:k = i
 ·subst q;rw [if_pos rfl,if_pos hk,hx]
 ·rw [if_neg q]
theorem idle_at {c n k:Nat} {s:Sy} {x:Co} (h:Idle c n s) (hx:s.C[k]? = some x) {M':Ar} (hM:IA n M') (v e:Int) (L:List Evt):Idle c n (atK s.C k x M' [] v e L):=by
 refine ⟨at_len.trans h.len,fun y hy=>?_,hM⟩
 rcases List.mem_or_eq_of_mem_set (show y ∈ s.C.set k ⟨[],v,e,x.x0,x.x1,x.x2,x.ret⟩ from hy) with h1 | h1
 ·exact h.nof y h1
 ·rw [h1];exact ⟨rfl,(h.nof x (List.mem_of_getElem? hx)).2⟩
structure Runs (s0:Sy) (k m:Nat):Prop where
 lt:m < 2000
 ok:∀ j,j≤m→SyFew (alcN s0 k j)∧2≤(alcN s0 k j).M.G.length∧(∀ x ∈ (alcN s0 k j).C,x.F.length≤999998)∧(alcN s0 k j).L.length≤999998
 on:∀ j,j < m→∃ x,(alcN s0 k j).C[k]? = some x∧0 < x.F.length
 off:∃ x,(alcN s0 k m).C[k]? = some x∧x.F.length = 0
theorem idle_alloc {c n k i:Nat} {s:Sy} {x:Co} (h:Idle c n s) (hx:s.C[k]? = some x) (hI:I1 n i s.M) (hi:i≤n) (hc:c≤8) (h1:1≤n) (h2:n≤200) {b:Nat} (hb:b≤900000) (hL:s.L.length≤b) :
  ∃ m,Runs (pCall s (k:Int) (fr1 7 0 0 0)) k m∧(i < n→m = 5)∧m≤5∧Idle c n (alcN (pCall s (k:Int) (fr1 7 0 0 0)) k m)∧I1 n (min (i+1) n) (alcN (pCall s (k:Int) (fr1 7 0 0 0)) k m).M∧(alcN (pCall s (k:Int) (fr1 7 0 0 0)) k m).L.length≤b+1:=by
 have hk:=(List.getElem?_eq_some_iff.1 hx).1
 have hC:∀ y ∈ s.C,y.F = []:=fun y hy=>(h.nof y hy).1
 have hs:=h.atK hx
 have ok0:Ok4 b (pCall s (k:Int) (fr1 7 0 0 0)):=(h.ok hc h1 h2 (by omega) hL).call (by simp [fr1]) k
 have e0:pCall s (k:Int) (fr1 7 0 0 0) = atK s.C k x s.M [fr1 7 0 0 0] x.v x.e s.L:=by
  conv=>lhs;rw [hs]
  exact at_call hk (by simp) _
 have okj:∀ j,j≤5→Ok4 (b+j) (alcN (pCall s (k:Int) (fr1 7 0 0 0)) k j):=fun j hj=>alcN_ok ok0 k j (by omega)
 have hr0:x.ret = []:=List.eq_nil_of_length_eq_zero (h.nof x (List.mem_of_getElem? hx)).2
 obtain ⟨s0,hs0⟩:∃ t,t = pCall s (k:Int) (fr1 7 0 0 0):=⟨_,rfl⟩
 rw [← hs0] at okj e0 ⊢
  -- a run whose states are these
 have mk:∀ m,m≤5→(∀ j,j≤m→∃ (M:Ar) (F:List Fr) (v e:Int) (L:List Evt),alcN s0 k j = atK s.C k x M F v e L∧F.length≤2∧(j < m→0 < F.length)∧(j = m→F = []))→Runs s0 k m:=fun m hm hf=>by
  refine ⟨by omega,fun j hj=>?_,fun j hj=>?_,?_⟩
  ·obtain ⟨M,F,v,e,L,e1,e2,_,_⟩:=hf j hj
   have o:=okj j (by omega)
   refine ⟨o.few,o.g,fun y hy=>?_,by have:=o.l;omega⟩
   rw [e1] at hy
   have:=at_F hC y hy
   omega
  ·obtain ⟨M,F,v,e,L,e1,_,e3,_⟩:=hf j (by omega)
   exact ⟨_,by rw [e1];exact at_get hk,e3 hj⟩
  ·obtain ⟨M,F,v,e,L,e1,_,_,e4⟩:=hf m (Nat.le_refl _)
   exact ⟨_,by rw [e1];exact at_get hk,by rw [e4 rfl];rfl⟩
 by_cases q:i < n
 ·obtain ⟨a1,a2,a3,a4,a5⟩:=alloc_steps (C:=s.C) (k:=k) (x:=x) (v:=x.v) (e:=x.e) (L:=s.L) hI h2 q hk
  rw [← e0] at a1 a2 a3 a4 a5
  have nx1:=(hI.next h2 q).1
  refine ⟨5,mk 5 (Nat.le_refl _) (fun j hj=>?_),fun _=>rfl,Nat.le_refl _,?_,?_,?_⟩
  ·have hj5:j = 0 ∨ j = 1 ∨ j = 2 ∨ j = 3 ∨ j = 4 ∨ j = 5:=by omega
   rcases hj5 with rfl | rfl | rfl | rfl | rfl | rfl
   ·exact ⟨_,_,_,_,_,e0,by simp,by simp,fun h=>by omega⟩
   ·exact ⟨_,_,_,_,_,a1,by simp,by simp,fun h=>by omega⟩
   ·exact ⟨_,_,_,_,_,a2,by simp,by simp,fun h=>by omega⟩
   ·exact ⟨_,_,_,_,_,a3,by simp,by simp,fun h=>by omega⟩
   ·exact ⟨_,_,_,_,_,a4,by simp,by simp,fun h=>by omega⟩
   ·exact ⟨_,_,_,_,_,a5,by simp,fun h=>by omega,fun _=>rfl⟩
  ·rw [a5];exact idle_at h hx nx1.ia _ _ _
  ·rw [a5,show min (i+1) n = i+1 by omega];exact nx1
  ·rw [a5];show s.L.length≤b+1;omega
 ·have ei:i = n:=by omega
  subst ei
  obtain ⟨a1,a2,a3⟩:=alloc_none (C:=s.C) (k:=k) (x:=x) (v:=x.v) (e:=x.e) (L:=s.L) hI h2 hk hr0
  rw [← e0] at a1 a2 a3
  refine ⟨3,mk 3 (by omega) (fun j hj=>?_),fun h=>by omega,by omega,?_,?_,?_⟩
  ·have hj3:j = 0 ∨ j = 1 ∨ j = 2 ∨ j = 3:=by omega
   rcases hj3 with rfl | rfl | rfl | rfl
   ·exact ⟨_,_,_,_,_,e0,by simp,by simp,fun h=>by omega⟩
   ·exact ⟨_,_,_,_,_,a1,by simp,by simp,fun h=>by omega⟩
   ·exact ⟨_,_,_,_,_,a2,by simp,by simp,fun h=>by omega⟩
   ·exact ⟨_,_,_,_,_,a3,by simp,fun h=>by omega,fun _=>rfl⟩
  ·rw [a3];exact idle_at h hx hI.ia _ _ _
  ·rw [a3,show min (i+1) i = i by omega];exact hI
  ·rw [a3];show (s.L++[_]).length≤b+1;simp;omega
theorem idle_fill {c n:Nat} (h1:1≤n) (h2:n≤200):Idle c n (syFill c n) :=
 ⟨by simp [syFill,syMem,syNew],fun y hy=>by
  have:y = coZero:=List.eq_of_mem_replicate (show y ∈ List.replicate c coZero from hy)
  rw [this];exact ⟨rfl,rfl⟩,(fill_I1 h1 h2).ia⟩
theorem idle_val {n:Nat} {M:Ar} (h:IA n M) (p:Int):W64 (mVal M p):=by
 unfold mVal
 split
 ·rcases Nat.lt_or_ge p.toNat M.W.length with q | q
  ·have:=h.inn (M.W.getD p.toNat 0) (by rw [List.getD_eq_getElem?_getD,List.getElem?_eq_getElem q];exact List.getElem_mem q)
   exact this
  ·rw [List.getD_eq_getElem?_getD,List.getElem?_eq_none q];simp [W64]
 ·simp [W64]
structure Goes (s0:Sy) (k:Nat):Prop where
 ok:∀ j,j < 9→SyFew (alcN s0 k j)∧2≤(alcN s0 k j).M.G.length∧(alcN s0 k j).L.length≤999998∧∀ f,pTop (alcN s0 k j) (k:Int) = some f→W64 (f.R.getD 0 0)
theorem at_top9 {C:List Co} {k:Nat} {x:Co} {M:Ar} {F:List Fr} {v e:Int} {L:List Evt} (hk:k < C.length) {P:Int→Prop} (h:∀ f,F.getLast? = some f→P (f.R.getD 0 0)):∀ f,pTop (atK C k x M F v e L) (k:Int) = some f→P (f.R.getD 0 0):=by
 intro f hf
 unfold pTop at hf
 rw [pAt_nat (at_get hk)] at hf
 exact h f hf
theorem w64_small {a:Int} (h0:0≤a) (h1:a≤1000):W64 a:=⟨by omega,by omega⟩
theorem idle_take {c n k i:Nat} {s:Sy} {x:Co} (h:Idle c n s) (hx:s.C[k]? = some x) (hI:I1 n i s.M) (hi:i < n) (hc:c≤8) (h1:1≤n) (h2:n≤200) {b:Nat} (hb:b≤900000) (hL:s.L.length≤b) :
  Goes (pCall s (k:Int) (fr1 7 0 0 0)) k∧alcN (pCall s (k:Int) (fr1 7 0 0 0)) k 9 = atK s.C k x (popM s.M) [] ((i:Int)+1) 0 s.L:=by
 have hk:=(List.getElem?_eq_some_iff.1 hx).1
 have hs:=h.atK hx
 have ok0:Ok4 b (pCall s (k:Int) (fr1 7 0 0 0)):=(h.ok hc h1 h2 (by omega) hL).call (by simp [fr1]) k
 have e0:pCall s (k:Int) (fr1 7 0 0 0) = atK s.C k x s.M [fr1 7 0 0 0] x.v x.e s.L:=by
  conv=>lhs;rw [hs]
  exact at_call hk (by simp) _
 have okj:∀ j,j≤9→Ok4 (b+j) (alcN (pCall s (k:Int) (fr1 7 0 0 0)) k j):=fun j hj=>alcN_ok ok0 k j (by omega)
 obtain ⟨s0,hs0⟩:∃ t,t = pCall s (k:Int) (fr1 7 0 0 0):=⟨_,rfl⟩
 rw [← hs0] at okj e0 ⊢
 obtain ⟨a1,a2,a3,a4,a5⟩:=alloc_steps (C:=s.C) (k:=k) (x:=x) (v:=x.v) (e:=x.e) (L:=s.L) hI h2 hi hk
 rw [← e0] at a1 a2 a3 a4 a5
 have hst:∀ j,alcN s0 k (5+j) = alcN s0 k 5:=alcN_stand (by rw [a5];exact at_none hk)
 refine ⟨⟨fun j hj=>?_⟩,by rw [show 9 = 5+4 by rfl,hst 4,a5]⟩
 have o:=okj j (by omega)
 refine ⟨o.few,o.g,by have:=o.l;omega,?_⟩
 have hj5:j = 0 ∨ j = 1 ∨ j = 2 ∨ j = 3 ∨ j = 4 ∨ ∃ q,j = 5+q:=by
  rcases Nat.lt_or_ge j 5 with q | q
  ·omega
  ·right;right;right;right;right;exact ⟨j - 5,by omega⟩
 have hv:=idle_val h.ia 0
 rcases hj5 with rfl | rfl | rfl | rfl | rfl | ⟨q,rfl⟩
 ·show ∀ f,pTop s0 (k:Int) = some f→_
  rw [e0];exact at_top9 hk (fun f hf=>by simp at hf;subst hf;exact w64_small (by decide) (by decide))
 ·rw [a1];exact at_top9 hk (fun f hf=>by simp at hf;subst hf;exact w64_small (by decide) (by decide))
 ·rw [a2];exact at_top9 hk (fun f hf=>by simp at hf;subst hf;exact hv)
 ·rw [a3];exact at_top9 hk (fun f hf=>by simp at hf;subst hf;exact hv)
 ·rw [a4];exact at_top9 hk (fun f hf=>by simp at hf;subst hf;exact w64_small (by decide) (by decide))
 ·rw [hst q,a5];exact at_top9 hk (fun f hf=>by simp at hf)
theorem idle_drop {c n k i:Nat} {s:Sy} {x:Co} (h:Idle c n s) (hx:s.C[k]? = some x) (hI:I1 n i s.M) (hi:i < n) (hc:c≤8) (h1:1≤n) (h2:n≤200) {b:Nat} (hb:b≤900000) (hL:s.L.length≤b) :
  Goes (pCall (atK s.C k x (popM s.M) [] ((i:Int)+1) 0 s.L) (k:Int) (fr1 8 0 ((i:Int)+1) 0)) k∧alcN (pCall (atK s.C k x (popM s.M) [] ((i:Int)+1) 0 s.L) (k:Int) (fr1 8 0 ((i:Int)+1) 0)) k 9 = atK s.C k x (pushM (popM s.M) ((i:Int)+1)) [] ((i:Int)+1) 0 s.L:=by
 have hk:=(List.getElem?_eq_some_iff.1 hx).1
 obtain ⟨d1,d2,d3,d4,d5,d6⟩:=hI.drop h2 hi
 have n1:=(hI.next h2 hi).1
 have hid:=idle_at h hx n1.ia ((i:Int)+1) 0 s.L
 have ok0:Ok4 b (pCall (atK s.C k x (popM s.M) [] ((i:Int)+1) 0 s.L) (k:Int) (fr1 8 0 ((i:Int)+1) 0)):=(hid.ok hc h1 h2 (by omega) hL).call (by simp [fr1]) k
 have e0:pCall (atK s.C k x (popM s.M) [] ((i:Int)+1) 0 s.L) (k:Int) (fr1 8 0 ((i:Int)+1) 0) = atK s.C k x (popM s.M) [fr1 8 0 ((i:Int)+1) 0] ((i:Int)+1) 0 s.L:=at_call hk (by simp) _
 have okj:∀ j,j≤9→Ok4 (b+j) (alcN (pCall (atK s.C k x (popM s.M) [] ((i:Int)+1) 0 s.L) (k:Int) (fr1 8 0 ((i:Int)+1) 0)) k j):=fun j hj=>alcN_ok ok0 k j (by omega)
 obtain ⟨s0,hs0⟩:∃ t,t = pCall (atK s.C k x (popM s.M) [] ((i:Int)+1) 0 s.L) (k:Int) (fr1 8 0 ((i:Int)+1) 0):=⟨_,rfl⟩
 rw [← hs0] at okj e0 ⊢
 have wp:W64 ((i:Int)+1):=w64_small (by omega) (by omega)
 have a1:alcN s0 k 1 = atK s.C k x (popM s.M) ([fr1 8 1 ((i:Int)+1) 0]++[fr1 2 0 ((i:Int)+1) 0]) ((i:Int)+1) 0 s.L:=by
  show pAlc s0 (k:Int) = _
  rw [e0];exact at_drop0 hk
 have a2:alcN s0 k 2 = atK s.C k x (popM s.M) ([fr1 8 1 ((i:Int)+1) 0]++[fr1 2 1 ((i:Int)+1) (mVal (popM s.M) 0)]) ((i:Int)+1) 0 s.L:=by
  show pAlc (alcN s0 k 1) (k:Int) = _
  rw [a1];exact at_push0 hk d1
 have a3:alcN s0 k 3 = atK s.C k x (mStore (popM s.M) (pLink ((i:Int)+1)) (pIdx (mVal (popM s.M) 0))) ([fr1 8 1 ((i:Int)+1) 0]++[fr1 2 2 ((i:Int)+1) (mVal (popM s.M) 0)]) ((i:Int)+1) 0 s.L:=by
  show pAlc (alcN s0 k 2) (k:Int) = _
  rw [a2];exact at_push1 hk
 have a4:alcN s0 k 4 = atK s.C k x (pushM (popM s.M) ((i:Int)+1)) [fr1 8 1 ((i:Int)+1) 0] ((i:Int)+1) 0 s.L:=by
  show pAlc (alcN s0 k 3) (k:Int) = _
  rw [a3];exact at_push2 hk d2
 have a5:alcN s0 k 5 = atK s.C k x (pushM (popM s.M) ((i:Int)+1)) [] ((i:Int)+1) 0 s.L:=by
  show pAlc (alcN s0 k 4) (k:Int) = _
  rw [a4];exact at_drop1 hk
 have hst:∀ j,alcN s0 k (5+j) = alcN s0 k 5:=alcN_stand (by rw [a5];exact at_none hk)
 refine ⟨⟨fun j hj=>?_⟩,by rw [show 9 = 5+4 by rfl,hst 4,a5]⟩
 have o:=okj j (by omega)
 refine ⟨o.few,o.g,by have:=o.l;omega,?_⟩
 have hj5:j = 0 ∨ j = 1 ∨ j = 2 ∨ j = 3 ∨ j = 4 ∨ ∃ q,j = 5+q:=by
  rcases Nat.lt_or_ge j 5 with q | q
  ·omega
  ·right;right;right;right;right;exact ⟨j - 5,by omega⟩
 rcases hj5 with rfl | rfl | rfl | rfl | rfl | ⟨q,rfl⟩
 ·show ∀ f,pTop s0 (k:Int) = some f→_
  rw [e0];exact at_top9 hk (fun f hf=>by simp at hf;subst hf;exact wp)
 ·rw [a1];exact at_top9 hk (fun f hf=>by simp at hf;subst hf;exact wp)
 ·rw [a2];exact at_top9 hk (fun f hf=>by simp at hf;subst hf;exact wp)
 ·rw [a3];exact at_top9 hk (fun f hf=>by simp at hf;subst hf;exact wp)
 ·rw [a4];exact at_top9 hk (fun f hf=>by simp at hf;subst hf;exact wp)
 ·rw [hst q,a5];exact at_top9 hk (fun f hf=>by simp at hf)
end Go.Proofs.YtfipcdhodojodaaGreat
