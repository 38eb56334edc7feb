/- Steps of layer 4 keep systems few; a core that is alone pops and pushes: plain mathematics. No Go text. -/
import Derived.Test.YtfipcdhodojodaaGreatKStA
import Derived.Test.YtfipcdhodojodaaGreatKHzA
import Derived.Test.YtfipcdhodojodaaGreatScn1
import Derived.Test.YtfipcdhodojodaaGreatStk9
namespace Go.Proofs.YtfipcdhodojodaaGreat
open Go.RowKit
set_option linter.unusedVariables false
structure Ok4 (b:Nat) (s:Sy):Prop where
 few:SyFew s
 g:2≤s.M.G.length
 l:s.L.length≤b
theorem Ok4.up {b c:Nat} {s:Sy} (h:Ok4 b s) (hc:b≤c):Ok4 c s:=⟨h.few,h.g,Nat.le_trans h.l hc⟩
theorem set_M (s:Sy) (i:Int) (f:Fr):(pSet s i f).M = s.M∧(pSet s i f).L = s.L:=by
 unfold pSet
 split
 ·exact ⟨rfl,rfl⟩
 ·split <;> exact ⟨rfl,rfl⟩
theorem back_M (s:Sy) (i v e:Int):(pBack s i v e).M = s.M∧(pBack s i v e).L = s.L:=by
 unfold pBack
 split
 ·exact ⟨rfl,rfl⟩
 ·split <;> exact ⟨rfl,rfl⟩
theorem call_M (s:Sy) (i:Int) (f:Fr):(pCall s i f).M = s.M∧(pCall s i f).L = s.L:=by
 unfold pCall
 split
 ·exact ⟨rfl,rfl⟩
 ·split <;> exact ⟨rfl,rfl⟩
theorem log_M (s:Sy) (i k a b v:Int):(pLog s i k a b v).M = s.M∧(pLog s i k a b v).L.length≤s.L.length+1:=by
 unfold pLog
 split
 ·exact ⟨rfl,by simp [syLog]⟩
 ·exact ⟨rfl,by omega⟩
theorem Ok4.set {b:Nat} {s:Sy} (h:Ok4 b s) {f:Fr} (hf:f.S.length≤1000000) (i:Int):Ok4 b (pSet s i f):=by
 obtain ⟨e1,e2⟩:=set_M s i f
 exact ⟨few_set h.few hf i,by rw [e1];exact h.g,by rw [e2];exact h.l⟩
theorem Ok4.back {b:Nat} {s:Sy} (h:Ok4 b s) (i v e:Int):Ok4 b (pBack s i v e):=by
 obtain ⟨e1,e2⟩:=back_M s i v e
 exact ⟨few_back h.few i v e,by rw [e1];exact h.g,by rw [e2];exact h.l⟩
theorem Ok4.call {b:Nat} {s:Sy} (h:Ok4 b s) {f:Fr} (hf:f.S.length≤1000000) (i:Int):Ok4 b (pCall s i f):=by
 obtain ⟨e1,e2⟩:=call_M s i f
 exact ⟨few_call h.few hf i,by rw [e1];exact h.g,by rw [e2];exact h.l⟩
theorem Ok4.log {b:Nat} {s:Sy} (h:Ok4 b s) (hb:b≤999998) (i k a c v:Int):Ok4 (b+1) (pLog s i k a c v):=by
 obtain ⟨e1,e2⟩:=log_M s i k a c v
 have:=h.l
 exact ⟨few_log h.few (by omega) i k a c v,by rw [e1];exact h.g,by omega⟩
theorem Ok4.mem {b:Nat} {s:Sy} (h:Ok4 b s) {m:Ar} (h0:m.W.length = s.M.W.length) (h1:m.G.length = s.M.G.length):Ok4 b (syMem s m) :=
 ⟨few_mem h.few h0 h1,by simp only [syMem];rw [h1];exact h.g,h.l⟩
theorem top_S {s:Sy} (h:SyFew s) {i:Int} {f:Fr} (ht:pTop s i = some f):f.S.length≤1000000:=by
 unfold pTop at ht
 rcases pAt_cases s i with ⟨_,_,h2⟩ | ⟨k,x,rfl,hk,hx,_,h2⟩
 ·rw [h2] at ht;cases ht
 ·rw [h2] at ht
  exact (h.2.2.2.2 x (List.mem_of_getElem? hx)).2.2 f (List.mem_of_getLast? ht)
theorem mCas_len (m:Ar) (p o n:Int):(mCas m p o n).W.length = m.W.length∧(mCas m p o n).G = m.G:=by
 unfold mCas
 refine ⟨?_,rfl⟩
 dsimp only
 split <;> simp
theorem mTurn_len (m:Ar) (i z:Int):(mTurn m i z).W = m.W∧(mTurn m i z).G.length = m.G.length:=by
 unfold mTurn
 refine ⟨rfl,?_⟩
 dsimp only
 split <;> simp
theorem Ok4.swap {b:Nat} {s:Sy} (h:Ok4 b s) {f:Fr} (hf:f.S.length≤1000000) (i seen first node nw:Int):Ok4 b (pSwap s i f seen first node nw):=by
 unfold pSwap
 have hc:=mCas_len s.M 0 seen (pNext seen first 0)
 have ht:=mTurn_len (mCas s.M 0 seen (pNext seen first 0)) node nw
 split
 ·exact (h.mem (by rw [ht.1];exact hc.1) (by rw [ht.2,hc.2])).back i node 0
 ·exact (h.mem hc.1 (by rw [hc.2])).set (f:=⟨f.op,0,f.R,f.S⟩) hf i
theorem Ok4.step {b:Nat} {s:Sy} (h:Ok4 b s) (hb:b≤999997) (i:Int):Ok4 (b+1) (pStep s i):=by
 unfold pStep
 split
 ·exact h.up (by omega)
 ·next f ht =>
  have hf:=top_S h.few ht
  split
  ·unfold pPop
   split
   ·split
    ·exact ((h.mem (m:=mLoad s.M 0) rfl rfl).log (by omega) i 9 0 0 0).back i 0 2
    ·exact ((h.mem (m:=mLoad s.M 0) rfl rfl).set (f:=⟨f.op,1,f.R.set 0 (mVal s.M 0),f.S⟩) hf i).up (by omega)
   ·split
    ·exact ((h.mem (m:=mLoad s.M (pLink (pIdx (f.R.getD 0 0)))) rfl rfl).set (f:=⟨f.op,2,f.R.set 1 (mVal s.M (pLink (pIdx (f.R.getD 0 0)))),f.S⟩) hf i).up (by omega)
    ·split
     ·exact (h.swap hf i _ _ _ _).up (by omega)
     ·exact h.up (by omega)
  ·split
   ·unfold pPush
    split
    ·exact ((h.mem (m:=mLoad s.M 0) rfl rfl).set (f:=⟨f.op,1,f.R.set 1 (mVal s.M 0),f.S⟩) hf i).up (by omega)
    ·split
     ·have hl:=mStore_len s.M (pLink (f.R.getD 0 0)) (pIdx (f.R.getD 1 0))
      exact ((h.mem hl.1 (by rw [hl.2])).set (f:=⟨f.op,2,f.R,f.S⟩) hf i).up (by omega)
     ·split
      ·exact (h.swap hf i _ _ _ _).up (by omega)
      ·exact h.up (by omega)
   ·exact h.up (by omega)
def one1 (M:Ar) (F:List Fr) (v e:Int) (L:List Evt):Sy:=⟨M,[⟨F,v,e,0,0,0,[]⟩],L⟩
def fr1 (op pc r0 r1:Int):Fr:=⟨op,pc,[r0,r1,0,0,0,0,0,0],[]⟩
theorem one_at (M:Ar) (F:List Fr) (v e:Int) (L:List Evt):pAt (one1 M F v e L) 0 = some ⟨F,v,e,0,0,0,[]⟩:=by simp [pAt,syHas,one1]
theorem one_top (M:Ar) (f:Fr) (v e:Int) (L:List Evt):pTop (one1 M [f] v e L) 0 = some f:=by unfold pTop;rw [one_at];rfl
theorem one_set (M:Ar) (f g:Fr) (v e:Int) (L:List Evt):pSet (one1 M [f] v e L) 0 g = one1 M [g] v e L:=by unfold pSet;rw [one_at];rfl
theorem one_back (M:Ar) (f:Fr) (v e v' e':Int) (L:List Evt):pBack (one1 M [f] v e L) 0 v' e' = one1 M [] v' e' L:=by unfold pBack;rw [one_at];rfl
theorem one_call (M:Ar) (f:Fr) (v e:Int) (L:List Evt):pCall (one1 M [] v e L) 0 f = one1 M [f] v e L:=by unfold pCall;rw [one_at];rfl
theorem one_log (M:Ar) (F:List Fr) (v e k a b z:Int) (L:List Evt):pLog (one1 M F v e L) 0 k a b z = one1 M F v e (L++[⟨0,k,a,b,z⟩]):=by
 unfold pLog
 rw [if_pos (by simp [syHas,one1])]
 rfl
theorem one_step0 (M:Ar) (v e:Int) (L:List Evt):pStep (one1 M [] v e L) 0 = one1 M [] v e L:=by
 have:pTop (one1 M [] v e L) 0 = none:=by unfold pTop;rw [one_at];rfl
 unfold pStep
 rw [this]
theorem pstep_pop {s:Sy} {i:Int} {f:Fr} (h:pTop s i = some f) (h1:f.op = 1):pStep s i = pPop s i f s:=by
 unfold pStep
 rw [h]
 dsimp only
 rw [if_pos h1]
theorem pstep_push {s:Sy} {i:Int} {f:Fr} (h:pTop s i = some f) (h1:f.op = 2):pStep s i = pPush s i f s:=by
 unfold pStep
 rw [h]
 dsimp only
 rw [if_neg (by omega),if_pos h1]
theorem load_same {M:Ar} {p:Int} (h:mBad M p = M.bad):mLoad M p = M:=by
 obtain ⟨W,G,b⟩:=M
 unfold mLoad
 rw [h]
def step3 (s:Sy):Sy:=pStep (pStep (pStep s 0) 0) 0
theorem pop_alone {M:Ar} {v e:Int} {L:List Evt} (h0:mBad M 0 = M.bad) (hi:¬ pIdx (mVal M 0) = 0) (hl:mBad M (pLink (pIdx (mVal M 0))) = M.bad) (hin:mIs M 0 (mVal M 0) = true) :
  step3 (pCall (one1 M [] v e L) 0 (fr1 1 0 0 0)) = one1 (mTurn (mCas M 0 (mVal M 0) (pNext (mVal M 0) (mVal M (pLink (pIdx (mVal M 0)))) 0)) (pIdx (mVal M 0)) 1) [] (pIdx (mVal M 0)) 0 L:=by
 have e1:pStep (one1 M [fr1 1 0 0 0] v e L) 0 = one1 M [fr1 1 1 (mVal M 0) 0] v e L:=by
  rw [pstep_pop (one_top _ _ _ _ _) rfl]
  unfold pPop
  rw [if_pos (show (fr1 1 0 0 0).pc = 0 from rfl),if_neg (show ¬ pIdx (mVal (one1 M [fr1 1 0 0 0] v e L).M 0) = 0 from hi)]
  show pSet (syMem (one1 M [fr1 1 0 0 0] v e L) (mLoad M 0)) 0 _ = _
  rw [load_same h0]
  exact one_set M _ _ v e L
 have e2:pStep (one1 M [fr1 1 1 (mVal M 0) 0] v e L) 0 = one1 M [fr1 1 2 (mVal M 0) (mVal M (pLink (pIdx (mVal M 0))))] v e L:=by
  rw [pstep_pop (one_top _ _ _ _ _) rfl]
  unfold pPop
  rw [if_neg (show ¬ (fr1 1 1 (mVal M 0) 0).pc = 0 by simp [fr1]),if_pos (show (fr1 1 1 (mVal M 0) 0).pc = 1 from rfl)]
  show pSet (syMem (one1 M [fr1 1 1 (mVal M 0) 0] v e L) (mLoad M (pLink (pIdx (mVal M 0))))) 0 _ = _
  rw [load_same hl]
  exact one_set M _ _ v e L
 unfold step3
 rw [one_call,e1,e2]
 rw [pstep_pop (one_top _ _ _ _ _) rfl]
 unfold pPop
 rw [if_neg (show ¬ (fr1 1 2 (mVal M 0) (mVal M (pLink (pIdx (mVal M 0))))).pc = 0 by simp [fr1]),if_neg (show ¬ (fr1 1 2 (mVal M 0) (mVal M (pLink (pIdx (mVal M 0))))).pc = 1 by simp [fr1]),if_pos (show (fr1 1 2 (mVal M 0) (mVal M (pLink (pIdx (mVal M 0))))).pc = 2 from rfl)]
 show pSwap _ 0 _ (mVal M 0) (mVal M (pLink (pIdx (mVal M 0)))) (pIdx (mVal M 0)) 1 = _
 unfold pSwap
 rw [if_pos (show mIs (one1 M _ v e L).M 0 (mVal M 0) = true from hin)]
 exact one_back _ _ v e _ 0 L
theorem pop_empty {M:Ar} {v e:Int} {L:List Evt} (h0:mBad M 0 = M.bad) (hi:pIdx (mVal M 0) = 0):step3 (pCall (one1 M [] v e L) 0 (fr1 1 0 0 0)) = one1 M [] 0 2 (L++[⟨0,9,0,0,0⟩]):=by
 have e1:pStep (one1 M [fr1 1 0 0 0] v e L) 0 = one1 M [] 0 2 (L++[⟨0,9,0,0,0⟩]):=by
  rw [pstep_pop (one_top _ _ _ _ _) rfl]
  unfold pPop
  rw [if_pos (show (fr1 1 0 0 0).pc = 0 from rfl),if_pos (show pIdx (mVal (one1 M [fr1 1 0 0 0] v e L).M 0) = 0 from hi)]
  show pBack (pLog (syMem (one1 M [fr1 1 0 0 0] v e L) (mLoad M 0)) 0 9 0 0 0) 0 0 2 = _
  rw [load_same h0]
  show pBack (pLog (one1 M [fr1 1 0 0 0] v e L) 0 9 0 0 0) 0 0 2 = _
  rw [one_log,one_back]
 unfold step3
 rw [one_call,e1,one_step0,one_step0]
set_option linter.unusedVariables false
def nx (n k:Nat):Int:=if k < n then (k:Int)+1 else 0
structure IA (n:Nat) (M:Ar):Prop where
 g:M.G.length = n+1
 w:M.W.length = 128+4 * n
 bad:M.bad = false
 inn:∀ x ∈ M.W,-9223372036854775808≤x∧x≤9223372036854775807
theorem IA.m0 {n:Nat} {M:Ar} (h:IA n M):mBad M 0 = M.bad:=by
 have:=mBad_link (m:=M) (k:=0) (by have:=h.w;omega) (by omega)
 exact this
theorem IA.v0 {n:Nat} {M:Ar} (h:IA n M):mVal M 0 = M.W.getD 0 0:=mVal_in (m:=M) (k:=0) (by have:=h.w;omega)
theorem link_nat {n j:Nat} (hn:n≤200) (h:j≤n):pLink (j:Int) = ((124+4 * j:Nat):Int):=by rw [pLink_in (by omega) (by omega)];omega
theorem IA.ml {n:Nat} {M:Ar} (h:IA n M) (hn:n≤200) {j:Nat} (h1:1≤j) (h2:j≤n):mBad M (pLink (j:Int)) = M.bad:=by
 rw [link_nat hn h2]
 exact mBad_link (by have:=h.w;omega) (by omega)
theorem IA.vl {n:Nat} {M:Ar} (h:IA n M) (hn:n≤200) {j:Nat} (h1:1≤j) (h2:j≤n):mVal M (pLink (j:Int)) = M.W.getD (124+4 * j) 0:=by
 rw [link_nat hn h2]
 exact mVal_in (by have:=h.w;omega)
theorem IA.is {n:Nat} {M:Ar} (h:IA n M):mIs M 0 (mVal M 0) = true:=by
 have hw:=h.w
 rw [h.v0]
 unfold mIs mIn
 rw [decide_eq_true ⟨by omega,by omega⟩]
 simp
theorem getD_set (l:List Int) (k j:Nat) (x:Int) (hk:k < l.length):(l.set k x).getD j 0 = if k = j then x else l.getD j 0:=by
 rw [List.getD_eq_getElem?_getD,List.getElem?_set]
 by_cases q:k = j
 ·subst q;rw [if_pos rfl,if_pos hk,if_pos rfl];rfl
 ·rw [if_neg q,if_neg q,← List.getD_eq_getElem?_getD]
theorem mem_set {l:List Int} {k:Nat} {x:Int} (h:∀ y ∈ l,-9223372036854775808≤y∧y≤9223372036854775807) (hx:-9223372036854775808≤x∧x≤9223372036854775807):∀ y ∈ l.set k x,-9223372036854775808≤y∧y≤9223372036854775807:=fun y hy=>by
 rcases List.mem_or_eq_of_mem_set hy with q | q
 ·exact h y q
 ·rw [q];exact hx
theorem cas_turn {n:Nat} {M:Ar} (h:IA n M) {nw a z:Int} {j:Nat} (h1:1≤j) (h2:j≤n) (hx:-9223372036854775808≤nw∧nw≤9223372036854775807) (hG:M.G.getD j 0 = a) (hm:mMay a z = true) :
  (mTurn (mCas M 0 (mVal M 0) nw) (j:Int) z) = ⟨M.W.set 0 nw,M.G.set j z,false⟩∧IA n (mTurn (mCas M 0 (mVal M 0) nw) (j:Int) z):=by
 have hg:=h.g
 have e1:mCas M 0 (mVal M 0) nw = ⟨M.W.set 0 nw,M.G,false⟩:=by
  unfold mCas
  rw [h.is,h.m0,h.bad]
  simp
 have e2:mTurns ⟨M.W.set 0 nw,M.G,false⟩ (j:Int) z = true:=by
  unfold mTurns
  rw [decide_eq_true ⟨by omega,by simp only;omega⟩]
  simp only [Int.toNat_natCast,hG,hm,Bool.and_self]
 have e3:mTurn (mCas M 0 (mVal M 0) nw) (j:Int) z = ⟨M.W.set 0 nw,M.G.set j z,false⟩:=by
  rw [e1]
  unfold mTurn
  rw [e2]
  simp
 refine ⟨e3,?_⟩
 rw [e3]
 exact ⟨by simp [hg],by simp [h.w],rfl,mem_set h.inn hx⟩
structure I1 (n k:Nat) (M:Ar):Prop where
 ia:IA n M
 hd:M.W.getD 0 0 = pWord k (nx n k) 0
 ln:∀ j,1≤j→j≤n→M.W.getD (124+4 * j) 0 = nx n j
 gs:∀ j,1≤j→j≤n→M.G.getD j 0 = if j≤k then 1 else 0
theorem word_bd {t i:Int} (h0:0≤t) (h1:t≤1000) (h2:0≤i) (h3:i≤1000):-9223372036854775808≤pWord t i 0∧pWord t i 0≤9223372036854775807:=by unfold pWord;omega
theorem word_idx {t i:Int} (h2:0≤i) (h3:i≤1000):pIdx (pWord t i 0) = i:=pIdx_word t i 0 (by omega) (by omega)
theorem word_next {t i j:Int} (h0:0≤t) (h1:t≤1000) (h2:0≤i) (h3:i≤1000) (h4:0≤j) (h5:j≤1000):pNext (pWord t i 0) j 0 = pWord (t+1) j 0:=by
 unfold pNext
 rw [pTag_word t i 0 (by omega) (by omega) (by omega),Int.emod_eq_of_lt (by omega) (by omega),Int.emod_eq_of_lt (by omega) (by omega)]
 rfl
theorem nx_bd {n k:Nat} (hn:n≤200):0≤nx n k∧nx n k≤1000:=by unfold nx;split <;> omega
theorem I1.pop {n k:Nat} {M:Ar} (h:I1 n k M) (hn:n≤200) (hk:k < n) (v e:Int) (L:List Evt) :
  ∃ M',step3 (pCall (one1 M [] v e L) 0 (fr1 1 0 0 0)) = one1 M' [] ((k:Int)+1) 0 L∧I1 n (k+1) M':=by
 have hv:mVal M 0 = pWord k (nx n k) 0:=h.ia.v0.trans h.hd
 have hnk:nx n k = ((k+1:Nat):Int):=by unfold nx;rw [if_pos hk];omega
 have hi:pIdx (mVal M 0) = ((k+1:Nat):Int):=by rw [hv,word_idx (nx_bd hn).1 (nx_bd hn).2,hnk]
 have hl:mVal M (pLink ((k+1:Nat):Int)) = nx n (k+1):=by rw [h.ia.vl hn (by omega) (by omega)];exact h.ln _ (by omega) (by omega)
 have hb:=nx_bd (n:=n) (k:=k+1) hn
 have hc:=pop_alone (v:=v) (e:=e) (L:=L) h.ia.m0 (by rw [hi];omega) (by rw [hi];exact h.ia.ml hn (by omega) (by omega)) h.ia.is
 rw [hi,hl] at hc
 have hN:pNext (mVal M 0) (nx n (k+1)) 0 = pWord ((k+1:Nat):Int) (nx n (k+1)) 0:=by
  rw [hv,word_next (by omega) (by omega) (nx_bd hn).1 (nx_bd hn).2 hb.1 hb.2]
  congr 1
 rw [hN] at hc
 obtain ⟨e3,ia⟩:=cas_turn (j:=k+1) (z:=1) h.ia (by omega) (by omega) (word_bd (t:=((k+1:Nat):Int)) (i:=nx n (k+1)) (by omega) (by omega) hb.1 hb.2) (h.gs (k+1) (by omega) (by omega)) (by rw [if_neg (by omega)];rfl)
 refine ⟨_,by rw [hc,show ((k:Int)+1) = ((k+1:Nat):Int) by omega],?_⟩
 rw [e3] at ia ⊢
 have hw:=h.ia.w
 have hg:=h.ia.g
 refine ⟨ia,?_,fun j j1 j2=>?_,fun j j1 j2=>?_⟩
 ·show (M.W.set 0 _).getD 0 0 = _
  rw [getD_set _ _ _ _ (by omega),if_pos rfl]
 ·show (M.W.set 0 _).getD _ 0 = _
  rw [getD_set _ _ _ _ (by omega),if_neg (by omega)]
  exact h.ln j j1 j2
 ·show (M.G.set (k+1) 1).getD j 0 = _
  rw [getD_set _ _ _ _ (by omega)]
  by_cases q:k+1 = j
  ·rw [if_pos q,if_pos (by omega)]
  ·rw [if_neg q,h.gs j j1 j2]
   by_cases q2:j≤k
   ·rw [if_pos q2,if_pos (by omega)]
   ·rw [if_neg q2,if_neg (by omega)]
theorem I1.full {n:Nat} {M:Ar} (h:I1 n n M) (hn:n≤200) (v e:Int) (L:List Evt):step3 (pCall (one1 M [] v e L) 0 (fr1 1 0 0 0)) = one1 M [] 0 2 (L++[⟨0,9,0,0,0⟩]):=by
 refine pop_empty h.ia.m0 ?_
 rw [h.ia.v0,h.hd,word_idx (nx_bd hn).1 (nx_bd hn).2]
 unfold nx
 rw [if_neg (by omega)]
structure I2 (n k:Nat) (M:Ar):Prop where
 ia:IA n M
 hd:M.W.getD 0 0 = pWord ((n:Int)+k) k 0
 ln:∀ j,1≤j→j≤k→M.W.getD (124+4 * j) 0 = (j:Int) - 1
 gs:∀ j,1≤j→j≤n→M.G.getD j 0 = if j≤k then 0 else 1
def down (n k:Nat):List Int:=(List.range k).map (fun (i:Nat)=>(n:Int) - i)
theorem down_succ (n k:Nat):down n (k+1) = down n k++[(n:Int) - k]:=by simp [down,List.range_succ]
theorem down_mem {n k:Nat} {x:Int} (h:x ∈ down n k):(n:Int) - k < x:=by
 unfold down at h
 obtain ⟨i,hi,rfl⟩:=List.mem_map.1 h
 have:=List.mem_range.1 hi
 omega
theorem I2.walkAt {n:Nat} {M:Ar} (h:I2 n n M) (hn:n≤200):∀ k,k≤n→WalkAt M ((n:Int) - k) (down n k)
 | 0,_=>by
  have:=WalkAt.start M
  rw [h.ia.v0,h.hd,word_idx (by omega) (by omega)] at this
  simpa [down] using this
 | k+1,hk=>by
  have ih:=I2.walkAt h hn k (by omega)
  have hg:=h.ia.g
  have:=ih.next (by omega) (by omega) (fun hm=>by have:=down_mem hm;omega)
  rw [show (n:Int) - k = ((n - k:Nat):Int) by omega,h.ia.vl hn (by omega) (by omega),h.ln (n - k) (by omega) (by omega)] at this
  rw [down_succ,show (n:Int) - (k+1:Nat) = ((n - k:Nat):Int) - 1 by omega,show (n:Int) - k = ((n - k:Nat):Int) by omega]
  exact this
theorem I2.walk {n:Nat} {M:Ar} (h:I2 n n M) (hn:n≤200):pWalk M = some (down n n):=by
 have:=h.walkAt hn n (Nat.le_refl _)
 rw [show (n:Int) - n = 0 by omega] at this
 exact this.done
def stA (n:Nat):Nat→Sy
 | 0=>syMem (syNew 1 n) (pFill (syNew 1 n).M)
 | k+1=>step3 (pCall (stA n k) 0 (fr1 1 0 0 0))
theorem new_rt {n:Nat} (h1:1≤n) (h2:n≤200):Rt (mNew n):=⟨by simp [mNew];omega,by simp [mNew];omega,by simp [mNew];omega⟩
theorem stA0 {n:Nat} (h1:1≤n) (h2:n≤200):∃ M,stA n 0 = one1 M [] 0 0 []∧I1 n 0 M:=by
 have hr:=new_rt h1 h2
 have hf:=fill_W hr
 have hl:=pFill_len (mNew n)
 have hgl:(mNew n).G.length = n+1:=by simp [mNew];omega
 refine ⟨pFill (mNew n),rfl,⟨by rw [hl.2,hgl],by rw [hl.1];simp [mNew],hf.2,fill_in hr (fun x hx=>by simp [mNew] at hx;omega)⟩,?_,fun j j1 j2=>?_,fun j j1 j2=>?_⟩
 ·rw [List.getD_eq_getElem?_getD,hf.1 0]
  unfold gw nx pWord
  rw [if_pos rfl,if_pos (by omega)]
  rfl
 ·have:=fill_link hr (i:=j) j1 (by omega)
  rw [link_nat h2 j2,mVal_in (by rw [hl.1];simp [mNew];omega)] at this
  rw [this,hgl]
  unfold nx
  by_cases q:j+1 = n+1
  ·rw [if_pos q,if_neg (by omega)]
  ·rw [if_neg q,if_pos (by omega)]
 ·rw [hl.2,if_neg (by omega),List.getD_eq_getElem?_getD]
  simp only [mNew]
  rw [List.getElem?_replicate,if_pos (by omega)]
  rfl
set_option linter.unusedVariables false
def cF (x:Co) (F:List Fr):Co:=⟨F,x.v,x.e,x.x0,x.x1,x.x2,x.ret⟩
theorem at_core {s:Sy} {k:Nat} {x:Co} (h:s.C[k]? = some x):pAt s (k:Int) = some x:=by
 have hk:=(List.getElem?_eq_some_iff.1 h).1
 have h1:syHas s (k:Int) = true:=by simp [syHas];omega
 simp [pAt,h1,h]
section
variable {s:Sy} {k n:Nat} {x:Co} {r0 r1:Int}
end
def hdN (l:List Nat):Int:=(l.headD 0:Nat)
structure Tri (n T:Nat) (l:List Nat) (M:Ar):Prop where
 ia:IA n M
 hd:M.W.getD 0 0 = pWord T (hdN l) 0
 nd:l.Nodup
 rg:∀ j ∈ l,1≤j∧j≤n
 ch:∀ a j r,l = a++j :: r→M.W.getD (124+4 * j) 0 = hdN r
 lk:∀ j,1≤j→j≤n→0≤M.W.getD (124+4 * j) 0∧M.W.getD (124+4 * j) 0≤(n:Int)
 gs:∀ j,1≤j→j≤n→M.G.getD j 0 = if j ∈ l then 0 else 1
theorem hdN_bd {n:Nat} {l:List Nat} (h:∀ j ∈ l,1≤j∧j≤n):0≤hdN l∧hdN l≤(n:Int):=by
 unfold hdN
 cases l with
 | nil=>simp
 | cons a r=>have:=h a (by simp);simp;omega
theorem Tri.pop {n T j:Nat} {r:List Nat} {M:Ar} (h:Tri n T (j :: r) M) (hn:n≤200) (hT:T≤900) :
  Tri n (T+1) r (mTurn (mCas M 0 (mVal M 0) (pNext (mVal M 0) (hdN r) 0)) (j:Int) 1):=by
 have hj:=h.rg j (by simp)
 have hr:=hdN_bd (n:=n) (l:=r) (fun i hi=>h.rg i (by simp [hi]))
 have hh:=hdN_bd h.rg
 have hN:pNext (mVal M 0) (hdN r) 0 = pWord ((T+1:Nat):Int) (hdN r) 0:=by
  rw [h.ia.v0,h.hd,word_next (by omega) (by omega) hh.1 (by omega) hr.1 (by omega)]
  first | (congr 1;omega) | congr 1
 rw [hN]
 obtain ⟨e3,ia⟩:=cas_turn (j:=j) (z:=1) h.ia hj.1 hj.2 (word_bd (t:=((T+1:Nat):Int)) (i:=hdN r) (by omega) (by omega) hr.1 (by omega)) (h.gs j hj.1 hj.2) (by rw [if_pos (by simp)];rfl)
 rw [e3] at ia ⊢
 have hw:=h.ia.w
 have hg:=h.ia.g
 have hnd:=List.nodup_cons.1 h.nd
 refine ⟨ia,?_,hnd.2,fun i hi=>h.rg i (by simp [hi]),fun a i q e=>?_,fun i i1 i2=>?_,fun i i1 i2=>?_⟩
 ·show (M.W.set 0 _).getD 0 0 = _
  rw [getD_set _ _ _ _ (by omega),if_pos rfl]
 ·show (M.W.set 0 _).getD _ 0 = _
  rw [getD_set _ _ _ _ (by omega),if_neg (by omega)]
  exact h.ch (j :: a) i q (by rw [e];rfl)
 ·show 0≤(M.W.set 0 _).getD _ 0∧_
  rw [getD_set _ _ _ _ (by omega),if_neg (by omega)]
  exact h.lk i i1 i2
 ·show (M.G.set j 1).getD i 0 = _
  rw [getD_set _ _ _ _ (by omega)]
  by_cases q:j = i
  ·subst q;rw [if_pos rfl,if_neg hnd.1]
  ·rw [if_neg q,h.gs i i1 i2]
   by_cases q2:i ∈ r
   ·rw [if_pos (by simp [q2]),if_pos q2]
   ·rw [if_neg (by simp [q2];omega),if_neg q2]
theorem Tri.link {n T p:Nat} {l:List Nat} {M:Ar} (h:Tri n T l M) (hn:n≤200) (p1:1≤p) (p2:p≤n) (hp:p ∉ l) {v:Int} (v0:0≤v) (v1:v≤(n:Int)) :
  Tri n T l (mStore M (pLink (p:Int)) v)∧(mStore M (pLink (p:Int)) v).W.getD (124+4 * p) 0 = v∧(∀ j,1≤j→j≤n→j ≠ p→(mStore M (pLink (p:Int)) v).W.getD (124+4 * j) 0 = M.W.getD (124+4 * j) 0)∧mVal (mStore M (pLink (p:Int)) v) 0 = mVal M 0:=by
 have hw:=h.ia.w
 have hg:=h.ia.g
 have hlt:124+4 * p < M.W.length:=by omega
 rw [link_nat hn p2]
 have a1:=mStore_in (m:=M) hlt v
 have a2:=mStore_bad (m:=M) hlt (by omega) v
 have a3:=(mStore_len M ((124+4 * p:Nat):Int) v).2
 obtain ⟨M1,hM1⟩:∃ m,m = mStore M ((124+4 * p:Nat):Int) v:=⟨_,rfl⟩
 rw [← hM1] at a1 a2 a3 ⊢
 have ia1:IA n M1:=⟨by rw [a3];exact hg,by rw [a1];simp [hw],by rw [a2];exact h.ia.bad,by rw [a1];exact mem_set h.ia.inn (by omega)⟩
 have ho:∀ j,1≤j→j≤n→j ≠ p→M1.W.getD (124+4 * j) 0 = M.W.getD (124+4 * j) 0:=fun j j1 j2 j3=>by
  rw [a1,getD_set _ _ _ _ hlt,if_neg (by omega)]
 have hs:M1.W.getD (124+4 * p) 0 = v:=by rw [a1,getD_set _ _ _ _ hlt,if_pos rfl]
 have h0:M1.W.getD 0 0 = M.W.getD 0 0:=by rw [a1,getD_set _ _ _ _ hlt,if_neg (by omega)]
 refine ⟨⟨ia1,by rw [h0];exact h.hd,h.nd,h.rg,fun a j r e=>?_,fun j j1 j2=>?_,fun j j1 j2=>by rw [a3];exact h.gs j j1 j2⟩,hs,ho,by rw [ia1.v0,h.ia.v0,h0]⟩
 ·have hj:j ∈ l:=by rw [e];simp
  have hjr:=h.rg j hj
  rw [ho j hjr.1 hjr.2 (fun q=>hp (q ▸ hj))]
  exact h.ch a j r e
 ·by_cases q:j = p
  ·subst q;rw [hs];exact ⟨v0,v1⟩
  ·rw [ho j j1 j2 q];exact h.lk j j1 j2
theorem Tri.walkAt {n T:Nat} {l:List Nat} {M:Ar} (h:Tri n T l M) (hn:n≤200):∀ (k:Nat) (a r:List Nat),a.length = k→l = a++r→WalkAt M (hdN r) (a.map (fun (i:Nat)=>(i:Int)))
 | 0,a,r,ha,e=>by
  have:a = []:=List.length_eq_zero_iff.mp ha
  subst this
  have hh:=hdN_bd h.rg
  have:=WalkAt.start M
  rw [h.ia.v0,h.hd,word_idx hh.1 (by omega)] at this
  simp only [List.nil_append] at e
  rw [← e]
  exact this
 | k+1,a,r,ha,e=>by
  rcases List.eq_nil_or_concat a with q | ⟨b,j,q⟩
  ·rw [q] at ha;simp at ha
  ·have q':a = b++[j]:=by simpa using q
   subst q'
   have e2:l = b++j :: r:=by rw [e];simp
   have hj:=h.rg j (by rw [e2];simp)
   have hg:=h.ia.g
   have w0:=Tri.walkAt h hn k b (j :: r) (by simp at ha;exact ha) e2
   have hnd:j ∉ b:=by
    have:=h.nd
    rw [e2,List.nodup_append] at this
    exact fun hm=>this.2.2 j hm j (by simp) rfl
   have:=w0.next (show 1≤hdN (j :: r) by simp [hdN];omega) (show hdN (j :: r)≤_ by simp [hdN];omega) (fun hm=>by
    obtain ⟨i,hi,q⟩:=List.mem_map.1 hm
    have:i = j:=by simp [hdN] at q;omega
    exact hnd (this ▸ hi))
   rw [show hdN (j :: r) = ((j:Nat):Int) by simp [hdN],h.ia.vl hn hj.1 hj.2,h.ch b j r e2] at this
   simpa using this
theorem Tri.walk {n T:Nat} {l:List Nat} {M:Ar} (h:Tri n T l M) (hn:n≤200):pWalk M = some (l.map (fun (i:Nat)=>(i:Int))):=by
 have:=h.walkAt hn l.length l [] rfl (by simp)
 exact this.done
set_option linter.unusedVariables false
theorem core_call {s:Sy} {k:Nat} {x:Co} (h:s.C[k]? = some x) (hl:x.F.length < 40) (g:Fr):pCall s (k:Int) g = ⟨s.M,s.C.set k (cF x (x.F++[g])),s.L⟩:=by
 unfold pCall;rw [at_core h]
 have e:¬ 40≤x.F.length:=by omega
 simp [e,syWith,coCall,cF]
theorem core_top {s:Sy} {k:Nat} {x:Co} {F:List Fr} {f:Fr} (h:s.C[k]? = some x) (hF:x.F = F++[f]):pTop s (k:Int) = some f:=by
 unfold pTop;rw [at_core h];simp [hF]
theorem core_set {s:Sy} {k:Nat} {x:Co} {F:List Fr} {f:Fr} (h:s.C[k]? = some x) (hF:x.F = F++[f]) (g:Fr):pSet s (k:Int) g = ⟨s.M,s.C.set k (cF x (F++[g])),s.L⟩:=by
 unfold pSet;rw [at_core h];simp [hF,syWith,coSet,cF]
theorem core_back {s:Sy} {k:Nat} {x:Co} {F:List Fr} {f:Fr} (h:s.C[k]? = some x) (hF:x.F = F++[f]) (v e:Int):pBack s (k:Int) v e = ⟨s.M,s.C.set k ⟨F,v,e,x.x0,x.x1,x.x2,x.ret⟩,s.L⟩:=by
 unfold pBack;rw [at_core h];simp [hF,syWith,coBack]
theorem Ok4.haz {b:Nat} {s:Sy} (h:Ok4 b s) (i:Int):Ok4 b (pHaz s i):=by
 unfold pHaz
 cases ht:pTop s i with
 | none=>exact h
 | some f =>
  have hS:=top_S h.few ht
  dsimp only
  split
  ·unfold pProt
   have hl:Ok4 b (syMem s (mLoad s.M (f.R.getD 0 0))):=h.mem rfl rfl
   repeat' split
   ·exact hl.back _ _ _
   ·exact hl.set (by exact hS) _
   ·have hst:=mStore_len s.M (pPlace i (f.R.getD 1 0)) (pIdx (f.R.getD 2 0))
    exact Ok4.set (h.mem hst.1 (congrArg List.length hst.2)) (by exact hS) _
   ·exact hl.back _ _ _
   ·exact hl.set (by exact hS) _
   ·exact h
  ·split
   ·unfold pClr
    have hst:=fun p=>mStore_len s.M p 0
    repeat' split
    ·exact h
    ·exact Ok4.back (h.mem (hst _).1 (congrArg List.length (hst _).2)) _ _ _
    ·exact Ok4.set (h.mem (hst _).1 (congrArg List.length (hst _).2)) (by exact hS) _
   ·exact h
set_option linter.unusedVariables false
set_option linter.unusedSimpArgs false
end Go.Proofs.YtfipcdhodojodaaGreat
namespace Go.Proofs.YtfipcdhodojodaaGreat
open Go.RowKit
set_option linter.unusedVariables false
set_option linter.unusedSimpArgs false
set_option linter.unusedVariables false
def pThen (s:Sy) (i:Int) (f:Fr) (pc op a:Int):Sy:=pCall (pSet s i ⟨f.op,pc,f.R,f.S⟩) i (frS op a)
def pV (s:Sy) (i:Int):Int:=match pAt s i with
 | none=>0
 | some x=>x.v
def pE (s:Sy) (i:Int):Int:=match pAt s i with
 | none=>0
 | some x=>x.e
def pAlloc (s:Sy) (i:Int) (f:Fr) (d:Sy):Sy :=
 if f.pc = 0 then pThen s i f 1 1 0
 else if f.pc = 1 then
  if pE s i = 0 then pBack s i (pV s i) 0
  else if (pRet s i).length = 0 then pBack s i 0 2
  else pThen s i f 2 6 0
 else if f.pc = 2 then pThen s i f 3 1 0
 else if f.pc = 3 then pBack s i (pV s i) (pE s i)
 else d
def pDrop (s:Sy) (i:Int) (f:Fr) (d:Sy):Sy :=
 if f.pc = 0 then pThen s i f 1 2 (f.R.getD 0 0)
 else if f.pc = 1 then pBack s i (f.R.getD 0 0) 0
 else d
def pAlc (s:Sy) (i:Int):Sy:=match pTop s i with
 | none=>s
 | some f=>if f.op = 7 then pAlloc s i f s else if f.op = 8 then pDrop s i f s else pScan s i
theorem pV_nat {s:Sy} {k:Nat} {x:Co} (hx:s.C[k]? = some x):pV s (k:Int) = x.v:=by unfold pV;rw [pAt_nat hx]
theorem pE_nat {s:Sy} {k:Nat} {x:Co} (hx:s.C[k]? = some x):pE s (k:Int) = x.e:=by unfold pE;rw [pAt_nat hx]
set_option linter.unusedVariables false
theorem pRet_len {s:Sy} (h:SyFew s) (i:Int):(pRet s i).length≤1000000:=by
 unfold pRet
 rcases pAt_cases s i with ⟨_,_,h2⟩ | ⟨k,x,rfl,hk,hx,_,h2⟩
 ·rw [h2];simp
 ·rw [h2];exact (h.2.2.2.2 x (List.mem_of_getElem? hx)).1
theorem keep_M (s:Sy) (i:Int) (l:List Int):(pKeep s i l).M = s.M:=by
 unfold pKeep;split <;> rfl
theorem Ok4.keep {b:Nat} {s:Sy} (h:Ok4 b s) {l:List Int} (hl:l.length≤1000000) (i:Int):Ok4 b (pKeep s i l):=by
 unfold pKeep
 rcases pAt_cases s i with ⟨_,_,h2⟩ | ⟨k,x,rfl,hk,hx,_,h2⟩
 ·rw [h2];exact h
 ·rw [h2]
  exact ⟨few_keep h.few hx hl,h.g,h.l⟩
theorem mTurn_G (m:Ar) (i z:Int):(mTurn m i z).G.length = m.G.length:=by
 unfold mTurn;dsimp only;split <;> simp
theorem Ok4.more {b:Nat} {s:Sy} (h:Ok4 b s) (i n:Int) (hq:(pRet s i).length < 200):Ok4 b (pMore s i n):=by
 unfold pMore
 have h1:=h.keep (l:=pRet s i++[n]) (by simp;omega) i
 refine h1.mem ?_ ?_
 ·rw [keep_M];rfl
 ·rw [keep_M];exact mTurn_G _ _ _
theorem Ok4.retire {b:Nat} {s:Sy} (h:Ok4 b s) (i:Int) {f:Fr} (hf:f.S.length≤1000000):Ok4 b (pRetire s i f s):=by
 unfold pRetire
 split
 ·unfold pRetire0
  split
  ·exact h.back _ _ _
  ·next hq =>
   split
   ·exact (h.more i _ (by omega)).back _ _ _
   ·exact ((h.more i _ (by omega)).set (by exact hf) i).call (by simp [frS]) i
 ·split
  ·exact h.back _ _ _
  ·exact h
theorem Ok4.look {b:Nat} {s:Sy} (h:Ok4 b s) (i:Int) {f:Fr} (hf:f.S.length≤1000000):Ok4 b (pLook s i f):=by
 unfold pLook
 refine (h.mem (by rfl) (by rfl)).set ?_ i
 show (pSeen f.S _).length≤1000000
 unfold pSeen
 split
 ·next hq=>have:=hq.2;simp;omega
 ·exact hf
theorem Ok4.sweep {b:Nat} {s:Sy} (h:Ok4 b s) (i:Int) {f:Fr} (hf:f.S.length≤1000000):Ok4 b (pSweep s i f):=by
 unfold pSweep
 split
 ·exact h.back _ _ _
 ·have h1:=pRet_len h.few i
  exact ((h.keep (by simp;omega) i).set (by exact hf) i).call (by simp [frS]) i
theorem top_few {s:Sy} (h:SyFew s) {i:Int} {f:Fr} (ht:pTop s i = some f):f.S.length≤1000000:=by
 obtain ⟨k,n,x,rfl,hx,_,hf⟩:=pTop_out ht
 exact (h.2.2.2.2 x (List.mem_of_getElem? hx)).2.2 f (List.mem_of_getElem? hf)
theorem Ok4.scan {b:Nat} {s:Sy} (h:Ok4 b s) (hb:b≤999997) (i:Int):Ok4 (b+1) (pScan s i):=by
 unfold pScan
 rcases ht:pTop s i with _ | f
 ·exact h.up (by omega)
 ·have hf:=top_few h.few ht
  dsimp only
  split
  ·exact h.step hb i
  ·split
   ·exact (h.haz i).up (by omega)
   ·split
    ·exact (h.retire i hf).up (by omega)
    ·split
     ·refine Ok4.up (b:=b) ?_ (by omega)
      unfold pOScan
      split
      ·exact h.look i hf
      ·split
       ·exact h.sweep i hf
       ·exact h
     ·exact h.up (by omega)
theorem Ok4.then {b:Nat} {s:Sy} (h:Ok4 b s) (i:Int) {f:Fr} (hf:f.S.length≤1000000) (pc op a:Int):Ok4 b (pThen s i f pc op a) :=
 (h.set (f:=⟨f.op,pc,f.R,f.S⟩) hf i).call (by simp [frS]) i
theorem Ok4.alc {b:Nat} {s:Sy} (h:Ok4 b s) (hb:b≤999997) (i:Int):Ok4 (b+1) (pAlc s i):=by
 unfold pAlc
 rcases ht:pTop s i with _ | f
 ·exact h.up (by omega)
 ·have hf:=top_few h.few ht
  dsimp only
  split
  ·refine Ok4.up (b:=b) ?_ (by omega)
   unfold pAlloc
   (repeat' split) <;> first | exact h | exact h.then i hf _ _ _ | exact h.back _ _ _
  ·split
   ·refine Ok4.up (b:=b) ?_ (by omega)
    unfold pDrop
    (repeat' split) <;> first | exact h | exact h.then i hf _ _ _ | exact h.back _ _ _
   ·exact h.scan hb i
end Go.Proofs.YtfipcdhodojodaaGreat
