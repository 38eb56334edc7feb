/- Contract: is a number in a row (hazelref04.In)? -/
import Derived.Test.YtfipcdhodojodaaGreatKBas
import Derived.Test.YtfipcdhodojodaaGreatChecked
import Derived.Test.YtfipcdhodojodaaGreatKUni
import Derived.Test.YtfipcdhodojodaaGreatMTo
import Derived.WalkKit
import Derived.Deep.RegionHeld3
namespace Go.Proofs.YtfipcdhodojodaaGreat
open Go.RowKit
set_option maxHeartbeats 2000000
set_option linter.unusedVariables false
theorem contains_at {l:List Int} {p:Int} {k:Nat} (hk:k < l.length) (h:l[k] = p):decide (p ∈ l) = true:=by
 rw [decide_eq_true_iff,← h];exact List.getElem_mem hk
theorem contains_no {l:List Int} {p:Int} (h:∀ j,j < l.length→l[j]? ≠ some p):decide (p ∈ l) = false:=by
 rw [decide_eq_false_iff_not]
 intro hc
 obtain ⟨i,hi⟩:=List.mem_iff_getElem?.1 hc
 exact h i (List.getElem?_eq_some_iff.1 hi).1 hi
theorem rin_any (A:Option Addr) (c:Nat) (l:List Int) (p:Int) (w:World) (h:Row w A l) (hl:l.length≤1000000) :
  Calls Tryz.prog 76 #[.slice A l.length c,.int .i64 p] w fun e w'=>e = .returned (.bool (decide (p ∈ l)))∧w = w':=by
 go_enter Tryz.func76,Tryz.ntmps76
 go_wp2
 go_loop [5] (fun i=>∃ k:Nat,k≤l.length∧i = .int .i64 k∧Hid (∀ j,j < k→l[j]? ≠ some p)) (fun i=>l.length - (intOf i).toNat)
 case atStart=>exact ⟨0,Nat.zero_le _,rfl,hid (fun j hj=>by omega)⟩
 case round =>
  obtain ⟨k,hk,rfl,HT⟩:=hrel
  by_cases hlt:k < l.length
  ·have kl:(k:Int) < (l.length:Int):=by omega
   obtain ⟨b1,o1,rfl,hb1,hc⟩:=h.atE k hlt
   have HE:=hid (List.getElem?_eq_getElem hlt)
   obtain ⟨z,hz⟩:∃ z,z = l[k]:=⟨_,rfl⟩
   rw [← hz] at hc HE
   have HZ:=hid hz
   clear hz
   by_cases hzp:z = p
   ·have e1:(z == p) = true:=by simpa using hzp
    have HP:=hid (contains_at hlt (HZ.out.symm.trans hzp))
    clear hzp
    go_wp2_with fail
    go_ret
    exact ⟨ret_bool HP.out.symm,rfl⟩
   ·have e1:(z == p) = false:=by simpa using hzp
    have HN:=hid (show ∀ j,j < k+1→l[j]? ≠ some p from fun j hj=>by
     rcases Nat.lt_or_ge j k with q | q
     ·exact HT.out j q
     ·have:j = k:=by omega
      subst this
      rw [HE.out]
      intro e
      exact hzp (Option.some.inj e))
    clear hzp HE HZ HT
    go_wp2_with fail
    go_round
    case rel=>exact ⟨k+1,by omega,by go_num,HN⟩
    case measure=>simp [intOf];omega
  ·have kl:¬ (k:Int) < (l.length:Int):=by omega
   have HP:=hid (contains_no (fun j hj=>HT.out j (by omega)))
   go_wp2_with fail
   go_ret
   exact ⟨ret_bool HP.out.symm,rfl⟩
open Go.RowKit
set_option linter.unusedVariables false
def pLink (i:Int):Int:=wrap64 (124+4 * i)
theorem wrap64_bd (n:Int):-9223372036854775808≤wrap64 n∧wrap64 n≤9223372036854775807:=by unfold wrap64;omega
theorem pLink_bd (i:Int):-9223372036854775808≤pLink i∧pLink i≤9223372036854775807:=wrap64_bd _
theorem pLink_in {i:Int} (h0:-1000000000000≤i) (h1:i≤1000000000000):pLink i = 124+4 * i:=by unfold pLink wrap64;omega
theorem wrap_at (i k:Int):wrap64 (wrap64 (128+wrap64 (4 * wrap64 (i - 1)))+k) = wrap64 (124+4 * i+k):=by unfold wrap64;omega
def pFillTo (m:Ar):Nat→Ar
 | 0=>m
 | k+1=>mStore (pFillTo m k) (124+4 * ((k:Int)+1)) ((k:Int)+2)
def pFill (m:Ar):Ar:=mStore (mStore (pFillTo m (m.G.length - 2)) (124+4 * ((m.G.length:Int) - 1)) 0) 0 2
theorem mStore_len (m:Ar) (p v:Int):(mStore m p v).W.length = m.W.length∧(mStore m p v).G = m.G:=by
 unfold mStore
 refine ⟨?_,rfl⟩
 dsimp only
 split <;> simp
theorem pFillTo_len (m:Ar):∀ k,(pFillTo m k).W.length = m.W.length∧(pFillTo m k).G = m.G
 | 0=>⟨rfl,rfl⟩
 | k+1=>by
  have h:=pFillTo_len m k
  have h2:=mStore_len (pFillTo m k) (124+4 * ((k:Int)+1)) ((k:Int)+2)
  exact ⟨h2.1.trans h.1,h2.2.trans h.2⟩
theorem pFill_len (m:Ar):(pFill m).W.length = m.W.length∧(pFill m).G = m.G:=by
 unfold pFill
 have h:=pFillTo_len m (m.G.length - 2)
 have h2:=mStore_len (pFillTo m (m.G.length - 2)) (124+4 * ((m.G.length:Int) - 1)) 0
 have h3:=mStore_len (mStore (pFillTo m (m.G.length - 2)) (124+4 * ((m.G.length:Int) - 1)) 0) 0 2
 exact ⟨h3.1.trans (h2.1.trans h.1),h3.2.trans (h2.2.trans h.2)⟩
def pWalkFrom (m:Ar):Nat→Int→List Int→Option (List Int)
 | 0,p,out=>if p = 0 then some out else none
 | n+1,p,out=>if p = 0 then some out else if p < 1 ∨ (m.G.length:Int)≤p ∨ p ∈ out then none else pWalkFrom m n (mVal m (pLink p)) (out++[p])
def pWalk (m:Ar):Option (List Int):=pWalkFrom m m.G.length (pIdx (mVal m 0)) []
def wList (o:Option (List Int)):List Int:=o.getD []
def wIs (o:Option (List Int)):Bool:=o.isSome
theorem nodup_len {n:Nat} {l:List Int} (hd:l.Nodup) (hr:∀ x ∈ l,1≤x∧x≤(n:Int)):l.length≤n:=by
 induction n generalizing l with
 | zero =>
  match l with
  | []=>simp
  | x :: l=>have:=hr x (by simp);omega
 | succ n ih =>
  have h1:=ih (l:=l.erase ((n:Int)+1)) (hd.erase _) (fun x hx=>by
   have h2:=(List.Nodup.mem_erase_iff hd).1 hx
   have h3:=hr x h2.2
   have h4:=h2.1
   omega)
  by_cases q:((n:Int)+1) ∈ l
  ·rw [List.length_erase_of_mem q] at h1;omega
  ·rw [List.erase_of_not_mem q] at h1;omega
structure WalkAt (m:Ar) (p:Int) (out:List Int):Prop where
 nd:out.Nodup
 rg:∀ x ∈ out,1≤x∧x≤(m.G.length:Int) - 1
 eq:pWalkFrom m (m.G.length - out.length) p out = pWalk m
theorem WalkAt.len {m:Ar} {p:Int} {out:List Int} (h:WalkAt m p out) (hg:1≤m.G.length):out.length+1≤m.G.length:=by
 have:=nodup_len (n:=m.G.length - 1) h.nd (fun x hx=>by have:=h.rg x hx;omega)
 omega
theorem WalkAt.start (m:Ar):WalkAt m (pIdx (mVal m 0)) []:=⟨by simp,by simp,rfl⟩
theorem WalkAt.done {m:Ar} {out:List Int} (h:WalkAt m 0 out):pWalk m = some out:=by
 have e:=h.eq
 cases hn:m.G.length - out.length with
 | zero=>rw [hn] at e;simp [pWalkFrom] at e;exact e.symm
 | succ n=>rw [hn] at e;simp [pWalkFrom] at e;exact e.symm
theorem WalkAt.no {m:Ar} {p:Int} {out:List Int} (h:WalkAt m p out) (h0:p ≠ 0) (hp:p < 1 ∨ (m.G.length:Int)≤p ∨ p ∈ out):pWalk m = none:=by
 have e:=h.eq
 cases hn:m.G.length - out.length with
 | zero=>rw [hn] at e;simp [pWalkFrom,h0] at e;exact e.symm
 | succ n=>rw [hn] at e;unfold pWalkFrom at e;rw [if_neg h0,if_pos hp] at e;exact e.symm
theorem WalkAt.next {m:Ar} {p:Int} {out:List Int} (h:WalkAt m p out) (h1:1≤p) (h2:p≤(m.G.length:Int) - 1) (h3:p ∉ out):WalkAt m (mVal m (pLink p)) (out++[p]):=by
 have hl:=h.len (by omega)
 refine ⟨?_,?_,?_⟩
 ·rw [List.nodup_append]
  refine ⟨h.nd,by simp,fun a ha b hb=>?_⟩
  simp at hb
  subst hb
  intro e
  exact h3 (e ▸ ha)
 ·intro x hx
  rcases List.mem_append.1 hx with q | q
  ·exact h.rg x q
  ·simp at q;omega
 ·have e:=h.eq
  obtain ⟨n,hn⟩:∃ n,m.G.length - out.length = n+1:=⟨m.G.length - out.length - 1,by omega⟩
  rw [hn] at e
  unfold pWalkFrom at e
  rw [if_neg (by omega),if_neg (fun q=>by rcases q with q | q | q;omega;omega;exact h3 q)] at e
  have hn2:m.G.length - (out++[p]).length = n:=by simp;omega
  rw [hn2]
  exact e
def syMem (s:Sy) (m:Ar):Sy:=⟨m,s.C,s.L⟩
theorem few_mem {s:Sy} (h:SyFew s) {m:Ar} (h0:m.W.length = s.M.W.length) (h1:m.G.length = s.M.G.length):SyFew (syMem s m):=by
 obtain ⟨f0,f1,f2,f3,f4⟩:=h
 exact ⟨by simp only [syMem];omega,by simp only [syMem];omega,f2,f3,f4⟩
def pSwap (s:Sy) (i:Int) (f:Fr) (seen first node nw:Int):Sy :=
 if mIs s.M 0 seen then pBack (syMem s (mTurn (mCas s.M 0 seen (pNext seen first 0)) node nw)) i node 0
 else pSet (syMem s (mCas s.M 0 seen (pNext seen first 0))) i ⟨f.op,0,f.R,f.S⟩
def pPop (s:Sy) (i:Int) (f:Fr) (d:Sy):Sy :=
 if f.pc = 0 then
  if pIdx (mVal s.M 0) = 0 then pBack (pLog (syMem s (mLoad s.M 0)) i 9 0 0 0) i 0 2
  else pSet (syMem s (mLoad s.M 0)) i ⟨f.op,1,f.R.set 0 (mVal s.M 0),f.S⟩
 else if f.pc = 1 then pSet (syMem s (mLoad s.M (pLink (pIdx (f.R.getD 0 0))))) i ⟨f.op,2,f.R.set 1 (mVal s.M (pLink (pIdx (f.R.getD 0 0)))),f.S⟩
 else if f.pc = 2 then pSwap s i f (f.R.getD 0 0) (f.R.getD 1 0) (pIdx (f.R.getD 0 0)) 1
 else d
def pPush (s:Sy) (i:Int) (f:Fr) (d:Sy):Sy :=
 if f.pc = 0 then pSet (syMem s (mLoad s.M 0)) i ⟨f.op,1,f.R.set 1 (mVal s.M 0),f.S⟩
 else if f.pc = 1 then pSet (syMem s (mStore s.M (pLink (f.R.getD 0 0)) (pIdx (f.R.getD 1 0)))) i ⟨f.op,2,f.R,f.S⟩
 else if f.pc = 2 then pSwap s i f (f.R.getD 1 0) (f.R.getD 0 0) (f.R.getD 0 0) 0
 else d
def pStep (s:Sy) (i:Int):Sy:=match pTop s i with
 | none=>s
 | some f=>if f.op = 1 then pPop s i f s else if f.op = 2 then pPush s i f s else s
theorem pSet_none {s:Sy} {i:Int} (h:pTop s i = none) (f:Fr):pSet s i f = s:=by
 unfold pTop at h
 unfold pSet
 split at h
 ·rfl
 ·next x hx =>
  have:x.F = []:=by simpa using h
  simp [this]
theorem pSet_top {s:Sy} {i:Int} {f:Fr} (h:pTop s i = some f):pSet s i f = s:=by
 unfold pTop at h
 unfold pSet
 rcases pAt_cases s i with ⟨_,_,h2⟩ | ⟨k,x,rfl,hk,hx,_,h2⟩
 ·rw [h2] at h;cases h
 ·rw [h2] at h ⊢
  dsimp only at h ⊢
  have hne:x.F ≠ []:=fun e=>by rw [e] at h;cases h
  have hl:x.F.length ≠ 0:=fun e=>hne (List.length_eq_zero_iff.mp e)
  rw [if_neg hl]
  have e1:x.F.set (x.F.length - 1) f = x.F:=by
   rw [List.getLast?_eq_getElem?] at h
   apply List.ext_getElem?
   intro j
   by_cases q:x.F.length - 1 = j
   ·subst q;rw [List.getElem?_set_self (by omega),h]
   ·rw [List.getElem?_set_ne q]
  have e2:coSet x (x.F.length - 1) f = x:=by unfold coSet;rw [e1]
  rw [e2]
  unfold syWith
  have e3:s.C.set (k:Int).toNat x = s.C:=by
   apply List.ext_getElem?
   intro j
   by_cases q:(k:Int).toNat = j
   ·subst q;rw [List.getElem?_set_self (by simpa using hk)];simpa using hx.symm
   ·rw [List.getElem?_set_ne q]
  rw [e3]
open Go.RowKit
set_option linter.unusedVariables false
set_option linter.unusedSimpArgs false
theorem heap_at (w:World) (o:Obj) (n:Nat) (h:n = w.heap.size):(w.alloc o).heap[n]? = some o:=by
 subst h
 exact heap_alloc_new w o
theorem load_o (A A':Option Addr) (c c':Nat) (m:Ar) (p:Int) (w:World) (hW:Row w A m.W) (hG:Row w A' m.G) (h0:m.W.length≤1000000) (h1:m.G.length≤1000000) (h2:2≤m.G.length) (hp:-9223372036854775808≤p) (hq:p≤9223372036854775807) :
  Calls Tryz.prog 105 #[.agg #[.slice A m.W.length c,.slice A' m.G.length c',.bool m.bad],.int .i64 p] w (RetMem2O w A A' (mLoad m p) (.int .i64 (mVal m p))):=by
 go_enter Tryz.func105,Tryz.ntmps105
 go_wp2_with (go_at_call 69;refine (touch_load _ _ _ _ m p (w.heap.size+1+1) w _ hW hG (bstep (bstep (boxed _ _) (boxed _ _)) (boxed _ _)) h0 h1 h2 hp hq (by simp [go_sem]) (by simp [go_sem]) (by omega) (by simp)).mono ?_;rintro e wk ⟨C1,C2,e1,e2,rfl,S1,S2,hk,hc,F1,F2⟩;have hc':wk.cell? ⟨w.heap.size+1+1,0,none⟩ = some (.int .i64 (mVal m p)):=hc;clear hc;obtain ⟨gc,gf⟩:=bcellB hk;have hz:w.heap.size+1+1 < wk.heap.size:=(by have:=hk.size;simp at this;omega);have hz0:w.heap.size+1 < wk.heap.size:=(by omega);have hz2:w.heap.size+1 < w.heap.size+1+1:=(by omega))
 go_region
 all_goals go_wp2
 refine bodyPost_ret (v:=.tuple #[.agg #[.slice C1 (mLoad m p).W.length e1,.slice C2 (mLoad m p).G.length e2,.bool (mLoad m p).bad],.int .i64 (mVal m p)]) (by simp [results,Tryz.results105,go_sem,gc,hz0,hz2]) rfl ?_
 have hz1:wk.heap[w.heap.size+1]? = some (.cells #[.slice none 0 0,.slice none 0 0,.bool false] 26 (0,0)):=(hk.block _ (by omega)).trans ((heap_alloc_old _ _ (by simp)).trans (heap_alloc2_new w _ _))
 exact RetMem2O.mk rfl rfl rfl ((S1.far3 hz1 _ _ _).alloc _).drew ((S2.far3 hz1 _ _ _).alloc _).drew (bstep (keep3 ((bstep (bstep (boxed _ _) (boxed _ _)) (boxed _ _)).trans (hk.mono (by omega))) (by omega) _ _ _) (boxed _ _)).drew (F1.any.up (by simp;omega)) (F2.any.up (by simp;omega))
theorem store_o (A A':Option Addr) (c c':Nat) (m:Ar) (p y:Int) (w:World) (hW:Row w A m.W) (hG:Row w A' m.G) (h0:m.W.length≤1000000) (h1:m.G.length≤1000000) (h2:2≤m.G.length) (hp:-9223372036854775808≤p) (hq:p≤9223372036854775807) :
  Calls Tryz.prog 55 #[.agg #[.slice A m.W.length c,.slice A' m.G.length c',.bool m.bad],.int .i64 p,.int .i64 y] w (RetMemO w A A' (mStore m p y)):=by
 go_enter Tryz.func55,Tryz.ntmps55
 go_wp2_with (go_at_call 69;refine (touch_store _ _ _ _ m p y (w.heap.size+1) w _ hW hG (bstep (bstep (boxed _ _) (boxed _ _)) (boxed _ _)) h0 h1 h2 hp hq (by simp [go_sem]) (by omega) (by simp)).mono ?_;rintro e wk ⟨C1,C2,e1,e2,rfl,S1,S2,hk,_,F1,F2⟩;obtain ⟨gc,gf⟩:=bcell hk;have hz:w.heap.size+1+1 < wk.heap.size:=(by have:=hk.size;simp at this;omega))
 refine bodyPost_ret (v:=.agg #[.slice C1 (mStore m p y).W.length e1,.slice C2 (mStore m p y).G.length e2,.bool (mStore m p y).bad]) (by simp [results,Tryz.results55,go_sem,gc,hz]) rfl ?_
 have hz1:wk.heap[w.heap.size+1+1]? = some (.cells #[.slice none 0 0,.slice none 0 0,.bool false] 26 (0,0)):=(hk.block _ (by simp)).trans (heap_at _ _ _ (by simp))
 exact RetMemO.mk rfl rfl rfl (S1.far3 hz1 _ _ _) (S2.far3 hz1 _ _ _) (keep3 (bstep (bstep (bstep (boxed _ _) (boxed _ _)) (boxed _ _)) hk) (by omega) _ _ _) (F1.any.up (by simp;omega)) (F2.any.up (by simp;omega))
theorem cas_o (A A':Option Addr) (c c':Nat) (m:Ar) (p old now:Int) (w:World) (hW:Row w A m.W) (hG:Row w A' m.G) (h0:m.W.length≤1000000) (h1:m.G.length≤1000000) (h2:2≤m.G.length) (hp:-9223372036854775808≤p) (hq:p≤9223372036854775807) :
  Calls Tryz.prog 117 #[.agg #[.slice A m.W.length c,.slice A' m.G.length c',.bool m.bad],.int .i64 p,.int .i64 old,.int .i64 now] w (RetMem2O w A A' (mCas m p old now) (.bool (mIs m p old))):=by
 go_enter Tryz.func117,Tryz.ntmps117
 go_wp2_with (go_at_call 69;refine (touch_cas _ _ _ _ m p old now (w.heap.size+1+1+1+1) (w.heap.size+1) (w.heap.size+1+1) w _ hW hG (bstep (bstep (bstep (bstep (boxed _ _) (boxed _ _)) (boxed _ _)) (boxed _ _)) (boxed _ _)) h0 h1 h2 hp hq (by simp [go_sem]) (by simp [go_sem]) (by simp [go_sem]) (by simp [go_sem]) (by omega) (by simp) (by omega) (by omega)).mono ?_;rintro e wk ⟨C1,C2,e1,e2,rfl,S1,S2,hk,hc,F1,F2⟩;have hc':wk.cell? ⟨w.heap.size+1+1+1+1,0,none⟩ = some (.bool (mIs m p old)):=hc;clear hc;obtain ⟨gc,gf⟩:=bcellB hk;have hz:w.heap.size+1+1+1+1 < wk.heap.size:=(by have:=hk.size;simp at this;omega);have hz0:w.heap.size+1+1+1 < wk.heap.size:=(by omega);have hz2:w.heap.size+1+1+1 < w.heap.size+1+1+1+1:=(by omega))
 go_region
 all_goals go_wp2
 refine bodyPost_ret (v:=.tuple #[.agg #[.slice C1 (mCas m p old now).W.length e1,.slice C2 (mCas m p old now).G.length e2,.bool (mCas m p old now).bad],.bool (mIs m p old)]) (by simp [results,Tryz.results117,go_sem,gc,hz0,hz2]) rfl ?_
 have hz1:wk.heap[w.heap.size+1+1+1]? = some (.cells #[.slice none 0 0,.slice none 0 0,.bool false] 26 (0,0)):=(hk.block _ (by omega)).trans ((heap_alloc_old _ _ (by simp)).trans (heap_at _ _ _ (by simp)))
 exact RetMem2O.mk rfl rfl rfl ((S1.far3 hz1 _ _ _).alloc _).drew ((S2.far3 hz1 _ _ _).alloc _).drew (bstep (keep3 ((bstep (bstep (bstep (bstep (boxed _ _) (boxed _ _)) (boxed _ _)) (boxed _ _)) (boxed _ _)).trans (hk.mono (by omega))) (by omega) _ _ _) (boxed _ _)).drew (F1.any.up (by simp;omega)) (F2.any.up (by simp;omega))
theorem store_any (A A':Option Addr) (c c':Nat) (m:Ar) (p y:Int) (w:World) (hW:Row w A m.W) (hG:Row w A' m.G) (h0:m.W.length≤1000000) (h1:m.G.length≤1000000) (h2:2≤m.G.length) (hp:-9223372036854775808≤p) (hq:p≤9223372036854775807) :
  Calls Tryz.prog 55 #[.agg #[.slice A m.W.length c,.slice A' m.G.length c',.bool m.bad],.int .i64 p,.int .i64 y] w (RetMem w (mStore m p y)):=(store_o A A' c c' m p y w hW hG h0 h1 h2 hp hq).mono fun _ _ h=>h.weak
end Go.Proofs.YtfipcdhodojodaaGreat
namespace Go.Proofs.YtfipcdhodojodaaGreat
namespace Pk
open Go.RowKit
theorem ret_int {k:IntKind} {a b:Int} (h:a = b):Ending.returned (.int k a) = .returned (.int k b):=by rw [h]
theorem cut0 (a k m:Int) (w:World) (hk:k = 1∧m = 2 ∨ k = 20∧m = 1048576 ∨ k = 40∧m = 1099511627776 ∨ k = 61∧m = 2305843009213693952) :
  Calls Tryz.prog 92 #[.int .i64 a,.int .u64 k,.slice none 0 0] w fun e w'=>e = .returned (.int .i64 (a % m))∧w = w':=by
 have m1:=mask1 a
 have m20:=mask20 a
 have m40:=mask40 a
 have m61:=mask61 a
 rcases hk with ⟨rfl,rfl⟩ | ⟨rfl,rfl⟩ | ⟨rfl,rfl⟩ | ⟨rfl,rfl⟩
 all_goals
  go_enter Tryz.func92,Tryz.ntmps92
  go_wp2
  refine wp_loop_rounds 1 ?_
  rw [rounds_succ]
  go_wp2
  go_ret
  exact ⟨rfl,rfl⟩
theorem cut1 (a:Int) (b:Nat) (w:World) (hc:w.cell? ⟨b,0,none⟩ = some (.int .u64 1)) :
  Calls Tryz.prog 92 #[.int .i64 a,.int .u64 20,.slice (some ⟨b,0,none⟩) 1 1] w fun e w'=>e = .returned (.int .i64 (pIdx a))∧w = w':=by
 have m20:=mask20 (a / 2)
 go_enter Tryz.func92,Tryz.ntmps92
 go_wp2
 refine wp_loop_rounds 2 ?_
 rw [rounds_succ]
 go_wp2
 rw [rounds_succ]
 go_wp2
 go_ret
 exact ⟨rfl,rfl⟩
theorem cut2 (a:Int) (b:Nat) (w:World) (hc:w.cell? ⟨b,0,none⟩ = some (.int .u64 1)) (hd:w.cell? ⟨b,1,none⟩ = some (.int .u64 20)) :
  Calls Tryz.prog 92 #[.int .i64 a,.int .u64 40,.slice (some ⟨b,0,none⟩) 2 2] w fun e w'=>e = .returned (.int .i64 (pTag a))∧w = w':=by
 have m40:=mask40 (a / 2 / 1048576)
 go_enter Tryz.func92,Tryz.ntmps92
 go_wp2
 refine wp_loop_rounds 3 ?_
 rw [rounds_succ]
 go_wp2
 rw [rounds_succ]
 go_wp2
 rw [rounds_succ]
 go_wp2
 go_ret
 exact ⟨ret_int (by unfold pTag;omega),rfl⟩
theorem index_any (a:Int) (w:World) :
  Calls Tryz.prog 104 #[.int .i64 a] w fun e w'=>e = .returned (.int .i64 (pIdx a))∧Below w.heap.size w w':=by
 go_enter Tryz.func104,Tryz.ntmps104
 go_wp2_with (go_at_call 92;refine (cut1 _ _ _ (by go_simp)).mono ?_;rintro e w' ⟨rfl,rfl⟩)
 go_ret
 exact ⟨rfl,(Below.refl _ _).alloc (Nat.le_refl _) _⟩
theorem tag_any (a:Int) (w:World) :
  Calls Tryz.prog 126 #[.int .i64 a] w fun e w'=>e = .returned (.int .i64 (pTag a))∧Below w.heap.size w w':=by
 go_enter Tryz.func126,Tryz.ntmps126
 go_wp2_with (go_at_call 92;refine (cut2 _ _ _ (by go_simp) (by go_simp)).mono ?_;rintro e w' ⟨rfl,rfl⟩)
 go_ret
 exact ⟨rfl,(Below.refl _ _).alloc (Nat.le_refl _) _⟩
theorem fits_any (a k m:Int) (w:World) (hk:k = 1∧m = 2 ∨ k = 20∧m = 1048576 ∨ k = 40∧m = 1099511627776 ∨ k = 61∧m = 2305843009213693952) :
  Calls Tryz.prog 72 #[.int .i64 a,.int .u64 k] w fun e w'=>e = .returned (.bool (pFit a m))∧w = w':=by
 go_enter Tryz.func72,Tryz.ntmps72
 go_wp2_with (go_at_call 92;refine (cut0 _ _ _ _ hk).mono ?_;rintro e w' ⟨rfl,rfl⟩)
 go_ret
 exact ⟨rfl,rfl⟩
theorem cut0_40 (a:Int) (w:World):Calls Tryz.prog 92 #[.int .i64 a,.int .u64 40,.slice none 0 0] w fun e w'=>e = .returned (.int .i64 (a % 1099511627776))∧w = w':=cut0 _ _ _ _ (by simp)
theorem cut0_20 (a:Int) (w:World):Calls Tryz.prog 92 #[.int .i64 a,.int .u64 20,.slice none 0 0] w fun e w'=>e = .returned (.int .i64 (a % 1048576))∧w = w':=cut0 _ _ _ _ (by simp)
theorem cut0_1 (a:Int) (w:World):Calls Tryz.prog 92 #[.int .i64 a,.int .u64 1,.slice none 0 0] w fun e w'=>e = .returned (.int .i64 (a % 2))∧w = w':=cut0 _ _ _ _ (by simp)
theorem fits_40 (a:Int) (w:World):Calls Tryz.prog 72 #[.int .i64 a,.int .u64 40] w fun e w'=>e = .returned (.bool (pFit a 1099511627776))∧w = w':=fits_any _ _ _ _ (by simp)
theorem fits_20 (a:Int) (w:World):Calls Tryz.prog 72 #[.int .i64 a,.int .u64 20] w fun e w'=>e = .returned (.bool (pFit a 1048576))∧w = w':=fits_any _ _ _ _ (by simp)
theorem fits_1 (a:Int) (w:World):Calls Tryz.prog 72 #[.int .i64 a,.int .u64 1] w fun e w'=>e = .returned (.bool (pFit a 2))∧w = w':=fits_any _ _ _ _ (by simp)
theorem join_any (t i m:Int) (w:World) (ht:0≤t∧t < 1099511627776) (hi:0≤i∧i < 1048576) (hm:0≤m∧m < 2) :
  Calls Tryz.prog 73 #[.int .i64 t,.int .i64 i,.int .i64 m] w fun e w'=>e = .returned (.int .i64 (pWord t i m))∧w = w':=by
 have j1:=join20 (t * 1048576) i (by omega) (by omega) (by omega) hi.1 hi.2
 have j2:=join1 ((t * 1048576+i) * 2) m (by omega) (by omega) (by omega) hm.1 hm.2
 obtain ⟨ht0,ht1⟩:=ht
 obtain ⟨hi0,hi1⟩:=hi
 obtain ⟨hm0,hm1⟩:=hm
 go_enter Tryz.func73,Tryz.ntmps73
 go_wp2
 go_ret
 exact ⟨ret_int (by unfold pWord;omega),rfl⟩
theorem next_any (a i m:Int) (w:World) :
  Calls Tryz.prog 118 #[.int .i64 a,.int .i64 i,.int .i64 m] w fun e w'=>e = .returned (.int .i64 (pNext a i m))∧Below w.heap.size w w':=by
 obtain ⟨h0,h1⟩:=pTag_bd a
 go_enter Tryz.func118,Tryz.ntmps118
 go_wp2_with (first
  | (go_at_call 126;refine (tag_any _ _).mono ?_;rintro e w1 ⟨rfl,hb⟩)
  | (go_at_call 92;(with_reducible refine (cut0_40 _ _).mono ?_);rintro e w' ⟨rfl,rfl⟩)
  | (go_at_call 92;(with_reducible refine (cut0_20 _ _).mono ?_);rintro e w' ⟨rfl,rfl⟩)
  | (go_at_call 92;(with_reducible refine (cut0_1 _ _).mono ?_);rintro e w' ⟨rfl,rfl⟩)
  | (go_at_call 73;refine (join_any _ _ _ _ (by omega) (by omega) (by omega)).mono ?_;rintro e w' ⟨rfl,rfl⟩))
 go_ret
 exact ⟨rfl,hb⟩
theorem of_yes (t i m:Int) (w:World) (h:pOk t i m = true) :
  Calls Tryz.prog 57 #[.int .i64 t,.int .i64 i,.int .i64 m] w fun e w'=>e = .returned (.tuple #[.int .i64 (pWord t i m),.int .i64 0])∧w = w':=by
 have hb:=(pOk_iff t i m).1 h
 unfold pOk at h
 simp only [Bool.and_eq_true] at h
 obtain ⟨⟨ht,hi⟩,hm⟩:=h
 go_enter Tryz.func57,Tryz.ntmps57
 go_wp2_with (first
  | (go_at_call 72;(with_reducible refine (fits_40 _ _).mono ?_);rintro e w' ⟨rfl,rfl⟩)
  | (go_at_call 72;(with_reducible refine (fits_20 _ _).mono ?_);rintro e w' ⟨rfl,rfl⟩)
  | (go_at_call 72;(with_reducible refine (fits_1 _ _).mono ?_);rintro e w' ⟨rfl,rfl⟩)
  | (go_at_call 73;refine (join_any _ _ _ _ (by omega) (by omega) (by omega)).mono ?_;rintro e w' ⟨rfl,rfl⟩))
 go_ret2
 exact ⟨rfl,rfl⟩
theorem tmod_pos (a b:Int) (ha:0≤a):a.tmod b = a % b:=Int.tmod_eq_emod_of_nonneg ha
theorem tmod_neg (a b:Int) (hb:0 < b) (ha:a < 0):a.tmod b = a % b∧a % b = 0 ∨ a.tmod b = a % b - b∧0 < a % b:=by
 have h:=Int.tmod_eq_emod (a:=a) (b:=b)
 rw [h]
 by_cases hd:b ∣ a
 ·left;have:=Int.emod_eq_zero_of_dvd hd;simp [hd,this]
 ·right
  have h1:=Int.emod_nonneg a (b:=b) (by omega)
  have h2:a % b ≠ 0:=fun h0=>hd (Int.dvd_of_emod_eq_zero h0)
  rw [if_neg (by omega)]
  omega
theorem mod_any (a b:Int) (w:World) (hb:0 < b) (hb1:b≤4611686018427387904) :
  Calls Tryz.prog 52 #[.int .i64 a,.int .i64 b] w fun e w'=>e = .returned (.int .i64 (a % b))∧w = w':=by
 have hne:(b == 0) = false:=by simp;omega
 have h1:=Int.emod_nonneg a (b:=b) (by omega)
 have h2:=Int.emod_lt_of_pos a hb
 have h3:a.tmod b = a % b∧0≤a.tmod b ∨ a.tmod b = a % b - b∧a.tmod b < 0:=by
  by_cases ha:0≤a
  ·left;rw [tmod_pos a b ha];exact ⟨rfl,h1⟩
  ·rcases tmod_neg a b hb (by omega) with ⟨e,e0⟩ | ⟨e,e0⟩
   ·left;exact ⟨e,by omega⟩
   ·right;exact ⟨e,by omega⟩
 rcases h3 with ⟨h3,h4⟩ | ⟨h3,h4⟩
 ·have H:Hid (a.tmod b = a % b):=h3
  have h5:¬ a.tmod b < 0:=by omega
  have h6:a.tmod b≤b:=by omega
  clear h3
  go_enter Tryz.func52,Tryz.ntmps52
  go_wp2
  go_ret
  exact ⟨ret_int H.out,rfl⟩
 ·have H:Hid (a.tmod b = a % b - b):=h3
  have h6:- b≤a.tmod b:=by omega
  clear h3
  go_enter Tryz.func52,Tryz.ntmps52
  go_wp2
  go_ret
  exact ⟨ret_int (by have:=H.out;omega),rfl⟩
theorem rindex_any (a:Int) (w:World) :
  Calls Tryz.prog 30 #[.int .i64 a] w fun e w'=>e = .returned (.int .i64 (pIdx a))∧w = w':=by
 have h0:0≤a % 2097152:=by omega
 have h1:a % 2097152 < 2097152:=by omega
 go_enter Tryz.func30,Tryz.ntmps30
 go_wp2_with (go_at_call 52;refine (mod_any _ _ _ (by omega) (by omega)).mono ?_;rintro e w' ⟨rfl,rfl⟩)
 go_ret
 exact ⟨ret_int (by unfold pIdx;omega),rfl⟩
theorem rtag_any (a:Int) (w:World) :
  Calls Tryz.prog 103 #[.int .i64 a] w fun e w'=>e = .returned (.int .i64 (pTag a))∧w = w':=by
 have h0:0≤a % 2305843009213693952:=by omega
 have h1:a % 2305843009213693952 < 2305843009213693952:=by omega
 go_enter Tryz.func103,Tryz.ntmps103
 go_wp2_with (go_at_call 52;refine (mod_any _ _ _ (by omega) (by omega)).mono ?_;rintro e w' ⟨rfl,rfl⟩)
 go_ret
 exact ⟨ret_int (by unfold pTag;omega),rfl⟩
theorem rnext_any (a i m:Int) (w:World) :
  Calls Tryz.prog 95 #[.int .i64 a,.int .i64 i,.int .i64 m] w fun e w'=>e = .returned (.int .i64 (pNext a i m))∧w = w':=by
 obtain ⟨h0,h1⟩:=pTag_bd a
 have ha:0≤(pTag a+1) % 1099511627776:=by omega
 have hb:(pTag a+1) % 1099511627776 < 1099511627776:=by omega
 have hc:0≤i % 1048576:=by omega
 have hd:i % 1048576 < 1048576:=by omega
 have he:0≤m % 2:=by omega
 have hf:m % 2 < 2:=by omega
 go_enter Tryz.func95,Tryz.ntmps95
 go_wp2_with (first
  | (go_at_call 103;refine (rtag_any _ _).mono ?_;rintro e w' ⟨rfl,rfl⟩)
  | (go_at_call 52;refine (mod_any _ _ _ (by omega) (by omega)).mono ?_;rintro e w' ⟨rfl,rfl⟩))
 go_ret
 exact ⟨rfl,rfl⟩
end Pk
open Go.RowKit
set_option linter.unusedVariables false
set_option linter.unusedSimpArgs false
theorem at_w (i k:Int) (w:World):Calls Tryz.prog 71 #[.int .i64 i,.int .i64 k] w fun e w'=>e = .returned (.int .i64 (wrap64 (124+4 * i+k)))∧w = w':=by
 go_enter Tryz.func71,Tryz.ntmps71
 go_wp2
 go_ret
 exact ⟨ret_int (wrap_at i k),rfl⟩
theorem rat_w (i k:Int) (w:World):Calls Tryz.prog 31 #[.int .i64 i,.int .i64 k] w fun e w'=>e = .returned (.int .i64 (wrap64 (124+4 * i+k)))∧w = w':=by
 go_enter Tryz.func31,Tryz.ntmps31
 go_wp2
 go_ret
 exact ⟨ret_int (wrap_at i k),rfl⟩
theorem rlink_any (i:Int) (w:World):Calls Tryz.prog 31 #[.int .i64 i,.int .i64 0] w fun e w'=>e = .returned (.int .i64 (pLink i))∧w = w':=by
 have h:=rat_w i 0 w
 rw [Int.add_zero] at h
 exact h
theorem link_any (i:Int) (w:World):Calls Tryz.prog 56 #[.int .i64 i] w fun e w'=>e = .returned (.int .i64 (pLink i))∧w = w':=by
 have h:=at_w i 0 w
 rw [Int.add_zero] at h
 have H:=hid h
 clear h
 go_enter Tryz.func56,Tryz.ntmps56
 go_wp2_with (go_at_call 71;refine (H.out).mono ?_;rintro e wk ⟨rfl,rfl⟩)
 go_ret
 exact ⟨rfl,rfl⟩
theorem nodes4_any (A A':Option Addr) (c c':Nat) (m:Ar) (w:World) (h0:m.G.length≤1000000000) :
  Calls Tryz.prog 54 #[.agg #[.slice A m.W.length c,.slice A' m.G.length c',.bool m.bad]] w fun e w'=>e = .returned (.int .i64 ((m.G.length:Int) - 1))∧Below w.heap.size w w':=by
 go_enter Tryz.func54,Tryz.ntmps54
 go_wp2
 go_ret
 exact ⟨rfl,boxed _ _⟩
theorem rmem3_any (A B C L A2 B2:Option Addr) (a b c d a2 b2:Nat) (s:Sy) (m:Ar) (w:World) (h:RS w s A B C L) (hW:Row w A2 m.W) (hG:Row w B2 m.G) :
  Calls Tryz.prog 37 #[.agg (uS A B C L a b c d s),.agg #[.slice A2 m.W.length a2,.slice B2 m.G.length b2,.bool m.bad]] w fun e w'=>e = .returned (.agg #[.slice A2 m.W.length a2,.slice B2 m.G.length b2,.bool m.bad,.slice C s.C.length c,.slice L s.L.length d])∧RS w' (syMem s m) A2 B2 C L∧Below w.heap.size w w':=by
 go_enter Tryz.func37,Tryz.ntmps37
 go_wp2
 refine bodyPost_ret (v:=.agg #[.slice A2 m.W.length a2,.slice B2 m.G.length b2,.bool m.bad,.slice C s.C.length c,.slice L s.L.length d]) (by simp [results,Tryz.results37,go_sem]) rfl ?_
 have key:∀ w',Below w.heap.size w w'→RS w' (syMem s m) A2 B2 C L∧Below w.heap.size w w':=fun w' hb=>⟨⟨hW.step hb,hG.step hb,h.C.step hb,h.L.step hb⟩,hb⟩
 refine ⟨rfl,key _ ?_⟩
 exact bstep (bstep (boxed _ _) (boxed _ _)) (boxed _ _)
open Go.RowKit
set_option linter.unusedVariables false
structure Rt (m:Ar):Prop where
 g2:2≤m.G.length
 g3:m.G.length≤201
 w:m.W.length+4 = 128+4 * m.G.length
theorem Rt.of {m:Ar} (h:mRight m = true):Rt m:=by
 obtain ⟨a,b,c,_⟩:=mRight_out h
 exact ⟨a,b,c⟩
theorem mStore_in {m:Ar} {k:Nat} (h:k < m.W.length) (v:Int):(mStore m (k:Int) v).W = m.W.set k v:=by
 unfold mStore mIn
 dsimp only
 rw [decide_eq_true ⟨by omega,by omega⟩]
 simp
theorem mBad_link {m:Ar} {k:Nat} (h:k < m.W.length) (h4:k < 128 ∨ k % 4 = 0):mBad m (k:Int) = m.bad:=by
 have e:mNode m.G (k:Int) = 0:=by
  unfold mNode
  rw [if_neg (by omega)]
 unfold mBad mIn
 rw [e,decide_eq_true ⟨by omega,by omega⟩]
 simp
theorem mStore_bad {m:Ar} {k:Nat} (h:k < m.W.length) (h4:k < 128 ∨ k % 4 = 0) (v:Int):(mStore m (k:Int) v).bad = m.bad:=mBad_link h h4
theorem mVal_in {m:Ar} {k:Nat} (h:k < m.W.length):mVal m (k:Int) = m.W.getD k 0:=by
 unfold mVal mIn
 rw [decide_eq_true ⟨by omega,by omega⟩]
 simp
def fw (m:Ar) (k j:Nat):Option Int:=if 128≤j∧j≤124+4 * k∧j % 4 = 0 then some (((j - 124) / 4:Nat)+1:Int) else m.W[j]?
theorem fillTo_W {m:Ar} (h:Rt m):∀ k,k+2≤m.G.length→(∀ j,(pFillTo m k).W[j]? = fw m k j)∧(pFillTo m k).bad = m.bad
 | 0,_=>⟨fun j=>by unfold fw pFillTo;rw [if_neg (by omega)],rfl⟩
 | k+1,hk=>by
  obtain ⟨h1,h2⟩:=fillTo_W h k (by omega)
  have hl:=(pFillTo_len m k).1
  have hw:=h.w
  have e:(124+4 * ((k:Int)+1)) = ((128+4 * k:Nat):Int):=by omega
  have hlt:128+4 * k < (pFillTo m k).W.length:=by omega
  unfold pFillTo
  rw [e]
  refine ⟨fun j=>?_,(mStore_bad hlt (by omega) _).trans h2⟩
  rw [mStore_in hlt,List.getElem?_set]
  by_cases q:128+4 * k = j
  ·subst q
   unfold fw
   rw [if_pos rfl,if_pos (by omega),if_pos (by omega)]
   congr 1
   omega
  ·rw [if_neg q,h1 j]
   unfold fw
   by_cases q2:128≤j∧j≤124+4 * k∧j % 4 = 0
   ·rw [if_pos q2,if_pos (by omega)]
   ·rw [if_neg q2,if_neg (by omega)]
def gw (m:Ar) (j:Nat):Option Int:=if j = 0 then some 2 else if j = 120+4 * m.G.length then some 0 else fw m (m.G.length - 2) j
theorem fill_W {m:Ar} (h:Rt m):(∀ j,(pFill m).W[j]? = gw m j)∧(pFill m).bad = m.bad:=by
 have hw:=h.w
 have h2:=h.g2
 obtain ⟨h1,hb⟩:=fillTo_W h (m.G.length - 2) (by omega)
 have hl:=(pFillTo_len m (m.G.length - 2)).1
 have e:(124+4 * ((m.G.length:Int) - 1)) = ((120+4 * m.G.length:Nat):Int):=by omega
 have hlt:120+4 * m.G.length < (pFillTo m (m.G.length - 2)).W.length:=by omega
 unfold pFill
 rw [e]
 obtain ⟨t,ht⟩:∃ t,t = mStore (pFillTo m (m.G.length - 2)) ((120+4 * m.G.length:Nat):Int) 0:=⟨_,rfl⟩
 rw [← ht]
 have tl:t.W.length = m.W.length:=by rw [ht];exact (mStore_len _ _ _).1.trans hl
 have tb:t.bad = m.bad:=by rw [ht];exact (mStore_bad hlt (by omega) _).trans hb
 have tw:∀ j,t.W[j]? = if j = 120+4 * m.G.length then some 0 else fw m (m.G.length - 2) j:=fun j=>by
  rw [ht,mStore_in hlt,List.getElem?_set]
  by_cases q:120+4 * m.G.length = j
  ·subst q;rw [if_pos rfl,if_pos (by omega),if_pos rfl]
  ·rw [if_neg q,if_neg (fun e=>q e.symm),h1 j]
 have h0:(0:Nat) < t.W.length:=by omega
 refine ⟨fun j=>?_,?_⟩
 ·have:=mStore_in (m:=t) (k:=0) h0 2
  rw [show ((0:Nat):Int) = 0 from rfl] at this
  rw [this,List.getElem?_set]
  unfold gw
  by_cases q:0 = j
  ·subst q;rw [if_pos rfl,if_pos (by omega),if_pos rfl]
  ·rw [if_neg q,if_neg (fun e=>q e.symm),tw j]
 ·have:=mStore_bad (m:=t) (k:=0) h0 (by omega) 2
  rw [show ((0:Nat):Int) = 0 from rfl] at this
  exact this.trans tb
theorem fill_link {m:Ar} (h:Rt m) {i:Nat} (h1:1≤i) (h2:i+1≤m.G.length):mVal (pFill m) (pLink (i:Int)) = if i+1 = m.G.length then 0 else (i:Int)+1:=by
 have e:=pFill_len m
 have hw:=h.w
 have hg:=h.g3
 have e1:pLink (i:Int) = ((124+4 * i:Nat):Int):=by rw [pLink_in (by omega) (by omega)];omega
 rw [e1,mVal_in (by omega),List.getD_eq_getElem?_getD,(fill_W h).1]
 unfold gw
 rw [if_neg (by omega)]
 by_cases q:i+1 = m.G.length
 ·rw [if_pos (by omega),if_pos q];rfl
 ·rw [if_neg (by omega),if_neg q]
  unfold fw
  rw [if_pos (by omega)]
  simp only [Option.getD_some]
  omega
theorem mem_at {l:List Int} {x:Int} (h:x ∈ l):∃ j:Nat,l[j]? = some x:=by
 obtain ⟨j,hj,e⟩:=List.getElem_of_mem h
 exact ⟨j,by rw [List.getElem?_eq_getElem hj,e]⟩
theorem fill_in {m:Ar} (h:Rt m) (hm:∀ x ∈ m.W,-9223372036854775808≤x∧x≤9223372036854775807):∀ x ∈ (pFill m).W,-9223372036854775808≤x∧x≤9223372036854775807:=fun x hx=>by
 obtain ⟨j,hj⟩:=mem_at hx
 have hg:=h.g3
 rw [(fill_W h).1 j] at hj
 unfold gw fw at hj
 split at hj
 ·injection hj with hj;omega
 ·split at hj
  ·injection hj with hj;omega
  ·split at hj
   ·next q=>injection hj with hj;omega
   ·exact hm x (List.mem_of_getElem? hj)
open Go.RowKit
set_option linter.unusedVariables false
theorem pA {α:Type} (l:List α) (i:Nat) (a:α):l.toArray.setIfInBounds i a = (l.set i a).toArray:=List.setIfInBounds_toArray l i a
theorem pZ {α:Type} (x:α) (l:List α) (a:α):(x :: l).set 0 a = a :: l:=rfl
theorem pS {α:Type} (x:α) (l:List α) (n:Nat) (a:α):(x :: l).set (n+1) a = x :: l.set n a:=rfl
theorem tkW {P:Program} {md:Region.Mode} {ops:Array Oper} {Q:Exit→Act→World→Prop} {S:World→Prop} {oi:Oper} {v:Value} {fuel:Nat} {listed:Array Bool} {a:Act} {w:World} (i:Nat) (hi:ops[i]? = some oi)
  (hs:Region.noSelect ops = true) (hf:Region.free md ops listed i = true) (hr:(Region.ready md ops listed).contains i = true)
  (hQ:∀ c a w,Q (.panic c) (a.put oi.dst v) w→Q (.panic c) a w) (hw:Region.wanted oi (yielded ops a.tmps) = true) (hy:∀ w,S w→(execOp a.eval oi).run P w = .ok (.value v) w) (hS:S w)
  (h:wpAnyH P md ops Q S fuel (listed.setIfInBounds i true) (a.put oi.dst v) w):wpAnyH P md ops Q S (fuel+1) listed a w:=wpAnyH_take (i:=i) hi hs hf hr hQ (Or.inl ⟨hw,hy⟩) hS h
theorem tkU {P:Program} {md:Region.Mode} {ops:Array Oper} {Q:Exit→Act→World→Prop} {S:World→Prop} {oi:Oper} {fuel:Nat} {listed:Array Bool} {a:Act} {w:World} (i:Nat) (hi:ops[i]? = some oi)
  (hs:Region.noSelect ops = true) (hf:Region.free md ops listed i = true) (hr:(Region.ready md ops listed).contains i = true)
  (hQ:∀ c a w,Q (.panic c) (a.put oi.dst undef) w→Q (.panic c) a w) (hw:Region.wanted oi (yielded ops a.tmps) = false) (hS:S w)
  (h:wpAnyH P md ops Q S fuel (listed.setIfInBounds i true) (a.put oi.dst undef) w):wpAnyH P md ops Q S (fuel+1) listed a w:=wpAnyH_take (i:=i) (v:=undef) hi hs hf hr hQ (Or.inr ⟨hw,rfl⟩) hS h
end Go.Proofs.YtfipcdhodojodaaGreat
