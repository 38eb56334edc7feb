/- Contracts: slices that are cloned. -/
import Derived.Test.YtfipcdhodojodaaGreatChecked
import Derived.Test.YtfipcdhodojodaaGreatKBas
import Derived.RegionTactic
import Derived.Lib.SliceRun
import Derived.StillTailTactics
import Derived.LoopTactic
import Derived.Deep.RegionHeld3
import Derived.Deep.CutRange
import Derived.Deep.DrawnRows
import Derived.Deep.RegionWith
import Derived.Deep.RegionLaw
namespace Go.Proofs.YtfipcdhodojodaaGreat
open Go.RowKit
set_option maxRecDepth 100000
set_option maxHeartbeats 4000000
set_option linter.unusedVariables false
set_option linter.unusedSimpArgs false
def RetRow (w:World) (T:TypeId) (k n:Nat) (css:List (List Value)) (e:Ending) (w':World):Prop:=∃ v,e = .returned v∧w'.ownsRow w.heap.size T k v n css.flatten∧Below w.heap.size w w'
theorem infoInt:(Tryz.prog.info? 3).map (fun i=>(i.zero,i.size,i.bytes)) = some (some (.int .i64 0),1,8):=by kernel_rfl
theorem cloneInt (A:Option Addr) (n c:Nat) (css:List (List Value)) (w:World) (h:Src w A 1 css) (hn:css.length = n) (hl:n≤1000000) :
  Calls Tryz.prog 65 #[.slice A n c] w (RetRow w 3 1 n css):=by
 cases A with
 | none =>
  obtain rfl:n = 0:=by
   rcases Nat.eq_zero_or_pos n with h0 | h0
   ·exact h0
   ·obtain ⟨b,o,e,_⟩:=h.at_ (by omega)
    cases e
  obtain rfl:css = []:=List.eq_nil_of_length_eq_zero hn
  have hq:=fun w=>Go.Lib.run_eql_slice_nil (P:=Tryz.prog) w 24 _ none 0 c 0 0 Tryz.underlying24
  go_enter Tryz.func65,Tryz.ntmps65
  go_wp2
  go_ret
  exact ⟨_,rfl,World.ownsRow_nil _ _ _ _,Below.refl _ _⟩
 | some ad =>
  have hq:=fun w=>Go.Lib.run_eql_slice_nil (P:=Tryz.prog) w 24 _ (some ad) n c 0 0 Tryz.underlying24
  have h':=h.step (boxed w (.cells #[] 3))
  go_enter Tryz.func65,Tryz.ntmps65
  go_wp2_with (at_builtin;refine wpList_append_fresh rfl _ _ _ rfl 3 _ 1 8 Tryz.underlying24 infoInt rfl (by omega) w.heap.size rfl (heap_alloc_new _ _) ad c css n hn rfl h' hl (by omega) ?_;intro v' w' ho hb)
  go_ret
  exact ⟨_,rfl,ho,(boxed _ _).trans hb⟩
theorem infoFr:(Tryz.prog.info? 60).map (fun i=>(i.zero,i.size,i.bytes)) = some (some (.agg #[.int .i64 0,.int .i64 0,.int .i64 0,.int .i64 0,.int .i64 0,.int .i64 0,.int .i64 0,.int .i64 0,.int .i64 0,.int .i64 0,.slice none 0 0]),11,104):=by kernel_rfl
theorem cloneFr (A:Option Addr) (n c:Nat) (css:List (List Value)) (w:World) (h:Src w A 11 css) (hn:css.length = n) (hl:n≤1000000) :
  Calls Tryz.prog 96 #[.slice A n c] w (RetRow w 60 11 n css):=by
 cases A with
 | none =>
  obtain rfl:n = 0:=by
   rcases Nat.eq_zero_or_pos n with h0 | h0
   ·exact h0
   ·obtain ⟨b,o,e,_⟩:=h.at_ (by omega)
    cases e
  obtain rfl:css = []:=List.eq_nil_of_length_eq_zero hn
  have hq:=fun w=>Go.Lib.run_eql_slice_nil (P:=Tryz.prog) w 35 _ none 0 c 0 0 Tryz.underlying35
  go_enter Tryz.func96,Tryz.ntmps96
  go_wp2
  go_ret
  exact ⟨_,rfl,World.ownsRow_nil _ _ _ _,Below.refl _ _⟩
 | some ad =>
  have hq:=fun w=>Go.Lib.run_eql_slice_nil (P:=Tryz.prog) w 35 _ (some ad) n c 0 0 Tryz.underlying35
  have h':=h.step (boxed w (.cells #[] 60))
  go_enter Tryz.func96,Tryz.ntmps96
  go_wp2_with (at_builtin;refine wpList_append_fresh rfl _ _ _ rfl 60 _ 11 104 Tryz.underlying35 infoFr rfl (by omega) w.heap.size rfl (heap_alloc_new _ _) ad c css n hn rfl h' hl (by omega) ?_;intro v' w' ho hb)
  go_ret
  exact ⟨_,rfl,ho,(boxed _ _).trans hb⟩
theorem infoCo:(Tryz.prog.info? 39).map (fun i=>(i.zero,i.size,i.bytes)) = some (some (.agg #[.slice none 0 0,.int .i64 0,.int .i64 0,.int .i64 0,.int .i64 0,.int .i64 0,.slice none 0 0]),7,88):=by kernel_rfl
theorem cloneCo (A:Option Addr) (n c:Nat) (css:List (List Value)) (w:World) (h:Src w A 7 css) (hn:css.length = n) (hl:n≤1000000) :
  Calls Tryz.prog 81 #[.slice A n c] w (RetRow w 39 7 n css):=by
 cases A with
 | none =>
  obtain rfl:n = 0:=by
   rcases Nat.eq_zero_or_pos n with h0 | h0
   ·exact h0
   ·obtain ⟨b,o,e,_⟩:=h.at_ (by omega)
    cases e
  obtain rfl:css = []:=List.eq_nil_of_length_eq_zero hn
  have hq:=fun w=>Go.Lib.run_eql_slice_nil (P:=Tryz.prog) w 27 _ none 0 c 0 0 Tryz.underlying27
  go_enter Tryz.func81,Tryz.ntmps81
  go_wp2
  go_ret
  exact ⟨_,rfl,World.ownsRow_nil _ _ _ _,Below.refl _ _⟩
 | some ad =>
  have hq:=fun w=>Go.Lib.run_eql_slice_nil (P:=Tryz.prog) w 27 _ (some ad) n c 0 0 Tryz.underlying27
  have h':=h.step (boxed w (.cells #[] 39))
  go_enter Tryz.func81,Tryz.ntmps81
  go_wp2_with (at_builtin;refine wpList_append_fresh rfl _ _ _ rfl 39 _ 7 88 Tryz.underlying27 infoCo rfl (by omega) w.heap.size rfl (heap_alloc_new _ _) ad c css n hn rfl h' hl (by omega) ?_;intro v' w' ho hb)
  go_ret
  exact ⟨_,rfl,ho,(boxed _ _).trans hb⟩
theorem infoEv:(Tryz.prog.info? 103).map (fun i=>(i.zero,i.size,i.bytes)) = some (some (.agg #[.int .i64 0,.int .i64 0,.int .i64 0,.int .i64 0,.int .i64 0]),5,40):=by kernel_rfl
theorem cloneEv (A:Option Addr) (n c:Nat) (css:List (List Value)) (w:World) (h:Src w A 5 css) (hn:css.length = n) (hl:n≤1000000) :
  Calls Tryz.prog 82 #[.slice A n c] w (RetRow w 103 5 n css):=by
 cases A with
 | none =>
  obtain rfl:n = 0:=by
   rcases Nat.eq_zero_or_pos n with h0 | h0
   ·exact h0
   ·obtain ⟨b,o,e,_⟩:=h.at_ (by omega)
    cases e
  obtain rfl:css = []:=List.eq_nil_of_length_eq_zero hn
  have hq:=fun w=>Go.Lib.run_eql_slice_nil (P:=Tryz.prog) w 28 _ none 0 c 0 0 Tryz.underlying28
  go_enter Tryz.func82,Tryz.ntmps82
  go_wp2
  go_ret
  exact ⟨_,rfl,World.ownsRow_nil _ _ _ _,Below.refl _ _⟩
 | some ad =>
  have hq:=fun w=>Go.Lib.run_eql_slice_nil (P:=Tryz.prog) w 28 _ (some ad) n c 0 0 Tryz.underlying28
  have h':=h.step (boxed w (.cells #[] 103))
  go_enter Tryz.func82,Tryz.ntmps82
  go_wp2_with (at_builtin;refine wpList_append_fresh rfl _ _ _ rfl 103 _ 5 40 Tryz.underlying28 infoEv rfl (by omega) w.heap.size rfl (heap_alloc_new _ _) ad c css n hn rfl h' hl (by omega) ?_;intro v' w' ho hb)
  go_ret
  exact ⟨_,rfl,ho,(boxed _ _).trans hb⟩
theorem copiedFrame_any (A:Option Addr) (c:Nat) (op pc r0 r1 r2 r3 r4 r5 r6 r7:Int) (xs:List Int) (w:World) (hA:Row w A xs) (hl:xs.length≤1000000) :
  Calls Tryz.prog 46 #[.agg (uF op pc r0 r1 r2 r3 r4 r5 r6 r7 A xs c)] w fun e w' =>
   ∃ A' c',e = .returned (.agg (uF op pc r0 r1 r2 r3 r4 r5 r6 r7 A' xs c'))∧RowI (fun b=>w.heap.size≤b) w' A' xs∧Below w.heap.size w w':=by
 go_enter Tryz.func46,Tryz.ntmps46
 go_wp2_with (go_at_call 65;refine (cloneInt _ _ _ (xs.map inCells) _ (((hA.alloc _).alloc _).src) (by simp) hl).mono ?_;rintro e wk ⟨v,rfl,ho,hk⟩;obtain ⟨A',c',rfl,hr⟩:=own_rowI ho rfl;obtain ⟨gc,gf⟩:=bcell hk;have hz:w.heap.size+1 < wk.heap.size:=(by have:=hk.size;simp at this;omega);have hz0:w.heap.size < wk.heap.size:=(by omega);have p10:wk.cell? ⟨w.heap.size,10,none⟩ = some (.slice A xs.length c):=(by rw [gc _ _ (by simp;omega)];simp [go_sem]);have q0:wk.cell? ⟨w.heap.size+1,0,none⟩ = some (.int .i64 0):=(by rw [gc _ _ (by simp)];simp [go_sem]);have q1:wk.cell? ⟨w.heap.size+1,1,none⟩ = some (.int .i64 0):=(by rw [gc _ _ (by simp)];simp [go_sem]);have q2:wk.cell? ⟨w.heap.size+1,2,none⟩ = some (.int .i64 0):=(by rw [gc _ _ (by simp)];simp [go_sem]);have q3:wk.cell? ⟨w.heap.size+1,3,none⟩ = some (.int .i64 0):=(by rw [gc _ _ (by simp)];simp [go_sem]);have q4:wk.cell? ⟨w.heap.size+1,4,none⟩ = some (.int .i64 0):=(by rw [gc _ _ (by simp)];simp [go_sem]);have q5:wk.cell? ⟨w.heap.size+1,5,none⟩ = some (.int .i64 0):=(by rw [gc _ _ (by simp)];simp [go_sem]);have q6:wk.cell? ⟨w.heap.size+1,6,none⟩ = some (.int .i64 0):=(by rw [gc _ _ (by simp)];simp [go_sem]);have q7:wk.cell? ⟨w.heap.size+1,7,none⟩ = some (.int .i64 0):=(by rw [gc _ _ (by simp)];simp [go_sem]);have q8:wk.cell? ⟨w.heap.size+1,8,none⟩ = some (.int .i64 0):=(by rw [gc _ _ (by simp)];simp [go_sem]);have q9:wk.cell? ⟨w.heap.size+1,9,none⟩ = some (.int .i64 0):=(by rw [gc _ _ (by simp)];simp [go_sem]);have q10:wk.cell? ⟨w.heap.size+1,10,none⟩ = some (.slice none 0 0):=(by rw [gc _ _ (by simp)];simp [go_sem]))
 refine bodyPost_ret (v:=.agg (uF op pc r0 r1 r2 r3 r4 r5 r6 r7 A' xs c')) (by simp [results,Tryz.results46,go_sem,q0,q1,q2,q3,q4,q5,q6,q7,q8,q9,q10]) rfl ?_
 have key:∀ w',Turn (fun b=>b = w.heap.size ∨ b = w.heap.size+1) wk w'→RowI (fun b=>w.heap.size≤b) w' A' xs∧Below w.heap.size w w':=fun w' hT =>
  ⟨(hr.turn hT (fun b _ hb=>by simp at hb;omega)).mono (fun b _ hb=>by simp at hb;omega),(bstep (boxed _ _) (boxed _ _)).trans ((hk.mono (by simp;omega)).trans (hT.to_below (by omega) (fun g hg=>by omega)))⟩
 refine ⟨A',c',rfl,?_⟩
 exact key _ (by repeat (first | (with_reducible exact Turn.refl _ _) | (with_reducible refine Turn.set ?_ (by simp) _ _)))
structure Fl (x:Co) (ps:List (Option Addr × Nat)) (hB:Nat) (vF:Value) (wm:World) (k:Nat) (wr:World):Prop where
 ex:∃ ps':List (Option Addr × Nat),ps'.length = x.F.length∧wr.ownsRow hB 60 11 vF x.F.length (fsCells x.F ps').flatten ∧
  (∀ (j:Nat) (f:Fr) (p:Option Addr × Nat),x.F[j]? = some f→ps'[j]? = some p→(j < k→RowI (fun b=>wm.heap.size≤b) wr p.1 f.S)∧(k≤j→ps[j]? = some p))
 t:Turn (fun b=>vF.ownBlock = some b) wm wr
 gl:∀ g,vF.ownBlock = some g→hB≤g∧g < wm.heap.size
theorem Fl.start {x:Co} {ps:List (Option Addr × Nat)} {hB:Nat} {vF:Value} {wm:World} (hp:ps.length = x.F.length) (ho:wm.ownsRow hB 60 11 vF x.F.length (fsCells x.F ps).flatten):Fl x ps hB vF wm 0 wm :=
 ⟨⟨ps,hp,ho,fun j f p hf hpj=>⟨fun h=>by omega,fun _=>hpj⟩⟩,Turn.refl _ _,ho.lt⟩
theorem Fl.look {x:Co} {ps:List (Option Addr × Nat)} {hB g cap:Nat} {wm wr:World} {k:Nat} (h8:∀ f ∈ x.F,f.R.length = 8) (h:Fl x ps hB (.slice (some ⟨g,0,none⟩) x.F.length cap) wm k wr) {f:Fr} (hf:x.F[k]? = some f) :
  ∃ p,ps[k]? = some p∧(∀ r v,(frCells f p)[r]? = some v→wr.cell? ⟨g,k * 11+r,none⟩ = some v)∧(∀ j,wr.frozen? ⟨g,j,none⟩ = false):=by
 obtain ⟨⟨ps',hl,ho,hj⟩,t,_⟩:=h
 have hkl:k < x.F.length:=(List.getElem?_eq_some_iff.1 hf).1
 obtain ⟨p,hp⟩:=some_of hl hf
 refine ⟨p,(hj k f p hf hp).2 (Nat.le_refl _),fun r v hv=>?_,ho.frozenAt⟩
 have hr:r < 11:=by have:=(List.getElem?_eq_some_iff.1 hv).1;rw [frCells_len p (h8 f (List.mem_of_getElem? hf))] at this;exact this
 rw [ho.cellAt _ (by have:(k+1) * 11≤x.F.length * 11:=Nat.mul_le_mul_right _ hkl;omega)]
 exact flat_at (fsCells_each h8) (zip_at hf hp) hv
theorem Fl.next {x:Co} {ps:List (Option Addr × Nat)} {hB g cap:Nat} {wm wr w3:World} {k:Nat} (h8:∀ f ∈ x.F,f.R.length = 8) (h:Fl x ps hB (.slice (some ⟨g,0,none⟩) x.F.length cap) wm k wr)
  {op pc r0 r1 r2 r3 r4 r5 r6 r7:Int} {xs:List Int} (hf:x.F[k]? = some ⟨op,pc,[r0,r1,r2,r3,r4,r5,r6,r7],xs⟩) (hb:Below wr.heap.size wr w3) {A:Option Addr} {c:Nat} (hr:RowI (fun b=>wr.heap.size≤b) w3 A xs) :
  Fl x ps hB (.slice (some ⟨g,0,none⟩) x.F.length cap) wm (k+1) (((((((((((w3.setCell ⟨g,k * 11,none⟩ (.int .i64 op)).setCell ⟨g,k * 11+1,none⟩ (.int .i64 pc)).setCell ⟨g,k * 11+2,none⟩ (.int .i64 r0)).setCell ⟨g,k * 11+3,none⟩ (.int .i64 r1)).setCell ⟨g,k * 11+4,none⟩ (.int .i64 r2)).setCell ⟨g,k * 11+5,none⟩ (.int .i64 r3)).setCell ⟨g,k * 11+6,none⟩ (.int .i64 r4)).setCell ⟨g,k * 11+7,none⟩ (.int .i64 r5)).setCell ⟨g,k * 11+8,none⟩ (.int .i64 r6)).setCell ⟨g,k * 11+9,none⟩ (.int .i64 r7)).setCell ⟨g,k * 11+10,none⟩ (.slice A xs.length c)):=by
 obtain ⟨⟨ps',hl,ho,hj⟩,t,gl⟩:=h
 have hkl:k < x.F.length:=(List.getElem?_eq_some_iff.1 hf).1
 obtain ⟨p,hp⟩:=some_of hl hf
 obtain ⟨g1,g2⟩:=gl g rfl
 have h1:=own_put11 (own_step ho hb) (fsCells_each h8) (i:=k) (by rw [fsCells_len hl];exact hkl) (.int .i64 op) (.int .i64 pc) (.int .i64 r0) (.int .i64 r1) (.int .i64 r2) (.int .i64 r3) (.int .i64 r4) (.int .i64 r5) (.int .i64 r6) (.int .i64 r7) (.slice A xs.length c)
 rw [show (fsCells x.F ps').set k [.int .i64 op,.int .i64 pc,.int .i64 r0,.int .i64 r1,.int .i64 r2,.int .i64 r3,.int .i64 r4,.int .i64 r5,.int .i64 r6,.int .i64 r7,.slice A xs.length c] = fsCells x.F (ps'.set k (A,c)) from by
  have:=zip_set (f:=frCells) (us:=x.F) (ys:=ps') (i:=k) (a:=⟨op,pc,[r0,r1,r2,r3,r4,r5,r6,r7],xs⟩) (b:=(A,c))
  rw [set_same hf] at this
  exact this] at h1
 obtain ⟨h1,h2⟩:=h1
 have hT:Turn (fun b=>Value.ownBlock (.slice (some ⟨g,0,none⟩) x.F.length cap) = some b) w3 _:=(Turn.refl _ _).grown h2 (fun b hb=>by simpa [Value.ownBlock] using hb)
 refine ⟨⟨ps'.set k (A,c),by simpa using hl,h1,fun j f q hfj hq=>?_⟩,(t.below hb).trans hT,gl⟩
 by_cases e:j = k
 ·subst e
  rw [List.getElem?_set_self (by omega)] at hq
  injection hq with hq
  subst hq
  rw [hf] at hfj
  injection hfj with hfj
  subst hfj
  exact ⟨fun _=>(hr.mono (fun b _ hb=>Nat.le_trans t.size hb)).turn hT (fun b _ hb e=>by simp [Value.ownBlock] at e;omega),fun h=>by omega⟩
 ·rw [List.getElem?_set_ne (fun h=>e h.symm)] at hq
  obtain ⟨a1,a2⟩:=hj j f q hfj hq
  exact ⟨fun h=>((a1 (by omega)).keep hb.size (fun b hl _=>hb.block b hl)).turn hT (fun b _ hb e=>by simp [Value.ownBlock] at e;omega),fun h=>a2 (by omega)⟩
theorem Fl.done {x:Co} {ps:List (Option Addr × Nat)} {hB lo:Nat} {vF:Value} {AR:Option Addr} {cR:Nat} {wm wr:World} {k:Nat} (h8:∀ f ∈ x.F,f.R.length = 8) (h:Fl x ps hB vF wm k wr) (hk:x.F.length≤k) (hlo:lo≤hB)
  (hr:RowI (fun b=>lo≤b∧b < hB) wm AR x.ret) (hcR:x.ret.length≤cR) (hBm:hB≤wm.heap.size):∃ ps',CoI 60 (fun b=>lo≤b) wr x ps' vF (.slice AR x.ret.length cR):=by
 obtain ⟨⟨ps',hl,ho,hj⟩,t,gl⟩:=h
 refine ⟨ps',hl,h8,own_base ho (Nat.zero_le _),fun g hg=>Nat.le_trans hlo (gl g hg).1,fun j f p hf hp=>?_,⟨_,_,rfl,?_⟩,fun A n c e=>by injection e with _ e1 e2;subst e1 e2;exact hcR⟩
 ·have hjl:j < x.F.length:=(List.getElem?_eq_some_iff.1 hf).1
  exact ((hj j f p hf hp).1 (by omega)).mono (fun b _ hb=>⟨by omega,fun e=>by have:=gl b e;omega⟩)
 ·exact (hr.turn t (fun b _ hb e=>by have:=gl b e;omega)).mono (fun b _ hb=>⟨hb.1,fun e=>by have:=gl b e;omega⟩)
attribute [local go_sem ↓] Go.wp_at_zero Go.wp_at_succ
theorem heap2 (w0:World) (a b:Obj):((w0.alloc a).alloc b).heap[w0.heap.size]? = some a∧((w0.alloc a).alloc b).heap[w0.heap.size+1]? = some b∧((w0.alloc a).alloc b).heap.size = w0.heap.size+2:=by
 refine ⟨?_,?_,by simp⟩
 ·rw [Below.heap_alloc _ _ _ (by simp),heap_alloc_new]
 ·rw [show w0.heap.size+1 = (w0.alloc a).heap.size by simp,heap_alloc_new]
theorem copiedCore_any (AF AR:Option Addr) (cF cR:Nat) (x:Co) (w:World) (hF:RowF w AF x.F) (hR:Row w AR x.ret) (h0:x.F.length≤1000000) (h1:x.ret.length≤1000000) (h2:∀ f ∈ x.F,f.S.length≤1000000) :
  Calls Tryz.prog 83 #[.agg #[.slice AF x.F.length cF,.int .i64 x.v,.int .i64 x.e,.int .i64 x.x0,.int .i64 x.x1,.int .i64 x.x2,.slice AR x.ret.length cR]] w fun e w' =>
   ∃ ps vF vR,e = .returned (.agg #[vF,.int .i64 x.v,.int .i64 x.e,.int .i64 x.x0,.int .i64 x.x1,.int .i64 x.x2,vR])∧CoI 60 (fun b=>w.heap.size≤b) w' x ps vF vR∧Below w.heap.size w w':=by
 obtain ⟨ps,hp,hsF,h8,hS⟩:=hF.src
 have H2:=hid h2
 have H8:=hid h8
 have HS:=hid hS
 have HP:=hid hp
 clear h2 h8 hS hp
 go_enter Tryz.func83,Tryz.ntmps83
 go_wp2_with fail
 refine (cloneInt _ _ _ (x.ret.map inCells) _ (((hR.alloc _).alloc _).src) (by simp) h1).mono ?_
 rintro e wk ⟨v,rfl,ho,hk⟩
 obtain ⟨AR',cR',rfl,hr⟩:=own_rowI ho rfl
 have hcR:x.ret.length≤cR':=own_cap ho
 clear ho
 obtain ⟨b1,b2,bs⟩:=heap2 w (.cells #[.slice AF x.F.length cF,.int .i64 x.v,.int .i64 x.e,.int .i64 x.x0,.int .i64 x.x1,.int .i64 x.x2,.slice AR x.ret.length cR] 39) (.cells #[.slice none 0 0,.int .i64 0,.int .i64 0,.int .i64 0,.int .i64 0,.int .i64 0,.slice none 0 0] 39)
 rw [bs] at hr
 replace hr:RowI (fun b=>w.heap.size+2≤b∧b < wk.heap.size) wk AR' x.ret:=hr.mono (fun b hl hb=>⟨hb,hl⟩)
 have hw:Below w.heap.size w wk:=(bstep (boxed _ _) (boxed _ _)).trans (hk.mono (by simp;omega))
 have hz:w.heap.size+2≤wk.heap.size:=(by have:=hk.size;rw [bs] at this;exact this)
 replace b1:=(hk.block w.heap.size (by rw [bs];omega)).trans b1
 replace b2:=(hk.block (w.heap.size+1) (by rw [bs];omega)).trans b2
 clear hk bs
 obtain ⟨p0,p1,p2,p3,p4,p5,p6⟩:=cells7 b1
 obtain ⟨pf0,pf1,pf2,pf3,pf4,pf5,pf6⟩:=frz7 b1
 go_wp2_with fail
 have hw2:Below w.heap.size w (wk.setCell ⟨w.heap.size,6,none⟩ (.slice AR' x.ret.length cR')):=hw.setCell (by simp) _
 refine (cloneFr _ _ _ (fsCells x.F ps) _ (hsF.step hw2) (fsCells_len HP.out) h0).mono ?_
 rintro e wl ⟨v,rfl,ho,hk⟩
 obtain ⟨AF',cF',rfl,hsF2⟩:=own_src ho (fsCells_each H8.out) (fsCells_len HP.out) (fsCells_one _ _)
 clear hsF2
 have hs2:(wk.setCell ⟨w.heap.size,6,none⟩ (.slice AR' x.ret.length cR')).heap.size = wk.heap.size:=by simp [World.setCell]
 have t1:Turn (fun b=>b = w.heap.size) wk (wk.setCell ⟨w.heap.size,6,none⟩ (.slice AR' x.ret.length cR')):=(Turn.refl _ _).set (p:=fun b=>b = w.heap.size) rfl _ _
 have c1:(wk.setCell ⟨w.heap.size,6,none⟩ (.slice AR' x.ret.length cR')).heap[w.heap.size]? = some (.cells #[.slice AF x.F.length cF,.int .i64 x.v,.int .i64 x.e,.int .i64 x.x0,.int .i64 x.x1,.int .i64 x.x2,.slice AR' x.ret.length cR'] 39 (0,0)):=heap_setCell_same wk _ _ _ _ _ b1
 replace hr:=(hr.turn t1 (fun b _ hb e=>by have h3:=hb.1;omega)).keep hk.size (fun b hl _=>hk.block b hl)
 replace b1:=(hk.block w.heap.size (by rw [hs2];omega)).trans c1
 replace b2:=((hk.block (w.heap.size+1) (by rw [hs2];omega)).trans (t1.block (w.heap.size+1) (by omega) (by simp))).trans b2
 replace hw:Below w.heap.size w wl:=hw2.trans (hk.mono (by rw [hs2];omega))
 have hz2:wk.heap.size≤wl.heap.size:=by have:=hk.size;rw [hs2] at this;exact this
 rw [hs2] at ho
 clear t1 c1 hw2 p0 pf0 p1 pf1 p2 pf2 p3 pf3 p4 pf4 p5 pf5 p6 pf6
  -- the upper bound of the row of retired nodes
 obtain ⟨p0,p1,p2,p3,p4,p5,p6⟩:=cells7 b1
 obtain ⟨pf0,pf1,pf2,pf3,pf4,pf5,pf6⟩:=frz7 b1
 go_wp2_with fail
 have t2:Turn (fun b=>b = w.heap.size) wl (wl.setCell ⟨w.heap.size,0,none⟩ (.slice AF' x.F.length cF')):=(Turn.refl _ _).set (p:=fun b=>b = w.heap.size) rfl _ _
 replace b1:(wl.setCell ⟨w.heap.size,0,none⟩ (.slice AF' x.F.length cF')).heap[w.heap.size]? = some (.cells #[.slice AF' x.F.length cF',.int .i64 x.v,.int .i64 x.e,.int .i64 x.x0,.int .i64 x.x1,.int .i64 x.x2,.slice AR' x.ret.length cR'] 39 (0,0)):=heap_setCell_same wl _ _ _ _ _ b1
 replace b2:=(t2.block (w.heap.size+1) (by omega) (by simp)).trans b2
 replace hr:=hr.turn t2 (fun b _ hb e=>by have h3:=hb.1;omega)
 replace ho:=own_turn ho t2 (fun g hg e=>by have h3:=(ho.lt g hg).1;omega)
 replace hw:=hw.setCell (p:=⟨w.heap.size,0,none⟩) (by simp) (.slice AF' x.F.length cF')
 have hzm:wk.heap.size≤(wl.setCell ⟨w.heap.size,0,none⟩ (.slice AF' x.F.length cF')).heap.size:=Nat.le_trans hz2 t2.size
 clear t2 hz2 hk hs2 p0 pf0 p1 pf1 p2 pf2 p3 pf3 p4 pf4 p5 pf5 p6 pf6
 generalize wl.setCell ⟨w.heap.size,0,none⟩ (.slice AF' x.F.length cF') = wm at *
 have F0:=Fl.start HP.out ho
 clear ho
 go_loopw [15] (fun i wr=>∃ k:Nat,k≤x.F.length∧i = .int .i64 k∧Fl x ps wk.heap.size (.slice AF' x.F.length cF') wm k wr) (fun i _=>x.F.length - (intOf i).toNat)
 case atStart=>exact ⟨0,Nat.zero_le _,rfl,F0⟩
 case round =>
  obtain ⟨k,hkk,rfl,FL⟩:=hrel
  have hbr:Below w.heap.size w wr:=hw.trans (FL.t.to_below hw.size (fun g hg=>by have h3:=(FL.gl g hg).1;omega))
  have d1:=(FL.t.block w.heap.size (by omega) (fun e=>by have h3:=(FL.gl _ e).1;omega)).trans b1
  have d2:=(FL.t.block (w.heap.size+1) (by omega) (fun e=>by have h3:=(FL.gl _ e).1;omega)).trans b2
  by_cases hlt:k < x.F.length
  ·obtain ⟨g,rfl⟩:∃ g,AF' = some ⟨g,0,none⟩:=by
    obtain ⟨ps2,_,ho2,_⟩:=FL.ex
    obtain ⟨g,cap,e,_⟩:=ho2.form (by omega)
    injection e with e1
    exact ⟨g,e1⟩
   obtain ⟨f,hf⟩:∃ f,x.F[k]? = some f:=⟨_,List.getElem?_eq_getElem hlt⟩
   have hf8:=H8.out f (List.mem_of_getElem? hf)
   have hfS:=H2.out f (List.mem_of_getElem? hf)
   obtain ⟨⟨AS,cS⟩,hpk,hc,hfz⟩:=FL.look H8.out hf
   have rS:=(HS.out k f _ hf hpk).step hbr
   obtain ⟨op,pc,Rs,xs⟩:=f
   dsimp only at hf8 hfS rS
   obtain ⟨r0,r1,r2,r3,r4,r5,r6,r7,rfl⟩:=fr8 hf8
   have u0:wr.cell? ⟨g,k * 11,none⟩ = some (.int .i64 op):=hc 0 _ rfl
   have u1:wr.cell? ⟨g,k * 11+1,none⟩ = some (.int .i64 pc):=hc 1 _ rfl
   have u2:wr.cell? ⟨g,k * 11+2,none⟩ = some (.int .i64 r0):=hc 2 _ rfl
   have u3:wr.cell? ⟨g,k * 11+3,none⟩ = some (.int .i64 r1):=hc 3 _ rfl
   have u4:wr.cell? ⟨g,k * 11+4,none⟩ = some (.int .i64 r2):=hc 4 _ rfl
   have u5:wr.cell? ⟨g,k * 11+5,none⟩ = some (.int .i64 r3):=hc 5 _ rfl
   have u6:wr.cell? ⟨g,k * 11+6,none⟩ = some (.int .i64 r4):=hc 6 _ rfl
   have u7:wr.cell? ⟨g,k * 11+7,none⟩ = some (.int .i64 r5):=hc 7 _ rfl
   have u8:wr.cell? ⟨g,k * 11+8,none⟩ = some (.int .i64 r6):=hc 8 _ rfl
   have u9:wr.cell? ⟨g,k * 11+9,none⟩ = some (.int .i64 r7):=hc 9 _ rfl
   have u10:wr.cell? ⟨g,k * 11+10,none⟩ = some (.slice AS xs.length cS):=hc 10 _ rfl
   have c0:=cells1 d1
   have hg1:g < wr.heap.size:=World.block_lt_of_cell? wr _ u0
   have HF:=hid hf
   have HZ:=hid hfz
   have kl:(k:Int) < (x.F.length:Int):=by omega
   clear hc hf hfz hpk hf8 d1 d2
   go_upto_region 6 with (fail)
   obtain ⟨hg2,hg3⟩:=FL.gl g rfl
   have hng:w.heap.size < wr.heap.size:=by have:=FL.t.size;omega
   go_region_with (first
     | (go_at_call 46;(with_reducible refine (copiedFrame_any AS cS op pc r0 r1 r2 r3 r4 r5 r6 r7 xs _ (rS.step ((Below.refl _ _).drew)) hfS).mono ?_);rintro e w3 ⟨A',c',rfl,hr3,hk3⟩;have hkk:Below wr.heap.size wr w3:=bstep ((Below.refl _ _).drew) hk3;have c1:=(hkk.cell hng).trans c0;have v0:=(hkk.cell hg1).trans u0;have v1:=(hkk.cell hg1).trans u1;have v2:=(hkk.cell hg1).trans u2;have v3:=(hkk.cell hg1).trans u3;have v4:=(hkk.cell hg1).trans u4;have v5:=(hkk.cell hg1).trans u5;have v6:=(hkk.cell hg1).trans u6;have v7:=(hkk.cell hg1).trans u7;have v8:=(hkk.cell hg1).trans u8;have v9:=(hkk.cell hg1).trans u9;have v10:=(hkk.cell hg1).trans u10;have z0:=(hkk.frozen hg1).trans (HZ.out (k * 11));have z1:=(hkk.frozen hg1).trans (HZ.out (k * 11+1));have z2:=(hkk.frozen hg1).trans (HZ.out (k * 11+2));have z3:=(hkk.frozen hg1).trans (HZ.out (k * 11+3));have z4:=(hkk.frozen hg1).trans (HZ.out (k * 11+4));have z5:=(hkk.frozen hg1).trans (HZ.out (k * 11+5));have z6:=(hkk.frozen hg1).trans (HZ.out (k * 11+6));have z7:=(hkk.frozen hg1).trans (HZ.out (k * 11+7));have z8:=(hkk.frozen hg1).trans (HZ.out (k * 11+8));have z9:=(hkk.frozen hg1).trans (HZ.out (k * 11+9));have z10:=(hkk.frozen hg1).trans (HZ.out (k * 11+10))))
   all_goals go_wp2_with fail
   all_goals exact ⟨⟨k+1,by omega,by go_num,FL.next H8.out HF.out hkk (hr3.mono (fun b _ hb=>hb))⟩,by simp [intOf];omega⟩
  ·obtain ⟨ps3,CI⟩:=FL.done (lo:=w.heap.size+2) (cR:=cR') H8.out (by omega) hz hr hcR hzm
   obtain ⟨p0,p1,p2,p3,p4,p5,p6⟩:=cells7 d1
   obtain ⟨pf0,pf1,pf2,pf3,pf4,pf5,pf6⟩:=frz7 d1
   obtain ⟨q0,q1,q2,q3,q4,q5,q6⟩:=cells7 d2
   obtain ⟨qf0,qf1,qf2,qf3,qf4,qf5,qf6⟩:=frz7 d2
   go_wp2
   refine bodyPost_ret (v:=.agg #[.slice AF' x.F.length cF',.int .i64 x.v,.int .i64 x.e,.int .i64 x.x0,.int .i64 x.x1,.int .i64 x.x2,.slice AR' x.ret.length cR']) (by simp [results,Tryz.results83,go_sem,q0,q1,q2,q3,q4,q5,q6]) rfl ?_
   have key:∀ w',Turn (fun b=>b = w.heap.size+1) wr w'→CoI 60 (fun b=>w.heap.size≤b) w' x ps3 (.slice AF' x.F.length cF') (.slice AR' x.ret.length cR')∧Below w.heap.size w w':=fun w' hT =>
    ⟨(CI.turn hT (fun b _ hb e=>by omega)).mono (fun b _ hb=>by omega),hbr.trans (hT.to_below hbr.size (fun g hg=>by omega))⟩
   refine ⟨ps3,_,_,rfl,?_⟩
   exact key _ (by repeat (first | (with_reducible exact Turn.refl _ _) | (with_reducible refine Turn.set ?_ (by simp) _ _)))
theorem step_append_onto {P:Program} {w:World} {ops:Array Oper} {o:Oper} {a:Act} {K:Act→World→Prop} {Q:Exit→Act→World→Prop} {E:Prop} (hgd:o.guard = none) (s x:Operand) (t:TypeId)
  (ho:o.op = .call { callee:=.builtin .append,args:=#[s,x],argTypes:=#[t,t] })
  (base:Nat) (e:TypeId) (z:Value) (size bytes:Nat) (ht:P.underlying t = some (.slice e)) (hinfo:(P.info? e).map (fun i=>(i.zero,i.size,i.bytes)) = some (some z,size,bytes)) (hzs:z.cells.size = size) (hsz:0 < size)
  (v:Value) (n:Nat) (xs:List Value) (hs:a.eval s = v) (hown:w.ownsRow base e size v n xs)
  (ad:Addr) (m c:Nat) (news:List Value) (hx:a.eval x = .slice (some ad) m c) (hl:news.length = m * size) (hnews:∀ j u,news[j]? = some u→w.cell? (ad.add j) = some u) (h1:∀ u ∈ news,u.oneCell' = true)
  (hlen:n+m≤1000000) (hby:bytes≤1000) (hbase:base≤w.heap.size)
  (h:∀ v' w',w'.ownsRow base e size v' (n+m) (xs++news)→w.grownBy w' v.ownBlock→(v'.ownBlock = v.ownBlock ∨ v'.ownBlock = some w.heap.size)→K (a.put o.dst v') w') :
  if Region.wanted o (yielded ops a.tmps) = true then Oper.wp P o a w K Q else E:=by
 have hw:Region.wanted o (yielded ops a.tmps) = true:=by simp [Region.wanted,hgd]
 rw [if_pos hw]
 obtain ⟨i,hi,hz0,hz1,hz2⟩:=info_parts hinfo
 have hb1:(n+m) * bytes≤140737488355328:=Nat.le_trans (Nat.mul_le_mul hlen hby) (by omega)
 obtain ⟨v',w',hr,h2,h3,_,h5⟩:=run_append_own_at (P:=P) w base t o.type e i z size bytes ht hi hz0 hz1 hz2 hzs hsz v n xs hown ad m c news hl hnews h1 (by simp only [maxLen];omega) hb1 hbase
 unfold Oper.wp execOp
 simp only [ho,resolve,invoke,builtin,Sem.run_bind,Sem.run_pure,Result.andThen_ok,List.map_toArray,List.map_cons,List.map_nil,hs,hx,hr]
 exact h v' w' h2 h3 h5
end Go.Proofs.YtfipcdhodojodaaGreat
