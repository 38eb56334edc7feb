/- A map of slices of closures, as a call makes it. Contract: scan.steps, by the program. -/
import Derived.Test.YthpflcknommpdaaScn5
import Derived.Maps.Own
import Derived.Maps.OwnOps
import Derived.Laws.EntriesVeiled
namespace Go.Proofs.Ythpflcknommpdaa
open Go.RowKit
open Go.Maps
set_option linter.unusedVariables false
set_option linter.unusedSimpArgs false

/-- How an element reads: the block of a slice of two. -/
def RF (v : Value) : Option (DataW Unit × List MemPlace) := match v with
  | .slice (some ⟨b, 0, none⟩) 2 2 => some (.lit (.int .i64 (b : Int)), [])
  | .slice none 0 0 => some (.lit (.int .i64 (-1)), [])
  | _ => none
theorem RF_two {v : Value} {b : Nat} {ps : List MemPlace} (h : RF v = some (.lit (.int .i64 (b : Int)), ps)) : v = .slice (some ⟨b, 0, none⟩) 2 2 := by
  unfold RF at h
  split at h
  · next b1 =>
    simp at h
    have : b1 = b := by omega
    rw [this]
  · simp at h
    try omega
  · cases h
/-- m[k] = v in a map that the call has made, where a literal lays it. -/
theorem wpList_insert_own {H : Type} {P : Program} (w : World) {ops : Array Oper} {rest : List Oper} {o : Oper} {a : Act} {Q : Exit → Act → World → Prop}
    (hg : o.guard = none) (m x v : Operand) (t : TypeId) (hop : o.op = Op.insert t m x v)
    (k e : TypeId) (K : Keyed P k) (ht : P.underlying t = some (.map k e)) (R : Value → Option (DataW H × List MemPlace)) (b n : Nat) (D : DataW H)
    (hm : a.eval m = .map (some b)) (hown : w.ownsMap P k R b n D) (hn : n < maxLen) (key val : Value) (kl : Lit) (hx : a.eval x = key) (hv : a.eval v = val) (hkey : keyOf P k key = some kl)
    (d : DataW H) (ps : List MemPlace) (hval : R val = some (d, ps))
    (hK : ∀ w', w'.ownsMap P k R b (n + 1) (D.put kl d) → w.grownBy w' (some b) → wpList P ops Q rest (a.put o.dst undef) w') :
    wpList P ops Q (o :: rest) a w := by
  refine wpList_plain hg fun K' hK' => ?_
  obtain ⟨w', hrun, r1, r2⟩ := hown.update K ht hn hkey hval
  unfold Oper.wp
  simp [execOp, hop, hm, hx, hv, hrun, Result.andThen]
  exact hK' _ _ (hK w' r1 r2)
/-- What the map reads as. -/
def stepsD (b5 b6 : Nat) : DataW Unit := ((DataW.map []).put (.int .i64 5) (.lit (.int .i64 (b5 : Int)))).put (.int .i64 6) (.lit (.int .i64 (b6 : Int)))
theorem stepsD_5 (b5 b6 : Nat) : (stepsD b5 b6).atKey (.int .i64 5) (.lit (.int .i64 (-1))) = .lit (.int .i64 (b5 : Int)) := by rfl
theorem stepsD_6 (b5 b6 : Nat) : (stepsD b5 b6).atKey (.int .i64 6) (.lit (.int .i64 (-1))) = .lit (.int .i64 (b6 : Int)) := by rfl
theorem keyI : Keyed Try.prog 3 := int_keyed Try.underlying3
theorem zeroFS (w : World) : (zeroValue 131).run Try.prog w = .ok (.slice none 0 0) w := by kernel_rfl
/-- The closures of a core's steps. -/
structure Steps (w : World) (cs fc : Array Value) (k : Int) (m b5 b6 p3 p4 p5 : Nat) : Prop where
  map : w.ownsMap Try.prog 3 RF m 2 (stepsD b5 b6)
  c5 : w.heap[b5]? = some (.cells #[.func (.func 119) #[] #[.pointer (some ⟨p3, 0, none⟩), .pointer (some ⟨p4, 0, none⟩), .pointer (some ⟨p5, 0, none⟩)], .func (.func 121) #[] #[.pointer (some ⟨p3, 0, none⟩), .pointer (some ⟨p4, 0, none⟩), .pointer (some ⟨p5, 0, none⟩)]] 134 (0, 0))
  c6 : w.heap[b6]? = some (.cells #[.func (.func 122) #[] #[.pointer (some ⟨p3, 0, none⟩), .pointer (some ⟨p4, 0, none⟩), .pointer (some ⟨p5, 0, none⟩)], .func (.func 124) #[] #[.pointer (some ⟨p3, 0, none⟩), .pointer (some ⟨p4, 0, none⟩), .pointer (some ⟨p5, 0, none⟩)]] 134 (0, 0))
  h3 : w.heap[p3]? = some (.cells cs 28 (0, 0))
  h4 : w.heap[p4]? = some (.cells #[.int .i64 k] 3 (0, 0))
  h5 : w.heap[p5]? = some (.cells fc 55 (0, 0))
set_option maxRecDepth 100000 in
set_option maxHeartbeats 4000000 in
theorem steps_any (A B C L : Option Addr) (a b c d : Nat) (s : Sy) (k : Int) (AS : Option Addr) (cS : Nat) (op pc r0 r1 r2 r3 r4 r5 r6 r7 : Int) (xs : List Int) (w : World) :
    Calls Try.prog 116 #[.agg #[.slice A s.M.W.length a, .slice B s.M.G.length b, .bool s.M.bad, .slice C s.C.length c, .slice L s.L.length d], .int .i64 k, .agg #[.int .i64 op, .int .i64 pc, .int .i64 r0, .int .i64 r1, .int .i64 r2, .int .i64 r3, .int .i64 r4, .int .i64 r5, .int .i64 r6, .int .i64 r7, .slice AS xs.length cS]] w fun e w' => ∃ m b5 b6 p3 p4 p5, e = .returned (.map (some m)) ∧ Steps w' #[.slice A s.M.W.length a, .slice B s.M.G.length b, .bool s.M.bad, .slice C s.C.length c, .slice L s.L.length d] #[.int .i64 op, .int .i64 pc, .int .i64 r0, .int .i64 r1, .int .i64 r2, .int .i64 r3, .int .i64 r4, .int .i64 r5, .int .i64 r6, .int .i64 r7, .slice AS xs.length cS] k m b5 b6 p3 p4 p5 ∧ Below w.heap.size w w' := by
  have hmm := @run_makeMap Try.prog
  go_enter Try.func116, Try.ntmps116
  go_upto_region 1 with (fail)
  have e3 := heap_alloc_new w (.cells #[.slice A s.M.W.length a, .slice B s.M.G.length b, .bool s.M.bad, .slice C s.C.length c, .slice L s.L.length d] 28)
  obtain ⟨h3, h4, h5, hs3⟩ := heap3b w (.cells #[.slice A s.M.W.length a, .slice B s.M.G.length b, .bool s.M.bad, .slice C s.C.length c, .slice L s.L.length d] 28) (.cells #[.int .i64 k] 3) (.cells #[.int .i64 op, .int .i64 pc, .int .i64 r0, .int .i64 r1, .int .i64 r2, .int .i64 r3, .int .i64 r4, .int .i64 r5, .int .i64 r6, .int .i64 r7, .slice AS xs.length cS] 55)
  have hb : Below w.heap.size w (((w.alloc (.cells #[.slice A s.M.W.length a, .slice B s.M.G.length b, .bool s.M.bad, .slice C s.C.length c, .slice L s.L.length d] 28)).alloc (.cells #[.int .i64 k] 3)).alloc (.cells #[.int .i64 op, .int .i64 pc, .int .i64 r0, .int .i64 r1, .int .i64 r2, .int .i64 r3, .int .i64 r4, .int .i64 r5, .int .i64 r6, .int .i64 r7, .slice AS xs.length cS] 55)) := bstep (bstep (boxed _ _) (boxed _ _)) (boxed _ _)
  have z5 : w.heap.size + 1 + 1 < (((w.alloc (.cells #[.slice A s.M.W.length a, .slice B s.M.G.length b, .bool s.M.bad, .slice C s.C.length c, .slice L s.L.length d] 28)).alloc (.cells #[.int .i64 k] 3)).alloc (.cells #[.int .i64 op, .int .i64 pc, .int .i64 r0, .int .i64 r1, .int .i64 r2, .int .i64 r3, .int .i64 r4, .int .i64 r5, .int .i64 r6, .int .i64 r7, .slice AS xs.length cS] 55)).heap.size := by simp
  clear e3 hs3
  generalize (((w.alloc (.cells #[.slice A s.M.W.length a, .slice B s.M.G.length b, .bool s.M.bad, .slice C s.C.length c, .slice L s.L.length d] 28)).alloc (.cells #[.int .i64 k] 3)).alloc (.cells #[.int .i64 op, .int .i64 pc, .int .i64 r0, .int .i64 r1, .int .i64 r2, .int .i64 r3, .int .i64 r4, .int .i64 r5, .int .i64 r6, .int .i64 r7, .slice AS xs.length cS] 55)) = w1 at *
  obtain ⟨vM, hM⟩ : ∃ v, v = w1.heap.size := ⟨_, rfl⟩
  have om := World.ownsMap_made w1 Try.prog 3 RF
  have k5 : keyOf Try.prog 3 (.int .i64 5) = some (.int .i64 5) := keyOf_int_mk Try.underlying3 (WalkArith.wf_i64 (by omega))
  have k6 : keyOf Try.prog 3 (.int .i64 6) = some (.int .i64 6) := keyOf_int_mk Try.underlying3 (WalkArith.wf_i64 (by omega))
  have OM := hid om
  have HMk := hid hM
  clear om hM
  go_wp2_with (first
    | (refine wpList_insert_own _ rfl _ _ _ 132 rfl 3 131 keyI Try.underlying132 RF w1.heap.size 0 _ rfl (OM.out.alloc _) (by decide) _ _ _ rfl rfl k5 (.lit (.int .i64 ((w1.heap.size + 1 : Nat) : Int))) [] rfl ?_; intro w3 om3 g3)
    | (refine wpList_insert_own _ rfl _ _ _ 132 rfl 3 131 keyI Try.underlying132 RF w1.heap.size 1 _ rfl (om3.alloc _) (by decide) _ _ _ rfl rfl k6 (.lit (.int .i64 ((w3.heap.size : Nat) : Int))) [] rfl ?_; intro w5 om5 g5))
  go_ret
  have t3 : Turn (fun b => b = w1.heap.size) ((w1.alloc (.map #[] 0)).alloc (.cells #[.func (.func 119) #[] #[.pointer (some ⟨w.heap.size, 0, none⟩), .pointer (some ⟨w.heap.size + 1, 0, none⟩), .pointer (some ⟨w.heap.size + 1 + 1, 0, none⟩)], .func (.func 121) #[] #[.pointer (some ⟨w.heap.size, 0, none⟩), .pointer (some ⟨w.heap.size + 1, 0, none⟩), .pointer (some ⟨w.heap.size + 1 + 1, 0, none⟩)]] 134)) w3 := (Turn.refl _ _).grown g3 (fun g e => by injection e with e; exact e.symm)
  have t4 : Turn (fun b => b = w1.heap.size) w3 w5 := ((Turn.refl _ _).alloc _).grown g5 (fun g e => by injection e with e; exact e.symm)
  have u5 : ((w1.alloc (.map #[] 0)).alloc (.cells #[.func (.func 119) #[] #[.pointer (some ⟨w.heap.size, 0, none⟩), .pointer (some ⟨w.heap.size + 1, 0, none⟩), .pointer (some ⟨w.heap.size + 1 + 1, 0, none⟩)], .func (.func 121) #[] #[.pointer (some ⟨w.heap.size, 0, none⟩), .pointer (some ⟨w.heap.size + 1, 0, none⟩), .pointer (some ⟨w.heap.size + 1 + 1, 0, none⟩)]] 134)).heap[w1.heap.size + 1]? = some (.cells #[.func (.func 119) #[] #[.pointer (some ⟨w.heap.size, 0, none⟩), .pointer (some ⟨w.heap.size + 1, 0, none⟩), .pointer (some ⟨w.heap.size + 1 + 1, 0, none⟩)], .func (.func 121) #[] #[.pointer (some ⟨w.heap.size, 0, none⟩), .pointer (some ⟨w.heap.size + 1, 0, none⟩), .pointer (some ⟨w.heap.size + 1 + 1, 0, none⟩)]] 134 (0, 0)) := by
    have := heap_alloc_new (w1.alloc (.map #[] 0)) (.cells #[.func (.func 119) #[] #[.pointer (some ⟨w.heap.size, 0, none⟩), .pointer (some ⟨w.heap.size + 1, 0, none⟩), .pointer (some ⟨w.heap.size + 1 + 1, 0, none⟩)], .func (.func 121) #[] #[.pointer (some ⟨w.heap.size, 0, none⟩), .pointer (some ⟨w.heap.size + 1, 0, none⟩), .pointer (some ⟨w.heap.size + 1 + 1, 0, none⟩)]] 134)
    simpa using this
  have z3 : w1.heap.size + 1 < w3.heap.size := Nat.lt_of_lt_of_le (Array.getElem?_eq_some_iff.1 u5).1 t3.size
  have tb : Turn (fun b => b = w1.heap.size) w1 ((w1.alloc (.map #[] 0)).alloc (.cells #[.func (.func 119) #[] #[.pointer (some ⟨w.heap.size, 0, none⟩), .pointer (some ⟨w.heap.size + 1, 0, none⟩), .pointer (some ⟨w.heap.size + 1 + 1, 0, none⟩)], .func (.func 121) #[] #[.pointer (some ⟨w.heap.size, 0, none⟩), .pointer (some ⟨w.heap.size + 1, 0, none⟩), .pointer (some ⟨w.heap.size + 1 + 1, 0, none⟩)]] 134)) := ((Turn.refl _ _).alloc _).alloc _
  have t15 := (tb.trans t3).trans t4
  have b15 := t15.to_below (Nat.le_refl _) (fun g hg => by omega)
  have u6 : w5.heap[w3.heap.size]? = some (.cells #[.func (.func 122) #[] #[.pointer (some ⟨w.heap.size, 0, none⟩), .pointer (some ⟨w.heap.size + 1, 0, none⟩), .pointer (some ⟨w.heap.size + 1 + 1, 0, none⟩)], .func (.func 124) #[] #[.pointer (some ⟨w.heap.size, 0, none⟩), .pointer (some ⟨w.heap.size + 1, 0, none⟩), .pointer (some ⟨w.heap.size + 1 + 1, 0, none⟩)]] 134 (0, 0)) := (g5.block _ (by simp) (fun e => by injection e with e; omega)).trans (heap_alloc_new w3 _)
  exact ⟨w1.heap.size, w1.heap.size + 1, w3.heap.size, w.heap.size, w.heap.size + 1, w.heap.size + 1 + 1, rfl, ⟨om5, (t4.block _ z3 (by omega)).trans ((t3.block _ (Array.getElem?_eq_some_iff.1 u5).1 (by omega)).trans u5), u6, (b15.block _ (by omega)).trans h3, (b15.block _ (by omega)).trans h4, (b15.block _ z5).trans h5⟩, hb.trans (b15.mono (by omega))⟩
end Go.Proofs.Ythpflcknommpdaa
