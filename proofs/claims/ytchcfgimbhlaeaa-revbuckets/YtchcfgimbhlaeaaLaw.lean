/- The last step of every law's row, once for all: the call has answered true and, below the heap's old size, nothing has turned. No Go text. -/
import Derived.WalkKit
import Derived.ProofKit
import Derived.OpenShut
namespace Go.Proofs.Ytchcfgimbhlaeaa
open Go.ChangeShapes Go.WideShapes Go.ChangeAt Go.RowKit

/-- Each type of the list can be read, and is a row of the table: one closed fact. -/
def rowedAll (P : Program) (ts : List TypeId) : Bool := ts.all fun t => P.readableRec t && decide (t < P.types.size)

/-- All arguments read behind the call as they did. -/
theorem trodAll_below {H : Type} {enc : TypeId × Value → H} {P : Program} (hl : laidOutB P = true) {W W' : World} (hb : Below W.heap.size W W') :
    ∀ {ts : List TypeId} {vs : List Value} {ds : List (DataW H)} {ps : List MemPlace}, rowedAll P ts = true → (∀ x ∈ ps, x.block < W.heap.size) →
      DataW.TrodAll enc P W 0 (fun _ => true) true ts vs ds ps → DataW.TrodAll enc P W' 0 (fun b => decide (b < W.heap.size)) true ts vs ds ps
  | [], _, _, _, _, _, h => by
    obtain ⟨rfl, rfl, rfl⟩ := trodAll_nil h
    exact trodAll_mk0
  | t :: ts, _, _, _, hr, hlt, h => by
    obtain ⟨v, vs, d, ds, p, q, rfl, rfl, rfl, h0, h1⟩ := trodAll_cons h
    simp only [rowedAll, List.all_cons, Bool.and_eq_true, decide_eq_true_eq] at hr
    exact trodAll_cons_mk (Below.trod hl hr.1.1 hr.1.2 h0 hb fun x hx => hlt x (by simp [hx]))
      (trodAll_below hl hb hr.2 (fun x hx => hlt x (by simp [hx])) h1)

theorem law_post {H : Type} {enc : TypeId × Value → H} {P : Program} {f : Func} {s : ChangeSpec} {W W' : World} {args : Array Value} {ds gs : List (DataW H)} {before : List MemPlace} {tb : TypeId}
    (hl : laidOutB P = true) (hp : rowedAll P f.params.toList = true) (hr : f.resultTypes = #[tb]) (hu : P.underlying tb = some .bool) (hv : s.vars = [])
    (hW : DataW.Whole enc P f.params.toList s.vars false W args.toList ds gs before)
    (hs : s.fn H (ds ++ gs) = { results := [.lit (.bool true)], args := ds, vars := [] }) (hb : Below W.heap.size W W') :
    s.post enc P f false true false false W args (.bool true) W' := by
  have hlt : ∀ x ∈ before, x.block < W.heap.size := fun x hx => hW.lt x hx
  have hW' := hW
  obtain ⟨p, q, hA, hV, rfl, _, _⟩ := hW
  refine ⟨ds, gs, p ++ q, [], p, [], hW', ?_, ?_, ?_, hb.frame _, nofun⟩
  · rw [hs, hr]
    exact trodAll_cons_mk (shut_bool hu _) trodAll_mk0
  · rw [hs]
    exact trodAll_below hl hb hp (fun x hx => hlt x (by simp [hx])) hA
  · rw [hs, hv]
    exact rfl

/-- An array of three integers by value. -/
theorem open_arr3 {H : Type} {enc : TypeId × Value → H} {P : Program} {w : World} {r : Reach} {b0 base : Nat} {spare : Nat → Bool} {held : Bool} {t e : TypeId} {k : IntKind} {v : Value} {d : DataW H} {p : List MemPlace}
    (ht : P.underlying t = some (.array 3 e)) (he : P.underlying e = some (.int k)) (hc : P.cellsOf t = 3) (hce : P.cellsOf e = 1)
    (hv : Value.okWide P w r b0 t v) (h : DataW.Trod enc P w base spare held t v d p) : ∃ x0 x1 x2 : Int, v = .agg #[.int k x0, .int k x1, .int k x2] := by
  unfold Value.okWide at hv
  rw [ht] at hv
  obtain ⟨cs, rfl, hsz, _⟩ := hv
  obtain ⟨n, hn⟩ := h
  obtain ⟨xs, m, rfl, _, hl, hxs, hall⟩ := DataW.trod_array ht hn
  rw [hc] at hsz
  obtain ⟨cs⟩ := cs
  match cs, hsz with
  | [c0, c1, c2], _ =>
    have el : (Value.agg ⟨[c0, c1, c2]⟩).cells = #[c0, c1, c2] := rfl
    simp only [el] at hall
    rw [hce] at hall
    match xs, hxs with
    | [y0, y1, y2], _ =>
      have g0 := hall 0 (by decide)
      have g1 := hall 1 (by decide)
      have g2 := hall 2 (by decide)
      simp at g0 g1 g2
      obtain ⟨a0, e0, _, _⟩ := DataW.trod_int he g0
      obtain ⟨a1, e1, _, _⟩ := DataW.trod_int he g1
      obtain ⟨a2, e2, _, _⟩ := DataW.trod_int he g2
      simp at e0 e1 e2
      subst e0 e1 e2
      exact ⟨a0, a1, a2, rfl⟩

/-- Two arrays of three integers held against each other. -/
theorem run_eql_arr3 {P : Program} (w : World) (t e : TypeId) (k : IntKind) (ht : P.underlying t = some (.array 3 e)) (he : P.underlying e = some (.int k)) (hsz : ∀ w, (sizeOf e).run P w = .ok 1 w) (x0 x1 x2 y0 y1 y2 : Int) :
    (binOp .eql t (.agg #[.int k x0, .int k x1, .int k x2]) (.agg #[.int k y0, .int k y1, .int k y2])).run P w = .ok (.bool (x0 == y0 && (x1 == y1 && x2 == y2))) w := by
  have pt : ∀ (a b c : Value) (w : World), (part e #[a, b, c] 0).run P w = .ok a w ∧ (part e #[a, b, c] 1).run P w = .ok b w ∧ (part e #[a, b, c] 2).run P w = .ok c w := by
    intro a b c w
    simp [part, isAgg, run_underlying he]
  have q0 : (Op.equalIn 9999 e (.int k x0) (.int k y0)).run P w = .ok (x0 == y0) w := run_equalIn_int w 9998 e k k x0 y0 he
  have q1 : (Op.equalIn 9999 e (.int k x1) (.int k y1)).run P w = .ok (x1 == y1) w := run_equalIn_int w 9998 e k k x1 y1 he
  have q2 : (Op.equalIn 9999 e (.int k x2) (.int k y2)).run P w = .ok (x2 == y2) w := run_equalIn_int w 9998 e k k x2 y2 he
  generalize (x0 == y0) = c0 at q0 ⊢
  generalize (x1 == y1) = c1 at q1 ⊢
  generalize (x2 == y2) = c2 at q2 ⊢
  rw [run_eql_struct, Op.equalIn]
  simp only [Sem.run_bind, run_underlying ht, Result.andThen_ok, hsz, Std.Legacy.Range.forIn_eq_forIn_range', Std.Legacy.Range.size, Nat.sub_zero, Nat.add_sub_cancel, Nat.div_one]
  have hr : List.range' 0 3 1 = [0, 1, 2] := rfl
  simp only [hr]
  cases c0 <;> cases c1 <;> cases c2 <;> simp [List.forIn_cons, List.forIn_nil, Sem.run_bind, pt, q0, q1, q2]
end Go.Proofs.Ytchcfgimbhlaeaa
