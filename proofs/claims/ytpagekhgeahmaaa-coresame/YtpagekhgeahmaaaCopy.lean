/- copy between rows of integers, as a law for the walk. No Go text but the int's type. -/
import Derived.Test.YtpagekhgeahmaaaRow
import Derived.Laws.CopyOwn
namespace Go.Proofs.Ytpagekhgeahmaaa
open Go.RowKit

/-- Only block g has turned. -/
structure Only (g : Nat) (w w' : World) : Prop where
  os : w'.os = w.os
  tape : w'.tape = w.tape
  output : w'.output = w.output
  size : w'.heap.size = w.heap.size
  block : ∀ k, k ≠ g → w'.heap[k]? = w.heap[k]?

theorem Only.refl (g : Nat) (w : World) : Only g w w := ⟨rfl, rfl, rfl, rfl, fun _ _ => rfl⟩
theorem Only.below {g B : Nat} {a w w' : World} (h : Only g w w') (hb : Below B a w) (hB : B ≤ g) : Below B a w' :=
  hb.trans ⟨h.os, h.tape, h.output, Nat.le_of_eq h.size.symm, fun k hk => h.block k (by omega)⟩
theorem Only.blk {g k : Nat} {w w' : World} {xs : List Int} (h : Only g w w') (hk : k ≠ g) (hb : Blk w k xs) : Blk w' k xs := (h.block k hk).trans hb
theorem Only.cells {g : Nat} {w w' : World} (h : Only g w w') : (∀ b o, b ≠ g → w'.cell? ⟨b, o, none⟩ = w.cell? ⟨b, o, none⟩) ∧ (∀ b o, b ≠ g → w'.frozen? ⟨b, o, none⟩ = w.frozen? ⟨b, o, none⟩) :=
  ⟨fun b _ hb => World.cell?_of_block (h.block b hb), fun b _ hb => World.frozen?_of_block (h.block b hb)⟩
theorem Only.set {g j : Nat} {w : World} {u : Value} : Only g w (w.setCell ⟨g, j, none⟩ u) :=
  ⟨rfl, rfl, rfl, by simp [World.setCell], fun k hk => Below.heap_setCell w _ u k hk⟩

/-- copy(dst, src): dst a block of as many integers as src has. -/
theorem wpList_copy_mine {P : Program} {w : World} {ops : Array Oper} {rest : List Oper} {o : Oper} {a : Act} {Q : Exit → Act → World → Prop} (hgd : o.guard = none) (d s : Operand) (dT sT : TypeId)
    (ho : o.op = .call { callee := .builtin .copy, args := #[d, s], argTypes := #[dT, sT] }) (elem : TypeId) (hu : P.underlying dT = some (.slice elem)) (hsz : (P.info? elem).map (·.size) = some 1)
    (g dCap sCap : Nat) (A : Option Addr) (xs zs : List Int) (hd : a.eval d = .slice (some ⟨g, 0, none⟩) xs.length dCap) (hs : a.eval s = .slice A xs.length sCap)
    (hg : Blk w g zs) (hz : zs.length = xs.length) (hr : Row w A xs)
    (h : ∀ w', Blk w' g xs → Only g w w' → wpList P ops Q rest (a.put o.dst (goInt (xs.length : Int))) w') : wpList P ops Q (o :: rest) a w := by
  by_cases h0 : xs.length = 0
  · obtain rfl : xs = [] := List.eq_nil_of_length_eq_zero h0
    obtain rfl : zs = [] := List.eq_nil_of_length_eq_zero (by simpa using hz)
    exact wpList_copy_nothing hgd d s dT sT ho elem hu hsz _ _ _ _ _ _ hd hs (by simp) (h w hg (Only.refl _ _))
  · obtain ⟨b, off, rfl, _, hc⟩ := hr (by omega)
    have hl : (xs.map (Value.int .i64)).length = xs.length := by simp
    refine wpList_copy_own hgd d s dT sT ho elem hu hsz g 0 xs.length dCap ⟨b, off, none⟩ xs.length sCap hd hs (zs.map (Value.int .i64)).toArray _ hg (xs.map (Value.int .i64)) (by simp) ?_ (by simp; omega) ?_ ?_
    · intro j v hv
      simp only [List.getElem?_map, Option.map_eq_some_iff] at hv
      obtain ⟨x, hx, rfl⟩ := hv
      rw [Addr.add_lit]
      exact hc j x hx
    · intro v hv
      simp only [List.mem_map] at hv
      obtain ⟨x, _, rfl⟩ := hv
      rfl
    · rw [hl]
      refine h _ ?_ ⟨rfl, rfl, rfl, by simp, fun k hk => setRow_other w g k _ hk⟩
      have e : ((zs.map (Value.int .i64)).toArray.toList.take 0 ++ (xs.map (Value.int .i64) ++ (zs.map (Value.int .i64)).toArray.toList.drop (0 + xs.length))) = xs.map (Value.int .i64) := by
        rw [List.take_zero, List.nil_append, List.drop_eq_nil_of_le (by simp; omega), List.append_nil]
      rw [e]
      exact setRow_heap w g _ _ _ _ hg
end Go.Proofs.Ytpagekhgeahmaaa
