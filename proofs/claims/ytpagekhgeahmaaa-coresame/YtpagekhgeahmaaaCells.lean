/- Rows of structs in memory, as rows of cells; append onto a row of the call's own. No Go text. -/
import Derived.Test.YtpagekhgeahmaaaSys
import Derived.Deep.AppendLies
import Derived.OwnWalk
import Derived.OneCell
namespace Go.Proofs.Ytpagekhgeahmaaa
open Go.RowKit

/-- Each of these lists has k elements. -/
def Each (k : Nat) (css : List (List Value)) : Prop := ∀ c ∈ css, c.length = k

theorem flat_len {k : Nat} : ∀ {css : List (List Value)}, Each k css → css.flatten.length = css.length * k
  | [], _ => by simp
  | c :: t, h => by
    have h1 : c.length = k := h c (by simp)
    have h2 := flat_len (k := k) (css := t) (fun x hx => h x (by simp [hx]))
    simp only [List.flatten_cons, List.length_append, List.length_cons, h1, h2]
    rw [Nat.add_mul]; omega

theorem flat_at {k : Nat} : ∀ {css : List (List Value)} {i r : Nat} {c : List Value} {u : Value}, Each k css → css[i]? = some c → c[r]? = some u → css.flatten[i * k + r]? = some u
  | [], i, r, c, u, _, hc, _ => by simp at hc
  | c0 :: t, 0, r, c, u, h, hc, hu => by
    simp only [List.getElem?_cons_zero, Option.some.injEq] at hc
    subst hc
    have hr : r < c0.length := (List.getElem?_eq_some_iff.1 hu).1
    rw [List.flatten_cons, Nat.zero_mul, Nat.zero_add, List.getElem?_append_left hr]
    exact hu
  | c0 :: t, i + 1, r, c, u, h, hc, hu => by
    have h1 : c0.length = k := h c0 (by simp)
    simp only [List.getElem?_cons_succ] at hc
    have := flat_at (k := k) (css := t) (fun x hx => h x (by simp [hx])) hc hu
    rw [List.flatten_cons, List.getElem?_append_right (by rw [h1, Nat.add_mul]; omega), h1, show (i + 1) * k + r - k = i * k + r by rw [Nat.add_mul]; omega]
    exact this

theorem flat_inv {k : Nat} : ∀ {css : List (List Value)} {j : Nat} {u : Value}, Each k css → css.flatten[j]? = some u → ∃ (i r : Nat) (c : List Value), j = i * k + r ∧ r < k ∧ css[i]? = some c ∧ c[r]? = some u
  | [], j, u, _, hu => by simp at hu
  | c0 :: t, j, u, h, hu => by
    have h1 : c0.length = k := h c0 (by simp)
    rw [List.flatten_cons] at hu
    by_cases hj : j < k
    · rw [List.getElem?_append_left (by omega)] at hu
      exact ⟨0, j, c0, by omega, hj, rfl, hu⟩
    · rw [List.getElem?_append_right (by omega), h1] at hu
      obtain ⟨i, r, c, e1, e2, e3, e4⟩ := flat_inv (k := k) (css := t) (fun x hx => h x (by simp [hx])) hu
      exact ⟨i + 1, r, c, by rw [Nat.add_mul]; omega, e2, e3, e4⟩

theorem flat_set {k : Nat} : ∀ {css : List (List Value)} {i r : Nat} {c : List Value} {u : Value}, Each k css → css[i]? = some c → r < k → css.flatten.set (i * k + r) u = (css.set i (c.set r u)).flatten
  | [], i, r, c, u, _, hc, _ => by simp at hc
  | c0 :: t, 0, r, c, u, h, hc, hr => by
    simp only [List.getElem?_cons_zero, Option.some.injEq] at hc
    subst hc
    have h1 : c0.length = k := h c0 (by simp)
    rw [List.flatten_cons, Nat.zero_mul, Nat.zero_add, List.set_append_left _ _ (by omega)]
    rfl
  | c0 :: t, i + 1, r, c, u, h, hc, hr => by
    have h1 : c0.length = k := h c0 (by simp)
    simp only [List.getElem?_cons_succ] at hc
    have := flat_set (k := k) (css := t) (u := u) (fun x hx => h x (by simp [hx])) hc hr
    rw [List.flatten_cons, List.set_append_right _ _ (by rw [h1, Nat.add_mul]; omega), h1, show (i + 1) * k + r - k = i * k + r by rw [Nat.add_mul]; omega, this]
    rfl

theorem Each.set {k : Nat} {css : List (List Value)} (h : Each k css) (i : Nat) {c : List Value} (hc : c.length = k) : Each k (css.set i c) := fun x hx => by
  rcases List.mem_or_eq_of_mem_set hx with h' | h'
  · exact h x h'
  · rw [h']; exact hc

theorem Each.one {css : List (List Value)} (h : ∀ c ∈ css, ∀ v ∈ c, v.oneCell' = true) : ∀ v ∈ css.flatten, v.oneCell' = true := fun v hv => by
  obtain ⟨c, hc, hv⟩ := List.mem_flatten.1 hv
  exact h c hc v hv

/-- At block b from place o on there lie these cells. -/
def Cs (w : World) (b o : Nat) (vs : List Value) : Prop := ∀ r v, vs[r]? = some v → w.cell? ⟨b, o + r, none⟩ = some v

theorem Cs.step {w w' : World} {b o : Nat} {vs : List Value} (h : Cs w b o vs) (hl : b < w.heap.size) (hb : Below w.heap.size w w') : Cs w' b o vs := fun r v hv => (hb.cell hl).trans (h r v hv)

/-- A slice of address A holds rows of k cells each. -/
structure Src (w : World) (A : Option Addr) (k : Nat) (css : List (List Value)) : Prop where
  each : Each k css
  one : ∀ c ∈ css, ∀ v ∈ c, v.oneCell' = true
  at_ : 0 < css.length → ∃ b o, A = some ⟨b, o, none⟩ ∧ b < w.heap.size ∧ ∀ i c, css[i]? = some c → Cs w b (o + i * k) c

theorem Src.step {w w' : World} {A : Option Addr} {k : Nat} {css : List (List Value)} (h : Src w A k css) (hb : Below w.heap.size w w') : Src w' A k css :=
  ⟨h.each, h.one, fun hn => by
    obtain ⟨b, o, e, hl, hc⟩ := h.at_ hn
    exact ⟨b, o, e, Nat.lt_of_lt_of_le hl hb.size, fun i c hi => (hc i c hi).step hl hb⟩⟩

theorem Src.news {w : World} {b o : Nat} {k : Nat} {css : List (List Value)} (h : Src w (some ⟨b, o, none⟩) k css) : ∀ j u, css.flatten[j]? = some u → w.cell? ((⟨b, o, none⟩ : Addr).add j) = some u := fun j u hu => by
  obtain ⟨i, r, c, rfl, hr, hi, hu'⟩ := flat_inv h.each hu
  obtain ⟨b', o', e, _, hc⟩ := h.at_ (by have := (List.getElem?_eq_some_iff.1 hi).1; omega)
  simp only [Option.some.injEq, Addr.mk.injEq, and_true] at e
  obtain ⟨rfl, rfl⟩ := e
  rw [Addr.add_lit, show o + (i * k + r) = o + i * k + r by omega]
  exact hc i c hi r u hu'

/-- What is owned holds rows of k cells each, too. -/
theorem own_src {w : World} {base : Nat} {T : TypeId} {k n : Nat} {v : Value} {css : List (List Value)} (h : w.ownsRow base T k v n css.flatten) (he : Each k css) (hn : css.length = n) (h1 : ∀ c ∈ css, ∀ v ∈ c, v.oneCell' = true) :
    ∃ (A : Option Addr) (c : Nat), v = .slice A n c ∧ Src w A k css := by
  rcases h.2 with ⟨rfl, h0⟩ | ⟨g, cap, cur, rfl, hb, hg, _, _, _, ht⟩
  · subst h0
    exact ⟨none, 0, rfl, he, h1, fun hp => by omega⟩
  · refine ⟨_, cap, rfl, he, h1, fun hp => ⟨g, 0, rfl, (Array.getElem?_eq_some_iff.1 hg).1, fun i c hi r u hu => ?_⟩⟩
    have hx := flat_at he hi hu
    have hlt : i * k + r < n * k := by
      have h1 : i < n := by have := (List.getElem?_eq_some_iff.1 hi).1; omega
      have h2 : r < k := by have := (List.getElem?_eq_some_iff.1 hu).1; rw [he c (List.mem_of_getElem? hi)] at this; exact this
      have h3 : (i + 1) * k ≤ n * k := Nat.mul_le_mul_right _ h1
      rw [Nat.add_mul] at h3; omega
    rw [show 0 + i * k + r = i * k + r by omega, cell_of_row w g _ _ _ _ hg]
    rw [← ht, List.getElem?_take_of_lt hlt] at hx
    simpa using hx

theorem own_step {w w' : World} {base : Nat} {T : TypeId} {k n : Nat} {v : Value} {xs : List Value} (h : w.ownsRow base T k v n xs) (hb : Below w.heap.size w w') : w'.ownsRow base T k v n xs := by
  refine ⟨h.1, ?_⟩
  rcases h.2 with hn | ⟨g, cap, cur, rfl, hb', hg, rest⟩
  · exact .inl hn
  · exact .inr ⟨g, cap, cur, rfl, hb', (hb.block g (Array.getElem?_eq_some_iff.1 hg).1).trans hg, rest⟩
theorem own_base {w : World} {base base' : Nat} {T : TypeId} {k n : Nat} {v : Value} {xs : List Value} (h : w.ownsRow base T k v n xs) (hb : base' ≤ base) : w.ownsRow base' T k v n xs := by
  refine ⟨h.1, ?_⟩
  rcases h.2 with hn | ⟨g, cap, cur, rfl, hb', rest⟩
  · exact .inl hn
  · exact .inr ⟨g, cap, cur, rfl, by omega, rest⟩

/-- append onto a row of the call's own, in the walk. -/
theorem wpList_append_onto {P : Program} {w : World} {ops : Array Oper} {rest : List Oper} {o : Oper} {a : Act} {Q : Exit → Act → World → Prop} (hgd : o.guard = none) (s x : Operand) (t : TypeId)
    (ho : o.op = .call { callee := .builtin .append, args := #[s, x], argTypes := #[t, t] })
    (base : Nat) (e : TypeId) (z : Value) (size bytes : Nat) (ht : P.underlying t = some (.slice e)) (hinfo : (P.info? e).map (fun i => (i.zero, i.size, i.bytes)) = some (some z, size, bytes)) (hzs : z.cells.size = size) (hsz : 0 < size)
    (v : Value) (n : Nat) (xs : List Value) (hs : a.eval s = v) (hown : w.ownsRow base e size v n xs)
    (ad : Addr) (m c : Nat) (news : List Value) (hx : a.eval x = .slice (some ad) m c) (hl : news.length = m * size) (hnews : ∀ j u, news[j]? = some u → w.cell? (ad.add j) = some u) (h1 : ∀ u ∈ news, u.oneCell' = true)
    (hlen : n + m ≤ 1000000) (hby : bytes ≤ 1000) (hbase : base ≤ w.heap.size)
    (h : ∀ v' w', w'.ownsRow base e size v' (n + m) (xs ++ news) → w.grownBy w' v.ownBlock → (v'.ownBlock = v.ownBlock ∨ v'.ownBlock = some w.heap.size) → wpList P ops Q rest (a.put o.dst v') w') : wpList P ops Q (o :: rest) a w := by
  obtain ⟨i, hi, hz0, hz1, hz2⟩ := info_parts hinfo
  refine wpList_plain hgd fun K hK => ?_
  have hb1 : (n + m) * bytes ≤ 140737488355328 := Nat.le_trans (Nat.mul_le_mul hlen hby) (by omega)
  obtain ⟨v', w', hr, h2, h3, _, h5⟩ := run_append_own_at (P := P) w base t o.type e i z size bytes ht hi hz0 hz1 hz2 hzs hsz v n xs hown ad m c news hl hnews h1 (by simp only [maxLen]; omega) hb1 hbase
  unfold Oper.wp execOp
  simp only [ho, resolve, invoke, builtin, Sem.run_bind, Sem.run_pure, Result.andThen_ok, List.map_toArray, List.map_cons, List.map_nil, hs, hx, hr]
  exact hK _ _ (h v' w' h2 h3 h5)

/-- append([]E{}, xs...), in the walk. -/
theorem wpList_append_fresh {P : Program} {w : World} {ops : Array Oper} {rest : List Oper} {o : Oper} {a : Act} {Q : Exit → Act → World → Prop} (hgd : o.guard = none) (s x : Operand) (t : TypeId)
    (ho : o.op = .call { callee := .builtin .append, args := #[s, x], argTypes := #[t, t] })
    (e : TypeId) (z : Value) (size bytes : Nat) (ht : P.underlying t = some (.slice e)) (hinfo : (P.info? e).map (fun i => (i.zero, i.size, i.bytes)) = some (some z, size, bytes)) (hzs : z.cells.size = size) (hsz : 0 < size)
    (g0 : Nat) (hs : a.eval s = .slice (some ⟨g0, 0, none⟩) 0 0) (hg0 : w.heap[g0]? = some (.cells #[] e (0, 0)))
    (ad : Addr) (c : Nat) (css : List (List Value)) (m : Nat) (hm : css.length = m) (hx : a.eval x = .slice (some ad) m c) (hsrc : Src w (some ad) size css) 
    (hlen : m ≤ 1000000) (hby : bytes ≤ 1000)
    (h : ∀ v' w', w'.ownsRow g0 e size v' m css.flatten → Below g0 w w' → wpList P ops Q rest (a.put o.dst v') w') : wpList P ops Q (o :: rest) a w := by
  have hlt : g0 < w.heap.size := (Array.getElem?_eq_some_iff.1 hg0).1
  have hnews : ∀ j u, css.flatten[j]? = some u → w.cell? (ad.add j) = some u := by
    obtain ⟨b, o, sp⟩ := ad
    intro j u hu
    obtain ⟨i, r, c, rfl, hr, hi, hu'⟩ := flat_inv hsrc.each hu
    obtain ⟨b', o', e, _, hc⟩ := hsrc.at_ (by have := (List.getElem?_eq_some_iff.1 hi).1; omega)
    simp only [Option.some.injEq, Addr.mk.injEq] at e
    obtain ⟨rfl, rfl, rfl⟩ := e
    rw [Addr.add_lit, show o + (i * size + r) = o + i * size + r by omega]
    exact hc i c hi r u hu'
  refine wpList_append_onto hgd s x t ho g0 e z size bytes ht hinfo hzs hsz (.slice (some ⟨g0, 0, none⟩) 0 0) 0 [] hs ⟨by simp, .inr ⟨g0, 0, #[], rfl, Nat.le_refl _, hg0, Nat.le_refl _, by simp [maxLen], by simp, by simp⟩⟩
    ad m c css.flatten hx (by rw [flat_len hsrc.each, hm]) hnews (Each.one hsrc.one) (by omega) hby (by omega) ?_
  intro v' w' h2 h3 _
  rw [Nat.zero_add, List.nil_append] at h2
  exact h v' w' h2 ((Below.refl g0 w).grown h3 (by omega) (fun k hk => by simp [Value.ownBlock] at hk; omega))

/-- For each one of so many there is one: then there is a list of them. -/
theorem list_of {α : Type} {n : Nat} {p : Nat → α → Prop} (h : ∀ j, j < n → ∃ y, p j y) : ∃ ys : List α, ys.length = n ∧ ∀ j y, ys[j]? = some y → p j y := by
  induction n with
  | zero => exact ⟨[], rfl, fun j y hy => by simp at hy⟩
  | succ n ih =>
    obtain ⟨ys, hl, hp⟩ := ih (fun j hj => h j (by omega))
    obtain ⟨y, hy⟩ := h n (by omega)
    refine ⟨ys ++ [y], by simp [hl], fun j z hz => ?_⟩
    rw [List.getElem?_append] at hz
    split at hz
    · exact hp j z hz
    · have hj : j = n := by
        have h1 := (List.getElem?_eq_some_iff.1 hz).1
        simp at h1; omega
      subst hj
      rw [hl] at hz
      simp at hz
      subst hz
      exact hy
end Go.Proofs.Ytpagekhgeahmaaa
