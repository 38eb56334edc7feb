/- For every three bytes, the law AllocDrops (a node that is allocated and dropped is free again, the first one of the list; nothing else is changed but the list) returns true, and the arguments read afterwards as before. No conditions. -/
import Derived.Test.YtfipcdhodojodaaGreatRows
import Derived.Test.YtfipcdhodojodaaGreatKAlB
import Derived.Test.YtfipcdhodojodaaGreatAlR3
import Derived.Test.YtfipcdhodojodaaGreatAlD
import Derived.Test.YtfipcdhodojodaaGreatMAl
import Derived.Test.YtfipcdhodojodaaGreatKCoB
import Derived.Test.YtfipcdhodojodaaGreatKBas
namespace Go.Proofs.YtfipcdhodojodaaGreat
namespace AllocDrops
open Go.ChangeShapes Go.WideShapes Go.ChangeAt Go.RowKit
set_option linter.unusedVariables false
set_option linter.unusedSimpArgs false

theorem own : ownKnob Tryz.prog.godebug = none := by kernel_rfl

theorem Hol.step {w0 wk w9 : World} {v : Nat} {s : Sy} (h : Hol w0 v s wk) (hk : Below wk.heap.size wk w9) : Hol w0 v s w9 := by
  obtain ⟨A, B, C, L, a, b, c, d, h1, h2, h3⟩ := h
  exact ⟨A, B, C, L, a, b, c, d, (hk.block v (Array.getElem?_eq_some_iff.1 h1).1).trans h1, h2.step hk, bstep h3 hk⟩
theorem Hol.far {w0 w9 : World} {v v' : Nat} {s s' : Sy} {A B C L : Option Addr} {a b c d : Nat} (h : Hol w0 v s w9) (hne : v ≠ v') (hv : w0.heap.size ≤ v') (K : w9.heap[v']? = some (.cells #[.slice A s'.M.W.length a, .slice B s'.M.G.length b, .bool s'.M.bad, .slice C s'.C.length c, .slice L s'.L.length d] 30 (0, 0))) (x0 x1 x2 x3 x4 : Value) :
    Hol w0 v s (((((w9.setCell ⟨v', 0, none⟩ x0).setCell ⟨v', 1, none⟩ x1).setCell ⟨v', 2, none⟩ x2).setCell ⟨v', 3, none⟩ x3).setCell ⟨v', 4, none⟩ x4) := by
  obtain ⟨A1, B1, C1, L1, a1, b1, c1, d1, h1, h2, h3⟩ := h
  have t := turn5 w9 v' x0 x1 x2 x3 x4
  exact ⟨A1, B1, C1, L1, a1, b1, c1, d1, (t.block v (Array.getElem?_eq_some_iff.1 h1).1 hne).trans h1, h2.turnN t (noInt_sys K), h3.trans (t.to_below h3.size (fun g hg => by rw [hg]; exact hv))⟩
/-- The states that core c - 1 goes through. -/
def RD (w0 : World) (v c n m : Nat) (i : Value) (wr : World) : Prop := ∃ (q : Nat) (s : Sy), q ≤ m ∧ i = .int .i64 q ∧ Idle c n s ∧ I1 n (min q n) s.M ∧ s.L.length ≤ q ∧ Hol w0 v s wr
/-- The nine steps of core 0, beside what stands still. -/
def RT (w0 : World) (v v2 : Nat) (s t0 : Sy) (A : Option Addr) (l : List Int) (i : Value) (wr : World) : Prop := ∃ q : Nat, q ≤ 9 ∧ i = .int .i64 q ∧ Hol w0 v s wr ∧ Hol w0 v2 (alcN t0 0 q) wr ∧ Row wr A l
theorem at_M {C : List Co} {k : Nat} {x : Co} {M : Ar} {F : List Fr} {v e : Int} {L : List Evt} : (atK C k x M F v e L).M = M := rfl
theorem at_L {C : List Co} {k : Nat} {x : Co} {M : Ar} {F : List Fr} {v e : Int} {L : List Evt} : (atK C k x M F v e L).L = L := rfl
set_option maxRecDepth 100000 in
set_option maxHeartbeats 8000000 in
theorem walk (x0 x1 x2 : Int) (w0 : World) (u0 : 0 ≤ x0) (u1 : x0 ≤ 255) (u2 : 0 ≤ x1) (u3 : x1 ≤ 255) (u4 : 0 ≤ x2) (u5 : x2 ≤ 255) :
    Calls Tryz.prog 4 #[.int .u8 x0, .int .u8 x1, .int .u8 x2] w0 fun e w' => e = .returned (.bool true) ∧ Below w0.heap.size w0 w' := by
  have hb : Below w0.heap.size w0 w0 := Below.refl _ _
  obtain ⟨c, hc⟩ : ∃ n : Nat, 1 + x0 % 8 = (n : Int) := ⟨(1 + x0 % 8).toNat, by omega⟩
  have c1 : 1 ≤ c := by omega
  have c2 : c ≤ 8 := by omega
  obtain ⟨n, hn⟩ : ∃ n : Nat, 1 + x1 % 40 = (n : Int) := ⟨(1 + x1 % 40).toNat, by omega⟩
  have n1 : 1 ≤ n := by omega
  have n2 : n ≤ 40 := by omega
  obtain ⟨m, hm⟩ : ∃ n : Nat, x2 % 40 = (n : Int) := ⟨(x2 % 40).toNat, by omega⟩
  have m2 : m ≤ 39 := by omega
  obtain ⟨k, hk1⟩ : ∃ k : Nat, (c : Int) - 1 = (k : Int) := ⟨c - 1, by omega⟩
  have kc : k < c := by omega
  have HK1 := hid hk1
  clear hk1
  have HN := hid (show ∀ w, Calls Tryz.prog 6 #[.int .i64 (c : Int), .int .i64 (n : Int)] w (RetSys2 w (syFill c n) (.int .i64 0)) from fun w => rstart_yes c n w n1 (by omega) c1 c2)
  have HI0 := hid (idle_fill (c := c) n1 (show n ≤ 200 by omega))
  have HI1 := hid (show I1 n (min 0 n) (syFill c n).M by rw [Nat.zero_min]; exact fill_I1 n1 (by omega))
  go_enter Tryz.func4, Tryz.ntmps4
  go_upto_region 1 with (fail)
  go_wp2_with fail
  refine (shown7_any _).mono ?_
  rintro e w1 ⟨rfl, hk⟩
  replace hb := bstep hb hk
  clear hk
  obtain ⟨s0, hs0⟩ : ∃ s, s = syFill c n := ⟨_, rfl⟩
  rw [← hs0] at HN HI0 HI1
  have hl0 : s0.L.length = 0 := by rw [hs0]; rfl
  have HL0 := hid hl0
  clear hs0 hl0
  go_upto_region 4 with (go_at_call 6; (with_reducible refine (HN.out _).mono ?_); rintro e w2 ⟨A5, B5, C5, L5, a5, b5, c5, d5, rfl, rW, rG, rC, rL, hk⟩)
  replace hb := bstep hb hk
  clear hk
  have S5 : RS w2 s0 A5 B5 C5 L5 := ⟨rW, rG, rC, rL⟩
  clear rW rG rC rL
  have Bk5 := heap_alloc_new w2 (.cells #[.slice A5 s0.M.W.length a5, .slice B5 s0.M.G.length b5, .bool s0.M.bad, .slice C5 s0.C.length c5, .slice L5 s0.L.length d5] 30)
  have lt5 : w2.heap.size < (w2.alloc (.cells #[.slice A5 s0.M.W.length a5, .slice B5 s0.M.G.length b5, .bool s0.M.bad, .slice C5 s0.C.length c5, .slice L5 s0.L.length d5] 30)).heap.size := by simp
  have hk : Below w2.heap.size w2 (w2.alloc (.cells #[.slice A5 s0.M.W.length a5, .slice B5 s0.M.G.length b5, .bool s0.M.bad, .slice C5 s0.C.length c5, .slice L5 s0.L.length d5] 30)) := boxed _ _
  have nw5 : w0.heap.size ≤ w2.heap.size := hb.size
  replace S5 := S5.step hk
  replace hb := bstep hb hk
  clear hk
  obtain ⟨v5, hv⟩ : ∃ v, w2.heap.size = v := ⟨_, rfl⟩
  replace nw5 := Nat.le_trans nw5 (Nat.le_of_eq hv)
  rw [hv] at Bk5 lt5 ⊢
  clear hv
  generalize (w2.alloc (.cells #[.slice A5 s0.M.W.length a5, .slice B5 s0.M.G.length b5, .bool s0.M.bad, .slice C5 s0.C.length c5, .slice L5 s0.L.length d5] 30)) = w3 at *
  have HH : RD w0 v5 c n m (.int .i64 0) w3 := ⟨0, s0, Nat.zero_le _, rfl, HI0.out, HI1.out, by rw [HL0.out]; exact Nat.le_refl _, A5, B5, C5, L5, a5, b5, c5, d5, Bk5, S5, hb⟩
  clear Bk5 lt5 S5 hb HN HI0 HI1 HL0
  go_wp2_with fail
  go_loopw [11] (fun i wr => RD w0 v5 c n m i wr) (fun i _ => m - (intOf i).toNat)
  case atStart => exact HH
  case round =>
    clear HH
    obtain ⟨q, s, hq, rfl, hid1, hI1, hL, A, B, C, L, a, b, c0, d, kB, kS, kb⟩ := hrel
    have lz : v5 < wr.heap.size := (Array.getElem?_eq_some_iff.1 kB).1
    by_cases hlt : q < m
    · have ql : (q : Int) < (m : Int) := by omega
      obtain ⟨x, hx⟩ : ∃ x, s.C[k]? = some x := ⟨_, List.getElem?_eq_getElem (by rw [hid1.len]; exact kc)⟩
      obtain ⟨mm, hR, _, _, hid2, hI2, hL2⟩ := idle_alloc hid1 hx hI1 (Nat.min_le_right _ _) c2 n1 (show n ≤ 200 by omega) (b := q) (by omega) hL
      obtain ⟨s8, hs8⟩ : ∃ t, t = pCall s (k : Int) (fr1 7 0 0 0) := ⟨_, rfl⟩
      obtain ⟨s9, hs9⟩ : ∃ t, t = alcN s8 k mm := ⟨_, rfl⟩
      rw [← hs8] at hR hid2 hI2 hL2
      rw [← hs9] at hid2 hI2 hL2
      have HCA := hid (show ∀ w', RS w' s A B C L → Calls Tryz.prog 8 #[.agg #[.slice A s.M.W.length a, .slice B s.M.G.length b, .bool s.M.bad, .slice C s.C.length c0, .slice L s.L.length d], .int .i64 ((c : Int) - 1), .int .i64 7, .int .i64 0, .int .i64 0, .int .i64 0] w' (RetSys w' s8) from fun w' k1 => by rw [HK1.out, hs8]; exact rcall_u A B C L a b c0 d s k 7 0 0 0 w' ((hid1.ok (b := q) c2 n1 (by omega) (by omega) hL).few) k1)
      have HDN := hid (show ∀ (A B C L : Option Addr) (a b c' d : Nat) w', RS w' s8 A B C L → Calls Tryz.prog 7 #[.agg #[.slice A s8.M.W.length a, .slice B s8.M.G.length b, .bool s8.M.bad, .slice C s8.C.length c', .slice L s8.L.length d], .int .i64 ((c : Int) - 1), .int .i64 0] w' (RetSys w' s9) from fun A B C L a b c' d w' k1 => by rw [HK1.out, hs9]; exact rdone_any A B C L a b c' d s8 k mm w' hR.lt hR.ok hR.on hR.off k1)
      have HID2 := hid hid2
      have HI2 := hid (show I1 n (min (q + 1) n) s9.M by rw [show min (q + 1) n = min (min q n + 1) n by omega]; exact hI2)
      have HL2 := hid hL2
      clear hid2 hI2 hL2 hR hs8 hs9 hx hid1 hI1 hL
      obtain ⟨p0, p1, p2, p3, p4⟩ := cells5 kB
      go_wp2_with (first | (go_at_call 8; (with_reducible refine (HCA.out _ kS).mono ?_); rintro e w8 ⟨A8, B8, C8, L8, a8, b8, c8, d8, rfl, y1, y2, y3, y4, hk8⟩; have S8 : RS w8 s8 A8 B8 C8 L8 := ⟨y1, y2, y3, y4⟩; have K8 := (hk8.block v5 lz).trans kB; have l8 := Nat.lt_of_lt_of_le lz hk8.size) | (go_at_call 7; (with_reducible refine (HDN.out _ _ _ _ _ _ _ _ _ S8).mono ?_); rintro e w9 ⟨A9, B9, C9, L9, a9, b9, c9, d9, rfl, rW, rG, rC, rL, hk⟩; have K9 := (hk.block v5 l8).trans K8; obtain ⟨y0, y1, y2, y3, y4⟩ := cells5 K9; obtain ⟨yf0, yf1, yf2, yf3, yf4⟩ := frz5 K9))
      go_roundw
      case rel => exact ⟨q + 1, s9, by omega, by go_num, HID2.out, HI2.out, HL2.out, Hol.put nw5 kB kb (bstep hk8 hk) rW rG rC rL⟩
      case measure => simp [intOf]; omega
    · have ql : ¬ (q : Int) < (m : Int) := by omega
      obtain ⟨j, hj⟩ : ∃ j, j = min q n := ⟨_, rfl⟩
      rw [← hj] at hI1
      have jn : j ≤ n := by omega
      clear hj
      have ok5 := hid1.ok (b := q) c2 n1 (show n ≤ 200 by omega) (by omega) hL
      have HWK := hid (show ∀ w', RS w' s A B C L → Calls Tryz.prog 16 #[.agg #[.slice A s.M.W.length a, .slice B s.M.G.length b, .bool s.M.bad]] w' (RetInts w' (upFrom j n) true) from fun w' k1 => by have h9 := rwalk_any A B a b s.M w' k1.W k1.G ok5.few.1 ok5.few.2.1 ok5.g; rw [hI1.walk (by omega) jn] at h9; exact h9)
      obtain ⟨p0, p1, p2, p3, p4⟩ := cells5 kB
      go_upto_region 9 with (go_at_call 16; (with_reducible refine (HWK.out _ kS).mono ?_); rintro e wk ⟨A4, c4, rfl, r4, hk⟩)
      have HO5 : Hol w0 v5 s wk := Hol.step ⟨A, B, C, L, a, b, c0, d, kB, kS, kb⟩ hk
      have hul := upFrom_len j n
      by_cases hjn : j < n
      · have f0 : ¬ (((upFrom j n).length : Nat) : Int) = 0 := by omega
        obtain ⟨x, hx⟩ : ∃ x, s.C[0]? = some x := ⟨_, List.getElem?_eq_getElem (by rw [hid1.len]; omega)⟩
        obtain ⟨tk1, tk2⟩ := idle_take hid1 hx hI1 hjn c2 n1 (show n ≤ 200 by omega) (b := q) (by omega) hL
        have few1 := ok5.few
        have HC0 := hid (show ∀ w', RS w' s A B C L → Calls Tryz.prog 8 #[.agg #[.slice A s.M.W.length a, .slice B s.M.G.length b, .bool s.M.bad, .slice C s.C.length c0, .slice L s.L.length d], .int .i64 0, .int .i64 7, .int .i64 0, .int .i64 0, .int .i64 0] w' (RetSys w' (pCall s (0 : Int) (fr1 7 0 0 0))) from fun w' k1 => by have h9 := rcall_u A B C L a b c0 d s 0 7 0 0 0 w' few1 k1; exact h9)
        obtain ⟨t0, ht0⟩ : ∃ t, t = pCall s (0 : Int) (fr1 7 0 0 0) := ⟨_, rfl⟩
        rw [show ((0 : Nat) : Int) = 0 from rfl, ← ht0] at tk1 tk2
        rw [← ht0] at HC0
        have HT0 := hid ht0
        have TK1 := hid tk1
        obtain ⟨r9, hr9⟩ : ∃ r : Nat, r = 9 := ⟨_, rfl⟩
        obtain ⟨t9, ht9⟩ : ∃ t, t = alcN t0 0 9 := ⟨_, rfl⟩
        rw [← ht9] at tk2
        rw [← hr9] at ht9
        have HT9 := hid ht9
        have HR9 := hid hr9
        have TK2 := hid tk2
        clear ht9 hr9
        clear ht0 tk1 tk2 HWK
        have kW := kS.step hk
        have kBk := (hk.block v5 lz).trans kB
        have lzk := Nat.lt_of_lt_of_le lz hk.size
        have hbk := bstep kb hk
        clear p0 p1 p2 p3 p4
        obtain ⟨p0, p1, p2, p3, p4⟩ := cells5 kBk
        have HX := hid hx
        have OK5 := hid ok5
        clear hx few1 ok5
        go_wp2_with fail
        with_reducible refine (HC0.out _ kW).mono ?_
        rintro e wc ⟨A6, B6, C6, L6, a6, b6, c6, d6, rfl, rW, rG, rC, rL, hkc⟩
        go_upto_region 12 with (fail)
        have hbc : Below w0.heap.size w0 wc := bstep hbk hkc
        have HO5c : Hol w0 v5 s wc := Hol.step HO5 hkc
        have hk6 : Below wc.heap.size wc (wc.alloc (.cells #[.slice A6 t0.M.W.length a6, .slice B6 t0.M.G.length b6, .bool t0.M.bad, .slice C6 t0.C.length c6, .slice L6 t0.L.length d6] 30)) := boxed _ _
        have HO5d := Hol.step HO5c hk6
        have r4d := (r4.step hkc).step hk6
        have ne6 : v5 ≠ wc.heap.size := Nat.ne_of_lt (Nat.lt_of_lt_of_le lzk hkc.size)
        have nw6 : w0.heap.size ≤ wc.heap.size := hbc.size
        have S6 : RS (wc.alloc (.cells #[.slice A6 t0.M.W.length a6, .slice B6 t0.M.G.length b6, .bool t0.M.bad, .slice C6 t0.C.length c6, .slice L6 t0.L.length d6] 30)) t0 A6 B6 C6 L6 := RS.step (⟨rW, rG, rC, rL⟩ : RS wc t0 A6 B6 C6 L6) hk6
        have HO6 : Hol w0 wc.heap.size t0 (wc.alloc (.cells #[.slice A6 t0.M.W.length a6, .slice B6 t0.M.G.length b6, .bool t0.M.bad, .slice C6 t0.C.length c6, .slice L6 t0.L.length d6] 30)) := ⟨A6, B6, C6, L6, a6, b6, c6, d6, heap_alloc_new wc (.cells #[.slice A6 t0.M.W.length a6, .slice B6 t0.M.G.length b6, .bool t0.M.bad, .slice C6 t0.C.length c6, .slice L6 t0.L.length d6] 30), S6, bstep hbc hk6⟩
        clear HO5 HO5c S6 rW rG rC rL r4 hbk hkc lzk kBk kW p0 p1 p2 p3 p4
        obtain ⟨v6, hv⟩ : ∃ v, wc.heap.size = v := ⟨_, rfl⟩
        rw [hv] at HO6 ne6 nw6 hk6 ⊢
        generalize (wc.alloc (.cells #[.slice A6 t0.M.W.length a6, .slice B6 t0.M.G.length b6, .bool t0.M.bad, .slice C6 t0.C.length c6, .slice L6 t0.L.length d6] 30)) = w6 at *
        clear hv hk6 hbc
        have HH2 : RT w0 v5 v6 s t0 A4 (upFrom j n) (.int .i64 0) w6 := ⟨0, by omega, rfl, HO5d, HO6, r4d⟩
        clear HO5d HO6 r4d
        go_wp2_with fail
        go_loopw [15] (fun i wr => RT w0 v5 v6 s t0 A4 (upFrom j n) i wr) (fun i _ => 9 - (intOf i).toNat)
        case atStart => exact HH2
        case round =>
          clear HH2
          obtain ⟨g, hg, rfl, h5, h6, hr⟩ := hrel
          obtain ⟨sg, hsg⟩ : ∃ t, t = alcN t0 0 g := ⟨_, rfl⟩
          rw [← hsg] at h6
          have HSG := hid hsg
          clear hsg
          obtain ⟨A, B, C, L, a, b, c', d, kB, kS, kb⟩ := h6
          have lz : v6 < wr.heap.size := (Array.getElem?_eq_some_iff.1 kB).1
          by_cases hl9 : g < 9
          · have ql : (g : Int) < 9 := by omega
            obtain ⟨y1, y2, y3, y4⟩ := TK1.out.ok g hl9
            rw [← HSG.out] at y1 y2 y3 y4
            have HSU := hid (show ∀ w', RS w' sg A B C L → Calls Tryz.prog 15 #[.agg #[.slice A sg.M.W.length a, .slice B sg.M.G.length b, .bool sg.M.bad, .slice C sg.C.length c', .slice L sg.L.length d], .int .i64 0] w' (RetSysN w' (pAlc sg 0)) from fun w' k1 => alst_any A B C L a b c' d sg 0 w' y1 y2 k1 y3 y4)
            clear y1 y2 y3 y4
            obtain ⟨p0, p1, p2, p3, p4⟩ := cells5 kB
            obtain ⟨t8, ht8⟩ : ∃ t, t = pAlc sg (0 : Int) := ⟨_, rfl⟩
            rw [← ht8] at HSU
            have HT8 := hid ht8
            clear ht8
            go_wp2_with (go_at_call 15; (with_reducible refine (HSU.out _ kS).mono ?_); rintro e w9 hN; obtain ⟨A9, B9, C9, L9, a9, b9, c9, d9, rfl, rW, rG, rC, rL, hk⟩ := hN.weak; clear hN; have K9 := (hk.block v6 lz).trans kB; obtain ⟨y0, y1, y2, y3, y4⟩ := cells5 K9; obtain ⟨yf0, yf1, yf2, yf3, yf4⟩ := frz5 K9)
            go_roundw
            case rel => exact ⟨g + 1, by omega, by go_num, Hol.far (Hol.step h5 hk) ne6 nw6 K9 _ _ _ _ _, by rw [show alcN t0 0 (g + 1) = t8 from (alcN_succ t0 0 g).trans (by rw [HT8.out, HSG.out]; rfl)]; exact Hol.put nw6 kB kb hk rW rG rC rL, (hr.step hk).turnN (turn5 _ _ _ _ _ _ _) (noInt_sys K9)⟩
            case measure => simp [intOf]; omega
          · have ql : ¬ (g : Int) < 9 := by omega
            have E9 := hid (show sg = atK s.C 0 x (popM s.M) [] ((j : Int) + 1) 0 s.L from by rw [HSG.out, show g = r9 by have := HR9.out; omega, ← HT9.out]; exact TK2.out)
            obtain ⟨p, hp⟩ : ∃ p : Nat, p = j + 1 := ⟨_, rfl⟩
            have ep : (j : Int) + 1 = (p : Int) := by omega
            have EP := hid ep
            obtain ⟨hn1, _, _⟩ := hI1.next (show n ≤ 200 by omega) hjn
            have hid9 := idle_at hid1 HX.out hn1.ia ((j : Int) + 1) 0 s.L
            rw [← E9.out] at hid9
            have OK9 := hid (hid9.ok c2 n1 (show n ≤ 200 by omega) (b := q) (by omega) (by rw [E9.out, at_L]; exact hL))
            have lc9 : sg.C.length = c := hid9.len
            have lg9 : sg.M.G.length = n + 1 := hid9.ia.g
            have y9 : sg.C[0]? = some ⟨[], (p : Int), 0, x.x0, x.x1, x.x2, x.ret⟩ := by rw [E9.out, ← ep]; exact at_get (by rw [hid1.len]; omega)
            have g9 : sg.M.G[p]? = some 1 := by
              have h9 := hn1.gs (j + 1) (by omega) (by omega)
              rw [if_pos (by omega)] at h9
              have e8 : sg.M.G = (popM s.M).G := by rw [E9.out, at_M]
              have l8 := hn1.ia.g
              rw [List.getD_eq_getElem?_getD, List.getElem?_eq_getElem (by omega)] at h9
              rw [e8, hp, List.getElem?_eq_getElem (by omega)]
              exact congrArg some h9
            have u9 : (upFrom j n)[0]? = some (p : Int) := by
              have h9 := upFrom_head hjn
              rw [List.getD_eq_getElem?_getD, List.getElem?_eq_getElem (by omega)] at h9
              rw [List.getElem?_eq_getElem (by omega), ← ep]
              exact congrArg some h9
            clear hid9 hp
            obtain ⟨bC, oC, eC, hbC, hatC⟩ := kS.C (by omega)
            obtain ⟨AFx, ARx, cFx, cRx, hcx, _, _⟩ := (hatC 0 _ y9).cs
            subst eC
            clear hatC
            have x0c : wr.cell? ⟨bC, oC, none⟩ = some (.slice AFx 0 cFx) := hcx 0 _ rfl
            have x1c : wr.cell? ⟨bC, oC + 1, none⟩ = some (.int .i64 (p : Int)) := hcx 1 _ rfl
            clear hcx
            obtain ⟨bG, oG, eG, hbG, hatG⟩ := kS.G (by omega)
            subst eG
            have x2c : wr.cell? ⟨bG, oG + p, none⟩ = some (.int .i64 1) := hatG p 1 g9
            clear hatG
            obtain ⟨bl, ol, el, hbl, hatl⟩ := hr (by omega)
            subst el
            have x3c : wr.cell? ⟨bl, ol, none⟩ = some (.int .i64 (p : Int)) := hatl 0 _ u9
            clear hatl
            have HR := hid (show Row wr (some ⟨bl, ol, none⟩) (upFrom j n) from hr)
            clear hr
            obtain ⟨p0, p1, p2, p3, p4⟩ := cells5 kB
            rw [lc9] at p3
            rw [lg9] at p1
            have LC9 := hid lc9
            have LG9 := hid lg9
            have Y9 := hid y9
            clear y9 g9 u9 lc9 lg9
            have b1 : (p : Int) < ((n + 1 : Nat) : Int) := by omega
            have b2 : (0 : Int) < (((upFrom j n).length : Nat) : Int) := by omega
            have b3 : (0 : Int) < (c : Int) := by omega
            have b4 : (0 : Int) ≤ (p : Int) := by omega
            go_upto_region 16 with (fail)
            go_quiet (fail)
            go_upto_region 18 with (fail)
            have hq : Below wr.heap.size wr (wr.drewN nq) := bdrewN (Below.refl _ _) nq
            replace kB := (hq.block v6 lz).trans kB
            replace kS := kS.step hq
            replace kb := bstep kb hq
            replace h5 := Hol.step h5 hq
            have HR2 := hid (HR.out.step hq)
            replace x3c := (hq.cell hbl).trans x3c
            replace hbl := Nat.lt_of_lt_of_le hbl hq.size
            replace lz := Nat.lt_of_lt_of_le lz hq.size
            clear p0 p1 p2 p3 p4 x0c x1c x2c hbC hbG hq HR
            generalize wr.drewN nq = wq at *
            have hne : bl ≠ v6 := fun h9 => noInt_sys kB ol (p : Int) (by rw [← h9]; exact x3c)
            obtain ⟨p0, p1, p2, p3, p4⟩ := cells5 kB
            have few9 := OK9.out.few
            have b5 : 0 < n - j := by omega
            have HC8 := hid (show ∀ w', RS w' sg A (some ⟨bG, oG, none⟩) (some ⟨bC, oC, none⟩) L → Calls Tryz.prog 8 #[.agg #[.slice A sg.M.W.length a, .slice (some ⟨bG, oG, none⟩) sg.M.G.length b, .bool sg.M.bad, .slice (some ⟨bC, oC, none⟩) sg.C.length c', .slice L sg.L.length d], .int .i64 0, .int .i64 8, .int .i64 (p : Int), .int .i64 0, .int .i64 0] w' (RetSys w' (pCall sg (0 : Int) (fr1 8 0 (p : Int) 0))) from fun w' k1 => by have h9 := rcall_u A (some ⟨bG, oG, none⟩) (some ⟨bC, oC, none⟩) L a b c' d sg 0 8 (p : Int) 0 0 w' few9 k1; exact h9)
            obtain ⟨d1, d2⟩ := idle_drop hid1 HX.out hI1 hjn c2 n1 (show n ≤ 200 by omega) (b := q) (by omega) hL
            obtain ⟨t1, ht1⟩ : ∃ t, t = pCall sg (0 : Int) (fr1 8 0 (p : Int) 0) := ⟨_, rfl⟩
            rw [show ((0 : Nat) : Int) = 0 from rfl, ← E9.out, EP.out, ← ht1] at d1 d2
            rw [← ht1] at HC8
            have TK3 := hid d1
            obtain ⟨r9, hr9⟩ : ∃ r : Nat, r = 9 := ⟨_, rfl⟩
            obtain ⟨t9, ht9⟩ : ∃ t, t = alcN t1 0 9 := ⟨_, rfl⟩
            rw [← ht9] at d2
            rw [← hr9] at ht9
            have HT19 := hid ht9
            have HR19 := hid hr9
            have TK4 := hid d2
            clear ht9 hr9 ht1 d1 d2 few9
            have KS := hid (show ∀ w', Turn (fun g => g = v6 ∨ wq.heap.size ≤ g) wq w' → w'.cell? ⟨bl, ol, none⟩ = some (.int .i64 (p : Int)) from fun w' h => (h.cell hbl (fun h9 => by rcases h9 with h9 | h9 <;> omega)).trans x3c)
            refine wp_region_held_drew (S := fun w' => Turn (fun g => g = v6 ∨ wq.heap.size ≤ g) wq w') (by kernel_rfl) (Turn.drew (Turn.refl _ _)) (fun HT => ?_)
            try dsimp only at HT
            have KB0 : Below wq.heap.size wq wq.drew := (Below.refl _ _).drew
            generalize wq.drew = W0 at HT KB0 ⊢
            refine wpAnyH_take (i := 1) (oi := { dst := some 102, op := _, type := _, pos := _, after := _, guard := _ }) (v := ?vs0) rfl (by kernel_rfl) (by kernel_rfl) (by kernel_rfl) (fun _ _ _ h => h) (Or.inl ⟨by rfl, ?hs0⟩) HT ?_
            case hs0 => (intro w hSw; clear hSw; go_simp; try with_reducible rfl)
            try simp only [Act.put, List.setIfInBounds_toArray, List.set_cons_zero, List.set_cons_succ]
            refine wpAnyH_take (i := 2) (oi := { dst := some 103, op := _, type := _, pos := _, after := _, guard := _ }) (v := ?vs1) rfl (by kernel_rfl) (by kernel_rfl) (by kernel_rfl) (fun _ _ _ h => h) (Or.inl ⟨by rfl, ?hs1⟩) HT ?_
            case hs1 => (intro w hSw; clear hSw; go_simp; try with_reducible rfl)
            try simp only [Act.put, List.setIfInBounds_toArray, List.set_cons_zero, List.set_cons_succ]
            refine wpAnyH_take (i := 3) (oi := { dst := some 104, op := _, type := _, pos := _, after := _, guard := _ }) (v := ?vs2) rfl (by kernel_rfl) (by kernel_rfl) (by kernel_rfl) (fun _ _ _ h => h) (Or.inl ⟨by rfl, ?hs2⟩) HT ?_
            case hs2 => (intro w hSw; obtain y0 := KS.out w hSw; clear hSw; go_simp; try with_reducible rfl)
            try simp only [Act.put, List.setIfInBounds_toArray, List.set_cons_zero, List.set_cons_succ]
            clear p0 p1 p2 p3 p4
            have KB0k := (KB0.block v6 lz).trans kB
            obtain ⟨p0, p1, p2, p3, p4⟩ := cells5 KB0k
            refine wpAnyH_ready (rs := [0]) (by kernel_rfl) (by simp) ?_
            refine AllReadyH.cons (o := { dst := some 101, op := _, type := _, pos := _, after := _, guard := _ }) rfl (fun K hK => ?_) AllReadyH.nil
            go_simp
            refine hK.out _ _ (turn_of_below KB0) (fun HT => ?_)
            clear hK K p0 p1 p2 p3 p4 KB0k
            try simp only [Act.put, List.setIfInBounds_toArray, List.set_cons_zero, List.set_cons_succ]
            refine wpAnyH_ready (rs := [4]) (by kernel_rfl) (by simp) ?_
            refine AllReadyH.cons (o := { dst := some 105, op := _, type := _, pos := _, after := _, guard := _ }) rfl (fun K hK => ?_) AllReadyH.nil
            go_simp
            (go_at_call 8; (with_reducible refine (HC8.out _ (kS.step KB0)).mono ?_); rintro e W1 ⟨A9, B9, C9, L9, a9, b9, c9, d9, rfl, rW, rG, rC, rL, hk8⟩)
            have KB1 := bstep KB0 hk8
            refine hK.out _ _ (turn_of_below KB1) (fun HT => ?_)
            clear hK K hk8
            try simp only [Act.put, List.setIfInBounds_toArray, List.set_cons_zero, List.set_cons_succ]
            have K9 := (KB1.block v6 lz).trans kB
            obtain ⟨p0, p1, p2, p3, p4⟩ := cells5 K9
            obtain ⟨pf0, pf1, pf2, pf3, pf4⟩ := frz5 K9
            refine wpAnyH_ready (rs := [5]) (by kernel_rfl) (by simp) ?_
            refine AllReadyH.cons (o := { dst := none, op := _, type := _, pos := _, after := _, guard := _ }) rfl (fun K hK => ?_) AllReadyH.nil
            go_simp
            refine hK.out _ _ ((turn_of_below KB1).trans ((turn5 _ _ _ _ _ _ _).mono (fun b _ h => .inl h))) (fun HT => ?_)
            clear hK K
            try simp only [Act.put, List.setIfInBounds_toArray, List.set_cons_zero, List.set_cons_succ]
            refine wpAnyH_done (by kernel_rfl) ?_ _
            have HO7 := Hol.put nw6 kB kb KB1 rW rG rC rL (a9 := a9) (b9 := b9) (c9 := c9) (d9 := d9)
            have HO5e := Hol.far (Hol.step h5 KB1) ne6 nw6 K9 (.slice A9 t1.M.W.length a9) (.slice B9 t1.M.G.length b9) (.bool t1.M.bad) (.slice C9 t1.C.length c9) (.slice L9 t1.L.length d9)
            have r7 : Row (((((W1.setCell ⟨v6, 0, none⟩ (.slice A9 t1.M.W.length a9)).setCell ⟨v6, 1, none⟩ (.slice B9 t1.M.G.length b9)).setCell ⟨v6, 2, none⟩ (.bool t1.M.bad)).setCell ⟨v6, 3, none⟩ (.slice C9 t1.C.length c9)).setCell ⟨v6, 4, none⟩ (.slice L9 t1.L.length d9)) (some ⟨bl, ol, none⟩) (upFrom j n) := (HR2.out.step KB1).turnN (turn5 _ _ _ _ _ _ _) (noInt_sys K9)
            clear h5 KB1 K9 HR2 x3c hbl KS rW rG rC rL HT p0 p1 p2 p3 p4 pf0 pf1 pf2 pf3 pf4 kB kS kb KB0 hne lz
            generalize (((((W1.setCell ⟨v6, 0, none⟩ (.slice A9 t1.M.W.length a9)).setCell ⟨v6, 1, none⟩ (.slice B9 t1.M.G.length b9)).setCell ⟨v6, 2, none⟩ (.bool t1.M.bad)).setCell ⟨v6, 3, none⟩ (.slice C9 t1.C.length c9)).setCell ⟨v6, 4, none⟩ (.slice L9 t1.L.length d9)) = w7 at *
            have HH2 : RT w0 v5 v6 s t1 (some ⟨bl, ol, none⟩) (upFrom j n) (.int .i64 0) w7 := ⟨0, by omega, rfl, HO5e, HO7, r7⟩
            clear HO5e HO7 r7
            go_wp2_with fail
            go_loopw [16] (fun i wr => RT w0 v5 v6 s t1 (some ⟨bl, ol, none⟩) (upFrom j n) i wr) (fun i _ => 9 - (intOf i).toNat)
            case atStart => exact HH2
            case round =>
              clear HH2
              obtain ⟨g, hg, rfl, h5, h6, hr⟩ := hrel
              obtain ⟨sg, hsg⟩ : ∃ t, t = alcN t1 0 g := ⟨_, rfl⟩
              rw [← hsg] at h6
              have HSG := hid hsg
              clear hsg
              obtain ⟨A, B, C, L, a, b, c', d, kB, kS, kb⟩ := h6
              have lz : v6 < wr.heap.size := (Array.getElem?_eq_some_iff.1 kB).1
              by_cases hl9 : g < 9
              · have ql : (g : Int) < 9 := by omega
                obtain ⟨y1, y2, y3, y4⟩ := TK3.out.ok g hl9
                rw [← HSG.out] at y1 y2 y3 y4
                have HSU := hid (show ∀ w', RS w' sg A B C L → Calls Tryz.prog 15 #[.agg #[.slice A sg.M.W.length a, .slice B sg.M.G.length b, .bool sg.M.bad, .slice C sg.C.length c', .slice L sg.L.length d], .int .i64 0] w' (RetSysN w' (pAlc sg 0)) from fun w' k1 => alst_any A B C L a b c' d sg 0 w' y1 y2 k1 y3 y4)
                clear y1 y2 y3 y4
                obtain ⟨p0, p1, p2, p3, p4⟩ := cells5 kB
                obtain ⟨t8, ht8⟩ : ∃ t, t = pAlc sg (0 : Int) := ⟨_, rfl⟩
                rw [← ht8] at HSU
                have HT8 := hid ht8
                clear ht8
                go_wp2_with (go_at_call 15; (with_reducible refine (HSU.out _ kS).mono ?_); rintro e w9 hN; obtain ⟨A9, B9, C9, L9, a9, b9, c9, d9, rfl, rW, rG, rC, rL, hk⟩ := hN.weak; clear hN; have K9 := (hk.block v6 lz).trans kB; obtain ⟨y0, y1, y2, y3, y4⟩ := cells5 K9; obtain ⟨yf0, yf1, yf2, yf3, yf4⟩ := frz5 K9)
                go_roundw
                case rel => exact ⟨g + 1, by omega, by go_num, Hol.far (Hol.step h5 hk) ne6 nw6 K9 _ _ _ _ _, by rw [show alcN t1 0 (g + 1) = t8 from (alcN_succ t1 0 g).trans (by rw [HT8.out, HSG.out]; rfl)]; exact Hol.put nw6 kB kb hk rW rG rC rL, (hr.step hk).turnN (turn5 _ _ _ _ _ _ _) (noInt_sys K9)⟩
                case measure => simp [intOf]; omega
              · have ql : ¬ (g : Int) < 9 := by omega
                have E7 := hid (show sg = atK s.C 0 x (pushM (popM s.M) (p : Int)) [] (p : Int) 0 s.L from by rw [HSG.out, show g = r9 by have := HR19.out; omega, ← HT19.out]; exact TK4.out)
                obtain ⟨_, _, u3, u4, u5, u6⟩ := hI1.drop (show n ≤ 200 by omega) hjn
                rw [EP.out] at u3 u4 u5 u6
                have hid7 := idle_at hid1 HX.out u6 (p : Int) 0 s.L
                rw [← E7.out] at hid7
                have OK7 := hid7.ok c2 n1 (show n ≤ 200 by omega) (b := q) (by omega) (by rw [E7.out, at_L]; exact hL)
                have em : sg.M = pushM (popM s.M) (p : Int) := by rw [E7.out, at_M]
                rw [← em] at u3 u4 u5
                clear em u6
                have lc7 : sg.C.length = c := hid7.len
                have y7 : sg.C[0]? = some ⟨[], (p : Int), 0, x.x0, x.x1, x.x2, x.ret⟩ := by rw [E7.out]; exact at_get (by rw [hid1.len]; omega)
                have HWK2 := hid (show ∀ w', RS w' sg A B C L → Calls Tryz.prog 16 #[.agg #[.slice A sg.M.W.length a, .slice B sg.M.G.length b, .bool sg.M.bad]] w' (RetInts w' (upFrom j n) true) from fun w' k1 => by have h9 := rwalk_any A B a b sg.M w' k1.W k1.G OK7.few.1 OK7.few.2.1 OK7.g; rw [u5] at h9; exact h9)
                have HIL := hid (show ∀ (A B : Option Addr) (c d : Nat) (w : World), Row w A (upFrom j n) → Row w B (upFrom j n) → Calls Tryz.prog 17 #[.slice A (n - j) c, .slice B (n - j) d] w fun e w' => e = .returned (.bool true) ∧ Below w.heap.size w w' from fun A B c d w k1 k2 => by have h9 := rints_any A B c d (upFrom j n) (upFrom j n) w k1 k2 (by omega); rw [show mInts (upFrom j n) (upFrom j n) = true by simp [mInts], hul] at h9; exact h9)
                have lsg : s.M.G.length ≤ 1000000000 := by have := hid1.ia.g; omega
                have HIG := hid (show ∀ (A B : Option Addr) (c d : Nat) (w : World), Row w A sg.M.G → Row w B s.M.G → Calls Tryz.prog 17 #[.slice A sg.M.G.length c, .slice B s.M.G.length d] w fun e w' => e = .returned (.bool true) ∧ Below w.heap.size w w' from fun A B c d w k1 k2 => by rw [u3] at k1 ⊢; have h9 := rints_any A B c d s.M.G s.M.G w k1 k2 lsg; rw [show mInts s.M.G s.M.G = true by simp [mInts]] at h9; exact h9)
                obtain ⟨A5, B5, C5, L5, a5, b5, c5, d5, k5B, k5S, k5b⟩ := h5
                have l5 : v5 < wr.heap.size := (Array.getElem?_eq_some_iff.1 k5B).1
                obtain ⟨bC, oC, eC, hbC, hatC⟩ := kS.C (by omega)
                obtain ⟨AFx, ARx, cFx, cRx, hcx, _, _⟩ := (hatC 0 _ y7).cs
                subst eC
                clear hatC
                have x0c : wr.cell? ⟨bC, oC, none⟩ = some (.slice AFx 0 cFx) := hcx 0 _ rfl
                clear hcx y7
                obtain ⟨p0, p1, p2, p3, p4⟩ := cells5 kB
                have D4 := hid u4
                have LC7 := hid lc7
                clear u3 u4 u5 lc7 OK7 hid7
                go_upto_region 24 with (go_at_call 16; (with_reducible refine (HWK2.out _ kS).mono ?_); rintro e ww ⟨A7, c7, rfl, r7, hk⟩)
                clear p0 p1 p2 p3 p4
                have kBw := (hk.block v6 lz).trans kB
                obtain ⟨p0, p1, p2, p3, p4⟩ := cells5 kBw
                rw [LC7.out] at p3
                have xw : ww.cell? ⟨bC, oC, none⟩ = some (.slice AFx 0 cFx) := (hk.cell hbC).trans x0c
                have hrw := hr.step hk
                have kSw := kS.step hk
                have k5w := (hk.block v5 l5).trans k5B
                have k5Sw := k5S.step hk
                have kbw := bstep kb hk
                have l6w := Nat.lt_of_lt_of_le lz hk.size
                have l5w := Nat.lt_of_lt_of_le l5 hk.size
                clear x0c hr kS k5B k5S kb kB lz l5 hk hbC
                have b3 : (0 : Int) < (c : Int) := by omega
                have b3 : (0 : Int) < (c : Int) := by omega
                go_wp2_with (first | (go_at_call 17; (with_reducible refine (HIL.out _ _ _ _ _ hrw r7).mono ?_); rintro e wx ⟨rfl, hkx⟩; have kBx := (hkx.block v6 l6w).trans kBw; have k5x := (hkx.block v5 l5w).trans k5w; have lx := Nat.lt_of_lt_of_le l6w hkx.size; obtain ⟨y0, y1, y2, y3, y4⟩ := cells5 kBx; obtain ⟨z0, z1, z2, z3, z4⟩ := cells5 k5x) | (go_at_call 17; (with_reducible refine (HIG.out _ _ _ _ _ (kSw.step hkx).G (k5Sw.step hkx).G).mono ?_); rintro e wy ⟨rfl, hky⟩; have kBy := (hky.block v6 lx).trans kBx; obtain ⟨t0, t1, t2, t3, t4⟩ := cells5 kBy; rw [D4.out] at t2))
                go_ret
                exact ⟨rfl, bstep (bstep kbw hkx) hky⟩
      · have f0 : (((upFrom j n).length : Nat) : Int) = 0 := by omega
        obtain ⟨_, _, _, _, _, _, _, _, _, _, hb9⟩ := HO5
        go_wp2_with fail
        go_ret
        exact ⟨rfl, hb9⟩

set_option maxRecDepth 100000 in
theorem lifted (os : Os) (started : os.Started) (H : Type) (enc : TypeId × Value → H) :
    ReturnsInHanded {} Tryz.checked os 4 .any (Rows.allocDropsSpec.pre6 enc Tryz.prog Tryz.f4 Rows.allocDropsRow.domain false) (Rows.allocDropsSpec.post enc Tryz.prog Tryz.f4 false true false false) := by
  refine returnsInHanded_of_change (C := Tryz.checked) own started (by kernel_rfl) Tryz.func4
    (ChangeSpec.witness6 (enc := enc) (C := Tryz.checked) false ⟨#[], #[.int .u8 0, .int .u8 0, .int .u8 0], []⟩ 8 (by kernel_rfl) (by kernel_rfl) (by kernel_rfl) (by kernel_rfl)) ?_
  intro W base args ds gs before hval0 hW hcnd _
  have hval : ∀ (j : Nat) t v, Tryz.f4.params[j]? = some t → args[j]? = some v → Value.okWide Tryz.prog W .any base t v := hval0
  have hW' := hW
  obtain ⟨p, q, hA0, hV, rfl, hfz, hnd⟩ := hW
  have hA : DataW.TrodAll enc Tryz.prog W 0 (fun _ => true) true Tryz.f4.params.toList args.toList ds p := hA0
  rw [Tryz.params4] at hA hval
  obtain ⟨v0, vs0, d0, ds0, p0, q0, hargs, rfl, rfl, h0, r0⟩ := trodAll_cons hA
  obtain ⟨v1, vs1, d1, ds1, p1, q1, rfl, rfl, rfl, h1, r1⟩ := trodAll_cons r0
  obtain ⟨v2, vs2, d2, ds2, p2, q2, rfl, rfl, rfl, h2, r2⟩ := trodAll_cons r1
  obtain ⟨rfl, rfl, rfl⟩ := trodAll_nil r2
  obtain rfl : args = #[v0, v1, v2] := by cases args; simp_all
  obtain ⟨rfl, rfl⟩ := trodVars_none hV
  clear hA0 hval0
  obtain ⟨a0, rfl, rfl, rfl, w0⟩ := open_int Tryz.underlying5 (hval 0 5 v0 rfl rfl) h0
  obtain ⟨a1, rfl, rfl, rfl, w1⟩ := open_int Tryz.underlying5 (hval 1 5 v1 rfl rfl) h1
  obtain ⟨a2, rfl, rfl, rfl, w2⟩ := open_int Tryz.underlying5 (hval 2 5 v2 rfl rfl) h2
  have b0 := bounds_u8 w0
  have b1 := bounds_u8 w1
  have b2 := bounds_u8 w2
  refine (walk a0 a1 a2 W b0.1 b0.2 b1.1 b1.2 b2.1 b2.2).mono fun e W' ⟨he, hb⟩ => ?_
  subst he
  exact ⟨_, rfl, law_post (tb := 4) (by kernel_rfl) (by kernel_rfl) (by kernel_rfl) Tryz.underlying4 rfl hW' rfl hb⟩

theorem over : Rows.allocDropsRow.holds Tryz.pinned (OpenSpec.ofChange Rows.allocDropsSpec) :=
  OpenClaim.holds_of_wide 4 Tryz.f4 rfl rfl rfl rfl rfl rfl rfl ⟨rfl, rfl, rfl, rfl, rfl⟩ rfl rfl rfl rfl rfl (by kernel_rfl) Tryz.func4 (by kernel_rfl)
    (of_decide_eq_true (by kernel_rfl)) (by unfold Func.isWrapper; first | (rw [if_pos (by decide +kernel)]; kernel_rfl) | (rw [if_neg (by decide +kernel)]; exact ⟨rfl, rfl⟩))
    (fun os started H enc _ => lifted os started H enc)
end AllocDrops

theorem allocDrops_holds : Rows.AllocDropsSaid := AllocDrops.over
#print axioms allocDrops_holds
end Go.Proofs.YtfipcdhodojodaaGreat
