/- For every two bytes and every row of 16-bit picks, the law StackSafe (whatever cores pop and push, each what it has popped, a step at a time, in any order: nothing is Bad; no node is at two cores; what is Free is walked, each once, and nothing else; what a core has is Live) returns true, and the arguments read afterwards as before. No conditions. -/
import Derived.Test.YtlknpmdmnekedaaRows
import Derived.Test.YtlknpmdmnekedaaKSho
import Derived.Test.YtlknpmdmnekedaaOpenP
import Derived.Test.YtlknpmdmnekedaaKWal
import Derived.Test.YtlknpmdmnekedaaIn4
import Derived.Test.YtlknpmdmnekedaaKBas
namespace Go.Proofs.Ytlknpmdmnekedaa
namespace StackSafe
open Go.ChangeShapes Go.WideShapes Go.ChangeAt Go.RowKit
set_option linter.unusedVariables false
set_option linter.unusedSimpArgs false

section
variable {H : Type} {enc : TypeId × Value → H} {w : World} {base : Nat} {spare : Nat → Bool} {held : Bool}
set_option maxRecDepth 100000 in
theorem open_picks {r : Reach} {b0 : Nat} {v : Value} {d : DataW H} {p : List MemPlace} (hv : Value.okWide Try.prog w r b0 22 v) (h : DataW.Trod enc Try.prog w base spare held 22 v d p) :
    ∃ (A : Option Addr) (us : List Nat) (c : Nat), v = .slice A us.length c ∧ RowU w A us := by
  obtain ⟨a, len, cap, rfl⟩ := okWide_slice Try.underlying22 hv
  obtain ⟨fuel, hf⟩ := h
  obtain ⟨A, us, c, e, hr⟩ := open_rowU hf
  simp [Value.cells] at e
  obtain ⟨rfl, rfl, rfl⟩ := e
  exact ⟨_, us, _, rfl, hr⟩
set_option maxRecDepth 100000 in
theorem open_byte {r : Reach} {b0 : Nat} {v : Value} {d : DataW H} {p : List MemPlace} (hv : Value.okWide Try.prog w r b0 5 v) (h : DataW.Trod enc Try.prog w base spare held 5 v d p) : ∃ x : Int, v = .int .u8 x ∧ 0 ≤ x ∧ x ≤ 255 := by
  obtain ⟨m1, hm1⟩ := h
  obtain ⟨a, e1, _, u1⟩ := DataW.trod_int Try.underlying5 hm1
  obtain ⟨a', rfl⟩ := okWide_int Try.underlying5 hv
  obtain rfl : a' = a := by simpa [Value.cells] using e1
  exact ⟨a', rfl, bounds_u8 u1⟩
end
theorem own : ownKnob Try.prog.godebug = none := by kernel_rfl
set_option maxRecDepth 100000 in
set_option maxHeartbeats 16000000 in
theorem walk_many (x0 x1 : Int) (AP : Option Addr) (us : List Nat) (cp : Nat) (w0 : World) (hP : RowU w0 AP us) (u0 : 0 ≤ x0) (u1 : x0 ≤ 255) (u2 : 0 ≤ x1) (u3 : x1 ≤ 255) (hlen : 300 < us.length) :
    Calls Try.prog 3 #[.int .u8 x0, .int .u8 x1, .slice AP us.length cp] w0 fun e w' => e = .returned (.bool true) ∧ Below w0.heap.size w0 w' := by
  have hb : Below w0.heap.size w0 w0 := Below.refl _ _
  obtain ⟨c, hc⟩ : ∃ n : Nat, 1 + x0 % 8 = (n : Int) := ⟨(1 + x0 % 8).toNat, by omega⟩
  have c1 : 1 ≤ c := by omega
  have c2 : c ≤ 8 := by omega
  obtain ⟨n, hn⟩ : ∃ n : Nat, 1 + x1 % 12 = (n : Int) := ⟨(1 + x1 % 12).toNat, by omega⟩
  have n1 : 1 ≤ n := by omega
  have n2 : n ≤ 200 := by omega
  go_enter Try.func3, Try.ntmps3
  go_wp2_with fail
  refine (shown4_any _).mono ?_
  rintro e w1 ⟨rfl, hk⟩
  replace hP := hP.step hk
  replace hb := bstep hb hk
  clear hk
  have hlq : (300 : Int) < (us.length : Int) := by omega
  go_wp2_with fail
  go_ret
  exact ⟨rfl, hb⟩

set_option maxRecDepth 100000 in
set_option maxHeartbeats 16000000 in
theorem walk_few (x0 x1 : Int) (AP : Option Addr) (us : List Nat) (cp : Nat) (w0 : World) (hP : RowU w0 AP us) (u0 : 0 ≤ x0) (u1 : x0 ≤ 255) (u2 : 0 ≤ x1) (u3 : x1 ≤ 255) (hlen : us.length ≤ 300) :
    Calls Try.prog 3 #[.int .u8 x0, .int .u8 x1, .slice AP us.length cp] w0 fun e w' => e = .returned (.bool true) ∧ Below w0.heap.size w0 w' := by
  have hb : Below w0.heap.size w0 w0 := Below.refl _ _
  obtain ⟨c, hc⟩ : ∃ n : Nat, 1 + x0 % 8 = (n : Int) := ⟨(1 + x0 % 8).toNat, by omega⟩
  have c1 : 1 ≤ c := by omega
  have c2 : c ≤ 8 := by omega
  obtain ⟨n, hn⟩ : ∃ n : Nat, 1 + x1 % 12 = (n : Int) := ⟨(1 + x1 % 12).toNat, by omega⟩
  have n1 : 1 ≤ n := by omega
  have n2 : n ≤ 200 := by omega
  go_enter Try.func3, Try.ntmps3
  go_wp2_with fail
  refine (shown4_any _).mono ?_
  rintro e w1 ⟨rfl, hk⟩
  replace hP := hP.step hk
  replace hb := bstep hb hk
  clear hk
  have hlq : ¬ (300 : Int) < (us.length : Int) := by omega
  obtain ⟨y, hy⟩ : ∃ y, y = pPlay c n us := ⟨_, rfl⟩
  have HP := hid (show ∀ w, RowU w AP us → Calls Try.prog 12 #[.int .i64 (c : Int), .int .i64 (n : Int), .slice AP us.length cp] w (RetPlay w y) from fun w h => by rw [hy]; exact play_any c n us AP cp w c1 c2 n1 n2 (by omega) h)
  have hI := PInv.play n1 n2 c1 c2 us us.length (Nat.le_refl _) (by omega)
  have hAl := alive_play n1 n2 c1 us (by omega)
  rw [List.take_length, ← hy] at hI
  rw [← hy] at hAl
  have HI := hid hI
  have HAL := hid hAl
  clear hI hAl hy
  go_upto_region 7 with (go_at_call 12; (with_reducible refine (HP.out _ hP).mono ?_); rintro e w2 ⟨A5, B5, C5, L5, a5, b5, c5, d5, g5, qs5, rfl, S5, O5, hk⟩)
  replace hP := hP.step hk
  replace hb := bstep hb hk
  clear hk
  have Bk5 := heap_alloc_new w2 (.cells #[.slice A5 y.s.M.W.length a5, .slice B5 y.s.M.G.length b5, .bool y.s.M.bad, .slice C5 y.s.C.length c5, .slice L5 y.s.L.length d5] 30)
  have lt5 : w2.heap.size < (w2.alloc (.cells #[.slice A5 y.s.M.W.length a5, .slice B5 y.s.M.G.length b5, .bool y.s.M.bad, .slice C5 y.s.C.length c5, .slice L5 y.s.L.length d5] 30)).heap.size := by simp
  have hk : Below w2.heap.size w2 (w2.alloc (.cells #[.slice A5 y.s.M.W.length a5, .slice B5 y.s.M.G.length b5, .bool y.s.M.bad, .slice C5 y.s.C.length c5, .slice L5 y.s.L.length d5] 30)) := boxed _ _
  have nw5 : w0.heap.size ≤ w2.heap.size := hb.size
  replace hP := hP.step hk
  replace S5 := S5.step hk
  replace O5 := O5.step hk
  replace hb := bstep hb hk
  clear hk
  obtain ⟨v5, hv⟩ : ∃ v, w2.heap.size = v := ⟨_, rfl⟩
  replace nw5 := Nat.le_trans nw5 (Nat.le_of_eq hv)
  rw [hv] at Bk5 lt5 ⊢
  clear hv
  generalize (w2.alloc (.cells #[.slice A5 y.s.M.W.length a5, .slice B5 y.s.M.G.length b5, .bool y.s.M.bad, .slice C5 y.s.C.length c5, .slice L5 y.s.L.length d5] 30)) = w3 at *
  clear HP hlq
  clear hP
  have HOL := hid (show y.own.length = c from HI.out.ti.ol)
  rw [HOL.out]
  have HCL := hid (show y.s.C.length = c from HI.out.ti.cl)
  obtain ⟨T, l, hT, tri, fr, ht⟩ := HI.out.ti.ex
  have HWK1 := hid (tri.walk n2)
  have HGS := hid tri.gs
  have HTT := hid ht
  have HFR := hid fr
  have HGL := hid tri.ia.g
  have HBD := hid tri.ia.bad
  have HWW := hid tri.ia.inn
  have LLEN := hid (show l.length ≤ 1000000 from nodup_few tri.nd tri.rg n2)
  clear hT tri fr ht
  obtain ⟨lw, hlw⟩ : ∃ l9, l9 = l.map (fun (i : Nat) => (i : Int)) := ⟨_, rfl⟩
  have HLW := hid hlw
  rw [← hlw] at HWK1
  clear hlw
  have HW := hid (show ∀ w, RS w y.s A5 B5 C5 L5 → Calls Try.prog 13 #[.agg #[.slice A5 y.s.M.W.length a5, .slice B5 y.s.M.G.length b5, .bool y.s.M.bad]] w (RetInts w lw true) from fun w k1 => by have h9 := walk_any A5 B5 a5 b5 y.s.M w k1.W k1.G HI.out.ok.few.1 HI.out.ok.few.2.1 HI.out.ok.g HWW.out; rw [HWK1.out] at h9; exact h9)
  have m5_0 : w3.cell? ⟨v5, 0, none⟩ = some (.slice A5 y.s.M.W.length a5) := cell_of_row w3 _ 0 _ _ _ Bk5
  have m5_1 : w3.cell? ⟨v5, 1, none⟩ = some (.slice B5 y.s.M.G.length b5) := cell_of_row w3 _ 1 _ _ _ Bk5
  have m5_2 : w3.cell? ⟨v5, 2, none⟩ = some (.bool y.s.M.bad) := cell_of_row w3 _ 2 _ _ _ Bk5
  have m5_3 : w3.cell? ⟨v5, 3, none⟩ = some (.slice C5 y.s.C.length c5) := cell_of_row w3 _ 3 _ _ _ Bk5
  have m5_4 : w3.cell? ⟨v5, 4, none⟩ = some (.slice L5 y.s.L.length d5) := cell_of_row w3 _ 4 _ _ _ Bk5
  go_upto_region 8 with (go_at_call 13; (with_reducible refine (HW.out _ S5).mono ?_); rintro e w4 ⟨A4, c4, rfl, r4, hk⟩)
  clear m5_0 m5_1 m5_2 m5_3 m5_4
  replace Bk5 := (hk.block v5 lt5).trans Bk5
  replace lt5 := Nat.lt_of_lt_of_le lt5 hk.size
  replace S5 := S5.step hk
  replace O5 := O5.step hk
  replace hb := bstep hb hk
  clear hk
  have hgl := HGL.out
  have hbd := HBD.out
  rw [hgl] at Bk5
  rw [hbd] at Bk5
  obtain ⟨bB5, oB5, eB5, lB5, atG⟩ := S5.G (by omega)
  subst eB5
  clear atG hgl hbd HW
  have m5_0 : w4.cell? ⟨v5, 0, none⟩ = some (.slice A5 y.s.M.W.length a5) := cell_of_row w4 _ 0 _ _ _ Bk5
  have m5_1 : w4.cell? ⟨v5, 1, none⟩ = some (.slice (some ⟨bB5, oB5, none⟩) (n + 1) b5) := cell_of_row w4 _ 1 _ _ _ Bk5
  have m5_2 : w4.cell? ⟨v5, 2, none⟩ = some (.bool false) := cell_of_row w4 _ 2 _ _ _ Bk5
  have m5_3 : w4.cell? ⟨v5, 3, none⟩ = some (.slice C5 y.s.C.length c5) := cell_of_row w4 _ 3 _ _ _ Bk5
  have m5_4 : w4.cell? ⟨v5, 4, none⟩ = some (.slice L5 y.s.L.length d5) := cell_of_row w4 _ 4 _ _ _ Bk5
  go_wp2_with fail
  clear m5_0 m5_1 m5_2 m5_3 m5_4
  have HPOS := hid (show 0 < (n + 1) by omega)
  have LG5 : g5 < w4.heap.size := heap_lt O5.row
  have hFS : 1 ≤ n := n1
  go_loopw [15] (fun i wq => ∃ p : Nat, 1 ≤ p ∧ p ≤ n + 1 ∧ i = .int .i64 (p : Int) ∧ Below w4.heap.size w4 wq) (fun i _ => n + 1 - (intOf i).toNat)
  case atStart => exact ⟨1, by omega, by omega, rfl, Below.refl _ _⟩
  case round =>
    obtain ⟨p, hp1, hp2, rfl, hq⟩ := hrel
    by_cases hpn : p ≤ n
    · have pl : (p : Int) ≤ (n : Int) := by omega
      have pb : (n : Int) ≤ 200 := by omega
      have HTP := hid (HTT.out p hp1 hpn)
      have HGP := hid (HGS.out p hp1 hpn)
      have HB1 := hid (show tot y.s.C y.own p ≤ 1 by rw [HTP.out]; split <;> omega)
      go_wp2_with fail
      go_loopw [16, 17] (fun a x wq => ∃ i : Nat, i ≤ c ∧ x = .int .i64 (i : Int) ∧ a = .int .i64 (totTo y.s.C y.own p i : Int) ∧ Below w4.heap.size w4 wq) (fun _ x _ => c - (intOf x).toNat)
      case atStart => exact ⟨0, by omega, rfl, by simp [totTo], hq⟩
      case round =>
        clear hq
        obtain ⟨i, hi, rfl, rfl, hq⟩ := hrel
        by_cases hic : i < c
        · have il : (i : Int) < (c : Int) := by omega
          have i0 : 0 ≤ (i : Int) := by omega
          have cb : (c : Int) ≤ 8 := by omega
          obtain ⟨x, hx⟩ : ∃ x, y.s.C[i]? = some x := ⟨_, List.getElem?_eq_getElem (by rw [HCL.out]; exact hic)⟩
          obtain ⟨o, ho⟩ : ∃ o, y.own[i]? = some o := ⟨_, List.getElem?_eq_getElem (by rw [HOL.out]; exact hic)⟩
          have HSU := hid (totTo_succ (p := p) hx ho)
          have HLE := hid (totTo_le y.s.C y.own p (i + 1))
          have hcase := HFR.out i x hx
          have HXI := hid hx
          clear hx
          obtain ⟨⟨qA, qc⟩, hqq, hPt, cg, _⟩ := (O5.step hq).at_ ho
          have HOB := hid (HI.out.ol o (List.mem_of_getElem? ho))
          clear ho hqq
          obtain ⟨ol, hol⟩ : ∃ m, m = o.length := ⟨_, rfl⟩
          rw [← hol] at cg
          have HOLN := hid hol
          clear hol
          obtain ⟨tt, htt⟩ : ∃ m, m = totTo y.s.C y.own p i := ⟨_, rfl⟩
          have HTO := hid htt
          rw [← htt]
          clear htt
          have HBB := hid (show tt + (o.count (p : Int) + pushing x.F p) ≤ 1 by have h1 := HSU.out; have h2 := HLE.out; have h3 := HB1.out; have h4 := HTO.out; unfold hold at h1; omega)
          go_wp2_with fail
          go_loop [16, 18] (fun a z => ∃ k : Nat, k ≤ ol ∧ z = .int .i64 (k : Int) ∧ a = .int .i64 ((tt + cntTo o p k : Nat) : Int)) (fun _ z => ol - (intOf z).toNat)
          case atStart => exact ⟨0, by omega, rfl, by simp [cntTo]⟩
          case round =>
            obtain ⟨k, hk1, rfl, rfl⟩ := hrel
            by_cases hkl : k < ol
            · have kl : (k : Int) < (ol : Int) := by omega
              have olb : (ol : Int) ≤ 300 := by have h1 := HOLN.out; have h2 := HOB.out; omega
              obtain ⟨bq, oq, eq, hcq⟩ := hPt.cell (by have := HOLN.out; omega)
              obtain ⟨zz, hzz⟩ : ∃ z, o[k]? = some z := ⟨_, List.getElem?_eq_getElem (by have := HOLN.out; omega)⟩
              have cz := hcq k zz hzz
              clear hcq
              try dsimp only at eq cg
              subst eq
              have HCU := hid (cntTo_succ (p := p) hzz)
              have HCE := hid (cntTo_le o p (k + 1))
              have k0 : 0 ≤ (k : Int) := by omega
              clear hzz
              obtain ⟨ck, hck⟩ : ∃ m, m = cntTo o p k := ⟨_, rfl⟩
              have HCK := hid hck
              rw [← hck] at HCU
              rw [← hck]
              clear hck
              by_cases hzp : zz = (p : Int)
              · have e1 : (zz == (p : Int)) = true := by simpa using hzp
                have VAL := hid (show cntTo o p (k + 1) = ck + 1 by rw [HCU.out, if_pos hzp])
                have sb : ((tt + ck : Nat) : Int) ≤ 1 := by have h1 := HCE.out; have h2 := HBB.out; have h3 := VAL.out; omega
                have sb0 : 0 ≤ ((tt + ck : Nat) : Int) := by omega
                clear hzp
                go_wp2_with fail
                go_round
                case rel => exact ⟨k + 1, by omega, by go_num, by first | (rw [VAL.out]; done) | (rw [VAL.out]; first | rfl | go_num | (congr 1; omega))⟩
                case measure => simp [intOf]; omega
              · have e1 : (zz == (p : Int)) = false := by simpa using hzp
                have VAL := hid (show cntTo o p (k + 1) = ck by rw [HCU.out, if_neg hzp]; omega)
                clear hzp
                go_wp2_with fail
                go_round
                case rel => exact ⟨k + 1, by omega, by go_num, by first | (rw [VAL.out]; done) | (rw [VAL.out]; first | rfl | go_num | (congr 1; omega))⟩
                case measure => simp [intOf]; omega
            · have kl : ¬ (k : Int) < (ol : Int) := by omega
              have kq : k = o.length := by have := HOLN.out; omega
              have VC := hid (show cntTo o p k = o.count (p : Int) by rw [kq]; exact cntTo_end o p)
              clear kq
              obtain ⟨sm, hsm⟩ : ∃ m, m = tt + cntTo o p k := ⟨_, rfl⟩
              have HSM := hid (hsm.trans (by rw [VC.out]))
              rw [← hsm]
              clear hsm VC
              have SA := S5.step hq
              have BA := (hq.block v5 lt5).trans Bk5
              rcases hcase with hF | ⟨f, hF, _⟩
              · have HPU := hid (show pushing x.F p = 0 by rw [hF]; rfl)
                have htp := top_idle (HXI.out) hF
                have HT := hid (show ∀ w, RS w y.s A5 (some ⟨bB5, oB5, none⟩) C5 L5 → Calls Try.prog 14 #[.agg #[.slice A5 y.s.M.W.length a5, .slice (some ⟨bB5, oB5, none⟩) (n + 1) b5, .bool false, .slice C5 y.s.C.length c5, .slice L5 y.s.L.length d5], .int .i64 (i : Int)] w _ from fun w k1 => by have h9 := rtop_no A5 (some ⟨bB5, oB5, none⟩) C5 L5 a5 b5 c5 d5 y.s (i : Int) w HI.out.ok.few k1 htp; rw [HGL.out, HBD.out] at h9; exact h9)
                clear htp hF
                have p0 : _ = some (.slice A5 y.s.M.W.length a5 : Value) := cell_of_row _ v5 0 _ _ _ BA
                have p1 : _ = some (.slice (some ⟨bB5, oB5, none⟩) (n + 1) b5 : Value) := cell_of_row _ v5 1 _ _ _ BA
                have p2 : _ = some (.bool false : Value) := cell_of_row _ v5 2 _ _ _ BA
                have p3 : _ = some (.slice C5 y.s.C.length c5 : Value) := cell_of_row _ v5 3 _ _ _ BA
                have p4 : _ = some (.slice L5 y.s.L.length d5 : Value) := cell_of_row _ v5 4 _ _ _ BA
                go_upto_region 23 with (go_at_call 14; (with_reducible refine (HT.out _ SA).mono ?_); rintro e wk ⟨rfl, hk⟩)
                have bF := heap_alloc_new wk (.cells #[.int .i64 0, .int .i64 0, .int .i64 0, .int .i64 0, .int .i64 0, .int .i64 0, .int .i64 0, .int .i64 0, .int .i64 0, .int .i64 0, .slice none 0 0] 38)
                have hq2 : Below w4.heap.size w4 (wk.alloc (.cells #[.int .i64 0, .int .i64 0, .int .i64 0, .int .i64 0, .int .i64 0, .int .i64 0, .int .i64 0, .int .i64 0, .int .i64 0, .int .i64 0, .slice none 0 0] 38)) := bstep hq (bstep hk (boxed _ _))
                clear HT SA BA hk p0 p1 p2 p3 p4
                generalize hvF : wk.heap.size = vF at *
                generalize (wk.alloc (.cells #[.int .i64 0, .int .i64 0, .int .i64 0, .int .i64 0, .int .i64 0, .int .i64 0, .int .i64 0, .int .i64 0, .int .i64 0, .int .i64 0, .slice none 0 0] 38)) = wf at *
                clear hvF
                have f0 : wf.cell? ⟨vF, 0, none⟩ = some (.int .i64 0) := cell_of_row wf _ 0 _ _ _ bF
                have f2 : wf.cell? ⟨vF, 2, none⟩ = some (.int .i64 0) := cell_of_row wf _ 2 _ _ _ bF
                clear bF
                have VT := hid (show totTo y.s.C y.own p (i + 1) = sm by rw [HSU.out]; unfold hold; rw [HPU.out]; have h1 := HSM.out; have h2 := HTO.out; omega)
                go_wp2_with fail
                go_roundw
                case rel => exact ⟨i + 1, by omega, by go_num, by first | (rw [VT.out]; done) | (rw [VT.out]; first | rfl | go_num), hq2⟩
                case measure => simp [intOf]; omega
              · have htp := top_core (HXI.out) hF
                rcases pTop_cases y.s (i : Int) HI.out.ok.few SA.C with hp | ⟨op, pc, r0, r1, r2, r3, r4_, r5, r6, r7, xs, hp, h6⟩
                · rw [htp] at hp; cases hp
                rw [htp] at hp
                obtain rfl := Option.some.inj hp
                clear hp
                have HPU := hid (show pushing x.F p = if op = 2 ∧ r0 = (p : Int) then 1 else 0 by rw [hF]; rfl)
                have HT := hid (show ∀ w, RS w y.s A5 (some ⟨bB5, oB5, none⟩) C5 L5 → Calls Try.prog 14 #[.agg #[.slice A5 y.s.M.W.length a5, .slice (some ⟨bB5, oB5, none⟩) (n + 1) b5, .bool false, .slice C5 y.s.C.length c5, .slice L5 y.s.L.length d5], .int .i64 (i : Int)] w _ from fun w k1 => by have h9 := rtop_is A5 (some ⟨bB5, oB5, none⟩) C5 L5 a5 b5 c5 d5 y.s (i : Int) op pc r0 r1 r2 r3 r4_ r5 r6 r7 xs w HI.out.ok.few k1 htp h6; rw [HGL.out, HBD.out] at h9; exact h9)
                clear htp hF
                have p0 : _ = some (.slice A5 y.s.M.W.length a5 : Value) := cell_of_row _ v5 0 _ _ _ BA
                have p1 : _ = some (.slice (some ⟨bB5, oB5, none⟩) (n + 1) b5 : Value) := cell_of_row _ v5 1 _ _ _ BA
                have p2 : _ = some (.bool false : Value) := cell_of_row _ v5 2 _ _ _ BA
                have p3 : _ = some (.slice C5 y.s.C.length c5 : Value) := cell_of_row _ v5 3 _ _ _ BA
                have p4 : _ = some (.slice L5 y.s.L.length d5 : Value) := cell_of_row _ v5 4 _ _ _ BA
                go_upto_region 23 with (go_at_call 14; (with_reducible refine (HT.out _ SA).mono ?_); rintro e wk ⟨A2, c2e, rfl, _, hk⟩)
                have bF := heap_alloc_new wk (.cells #[.int .i64 op, .int .i64 pc, .int .i64 r0, .int .i64 r1, .int .i64 r2, .int .i64 r3, .int .i64 r4_, .int .i64 r5, .int .i64 r6, .int .i64 r7, .slice A2 xs.length c2e] 38)
                have hq2 : Below w4.heap.size w4 (wk.alloc (.cells #[.int .i64 op, .int .i64 pc, .int .i64 r0, .int .i64 r1, .int .i64 r2, .int .i64 r3, .int .i64 r4_, .int .i64 r5, .int .i64 r6, .int .i64 r7, .slice A2 xs.length c2e] 38)) := bstep hq (bstep hk (boxed _ _))
                clear HT SA BA hk p0 p1 p2 p3 p4
                generalize hvF : wk.heap.size = vF at *
                generalize (wk.alloc (.cells #[.int .i64 op, .int .i64 pc, .int .i64 r0, .int .i64 r1, .int .i64 r2, .int .i64 r3, .int .i64 r4_, .int .i64 r5, .int .i64 r6, .int .i64 r7, .slice A2 xs.length c2e] 38)) = wf at *
                clear hvF
                have f0 : wf.cell? ⟨vF, 0, none⟩ = some (.int .i64 op) := cell_of_row wf _ 0 _ _ _ bF
                have f2 : wf.cell? ⟨vF, 2, none⟩ = some (.int .i64 r0) := cell_of_row wf _ 2 _ _ _ bF
                clear bF
                by_cases ho2 : op = 2
                · have e1 : (op == 2) = true := by simpa using ho2
                  by_cases hr0 : r0 = (p : Int)
                  · have e2 : (r0 == (p : Int)) = true := by simpa using hr0
                    have HP2 := hid (show pushing x.F p = 1 by rw [HPU.out, if_pos ⟨ho2, hr0⟩])
                    clear HPU ho2 hr0
                    have HPU := HP2
                    clear HP2
                    have VT := hid (show totTo y.s.C y.own p (i + 1) = sm + 1 by rw [HSU.out]; unfold hold; rw [HPU.out]; have h1 := HSM.out; have h2 := HTO.out; omega)
                    have sb : (sm : Int) ≤ 1 := by have h1 := HBB.out; have h2 := HSM.out; omega
                    have sb0 : 0 ≤ (sm : Int) := by omega
                    go_wp2_with fail
                    go_roundw
                    case rel => exact ⟨i + 1, by omega, by go_num, by first | (rw [VT.out]; done) | (rw [VT.out]; first | rfl | go_num), hq2⟩
                    case measure => simp [intOf]; omega
                  · have e2 : (r0 == (p : Int)) = false := by simpa using hr0
                    have HP2 := hid (show pushing x.F p = 0 by rw [HPU.out, if_neg (fun q => hr0 q.2)])
                    clear HPU ho2 hr0
                    have HPU := HP2
                    clear HP2
                    have VT := hid (show totTo y.s.C y.own p (i + 1) = sm by rw [HSU.out]; unfold hold; rw [HPU.out]; have h1 := HSM.out; have h2 := HTO.out; omega)
                    go_wp2_with fail
                    go_roundw
                    case rel => exact ⟨i + 1, by omega, by go_num, by first | (rw [VT.out]; done) | (rw [VT.out]; first | rfl | go_num), hq2⟩
                    case measure => simp [intOf]; omega
                · have e1 : (op == 2) = false := by simpa using ho2
                  have HP2 := hid (show pushing x.F p = 0 by rw [HPU.out, if_neg (fun q => ho2 q.1)])
                  clear HPU ho2
                  have HPU := HP2
                  clear HP2
                  have VT := hid (show totTo y.s.C y.own p (i + 1) = sm by rw [HSU.out]; unfold hold; rw [HPU.out]; have h1 := HSM.out; have h2 := HTO.out; omega)
                  go_wp2_with fail
                  go_roundw
                  case rel => exact ⟨i + 1, by omega, by go_num, by first | (rw [VT.out]; done) | (rw [VT.out]; first | rfl | go_num), hq2⟩
                  case measure => simp [intOf]; omega
        · have il : ¬ (i : Int) < (c : Int) := by omega
          have iq : i = c := by omega
          have VT := hid (show totTo y.s.C y.own p i = if p ∈ l then 0 else 1 by rw [iq, totTo_end HCL.out HOL.out]; exact HTP.out)
          clear iq
          have rA := r4.step hq
          have SA := S5.step hq
          have BA := (hq.block v5 lt5).trans Bk5
          obtain ⟨bG, oG, eG, _, hcG⟩ := SA.G (by have := HGL.out; omega)
          simp only [Option.some.injEq, Addr.mk.injEq, and_true] at eG
          obtain ⟨rfl, rfl⟩ := eG
          have cG := hcG p _ (show y.s.M.G[p]? = some (y.s.M.G.getD p 0) by rw [List.getD_eq_getElem?_getD, List.getElem?_eq_getElem (by have := HGL.out; omega)]; rfl)
          clear hcG
          have HIN := hid (show ∀ w, Row w A4 lw → Calls Try.prog 15 #[.slice A4 lw.length c4, .int .i64 (p : Int)] w fun e w' => e = .returned (.bool (decide (p ∈ l))) ∧ w = w' from fun w h => by have h9 := rin_any A4 c4 lw (p : Int) w h (by rw [HLW.out, List.length_map]; exact LLEN.out); rw [HLW.out, contains_cast, ← HLW.out] at h9; exact h9)
          have p0 : 0 ≤ (p : Int) := by omega
          have pg : (p : Int) < ((n + 1 : Nat) : Int) := by omega
          have pg2 : p < n + 1 := by omega
          obtain ⟨sm, hsm⟩ : ∃ m, m = totTo y.s.C y.own p i := ⟨_, rfl⟩
          obtain ⟨gv, hgv⟩ : ∃ m, m = y.s.M.G.getD p 0 := ⟨_, rfl⟩
          rw [← hsm] at VT
          rw [← hgv] at cG HGP
          rw [← hsm]
          clear hsm hgv
          by_cases hm : p ∈ l
          · have v1 : sm = 0 := by rw [VT.out]; simp [hm]
            have v2 : gv = 0 := by rw [HGP.out]; simp [hm]
            have v3 : decide (p ∈ l) = true := by simpa using hm
            subst v1 v2
            rw [v3] at HIN
            clear v3 hm VT HGP
            have q1 : _ = some (Value.slice (some ⟨bB5, oB5, none⟩) (n + 1) b5) := cell_of_row _ v5 1 _ _ _ BA
            go_wp2_with (go_at_call 15; (with_reducible refine (HIN.out _ rA).mono ?_); rintro e wz ⟨rfl, rfl⟩)
            go_roundw
            case rel => exact ⟨p + 1, by omega, by omega, by go_num, hq⟩
            case measure => simp [intOf]; omega
          · have v1 : sm = 1 := by rw [VT.out]; simp [hm]
            have v2 : gv = 1 := by rw [HGP.out]; simp [hm]
            have v3 : decide (p ∈ l) = false := by simpa using hm
            subst v1 v2
            rw [v3] at HIN
            clear v3 hm VT HGP
            have q1 : _ = some (Value.slice (some ⟨bB5, oB5, none⟩) (n + 1) b5) := cell_of_row _ v5 1 _ _ _ BA
            go_wp2_with (go_at_call 15; (with_reducible refine (HIN.out _ rA).mono ?_); rintro e wz ⟨rfl, rfl⟩)
            go_roundw
            case rel => exact ⟨p + 1, by omega, by omega, by go_num, hq⟩
            case measure => simp [intOf]; omega
    · have pl : ¬ (p : Int) ≤ (n : Int) := by omega
      go_wp2_with fail
      go_ret
      exact ⟨rfl, bstep hb hq⟩

set_option maxRecDepth 100000 in
set_option maxHeartbeats 16000000 in
theorem walk (x0 x1 : Int) (AP : Option Addr) (us : List Nat) (cp : Nat) (w0 : World) (hP : RowU w0 AP us) (u0 : 0 ≤ x0) (u1 : x0 ≤ 255) (u2 : 0 ≤ x1) (u3 : x1 ≤ 255)  :
    Calls Try.prog 3 #[.int .u8 x0, .int .u8 x1, .slice AP us.length cp] w0 fun e w' => e = .returned (.bool true) ∧ Below w0.heap.size w0 w' := by
  by_cases hlen : us.length ≤ 300
  · exact walk_few x0 x1 AP us cp w0 hP u0 u1 u2 u3 hlen
  · exact walk_many x0 x1 AP us cp w0 hP u0 u1 u2 u3 (by omega)

set_option maxRecDepth 100000 in
theorem lifted (os : Os) (started : os.Started) (H : Type) (enc : TypeId × Value → H) :
    ReturnsInHanded {} Try.checked os 3 .any (Rows.stackSafeSpec.pre6 enc Try.prog Try.f3 Rows.stackSafeRow.domain false) (Rows.stackSafeSpec.post enc Try.prog Try.f3 false true false false) := by
  refine returnsInHanded_of_change (C := Try.checked) own started (by kernel_rfl) Try.func3
    (ChangeSpec.witness6 (enc := enc) (C := Try.checked) false ⟨#[], #[.int .u8 0, .int .u8 0, .slice none 0 0], []⟩ 8 (by kernel_rfl) (by kernel_rfl) (by kernel_rfl) (by kernel_rfl)) ?_
  intro W base args ds gs before hval0 hW hcnd _
  have hval : ∀ (j : Nat) t v, Try.f3.params[j]? = some t → args[j]? = some v → Value.okWide Try.prog W .any base t v := hval0
  have hW' := hW
  obtain ⟨p, q, hA0, hV, rfl, hfz, hnd⟩ := hW
  have hA : DataW.TrodAll enc Try.prog W 0 (fun _ => true) true Try.f3.params.toList args.toList ds p := hA0
  rw [Try.params3] at hA hval
  obtain ⟨v0, vs0, d0, ds0, p0, q0, hargs, rfl, rfl, h0, r0⟩ := trodAll_cons hA
  obtain ⟨v1, vs1, d1, ds1, p1, q1, rfl, rfl, rfl, h1, r1⟩ := trodAll_cons r0
  obtain ⟨v2, vs2, d2, ds2, p2, q2, rfl, rfl, rfl, h2, r2⟩ := trodAll_cons r1
  obtain ⟨rfl, rfl, rfl⟩ := trodAll_nil r2
  obtain rfl : args = #[v0, v1, v2] := by cases args; simp_all
  obtain ⟨rfl, rfl⟩ := trodVars_none hV
  clear hA0 hval0
  obtain ⟨x0, rfl, u0, u1⟩ := open_byte (hval 0 _ v0 rfl rfl) h0
  obtain ⟨x1, rfl, u2, u3⟩ := open_byte (hval 1 _ v1 rfl rfl) h1
  obtain ⟨AP, us, cp, rfl, hP⟩ := open_picks (hval 2 _ v2 rfl rfl) h2
  refine (walk x0 x1 AP us cp W hP u0 u1 u2 u3).mono fun e W' ⟨he, hb⟩ => ?_
  subst he
  exact ⟨_, rfl, law_post (tb := 4) (by kernel_rfl) (by kernel_rfl) (by kernel_rfl) Try.underlying4 rfl hW' rfl hb⟩

theorem over : Rows.stackSafeRow.holds Try.pinned (OpenSpec.ofChange Rows.stackSafeSpec) :=
  OpenClaim.holds_of_wide 3 Try.f3 rfl rfl rfl rfl rfl rfl rfl ⟨rfl, rfl, rfl, rfl, rfl⟩ rfl rfl rfl rfl rfl (by kernel_rfl) Try.func3 (by kernel_rfl)
    (of_decide_eq_true (by kernel_rfl)) (by unfold Func.isWrapper; first | (rw [if_pos (by decide +kernel)]; kernel_rfl) | (rw [if_neg (by decide +kernel)]; exact ⟨rfl, rfl⟩))
    (fun os started H enc _ => lifted os started H enc)
end StackSafe

theorem stackSafe_holds : Rows.StackSafeSaid := StackSafe.over
#print axioms stackSafe_holds
end Go.Proofs.Ytlknpmdmnekedaa
