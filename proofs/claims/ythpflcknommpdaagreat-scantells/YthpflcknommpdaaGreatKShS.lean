/- Contracts: all that is retired; which ops these are; the limit, by the program and by the document. -/
import Derived.Test.YthpflcknommpdaaGreatMS2
import Derived.Test.YthpflcknommpdaaGreatKWal
import Derived.Test.YthpflcknommpdaaGreatKNew
import Derived.Test.YthpflcknommpdaaGreatKScD
namespace Go.Proofs.YthpflcknommpdaaGreat
open Go.RowKit
set_option maxRecDepth 100000
set_option maxHeartbeats 8000000
set_option linter.unusedVariables false
set_option linter.unusedSimpArgs false
def RetL (w:World) (l:List Int) (e:Ending) (w':World):Prop:=∃ (A':Option Addr) (c':Nat),e = .returned (.slice A' l.length c')∧Row w' A' l∧Below w.heap.size w w'
def pRetTo (s:Sy) (k:Nat):List Int:=((s.C.take k).map (·.ret)).flatten
theorem pRetTo_succ {s:Sy} {k:Nat} {x:Co} (hx:s.C[k]? = some x):pRetTo s (k+1) = pRetTo s k++x.ret:=by
 unfold pRetTo
 rw [List.take_add_one,hx]
 simp
theorem pRetTo_end (s:Sy):pRetTo s s.C.length = pRetired s:=by unfold pRetTo pRetired;rw [List.take_length]
theorem pRetTo_le (s:Sy) (k:Nat):(pRetTo s k).length≤(pRetired s).length:=by
 have e:pRetired s = pRetTo s k++((s.C.drop k).map (·.ret)).flatten:=by
  unfold pRetired pRetTo
  rw [← List.flatten_append,← List.map_append,List.take_append_drop]
 rw [e];simp
theorem retired_nil (w:World) (base:Nat) (s:Sy):w.ownsRow base 3 1 (.slice none 0 0) (pRetTo s 0).length ((pRetTo s 0).map inCells).flatten:=⟨by simp [pRetTo],.inl ⟨by simp [pRetTo],by simp [pRetTo]⟩⟩
theorem retired_any (A B C L:Option Addr) (a b c d:Nat) (s:Sy) (w:World) (hC:RowC w C s.C) (h2:s.C.length≤1000000) (hT:(pRetired s).length≤1000000) :
  Calls Tryz.prog 20 #[.agg #[.slice A s.M.W.length a,.slice B s.M.G.length b,.bool s.M.bad,.slice C s.C.length c,.slice L s.L.length d]] w (RetL w (pRetired s)):=by
 have b1:=heap_alloc_new w (.cells #[.slice A s.M.W.length a,.slice B s.M.G.length b,.bool s.M.bad,.slice C s.C.length c,.slice L s.L.length d] 28)
 have hb:Below w.heap.size w (w.alloc (.cells #[.slice A s.M.W.length a,.slice B s.M.G.length b,.bool s.M.bad,.slice C s.C.length c,.slice L s.L.length d] 28)):=boxed _ _
 have z1:w.heap.size < (w.alloc (.cells #[.slice A s.M.W.length a,.slice B s.M.G.length b,.bool s.M.bad,.slice C s.C.length c,.slice L s.L.length d] 28)).heap.size:=by simp
 go_enter Tryz.func20,Tryz.ntmps20
 go_upto_region 1 with (fail)
 generalize (w.alloc (.cells #[.slice A s.M.W.length a,.slice B s.M.G.length b,.bool s.M.bad,.slice C s.C.length c,.slice L s.L.length d] 28)) = w1 at *
 obtain ⟨-,-,-,p3⟩:=cells4 b1
 go_wp2_with fail
 go_loopw [3,9] (fun v i wr=>∃ k:Nat,k≤s.C.length∧i = .int .i64 k∧wr.ownsRow w1.heap.size 3 1 v (pRetTo s k).length ((pRetTo s k).map inCells).flatten∧Below w1.heap.size w1 wr) (fun _ i _=>s.C.length - (intOf i).toNat)
 case atStart=>exact ⟨0,Nat.zero_le _,rfl,retired_nil _ _ _,Below.refl _ _⟩
 case round =>
  obtain ⟨k,hk,rfl,ho,hk1⟩:=hrel
  have b1r:=(hk1.block w.heap.size z1).trans b1
  have hbr:=bstep hb hk1
  obtain ⟨-,-,-,y3⟩:=cells4 b1r
  obtain ⟨A1,c1,rfl⟩:=own_val ho
  by_cases hlt:k < s.C.length
  ·have kl:(k:Int) < (s.C.length:Int):=by omega
   have k0:(0:Int)≤(k:Int):=by omega
   obtain ⟨x,hx⟩:∃ x,s.C[k]? = some x:=⟨_,List.getElem?_eq_getElem hlt⟩
   obtain ⟨b0,o0,rfl,hbl,hat⟩:=hC (by omega)
   obtain ⟨AF,AR,cF,cR,hcs,rF,rR,hcF,hcR⟩:=(hat k x hx).cs4
   have hs1:=pRetTo_succ hx
   have hle:=pRetTo_le s (k+1)
   have hll:(pRetTo s k).length+x.ret.length≤1000000:=by rw [hs1,List.length_append] at hle;omega
   have u0:wr.cell? ⟨b0,o0+k * 7,none⟩ = some (.slice AF x.F.length cF):=(hbr.cell hbl).trans (hcs 0 _ rfl)
   have u1:wr.cell? ⟨b0,o0+k * 7+1,none⟩ = some (.int .i64 x.v):=(hbr.cell hbl).trans (hcs 1 _ rfl)
   have u2:wr.cell? ⟨b0,o0+k * 7+2,none⟩ = some (.int .i64 x.e):=(hbr.cell hbl).trans (hcs 2 _ rfl)
   have u3:wr.cell? ⟨b0,o0+k * 7+3,none⟩ = some (.int .i64 x.x0):=(hbr.cell hbl).trans (hcs 3 _ rfl)
   have u4:wr.cell? ⟨b0,o0+k * 7+4,none⟩ = some (.int .i64 x.x1):=(hbr.cell hbl).trans (hcs 4 _ rfl)
   have u5:wr.cell? ⟨b0,o0+k * 7+5,none⟩ = some (.int .i64 x.x2):=(hbr.cell hbl).trans (hcs 5 _ rfl)
   have u6:wr.cell? ⟨b0,o0+k * 7+6,none⟩ = some (.slice AR x.ret.length cR):=(hbr.cell hbl).trans (hcs 6 _ rfl)
   have HS1:=hid hs1
   have HO:=hid ho
   clear hat hcs hx hs1 hle ho
   go_wp2_with (at_builtin;(refine wpList_append_ontoR rfl _ _ _ rfl w1.heap.size Tryz.underlying22 infoI _ _ (pRetTo s k) rfl rfl (own_step HO.out (boxed _ _)) _ _ _ x.ret rfl rfl (rR.step (bstep hbr (boxed _ _))) hll (by have:=hk1.size;simp;omega) ?_);intro v8 w8 ho8 hg8)
   obtain ⟨A8,c8,rfl⟩:=own_val ho8
   have hk8:Below w1.heap.size wr w8:=(boxed wr (.cells #[.slice AF x.F.length cF,.int .i64 x.v,.int .i64 x.e,.int .i64 x.x0,.int .i64 x.x1,.int .i64 x.x2,.slice AR x.ret.length cR] 56)).mono hk1.size |>.trans (Turn.to_below ((Turn.refl (fun b=>w1.heap.size≤b) _).grown hg8 (fun q e=>(HO.out.lt q e).1)) (by have:=hk1.size;simp;omega) (fun _ h=>h))
   rw [← HS1.out] at ho8 ⊢
   go_roundw
   case rel=>exact ⟨k+1,by omega,by go_num,ho8,hk1.trans hk8⟩
   case measure=>simp [intOf];omega
  ·have kl:¬ (k:Int) < (s.C.length:Int):=by omega
   have ek:k = s.C.length:=by omega
   subst ek
   have ho2:=ho
   rw [pRetTo_end] at ho2
   have HO:=hid ho2
   clear ho ho2
   go_wp2_with fail
   obtain ⟨A8,c8,e8,r8⟩:=own_row1 HO.out rfl
   have r8:∃ A8 c8,Value.slice A1 (pRetired s).length c1 = .slice A8 (pRetired s).length c8∧Row wr A8 (pRetired s):=own_row1 HO.out rfl
   obtain ⟨A8,c8,e8,r8⟩:=r8
   injection e8 with e8 _ e9
   subst e8 e9
   refine bodyPost_ret (v:=.slice A1 (pRetTo s s.C.length).length c1) (by simp [results,Tryz.results20,go_sem]) rfl ?_
   exact ⟨A1,c1,by rw [pRetTo_end],r8,bstep hb hk1⟩
theorem rretired_any (A B C L:Option Addr) (a b c d:Nat) (s:Sy) (w:World) (hC:RowC w C s.C) (h2:s.C.length≤1000000) (hT:(pRetired s).length≤1000000) :
  Calls Tryz.prog 21 #[.agg #[.slice A s.M.W.length a,.slice B s.M.G.length b,.bool s.M.bad,.slice C s.C.length c,.slice L s.L.length d]] w (RetL w (pRetired s)):=by
 have b1:=heap_alloc_new w (.cells #[.slice A s.M.W.length a,.slice B s.M.G.length b,.bool s.M.bad,.slice C s.C.length c,.slice L s.L.length d] 28)
 have hb:Below w.heap.size w (w.alloc (.cells #[.slice A s.M.W.length a,.slice B s.M.G.length b,.bool s.M.bad,.slice C s.C.length c,.slice L s.L.length d] 28)):=boxed _ _
 have z1:w.heap.size < (w.alloc (.cells #[.slice A s.M.W.length a,.slice B s.M.G.length b,.bool s.M.bad,.slice C s.C.length c,.slice L s.L.length d] 28)).heap.size:=by simp
 go_enter Tryz.func21,Tryz.ntmps21
 go_upto_region 1 with (fail)
 generalize (w.alloc (.cells #[.slice A s.M.W.length a,.slice B s.M.G.length b,.bool s.M.bad,.slice C s.C.length c,.slice L s.L.length d] 28)) = w1 at *
 go_wp2_with fail
 go_loopw [3,4] (fun v i wr=>∃ k:Nat,k≤s.C.length∧i = .int .i64 k∧wr.ownsRow w1.heap.size 3 1 v (pRetTo s k).length ((pRetTo s k).map inCells).flatten∧Below w1.heap.size w1 wr) (fun _ i _=>s.C.length - (intOf i).toNat)
 case atStart=>exact ⟨0,Nat.zero_le _,rfl,retired_nil _ _ _,Below.refl _ _⟩
 case round =>
  obtain ⟨k,hk,rfl,ho,hk1⟩:=hrel
  have b1r:=(hk1.block w.heap.size z1).trans b1
  have hbr:=bstep hb hk1
  obtain ⟨-,-,-,y3⟩:=cells4 b1r
  obtain ⟨A1,c1,rfl⟩:=own_val ho
  by_cases hlt:k < s.C.length
  ·have kl:(k:Int) < (s.C.length:Int):=by omega
   have k0:(0:Int)≤(k:Int):=by omega
   obtain ⟨x,hx⟩:∃ x,s.C[k]? = some x:=⟨_,List.getElem?_eq_getElem hlt⟩
   obtain ⟨b0,o0,rfl,hbl,hat⟩:=hC (by omega)
   obtain ⟨AF,AR,cF,cR,hcs,rF,rR,hcF,hcR⟩:=(hat k x hx).cs4
   have hs1:=pRetTo_succ hx
   have hle:=pRetTo_le s (k+1)
   have hll:(pRetTo s k).length+x.ret.length≤1000000:=by rw [hs1,List.length_append] at hle;omega
   have u6:wr.cell? ⟨b0,o0+k * 7+6,none⟩ = some (.slice AR x.ret.length cR):=(hbr.cell hbl).trans (hcs 6 _ rfl)
   have HS1:=hid hs1
   have HO:=hid ho
   clear hat hcs hx hs1 hle ho
   go_wp2_with (at_builtin;(refine wpList_append_ontoR rfl _ _ _ rfl w1.heap.size Tryz.underlying22 infoI _ _ (pRetTo s k) rfl rfl HO.out _ _ _ x.ret rfl rfl (rR.step hbr) hll (by have:=hk1.size;simp;omega) ?_);intro v8 w8 ho8 hg8)
   obtain ⟨A8,c8,rfl⟩:=own_val ho8
   have hk8:Below w1.heap.size wr w8:=Turn.to_below ((Turn.refl (fun b=>w1.heap.size≤b) _).grown hg8 (fun q e=>(HO.out.lt q e).1)) hk1.size (fun _ h=>h)
   rw [← HS1.out] at ho8 ⊢
   go_roundw
   case rel=>exact ⟨k+1,by omega,by go_num,ho8,hk1.trans hk8⟩
   case measure=>simp [intOf];omega
  ·have kl:¬ (k:Int) < (s.C.length:Int):=by omega
   have ek:k = s.C.length:=by omega
   subst ek
   have ho2:=ho
   rw [pRetTo_end] at ho2
   have HO:=hid ho2
   clear ho ho2
   go_wp2_with fail
   obtain ⟨A8,c8,e8,r8⟩:=own_row1 HO.out rfl
   have r8:∃ A8 c8,Value.slice A1 (pRetired s).length c1 = .slice A8 (pRetired s).length c8∧Row wr A8 (pRetired s):=own_row1 HO.out rfl
   obtain ⟨A8,c8,e8,r8⟩:=r8
   injection e8 with e8 _ e9
   subst e8 e9
   refine bodyPost_ret (v:=.slice A1 (pRetTo s s.C.length).length c1) (by simp [results,Tryz.results21,go_sem]) rfl ?_
   exact ⟨A1,c1,by rw [pRetTo_end],r8,bstep hb hk1⟩
def pOwn6 (op:Int):Bool:=op == 1 || op == 2 || (op == 3 || op == 4) || (op == 5 || op == 6)
theorem own6_0 (op:Int) (w:World) (h0:(op == 1 || op == 2) = true):Calls Tryz.prog 17 #[.int .i64 op] w fun e w'=>e = .returned (.bool true)∧Below w.heap.size w w':=by
 have HO0:=hid h0
 clear h0
 go_enter Tryz.func17,Tryz.ntmps17
 go_wp2_with (go_at_call 64;(with_reducible refine (whose_0 op _ HO0.out).mono ?_);rintro e w4 ⟨rfl,hk⟩)
 go_ret
 exact ⟨rfl,bstep hk (boxed _ _)⟩
theorem own6_1 (op:Int) (w:World) (h0:(op == 1 || op == 2) = false) (h1:(op == 3 || op == 4) = true):Calls Tryz.prog 17 #[.int .i64 op] w fun e w'=>e = .returned (.bool true)∧Below w.heap.size w w':=by
 have HO0:=hid h0
 clear h0
 have HO1:=hid h1
 clear h1
 go_enter Tryz.func17,Tryz.ntmps17
 go_wp2_with (go_at_call 64;(with_reducible refine (whose_1 op _ HO0.out HO1.out).mono ?_);rintro e w4 ⟨rfl,hk⟩)
 go_ret
 exact ⟨rfl,bstep hk (boxed _ _)⟩
theorem own6_2 (op:Int) (w:World) (h0:(op == 1 || op == 2) = false) (h1:(op == 3 || op == 4) = false) (h2:(op == 5 || op == 6) = true):Calls Tryz.prog 17 #[.int .i64 op] w fun e w'=>e = .returned (.bool true)∧Below w.heap.size w w':=by
 have HO0:=hid h0
 clear h0
 have HO1:=hid h1
 clear h1
 have HO2:=hid h2
 clear h2
 go_enter Tryz.func17,Tryz.ntmps17
 go_wp2_with (go_at_call 64;(with_reducible refine (whose_2 op _ HO0.out HO1.out HO2.out).mono ?_);rintro e w4 ⟨rfl,hk⟩)
 go_ret
 exact ⟨rfl,bstep hk (boxed _ _)⟩
theorem own6_3 (op:Int) (w:World) (h0:(op == 1 || op == 2) = false) (h1:(op == 3 || op == 4) = false) (h2:(op == 5 || op == 6) = false):Calls Tryz.prog 17 #[.int .i64 op] w fun e w'=>e = .returned (.bool false)∧Below w.heap.size w w':=by
 have HO0:=hid h0
 clear h0
 have HO1:=hid h1
 clear h1
 have HO2:=hid h2
 clear h2
 go_enter Tryz.func17,Tryz.ntmps17
 go_wp2_with (go_at_call 64;(with_reducible refine (whose_3 op _ HO0.out HO1.out HO2.out).mono ?_);rintro e w4 ⟨rfl,hk⟩)
 go_ret
 exact ⟨rfl,bstep hk (boxed _ _)⟩
theorem own6_any (op:Int) (w:World):Calls Tryz.prog 17 #[.int .i64 op] w fun e w'=>e = .returned (.bool (pOwn6 op))∧Below w.heap.size w w':=by
 rcases Bool.eq_false_or_eq_true (op == 1 || op == 2) with h0 | h0
 ·have e:pOwn6 op = true:=by unfold pOwn6;rw [h0];rfl
  rw [e];exact own6_0 op w h0
 ·rcases Bool.eq_false_or_eq_true (op == 3 || op == 4) with h1 | h1
  ·have e:pOwn6 op = true:=by unfold pOwn6;rw [h0,h1];rfl
   rw [e];exact own6_1 op w h0 h1
  ·rcases Bool.eq_false_or_eq_true (op == 5 || op == 6) with h2 | h2
   ·have e:pOwn6 op = true:=by unfold pOwn6;rw [h0,h1,h2];rfl
    rw [e];exact own6_2 op w h0 h1 h2
   ·have e:pOwn6 op = false:=by unfold pOwn6;rw [h0,h1,h2];rfl
    rw [e];exact own6_3 op w h0 h1 h2
theorem Row.away {w w':World} {A:Option Addr} {g:Nat} {xs:List Int} (h:Row w A xs) (t:Turn (fun b=>b = g) w w') (ha:Away A g):Row w' A xs:=fun hn=>by
 obtain ⟨b,o,e,hl,hc⟩:=h hn
 have hb:b ≠ g:=ha _ e
 exact ⟨b,o,e,Nat.lt_of_lt_of_le hl t.size,fun j x hx=>(t.cell hl hb).trans (hc j x hx)⟩
theorem RowC.away {w w':World} {C:Option Addr} {g:Nat} {cs:List Co} (h:RowC w C cs) (t:Turn (fun b=>b = g) w w') (ha:Away C g) (hF:∀ x ∈ cs,x.F = []∧x.ret = []):RowC w' C cs:=fun hn=>by
 obtain ⟨b,o,e,hl,hc⟩:=h hn
 have hb:b ≠ g:=ha _ e
 refine ⟨b,o,e,Nat.lt_of_lt_of_le hl t.size,fun j x hx=>?_⟩
 obtain ⟨⟨A,c,h0,h1,h2,h3⟩,k1,k2,k3,k4,k5,A',c',k6,k7⟩:=hc j x hx
 obtain ⟨f1,f2⟩:=hF x (List.mem_of_getElem? hx)
 refine ⟨⟨A,c,(t.cell hl hb).trans h0,fun h=>absurd h (by rw [f1];simp),h2,fun A2 n2 c2 h9=>h3 A2 n2 c2 ((t.cell hl hb).symm.trans h9)⟩,(t.cell hl hb).trans k1,(t.cell hl hb).trans k2,(t.cell hl hb).trans k3,(t.cell hl hb).trans k4,(t.cell hl hb).trans k5,A',c',(t.cell hl hb).trans k6,fun h=>absurd h (by rw [f2];simp)⟩
def sy1 (s:Sy):Sy:=⟨⟨s.M.W,s.M.G.set 1 1,s.M.bad⟩,s.C,s.L⟩
theorem sy1_G (s:Sy):(sy1 s).M.G.length = s.M.G.length:=List.length_set
def e6a:Sy:=sy1 (syFill 2 9)
def e6b:Sy:=pCall e6a 0 ⟨5,0,[1,0,0,0,0,0,0,0],[]⟩
def e6c:Sy:=pScan e6b 0
theorem e6a_few:SyFew e6a:=by unfold SyFew;decide +kernel
theorem e6b_few:SyFew e6b∧2≤e6b.M.G.length∧e6b.L.length≤999998:=by unfold SyFew;decide +kernel
theorem e6b_top:((pTop e6b 0).map (fun f=>f.R.getD 0 0)).getD 0 = 1:=by decide +kernel
theorem e6c_len:e6c.M.G.length = 10∧e6c.C.length = 2∧pRetired e6c = [1]∧e6c.M.G[1]? = some 2:=by decide +kernel
theorem e6c_co:(e6c.C[0]?).map (·.v) = some 1:=by decide +kernel
theorem e60:(syFill 2 9).M.G.length = 10∧(∀ x ∈ (syFill 2 9).C,x.F = []∧x.ret = [])∧(syFill 2 9).L = []:=by decide +kernel
theorem own6_2t:pOwn6 2 = true:=by decide +kernel
theorem own6_7t:pOwn6 7 = false:=by decide +kernel
theorem shown6_any (w0:World):Calls Tryz.prog 13 #[] w0 fun e w'=>e = .returned (.bool true)∧Below w0.heap.size w0 w':=by
 have hb:Below w0.heap.size w0 w0:=Below.refl _ _
 obtain ⟨s0,hs0⟩:∃ s,s = syFill 2 9:=⟨_,rfl⟩
 obtain ⟨s1,hs1⟩:∃ s,s = sy1 s0:=⟨_,rfl⟩
 obtain ⟨s2,hs2⟩:∃ s,s = e6b:=⟨_,rfl⟩
 obtain ⟨s3,hs3⟩:∃ s,s = e6c:=⟨_,rfl⟩
 have HN:=hid (show ∀ w,Calls Tryz.prog 61 #[.int .i64 2,.int .i64 9] w (RetPin w s0) from fun w=>by rw [hs0];exact rnew4_p 2 9 w (by omega) (by omega) (by omega) (by omega))
 have HC:=hid (show ∀ (A B C L:Option Addr) (a b c d:Nat) (w:World),RS w s1 A B C L→Calls Tryz.prog 35 #[.agg #[.slice A s0.M.W.length a,.slice B s0.M.G.length b,.bool s0.M.bad,.slice C s0.C.length c,.slice L s0.L.length d],.int .i64 0,.int .i64 5,.int .i64 1,.int .i64 0,.int .i64 0] w (RetSys w s2) from fun A B C L a b c d w k1=>by have h9:=rcall_u A B C L a b c d s1 0 5 1 0 0 w (by rw [hs1,hs0];exact e6a_few) k1;dsimp only [uS] at h9;rw [show s1.M.W.length = s0.M.W.length by rw [hs1];rfl,show s1.M.G.length = s0.M.G.length by rw [hs1];exact sy1_G _,show s1.M.bad = s0.M.bad by rw [hs1];rfl,show s1.C.length = s0.C.length by rw [hs1];rfl,show s1.L.length = s0.L.length by rw [hs1];rfl] at h9;rw [show pCall s1 0 ⟨5,0,[1,0,0,0,0,0,0,0],[]⟩ = s2 by rw [hs1,hs0,hs2];rfl] at h9;exact h9)
 have HS:=hid (show ∀ (A B C L:Option Addr) (a b c d:Nat) (w:World),RS w s2 A B C L→Calls Tryz.prog 23 #[.agg #[.slice A s2.M.W.length a,.slice B s2.M.G.length b,.bool s2.M.bad,.slice C s2.C.length c,.slice L s2.L.length d],.int .i64 0] w fun e w'=>∃ (A B C L:Option Addr) (a b c d:Nat),e = .returned (.agg #[.slice A s3.M.W.length a,.slice B 10 b,.bool s3.M.bad,.slice C 2 c,.slice L s3.L.length d])∧RS w' s3 A B C L∧Below w.heap.size w w' from fun A B C L a b c d w k1=>by have h8:=e6b_few;rw [← hs2] at h8;have h9:=scst_any A B C L a b c d s2 0 w h8.1 h8.2.1 k1 h8.2.2 (fun f hf=>by have h7:=e6b_top;rw [← hs2,hf] at h7;simp only [Option.map_some,Option.getD_some] at h7;rw [h7];unfold W64;omega);rw [show pScan s2 0 = s3 by rw [hs2,hs3];rfl] at h9;obtain ⟨l1,l2,_⟩:=e6c_len;rw [← hs3] at l1 l2;refine h9.mono (fun e w' h=>?_);obtain ⟨A,B,C,L,a,b,c,d,e1,r1,r2,r3,r4,r5⟩:=h.weak;rw [l1,l2] at e1;exact ⟨A,B,C,L,a,b,c,d,e1,⟨r1,r2,r3,r4⟩,r5⟩)
 have HR:=hid (show ∀ (A B C L:Option Addr) (a b c d:Nat) (w:World),RS w s3 A B C L→Calls Tryz.prog 20 #[.agg #[.slice A s3.M.W.length a,.slice B 10 b,.bool s3.M.bad,.slice C 2 c,.slice L s3.L.length d]] w fun e w'=>∃ (A:Option Addr) (c:Nat),e = .returned (.slice A 1 c)∧Row w' A [1]∧Below w.heap.size w w' from fun A B C L a b c d w k1=>by obtain ⟨l1,l2,l3,_⟩:=e6c_len;rw [← hs3] at l1 l2 l3;have h9:=retired_any A B C L a b c d s3 w k1.C (by omega) (by rw [l3];simp);rw [l1,l2,l3] at h9;exact h9)
 have HI:=hid (show ∀ (A B:Option Addr) (c d:Nat) (w:World),Row w A [1]→Row w B [1]→Calls Tryz.prog 19 #[.slice A 1 c,.slice B 1 d] w fun e w'=>e = .returned (.bool true)∧Below w.heap.size w w' from fun A B c d w k1 k2=>by have h9:=rints_any A B c d [1] [1] w k1 k2 (by simp);rw [show mInts [1] [1] = true by simp [mInts]] at h9;exact h9)
 have HO2:=hid (show ∀ w,Calls Tryz.prog 17 #[.int .i64 2] w fun e w'=>e = .returned (.bool true)∧Below w.heap.size w w' from fun w=>by have h9:=own6_any 2 w;rw [own6_2t] at h9;exact h9)
 have HO7:=hid (show ∀ w,Calls Tryz.prog 17 #[.int .i64 7] w fun e w'=>e = .returned (.bool false)∧Below w.heap.size w w' from fun w=>by have h9:=own6_any 7 w;rw [own6_7t] at h9;exact h9)
 have HLM:=hid (show ∀ w,Calls Tryz.prog 15 #[.int .i64 2] w fun e w'=>e = .returned (.int .i64 7)∧w = w' from fun w=>by have h9:=limit_any 2 w;rw [show pLimit 2 = 7 by rw [pLimit_in (by omega) (by omega)];rfl] at h9;exact h9)
 have h60:=e60
 rw [← hs0] at h60
 have lG:=hid (show s0.M.G.length = 10 from h60.1)
 have hF:=hid h60.2.1
 have hL0:=hid h60.2.2
 have HG2:=hid (show s3.M.G[1]? = some 2 by rw [hs3];exact e6c_len.2.2.2)
 have HGL:=hid (show s3.M.G.length = 10 by rw [hs3];exact e6c_len.1)
 have HCL:=hid (show s3.C.length = 2 by rw [hs3];exact e6c_len.2.1)
 have HC0:=hid (show (s3.C[0]?).map (·.v) = some 1 by rw [hs3];exact e6c_co)
 have HS1:=hid hs1
 clear hs0 hs1 hs2 hs3 h60
 go_enter Tryz.func13,Tryz.ntmps13
 go_wp2_with fail
 refine (HN.out w0).mono ?_
 rintro e w1 ⟨A0,C0,L0,g0,a0,b0,c0,d0,rfl,rW,rB,rC,rL,hA,hC,hg,hk⟩
 replace hb:=bstep hb hk
 clear hk
 go_upto_region 2 with (fail)
 have hgv:w1.heap.size ≠ g0:=Nat.ne_of_gt rB.lt
 replace rW:=rW.step (boxed w1 (.cells #[.slice A0 s0.M.W.length a0,.slice (some ⟨g0,0,none⟩) s0.M.G.length b0,.bool s0.M.bad,.slice C0 s0.C.length c0,.slice L0 s0.L.length d0] 28))
 replace rC:=rC.step (boxed w1 (.cells #[.slice A0 s0.M.W.length a0,.slice (some ⟨g0,0,none⟩) s0.M.G.length b0,.bool s0.M.bad,.slice C0 s0.C.length c0,.slice L0 s0.L.length d0] 28))
 replace rB:=rB.alloc (.cells #[.slice A0 s0.M.W.length a0,.slice (some ⟨g0,0,none⟩) s0.M.G.length b0,.bool s0.M.bad,.slice C0 s0.C.length c0,.slice L0 s0.L.length d0] 28)
 have Bk0:=heap_alloc_new w1 (.cells #[.slice A0 s0.M.W.length a0,.slice (some ⟨g0,0,none⟩) s0.M.G.length b0,.bool s0.M.bad,.slice C0 s0.C.length c0,.slice L0 s0.L.length d0] 28)
 have lt0:w1.heap.size < (w1.alloc (.cells #[.slice A0 s0.M.W.length a0,.slice (some ⟨g0,0,none⟩) s0.M.G.length b0,.bool s0.M.bad,.slice C0 s0.C.length c0,.slice L0 s0.L.length d0] 28)).heap.size:=by simp
 have hk:Below w1.heap.size w1 (w1.alloc (.cells #[.slice A0 s0.M.W.length a0,.slice (some ⟨g0,0,none⟩) s0.M.G.length b0,.bool s0.M.bad,.slice C0 s0.C.length c0,.slice L0 s0.L.length d0] 28)):=boxed _ _
 replace hb:=bstep hb hk
 clear hk
 obtain ⟨v0,hv⟩:∃ v,w1.heap.size = v:=⟨_,rfl⟩
 rw [hv] at hgv Bk0 lt0 ⊢
 clear hv
 generalize (w1.alloc (.cells #[.slice A0 s0.M.W.length a0,.slice (some ⟨g0,0,none⟩) s0.M.G.length b0,.bool s0.M.bad,.slice C0 s0.C.length c0,.slice L0 s0.L.length d0] 28)) = w2 at *
 obtain ⟨m0_0,m0_1,m0_2,m0_3,m0_4⟩:=cells5 Bk0
 have qc:w2.cell? ⟨g0,1,none⟩ = some (.int .i64 (s0.M.G.getD 1 0)):=rB.cellD 1 (by have:=lG.out;omega)
 have qf:w2.frozen? ⟨g0,1,none⟩ = false:=rB.frozen 1
 have q1:(1:Int) < (s0.M.G.length:Int):=by have:=lG.out;omega
 go_upto_region 3 with (fail)
 clear m0_0 m0_1 m0_2 m0_3 m0_4
 have T1:Turn (fun b=>b = g0) w2 (w2.setCell ⟨g0,1,none⟩ (.int .i64 1)):=(Turn.refl (fun b=>b = g0) w2).set (g:=g0) rfl 1 _
 have rB1:=rB.set 1 1
 replace Bk0:=(T1.block v0 lt0 hgv).trans Bk0
 replace lt0:v0 < (w2.setCell ⟨g0,1,none⟩ (.int .i64 1)).heap.size:=Nat.lt_of_lt_of_le lt0 T1.size
 have S1:RS (w2.setCell ⟨g0,1,none⟩ (.int .i64 1)) s1 A0 (some ⟨g0,0,none⟩) C0 L0:=by rw [HS1.out];exact ⟨rW.away T1 hA,rB1.row,rC.away T1 hC hF.out,fun h=>absurd h (by simp only [sy1];rw [hL0.out];simp)⟩
 replace hb:=hb.trans (T1.to_below hb.size (fun b h=>by omega))
 clear T1 rB1 rB rW rC rL qc qf q1 hA hC hF hgv hL0
 generalize w2.setCell ⟨g0,1,none⟩ (.int .i64 1) = w3 at *
 obtain ⟨m0_0,m0_1,m0_2,m0_3,m0_4⟩:=cells5 Bk0
 go_wp2_with fail
 refine (HC.out A0 _ C0 L0 a0 b0 c0 d0 _ S1).mono ?_
 rintro e w4 ⟨A5,B5,C5,L5,a5,b5,c5,d5,rfl,rW,rG,rC,rL,hk⟩
 clear m0_0 m0_1 m0_2 m0_3 m0_4
 replace Bk0:=(hk.block v0 lt0).trans Bk0
 replace lt0:=Nat.lt_of_lt_of_le lt0 hk.size
 replace S1:=S1.step hk
 replace hb:=bstep hb hk
 clear hk
 have S5:RS w4 s2 A5 B5 C5 L5:=⟨rW,rG,rC,rL⟩
 clear rW rG rC rL S1 Bk0 lt0
 go_wp2_with fail
 refine (HS.out A5 B5 C5 L5 a5 b5 c5 d5 _ S5).mono ?_
 rintro e w5 ⟨A6,B6,C6,L6,a6,b6,c6,d6,rfl,S6,hk⟩
 clear S5
 replace hb:=bstep hb hk
 clear hk
 go_upto_region 4 with (fail)
 have Bk6:=heap_alloc_new w5 (.cells #[.slice A6 s3.M.W.length a6,.slice B6 10 b6,.bool s3.M.bad,.slice C6 2 c6,.slice L6 s3.L.length d6] 28)
 have lt6:w5.heap.size < (w5.alloc (.cells #[.slice A6 s3.M.W.length a6,.slice B6 10 b6,.bool s3.M.bad,.slice C6 2 c6,.slice L6 s3.L.length d6] 28)).heap.size:=by simp
 have hk:Below w5.heap.size w5 (w5.alloc (.cells #[.slice A6 s3.M.W.length a6,.slice B6 10 b6,.bool s3.M.bad,.slice C6 2 c6,.slice L6 s3.L.length d6] 28)):=boxed _ _
 replace S6:=S6.step hk
 replace hb:=bstep hb hk
 clear hk
 obtain ⟨v6,hv⟩:∃ v,w5.heap.size = v:=⟨_,rfl⟩
 rw [hv] at Bk6 lt6 ⊢
 clear hv
 generalize (w5.alloc (.cells #[.slice A6 s3.M.W.length a6,.slice B6 10 b6,.bool s3.M.bad,.slice C6 2 c6,.slice L6 s3.L.length d6] 28)) = w6 at *
 obtain ⟨m6_0,m6_1,m6_2,m6_3,m6_4⟩:=cells5 Bk6
 go_wp2_with fail
 refine (HR.out A6 B6 C6 L6 a6 b6 c6 d6 _ S6).mono ?_
 rintro e w7 ⟨A7,c7,rfl,r7,hk⟩
 clear m6_0 m6_1 m6_2 m6_3 m6_4
 replace Bk6:=(hk.block v6 lt6).trans Bk6
 replace lt6:=Nat.lt_of_lt_of_le lt6 hk.size
 replace S6:=S6.step hk
 replace hb:=bstep hb hk
 clear hk
 go_upto_region 5 with (fail)
 go_wp2_with (go_at_call 15;(with_reducible refine (HLM.out _).mono ?_);rintro e wz ⟨rfl,rfl⟩)
 have r8:Row (w7.alloc (.cells #[.int .i64 1] 3)) (some ⟨w7.heap.size,0,none⟩) [1]:=Blk.row (heap_alloc_new w7 (.cells #[.int .i64 1] 3))
 have hk:Below w7.heap.size w7 (w7.alloc (.cells #[.int .i64 1] 3)):=boxed _ _
 replace Bk6:=(hk.block v6 lt6).trans Bk6
 replace lt6:=Nat.lt_of_lt_of_le lt6 hk.size
 replace S6:=S6.step hk
 replace r7:=r7.step hk
 replace hb:=bstep hb hk
 clear hk
 refine (HI.out _ _ _ _ _ r7 r8).mono ?_
 rintro e w9 ⟨rfl,hk⟩
 clear r7 r8
 have hz:=hk
 replace Bk6:=(hk.block v6 lt6).trans Bk6
 replace lt6:=Nat.lt_of_lt_of_le lt6 hk.size
 replace S6:=S6.step hk
 replace hb:=bstep hb hk
 clear hk
 obtain ⟨bG,oG,rfl,hbG,hatG⟩:=S6.G (by rw [HGL.out];omega)
 obtain ⟨bC,oC,rfl,hbC,hatC⟩:=S6.C (by rw [HCL.out];omega)
 obtain ⟨m6_0,m6_1,m6_2,m6_3,m6_4⟩:=cells5 Bk6
 have cG:w9.cell? ⟨bG,oG+1,none⟩ = some (.int .i64 2):=hatG 1 2 HG2.out
 have cC:w9.cell? ⟨bC,oC+1,none⟩ = some (.int .i64 1):=by
  obtain ⟨x,hx,hv⟩:=Option.map_eq_some_iff.1 HC0.out
  have h9:=(hatC 0 x hx).2.1
  rw [Nat.zero_mul,Nat.add_zero,hv] at h9
  exact h9
 go_wp2_with (first | (go_at_call 17;(with_reducible refine (HO2.out _).mono ?_);rintro e wy ⟨rfl,hk1⟩) | (go_at_call 17;(with_reducible refine (HO7.out _).mono ?_);rintro e wx ⟨rfl,hk2⟩))
 go_ret
 exact ⟨rfl,bstep (bstep hb hk1) hk2⟩
end Go.Proofs.YthpflcknommpdaaGreat
