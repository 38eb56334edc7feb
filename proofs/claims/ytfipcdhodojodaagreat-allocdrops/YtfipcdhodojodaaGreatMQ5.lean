/- Contract: a step of OScan that takes a node out, by the document. -/
import Derived.Test.YtfipcdhodojodaaGreatMQ0
import Derived.Test.YtfipcdhodojodaaGreatStkR
import Derived.Test.YtfipcdhodojodaaGreatMS2
import Derived.Test.YtfipcdhodojodaaGreatKStA
import Derived.Test.YtfipcdhodojodaaGreatScQ4
namespace Go.Proofs.YtfipcdhodojodaaGreat
open Go.RowKit
set_option maxRecDepth 100000
set_option maxHeartbeats 8000000
set_option linter.unusedVariables false
set_option linter.unusedSimpArgs false
theorem Row.takeK {w:World} {A:Option Addr} {xs:List Int} (h:Row w A xs) (j:Nat):Row w A (xs.take j):=fun hn=>by
 obtain ⟨b,o,e,h1,h2⟩:=h (by rw [List.length_take] at hn;omega)
 exact ⟨b,o,e,h1,fun i y hy=>h2 i y (by rw [List.getElem?_take] at hy;split at hy;exact hy;cases hy)⟩
theorem RowV.own {V:Nat→Prop} {w:World} {base n c:Nat} {A:Option Addr} {xs:List Int} {v:Value} (h:w.ownsRow base 3 1 v n (xs.map inCells).flatten) (hn:n = xs.length) (e:v = .slice A n c) (hV:∀ b,V b→b < base) (hr:Row w A xs):RowV V w A xs:=by
 subst hn;subst e
 rcases Nat.eq_zero_or_pos xs.length with h0 | h0
 ·exact fun w' t hn=>by omega
 ·refine RowV.of hr (fun q eq hq=>?_)
  have h1:=(h.lt q.block (by rw [eq];rfl)).1
  have:=hV _ hq
  omega
theorem rsweep_neg (A B C L:Option Addr) (a b c d:Nat) (s:Sy) (k:Nat) (x:Co) (AS:Option Addr) (cS:Nat) (op r0 r1 r2 r3 r4 r5 r6 r7:Int) (xs:List Int) (w:World) (hs:SyFew s) (hg:2≤s.M.G.length) (h:RS w s A B C L) (hS:Row w AS xs) (h6:xs.length≤1000000) (hF:∀ x ∈ s.C,x.F.length≤999998) (hx:s.C[k]? = some x) (hr:r1 < 0) :
  Calls Tryz.prog 59 #[.agg (uS A B C L a b c d s),.int .i64 k,.agg (uF op 1 r0 r1 r2 r3 r4 r5 r6 r7 AS xs cS)] w (RetSys w (pBack s k (x.ret.length:Int) 0)):=by
 have HQ:=hid (pUn_no (ret:=x.ret) (seen:=xs) hr)
 have hx9:=hx
 have hkl:k < s.C.length:=(List.getElem?_eq_some_iff.1 hx).1
 have kl:(k:Int) < (s.C.length:Int):=by omega
 have k0:(0:Int)≤(k:Int):=by omega
 have h2:=hs.2.2.1
 have hC0:=h.C
 obtain ⟨b0,o0,rfl,hbl,hat⟩:=h.C (by omega)
 obtain ⟨AF,AR,cF,cR,hcs,rF,rR,hcF,hcR⟩:=(hat k x hx).cs4
 have c6:w.cell? ⟨b0,o0+k * 7+6,none⟩ = some (.slice AR x.ret.length cR):=hcs 6 _ rfl
 have hrl:x.ret.length≤1000000:=(hs.2.2.2.2 x (List.mem_of_getElem? hx)).1
 have HX:=hid hx
 have HC0:=hid hC0
 clear hat hcs hx rF hcF hC0
 have h0:=hs.1
 have h1:=hs.2.1
 have H:=SF.start w s A B (some ⟨b0,o0,none⟩) L a b c d (uF op 1 r0 r1 r2 r3 r4 r5 r6 r7 AS xs cS) h
 clear h
 go_enter Tryz.func59,Tryz.ntmps59
 go_upto_region 1 with (fail)
 generalize (((w.alloc (.cells (uS A B (some ⟨b0,o0,none⟩) L a b c d s) 30)).alloc (.cells (uF op 1 r0 r1 r2 r3 r4 r5 r6 r7 AS xs cS) 60)).alloc (.cells uZ 30)) = w1 at *
 obtain ⟨z0,z1,z2⟩:=H.zs
 have d6:=(H.be.cell hbl).trans c6
 obtain ⟨p0,p1,p2,p3,p4⟩:=cells5 H.bS
 obtain ⟨f0,f1,f2,f3,f4,f5,f6,f7,f8,f9,f10⟩:=cells11 H.bF
 have hrX:=rR
 have hw01:=H.be
 go_wp2_with fail
 clear p0 p1 p2 p3 p4 f0 f1 f2 f3 f4 f5 f6 f7 f8 f9 f10
 clear d6
 go_loopw [10] (fun i wr=>i = .int .i64 r1∧Below w1.heap.size w1 wr) (fun i _=>0)
 case atStart=>exact ⟨rfl,Below.refl _ _⟩
 case round =>
  obtain ⟨rfl,hk2⟩:=hrel
  have H2:=H.step hk2
  clear H z0 z1 z2
  have H:=H2
  clear H2
  obtain ⟨z0,z1,z2⟩:=H.zs
  have n0:¬ (0:Int)≤r1:=by omega
  have n1:r1 < 0:=hr
  obtain ⟨f0,f1,f2,f3,f4,f5,f6,f7,f8,f9,f10⟩:=cells11 H.bF
  go_upto_region 13 with (fail)
  have KS:=hid (show ∀ w',Below wr.heap.size wr w'→(w'.cell? ⟨w.heap.size+1,10,none⟩ = some (.slice AS xs.length cS)∧w'.cell? ⟨w.heap.size+1,9,none⟩ = some (.int .i64 r7)) from fun w' h=>⟨(h.cell z1).trans f10,(h.cell z1).trans f9⟩)
  refine wp_region_held_drew (S:=(fun w'=>Below wr.heap.size wr w')) (by kernel_rfl) ((Below.refl _ _).drew) (fun HT0=>?_)
  try dsimp only at HT0
  generalize wr.drew = W0 at HT0 ⊢
  refine tkW (oi:=⟨some 75,_,_,_,_,_⟩) (v:=?v1) 0 rfl (by kernel_rfl) (by kernel_rfl) (by kernel_rfl) (fun _ _ _ h=>h) (by rfl) ?h1 HT0 ?_
  case h1=>(intro w hS;clear hS;go_simp;try with_reducible rfl)
  try simp only [Act.put,pA,pZ,pS]
  refine tkW (oi:=⟨some 76,_,_,_,_,_⟩) (v:=?v2) 1 rfl (by kernel_rfl) (by kernel_rfl) (by kernel_rfl) (fun _ _ _ h=>h) (by rfl) ?h2 HT0 ?_
  case h2=>(intro w hS;clear hS;go_simp;try with_reducible rfl)
  try simp only [Act.put,pA,pZ,pS]
  refine tkW (oi:=⟨some 77,_,_,_,_,_⟩) (v:=?v3) 2 rfl (by kernel_rfl) (by kernel_rfl) (by kernel_rfl) (fun _ _ _ h=>h) (by rfl) ?h3 HT0 ?_
  case h3=>(intro w hS;clear hS;go_simp;try with_reducible rfl)
  try simp only [Act.put,pA,pZ,pS]
  refine tkU (oi:=⟨some 78,_,_,_,_,_⟩) 3 rfl (by kernel_rfl) (by kernel_rfl) (by kernel_rfl) (fun _ _ _ h=>h) (by rfl) HT0 ?_
  try simp only [Act.put,pA,pZ,pS]
  refine tkU (oi:=⟨some 79,_,_,_,_,_⟩) 4 rfl (by kernel_rfl) (by kernel_rfl) (by kernel_rfl) (fun _ _ _ h=>h) (by rfl) HT0 ?_
  try simp only [Act.put,pA,pZ,pS]
  refine tkU (oi:=⟨some 80,_,_,_,_,_⟩) 5 rfl (by kernel_rfl) (by kernel_rfl) (by kernel_rfl) (fun _ _ _ h=>h) (by rfl) HT0 ?_
  try simp only [Act.put,pA,pZ,pS]
  refine tkU (oi:=⟨some 81,_,_,_,_,_⟩) 6 rfl (by kernel_rfl) (by kernel_rfl) (by kernel_rfl) (fun _ _ _ h=>h) (by rfl) HT0 ?_
  try simp only [Act.put,pA,pZ,pS]
  refine tkW (oi:=⟨some 82,_,_,_,_,_⟩) (v:=?v8) 7 rfl (by kernel_rfl) (by kernel_rfl) (by kernel_rfl) (fun _ _ _ h=>h) (by rfl) ?h8 HT0 ?_
  case h8=>(intro w hS;clear hS;go_simp;try with_reducible rfl)
  try simp only [Act.put,pA,pZ,pS]
  refine tkW (oi:=⟨some 83,_,_,_,_,_⟩) (v:=?v9) 8 rfl (by kernel_rfl) (by kernel_rfl) (by kernel_rfl) (fun _ _ _ h=>h) (by rfl) ?h9 HT0 ?_
  case h9=>(intro w hS;clear hS;go_simp;try with_reducible rfl)
  try simp only [Act.put,pA,pZ,pS]
  refine tkU (oi:=⟨some 84,_,_,_,_,_⟩) 9 rfl (by kernel_rfl) (by kernel_rfl) (by kernel_rfl) (fun _ _ _ h=>h) (by rfl) HT0 ?_
  try simp only [Act.put,pA,pZ,pS]
  refine tkU (oi:=⟨some 85,_,_,_,_,_⟩) 10 rfl (by kernel_rfl) (by kernel_rfl) (by kernel_rfl) (fun _ _ _ h=>h) (by rfl) HT0 ?_
  try simp only [Act.put,pA,pZ,pS]
  refine tkU (oi:=⟨some 86,_,_,_,_,_⟩) 11 rfl (by kernel_rfl) (by kernel_rfl) (by kernel_rfl) (fun _ _ _ h=>h) (by rfl) HT0 ?_
  try simp only [Act.put,pA,pZ,pS]
  refine tkU (oi:=⟨some 87,_,_,_,_,_⟩) 12 rfl (by kernel_rfl) (by kernel_rfl) (by kernel_rfl) (fun _ _ _ h=>h) (by rfl) HT0 ?_
  try simp only [Act.put,pA,pZ,pS]
  refine tkU (oi:=⟨some 88,_,_,_,_,_⟩) 13 rfl (by kernel_rfl) (by kernel_rfl) (by kernel_rfl) (fun _ _ _ h=>h) (by rfl) HT0 ?_
  try simp only [Act.put,pA,pZ,pS]
  refine tkU (oi:=⟨some 89,_,_,_,_,_⟩) 14 rfl (by kernel_rfl) (by kernel_rfl) (by kernel_rfl) (fun _ _ _ h=>h) (by rfl) HT0 ?_
  try simp only [Act.put,pA,pZ,pS]
  refine tkU (oi:=⟨some 90,_,_,_,_,_⟩) 15 rfl (by kernel_rfl) (by kernel_rfl) (by kernel_rfl) (fun _ _ _ h=>h) (by rfl) HT0 ?_
  try simp only [Act.put,pA,pZ,pS]
  refine tkW (oi:=⟨some 91,_,_,_,_,_⟩) (v:=?v17) 16 rfl (by kernel_rfl) (by kernel_rfl) (by kernel_rfl) (fun _ _ _ h=>h) (by rfl) ?h17 HT0 ?_
  case h17=>(intro w hS;clear hS;go_simp;try with_reducible rfl)
  try simp only [Act.put,pA,pZ,pS]
  refine wpAnyH_done (by kernel_rfl) ?_ _
  clear f0 f1 f2 f3 f4 f5 f6 f7 f8 f9 f10
  have K9:=H.step HT0
  have hk3:=bstep hk2 HT0
  clear H z0 z1 z2 KS
  have H:=K9
  clear K9
  obtain ⟨z0,z1,z2⟩:=H.zs
  obtain ⟨p0,p1,p2,p3,p4⟩:=cells5 H.bS
  go_wp2_with (go_at_call 43;(with_reducible refine (rback_u A B (some ⟨b0,o0,none⟩) L a b c d s k (x.ret.length:Int) 0 _ hs H.rs).mono ?_);rintro e wz ⟨A9,B9,C9,L9,a9,b9,c9,d9,rfl,rW,rG,rC,rL,hz⟩;have kR:=(hz.block (w.heap.size+1+1) z2).trans H.bR;have kb:=bstep H.be hz;obtain ⟨q0,q1,q2,q3,q4,qf0,qf1,qf2,qf3,qf4⟩:=cf5 kR)
  refine bodyPost_ret (v:=.agg (uS A9 B9 C9 L9 a9 b9 c9 d9 (pBack s k (x.ret.length:Int) 0))) (by simp [uS,results,Tryz.results59,go_sem,q0,q1,q2,q3,q4]) rfl ?_
  exact ret_res kR kb rW rG rC rL
theorem rsweep_none (A B C L:Option Addr) (a b c d:Nat) (s:Sy) (k:Nat) (x:Co) (AS:Option Addr) (cS:Nat) (op r0 r2 r3 r4 r5 r6 r7:Int) (xs:List Int) (r:Nat) (w:World) (hs:SyFew s) (hg:2≤s.M.G.length) (h:RS w s A B C L) (hS:Row w AS xs) (h6:xs.length≤1000000) (hF:∀ x ∈ s.C,x.F.length≤999998) (hx:s.C[k]? = some x) (hq:pUn x.ret xs (r:Int) = none) :
  Calls Tryz.prog 59 #[.agg (uS A B C L a b c d s),.int .i64 k,.agg (uF op 1 r0 (r:Int) r2 r3 r4 r5 r6 r7 AS xs cS)] w (RetSys w (pBack s k (x.ret.length:Int) 0)):=by
 have HQ0:=hid hq
 have hx9:=hx
 have hkl:k < s.C.length:=(List.getElem?_eq_some_iff.1 hx).1
 have kl:(k:Int) < (s.C.length:Int):=by omega
 have k0:(0:Int)≤(k:Int):=by omega
 have h2:=hs.2.2.1
 have hC0:=h.C
 obtain ⟨b0,o0,rfl,hbl,hat⟩:=h.C (by omega)
 obtain ⟨AF,AR,cF,cR,hcs,rF,rR,hcF,hcR⟩:=(hat k x hx).cs4
 have c6:w.cell? ⟨b0,o0+k * 7+6,none⟩ = some (.slice AR x.ret.length cR):=hcs 6 _ rfl
 have hrl:x.ret.length≤1000000:=(hs.2.2.2.2 x (List.mem_of_getElem? hx)).1
 have HX:=hid hx
 have HC0:=hid hC0
 clear hat hcs hx rF hcF hC0
 have h0:=hs.1
 have h1:=hs.2.1
 have H:=SF.start w s A B (some ⟨b0,o0,none⟩) L a b c d (uF op 1 r0 (r:Int) r2 r3 r4 r5 r6 r7 AS xs cS) h
 clear h
 go_enter Tryz.func59,Tryz.ntmps59
 go_upto_region 1 with (fail)
 generalize (((w.alloc (.cells (uS A B (some ⟨b0,o0,none⟩) L a b c d s) 30)).alloc (.cells (uF op 1 r0 (r:Int) r2 r3 r4 r5 r6 r7 AS xs cS) 60)).alloc (.cells uZ 30)) = w1 at *
 obtain ⟨z0,z1,z2⟩:=H.zs
 have d6:=(H.be.cell hbl).trans c6
 obtain ⟨p0,p1,p2,p3,p4⟩:=cells5 H.bS
 obtain ⟨f0,f1,f2,f3,f4,f5,f6,f7,f8,f9,f10⟩:=cells11 H.bF
 have hrX:=rR
 have hw01:=H.be
 go_wp2_with fail
 clear p0 p1 p2 p3 p4 f0 f1 f2 f3 f4 f5 f6 f7 f8 f9 f10
 clear d6
 go_loopw [10] (fun i wr=>∃ j:Nat,r≤j∧(j≤x.ret.length ∨ j = r)∧i = .int .i64 j∧Hid (∀ q,r≤q→q < j→x.ret.getD q 0 ∈ xs)∧Below w1.heap.size w1 wr) (fun i _=>x.ret.length - (intOf i).toNat)
 case atStart=>exact ⟨r,Nat.le_refl _,.inr rfl,rfl,hid (fun j hj hj2=>by omega),Below.refl _ _⟩
 case round =>
  obtain ⟨j,hj0,hj,rfl,HT9,hk2⟩:=hrel
  have H2:=H.step hk2
  clear H z0 z1 z2
  have H:=H2
  clear H2
  obtain ⟨z0,z1,z2⟩:=H.zs
  by_cases hlt:j < x.ret.length
  ·have jl:(j:Int) < (x.ret.length:Int):=by omega
   have jn:(0:Int)≤(j:Int):=by omega
   obtain ⟨bA,oA,eA,hbA,hcA0⟩:=hrX.atE j hlt
   obtain ⟨z,hz⟩:∃ z,z = x.ret[j]:=⟨_,rfl⟩
   have HE:=hid (show x.ret.getD j 0 = z by rw [List.getD_eq_getElem?_getD,List.getElem?_eq_getElem hlt,hz];rfl)
   rw [← hz] at hcA0
   have HZ:=hid hz
   clear hz
   subst eA
   have hcA:=(H.be.cell hbA).trans hcA0
   have hbA2:bA < wr.heap.size:=Nat.lt_of_lt_of_le hbA H.be.size
   clear hcA0
   by_cases hzp:z ∈ xs
   ·have HNx:=hid (show ∀ q,r≤q→q < j+1→x.ret.getD q 0 ∈ xs from fun q h1 hq9=>by
     rcases Nat.lt_or_ge q j with h9 | h9
     ·exact HT9.out q h1 h9
     ·have:q = j:=by omega
      subst this
      rw [HE.out]
      exact hzp)
    have HIN:=hid (show ∀ w',Row w' AS xs→Calls Tryz.prog 76 #[.slice AS xs.length cS,.int .i64 z] w' (fun e w2=>e = .returned (.bool true)∧w' = w2) from fun w' k1=>by have h9:=rin_any AS cS xs z w' k1 h6;rw [decide_eq_true hzp] at h9;exact h9)
    clear hzp
    obtain ⟨f0,f1,f2,f3,f4,f5,f6,f7,f8,f9,f10⟩:=cells11 H.bF
    go_upto_region 13 with (fail)
    have KS:=hid (show ∀ w',Below wr.heap.size wr w'→(w'.cell? ⟨w.heap.size+1,10,none⟩ = some (.slice AS xs.length cS)∧w'.cell? ⟨w.heap.size+1,9,none⟩ = some (.int .i64 r7)∧w'.cell? ⟨bA,oA+j,none⟩ = some (.int .i64 z)) from fun w' h=>⟨(h.cell z1).trans f10,(h.cell z1).trans f9,(h.cell hbA2).trans hcA⟩)
    refine wp_region_held_drew (S:=(fun w'=>Below wr.heap.size wr w')) (by kernel_rfl) ((Below.refl _ _).drew) (fun HT0=>?_)
    try dsimp only at HT0
    generalize wr.drew = W0 at HT0 ⊢
    refine tkW (oi:=⟨some 75,_,_,_,_,_⟩) (v:=?v18) 0 rfl (by kernel_rfl) (by kernel_rfl) (by kernel_rfl) (fun _ _ _ h=>h) (by rfl) ?h18 HT0 ?_
    case h18=>(intro w hS;clear hS;go_simp;try with_reducible rfl)
    try simp only [Act.put,pA,pZ,pS]
    refine tkW (oi:=⟨some 76,_,_,_,_,_⟩) (v:=?v19) 1 rfl (by kernel_rfl) (by kernel_rfl) (by kernel_rfl) (fun _ _ _ h=>h) (by rfl) ?h19 HT0 ?_
    case h19=>(intro w hS;clear hS;go_simp;try with_reducible rfl)
    try simp only [Act.put,pA,pZ,pS]
    refine tkW (oi:=⟨some 77,_,_,_,_,_⟩) (v:=?v20) 2 rfl (by kernel_rfl) (by kernel_rfl) (by kernel_rfl) (fun _ _ _ h=>h) (by rfl) ?h20 HT0 ?_
    case h20=>(intro w hS;clear hS;go_simp;try with_reducible rfl)
    try simp only [Act.put,pA,pZ,pS]
    refine tkW (oi:=⟨some 78,_,_,_,_,_⟩) (v:=?v21) 3 rfl (by kernel_rfl) (by kernel_rfl) (by kernel_rfl) (fun _ _ _ h=>h) (by rfl) ?h21 HT0 ?_
    case h21=>(intro w hS;clear hS;go_simp;try with_reducible rfl)
    try simp only [Act.put,pA,pZ,pS]
    refine tkW (oi:=⟨some 79,_,_,_,_,_⟩) (v:=?v22) 4 rfl (by kernel_rfl) (by kernel_rfl) (by kernel_rfl) (fun _ _ _ h=>h) (by rfl) ?h22 HT0 ?_
    case h22=>(intro w hS;clear hS;go_simp;try with_reducible rfl)
    try simp only [Act.put,pA,pZ,pS]
    refine tkW (oi:=⟨some 80,_,_,_,_,_⟩) (v:=?v23) 5 rfl (by kernel_rfl) (by kernel_rfl) (by kernel_rfl) (fun _ _ _ h=>h) (by rfl) ?h23 HT0 ?_
    case h23=>(intro w hS;clear hS;go_simp;try with_reducible rfl)
    try simp only [Act.put,pA,pZ,pS]
    refine tkW (oi:=⟨some 81,_,_,_,_,_⟩) (v:=?v24) 6 rfl (by kernel_rfl) (by kernel_rfl) (by kernel_rfl) (fun _ _ _ h=>h) (by rfl) ?h24 HT0 ?_
    case h24=>(intro w hS;clear hS;go_simp;try with_reducible rfl)
    try simp only [Act.put,pA,pZ,pS]
    refine tkW (oi:=⟨some 82,_,_,_,_,_⟩) (v:=?v25) 7 rfl (by kernel_rfl) (by kernel_rfl) (by kernel_rfl) (fun _ _ _ h=>h) (by rfl) ?h25 HT0 ?_
    case h25=>(intro w hS;clear hS;go_simp;try with_reducible rfl)
    try simp only [Act.put,pA,pZ,pS]
    refine tkW (oi:=⟨some 83,_,_,_,_,_⟩) (v:=?v26) 8 rfl (by kernel_rfl) (by kernel_rfl) (by kernel_rfl) (fun _ _ _ h=>h) (by rfl) ?h26 HT0 ?_
    case h26=>(intro w hS;clear hS;go_simp;try with_reducible rfl)
    try simp only [Act.put,pA,pZ,pS]
    refine tkW (oi:=⟨some 84,_,_,_,_,_⟩) (v:=?v27) 9 rfl (by kernel_rfl) (by kernel_rfl) (by kernel_rfl) (fun _ _ _ h=>h) (by rfl) ?h27 HT0 ?_
    case h27=>(intro w hS;clear hS;go_simp;try with_reducible rfl)
    try simp only [Act.put,pA,pZ,pS]
    refine tkW (oi:=⟨some 85,_,_,_,_,_⟩) (v:=?v28) 10 rfl (by kernel_rfl) (by kernel_rfl) (by kernel_rfl) (fun _ _ _ h=>h) (by rfl) ?h28 HT0 ?_
    case h28=>(intro w hS;obtain ⟨x0,x1,x2⟩:=KS.out w hS;clear hS;go_simp;try with_reducible rfl)
    try simp only [Act.put,pA,pZ,pS]
    refine tkW (oi:=⟨some 86,_,_,_,_,_⟩) (v:=?v29) 11 rfl (by kernel_rfl) (by kernel_rfl) (by kernel_rfl) (fun _ _ _ h=>h) (by rfl) ?h29 HT0 ?_
    case h29=>(intro w hS;clear hS;go_simp;try with_reducible rfl)
    try simp only [Act.put,pA,pZ,pS]
    refine tkW (oi:=⟨some 87,_,_,_,_,_⟩) (v:=?v30) 12 rfl (by kernel_rfl) (by kernel_rfl) (by kernel_rfl) (fun _ _ _ h=>h) (by rfl) ?h30 HT0 ?_
    case h30=>(intro w hS;clear hS;go_simp;try with_reducible rfl)
    try simp only [Act.put,pA,pZ,pS]
    refine tkW (oi:=⟨some 88,_,_,_,_,_⟩) (v:=?v31) 13 rfl (by kernel_rfl) (by kernel_rfl) (by kernel_rfl) (fun _ _ _ h=>h) (by rfl) ?h31 HT0 ?_
    case h31=>(intro w hS;clear hS;go_simp;try with_reducible rfl)
    try simp only [Act.put,pA,pZ,pS]
    refine tkW (oi:=⟨some 89,_,_,_,_,_⟩) (v:=?v32) 14 rfl (by kernel_rfl) (by kernel_rfl) (by kernel_rfl) (fun _ _ _ h=>h) (by rfl) ?h32 HT0 ?_
    case h32=>(intro w hS;obtain ⟨x0,x1,x2⟩:=KS.out w hS;clear hS;go_simp;try with_reducible rfl)
    try simp only [Act.put,pA,pZ,pS]
    refine wpAnyH_ready (rs:=[15]) (by kernel_rfl) (by simp) ?_
    refine AllReadyH.cons (o:=⟨some 90,_,_,_,_,_⟩) rfl (fun K hK=>?_) AllReadyH.nil
    go_simp
    (go_at_call 76;(with_reducible refine (HIN.out _ ((hS.step H.be).step HT0)).mono ?_);rintro e wk1 ⟨rfl,rfl⟩;have hk1:Below W0.heap.size W0 W0:=Below.refl _ _)
    have HT1:=bstep HT0 hk1
    refine hK.out _ _ HT1 (fun _=>?_)
    clear hK K
    try simp only [Act.put,pA,pZ,pS]
    refine tkW (oi:=⟨some 91,_,_,_,_,_⟩) (v:=?v33) 16 rfl (by kernel_rfl) (by kernel_rfl) (by kernel_rfl) (fun _ _ _ h=>h) (by rfl) ?h33 HT1 ?_
    case h33=>(intro w hS;clear hS;go_simp;try with_reducible rfl)
    try simp only [Act.put,pA,pZ,pS]
    refine wpAnyH_done (by kernel_rfl) ?_ _
    clear f0 f1 f2 f3 f4 f5 f6 f7 f8 f9 f10
    have K9:=H.step HT1
    have hk3:=bstep hk2 HT1
    clear H z0 z1 z2 KS
    have H:=K9
    clear K9
    obtain ⟨z0,z1,z2⟩:=H.zs
    go_wp2_with fail
    go_roundw
    case rel=>exact ⟨j+1,by omega,.inl (by omega),by go_num,HNx,hk3⟩
    case measure=>simp [intOf];omega
   ·have HU:=hid (pUn_at hj0 hlt (by rw [HE.out];exact hzp) HT9.out)
    exact absurd (HU.out.symm.trans HQ0.out) (by simp)
  ·have HU:=hid (pUn_none (ret:=x.ret) (seen:=xs) (r:=r) (fun q h1 h3=>HT9.out q h1 (by omega)))
   have jl:¬ (j:Int) < (x.ret.length:Int):=by omega
   have jl2:(x.ret.length:Int)≤(j:Int):=by omega
   have jn:(0:Int)≤(j:Int):=by omega
   have jn2:¬ (j:Int) < 0:=by omega
   obtain ⟨f0,f1,f2,f3,f4,f5,f6,f7,f8,f9,f10⟩:=cells11 H.bF
   go_upto_region 13 with (fail)
   have KS:=hid (show ∀ w',Below wr.heap.size wr w'→(w'.cell? ⟨w.heap.size+1,10,none⟩ = some (.slice AS xs.length cS)∧w'.cell? ⟨w.heap.size+1,9,none⟩ = some (.int .i64 r7)) from fun w' h=>⟨(h.cell z1).trans f10,(h.cell z1).trans f9⟩)
   refine wp_region_held_drew (S:=(fun w'=>Below wr.heap.size wr w')) (by kernel_rfl) ((Below.refl _ _).drew) (fun HT0=>?_)
   try dsimp only at HT0
   generalize wr.drew = W0 at HT0 ⊢
   refine tkW (oi:=⟨some 75,_,_,_,_,_⟩) (v:=?v34) 0 rfl (by kernel_rfl) (by kernel_rfl) (by kernel_rfl) (fun _ _ _ h=>h) (by rfl) ?h34 HT0 ?_
   case h34=>(intro w hS;clear hS;go_simp;try with_reducible rfl)
   try simp only [Act.put,pA,pZ,pS]
   refine tkW (oi:=⟨some 76,_,_,_,_,_⟩) (v:=?v35) 1 rfl (by kernel_rfl) (by kernel_rfl) (by kernel_rfl) (fun _ _ _ h=>h) (by rfl) ?h35 HT0 ?_
   case h35=>(intro w hS;clear hS;go_simp;try with_reducible rfl)
   try simp only [Act.put,pA,pZ,pS]
   refine tkW (oi:=⟨some 77,_,_,_,_,_⟩) (v:=?v36) 2 rfl (by kernel_rfl) (by kernel_rfl) (by kernel_rfl) (fun _ _ _ h=>h) (by rfl) ?h36 HT0 ?_
   case h36=>(intro w hS;clear hS;go_simp;try with_reducible rfl)
   try simp only [Act.put,pA,pZ,pS]
   refine tkW (oi:=⟨some 78,_,_,_,_,_⟩) (v:=?v37) 3 rfl (by kernel_rfl) (by kernel_rfl) (by kernel_rfl) (fun _ _ _ h=>h) (by rfl) ?h37 HT0 ?_
   case h37=>(intro w hS;clear hS;go_simp;try with_reducible rfl)
   try simp only [Act.put,pA,pZ,pS]
   refine tkW (oi:=⟨some 79,_,_,_,_,_⟩) (v:=?v38) 4 rfl (by kernel_rfl) (by kernel_rfl) (by kernel_rfl) (fun _ _ _ h=>h) (by rfl) ?h38 HT0 ?_
   case h38=>(intro w hS;clear hS;go_simp;try with_reducible rfl)
   try simp only [Act.put,pA,pZ,pS]
   refine tkW (oi:=⟨some 80,_,_,_,_,_⟩) (v:=?v39) 5 rfl (by kernel_rfl) (by kernel_rfl) (by kernel_rfl) (fun _ _ _ h=>h) (by rfl) ?h39 HT0 ?_
   case h39=>(intro w hS;clear hS;go_simp;try with_reducible rfl)
   try simp only [Act.put,pA,pZ,pS]
   refine tkW (oi:=⟨some 81,_,_,_,_,_⟩) (v:=?v40) 6 rfl (by kernel_rfl) (by kernel_rfl) (by kernel_rfl) (fun _ _ _ h=>h) (by rfl) ?h40 HT0 ?_
   case h40=>(intro w hS;clear hS;go_simp;try with_reducible rfl)
   try simp only [Act.put,pA,pZ,pS]
   refine tkW (oi:=⟨some 82,_,_,_,_,_⟩) (v:=?v41) 7 rfl (by kernel_rfl) (by kernel_rfl) (by kernel_rfl) (fun _ _ _ h=>h) (by rfl) ?h41 HT0 ?_
   case h41=>(intro w hS;clear hS;go_simp;try with_reducible rfl)
   try simp only [Act.put,pA,pZ,pS]
   refine tkW (oi:=⟨some 83,_,_,_,_,_⟩) (v:=?v42) 8 rfl (by kernel_rfl) (by kernel_rfl) (by kernel_rfl) (fun _ _ _ h=>h) (by rfl) ?h42 HT0 ?_
   case h42=>(intro w hS;clear hS;go_simp;try with_reducible rfl)
   try simp only [Act.put,pA,pZ,pS]
   refine tkU (oi:=⟨some 84,_,_,_,_,_⟩) 9 rfl (by kernel_rfl) (by kernel_rfl) (by kernel_rfl) (fun _ _ _ h=>h) (by rfl) HT0 ?_
   try simp only [Act.put,pA,pZ,pS]
   refine tkU (oi:=⟨some 85,_,_,_,_,_⟩) 10 rfl (by kernel_rfl) (by kernel_rfl) (by kernel_rfl) (fun _ _ _ h=>h) (by rfl) HT0 ?_
   try simp only [Act.put,pA,pZ,pS]
   refine tkU (oi:=⟨some 86,_,_,_,_,_⟩) 11 rfl (by kernel_rfl) (by kernel_rfl) (by kernel_rfl) (fun _ _ _ h=>h) (by rfl) HT0 ?_
   try simp only [Act.put,pA,pZ,pS]
   refine tkU (oi:=⟨some 87,_,_,_,_,_⟩) 12 rfl (by kernel_rfl) (by kernel_rfl) (by kernel_rfl) (fun _ _ _ h=>h) (by rfl) HT0 ?_
   try simp only [Act.put,pA,pZ,pS]
   refine tkU (oi:=⟨some 88,_,_,_,_,_⟩) 13 rfl (by kernel_rfl) (by kernel_rfl) (by kernel_rfl) (fun _ _ _ h=>h) (by rfl) HT0 ?_
   try simp only [Act.put,pA,pZ,pS]
   refine tkU (oi:=⟨some 89,_,_,_,_,_⟩) 14 rfl (by kernel_rfl) (by kernel_rfl) (by kernel_rfl) (fun _ _ _ h=>h) (by rfl) HT0 ?_
   try simp only [Act.put,pA,pZ,pS]
   refine tkU (oi:=⟨some 90,_,_,_,_,_⟩) 15 rfl (by kernel_rfl) (by kernel_rfl) (by kernel_rfl) (fun _ _ _ h=>h) (by rfl) HT0 ?_
   try simp only [Act.put,pA,pZ,pS]
   refine tkW (oi:=⟨some 91,_,_,_,_,_⟩) (v:=?v50) 16 rfl (by kernel_rfl) (by kernel_rfl) (by kernel_rfl) (fun _ _ _ h=>h) (by rfl) ?h50 HT0 ?_
   case h50=>(intro w hS;clear hS;go_simp;try with_reducible rfl)
   try simp only [Act.put,pA,pZ,pS]
   refine wpAnyH_done (by kernel_rfl) ?_ _
   clear f0 f1 f2 f3 f4 f5 f6 f7 f8 f9 f10
   have K9:=H.step HT0
   have hk3:=bstep hk2 HT0
   clear H z0 z1 z2 KS
   have H:=K9
   clear K9
   obtain ⟨z0,z1,z2⟩:=H.zs
   obtain ⟨p0,p1,p2,p3,p4⟩:=cells5 H.bS
   go_wp2_with (go_at_call 43;(with_reducible refine (rback_u A B (some ⟨b0,o0,none⟩) L a b c d s k (x.ret.length:Int) 0 _ hs H.rs).mono ?_);rintro e wz ⟨A9,B9,C9,L9,a9,b9,c9,d9,rfl,rW,rG,rC,rL,hz⟩;have kR:=(hz.block (w.heap.size+1+1) z2).trans H.bR;have kb:=bstep H.be hz;obtain ⟨q0,q1,q2,q3,q4,qf0,qf1,qf2,qf3,qf4⟩:=cf5 kR)
   refine bodyPost_ret (v:=.agg (uS A9 B9 C9 L9 a9 b9 c9 d9 (pBack s k (x.ret.length:Int) 0))) (by simp [uS,results,Tryz.results59,go_sem,q0,q1,q2,q3,q4]) rfl ?_
   exact ret_res kR kb rW rG rC rL
theorem rsweep_some (A B C L:Option Addr) (a b c d:Nat) (s:Sy) (k:Nat) (x:Co) (AS:Option Addr) (cS:Nat) (op r0 r2 r3 r4 r5 r6 r7:Int) (xs:List Int) (r:Nat) (w:World) (hs:SyFew s) (hg:2≤s.M.G.length) (h:RS w s A B C L) (hS:Row w AS xs) (h6:xs.length≤1000000) (hF:∀ x ∈ s.C,x.F.length≤999998) (hx:s.C[k]? = some x) (j0:Nat) (hq:pUn x.ret xs (r:Int) = some j0) :
  Calls Tryz.prog 59 #[.agg (uS A B C L a b c d s),.int .i64 k,.agg (uF op 1 r0 (r:Int) r2 r3 r4 r5 r6 r7 AS xs cS)] w (RetSys w (pCall (pSet (pKeep s k (x.ret.take j0++x.ret.drop (j0+1))) k ⟨op,1,[r0,(j0:Int),r2,r3,r4,r5,r6,r7],xs⟩) k (frS 2 (x.ret.getD j0 0)))):=by
 have HQ0:=hid hq
 have hx9:=hx
 have hkl:k < s.C.length:=(List.getElem?_eq_some_iff.1 hx).1
 have kl:(k:Int) < (s.C.length:Int):=by omega
 have k0:(0:Int)≤(k:Int):=by omega
 have h2:=hs.2.2.1
 have hC0:=h.C
 obtain ⟨b0,o0,rfl,hbl,hat⟩:=h.C (by omega)
 obtain ⟨AF,AR,cF,cR,hcs,rF,rR,hcF,hcR⟩:=(hat k x hx).cs4
 have c6:w.cell? ⟨b0,o0+k * 7+6,none⟩ = some (.slice AR x.ret.length cR):=hcs 6 _ rfl
 have hrl:x.ret.length≤1000000:=(hs.2.2.2.2 x (List.mem_of_getElem? hx)).1
 have HX:=hid hx
 have HC0:=hid hC0
 clear hat hcs hx rF hcF hC0
 have h0:=hs.1
 have h1:=hs.2.1
 have H:=SF.start w s A B (some ⟨b0,o0,none⟩) L a b c d (uF op 1 r0 (r:Int) r2 r3 r4 r5 r6 r7 AS xs cS) h
 clear h
 go_enter Tryz.func59,Tryz.ntmps59
 go_upto_region 1 with (fail)
 generalize (((w.alloc (.cells (uS A B (some ⟨b0,o0,none⟩) L a b c d s) 30)).alloc (.cells (uF op 1 r0 (r:Int) r2 r3 r4 r5 r6 r7 AS xs cS) 60)).alloc (.cells uZ 30)) = w1 at *
 obtain ⟨z0,z1,z2⟩:=H.zs
 have d6:=(H.be.cell hbl).trans c6
 obtain ⟨p0,p1,p2,p3,p4⟩:=cells5 H.bS
 obtain ⟨f0,f1,f2,f3,f4,f5,f6,f7,f8,f9,f10⟩:=cells11 H.bF
 have hrX:=rR
 have hw01:=H.be
 go_wp2_with fail
 clear p0 p1 p2 p3 p4 f0 f1 f2 f3 f4 f5 f6 f7 f8 f9 f10
 clear d6
 go_loopw [10] (fun i wr=>∃ j:Nat,r≤j∧(j≤x.ret.length ∨ j = r)∧i = .int .i64 j∧Hid (∀ q,r≤q→q < j→x.ret.getD q 0 ∈ xs)∧Below w1.heap.size w1 wr) (fun i _=>x.ret.length - (intOf i).toNat)
 case atStart=>exact ⟨r,Nat.le_refl _,.inr rfl,rfl,hid (fun j hj hj2=>by omega),Below.refl _ _⟩
 case round =>
  obtain ⟨j,hj0,hj,rfl,HT9,hk2⟩:=hrel
  have H2:=H.step hk2
  clear H z0 z1 z2
  have H:=H2
  clear H2
  obtain ⟨z0,z1,z2⟩:=H.zs
  by_cases hlt:j < x.ret.length
  ·have jl:(j:Int) < (x.ret.length:Int):=by omega
   have jn:(0:Int)≤(j:Int):=by omega
   obtain ⟨bA,oA,eA,hbA,hcA0⟩:=hrX.atE j hlt
   have hcA8:=hcA0
   obtain ⟨z,hz⟩:∃ z,z = x.ret[j]:=⟨_,rfl⟩
   have HE:=hid (show x.ret.getD j 0 = z by rw [List.getD_eq_getElem?_getD,List.getElem?_eq_getElem hlt,hz];rfl)
   rw [← hz] at hcA0 hcA8
   have HZ:=hid hz
   clear hz
   subst eA
   have hcA:=(H.be.cell hbA).trans hcA0
   have hbA2:bA < wr.heap.size:=Nat.lt_of_lt_of_le hbA H.be.size
   clear hcA0
   by_cases hzp:z ∈ xs
   ·have HNx:=hid (show ∀ q,r≤q→q < j+1→x.ret.getD q 0 ∈ xs from fun q h1 hq9=>by
     rcases Nat.lt_or_ge q j with h9 | h9
     ·exact HT9.out q h1 h9
     ·have:q = j:=by omega
      subst this
      rw [HE.out]
      exact hzp)
    have HIN:=hid (show ∀ w',Row w' AS xs→Calls Tryz.prog 76 #[.slice AS xs.length cS,.int .i64 z] w' (fun e w2=>e = .returned (.bool true)∧w' = w2) from fun w' k1=>by have h9:=rin_any AS cS xs z w' k1 h6;rw [decide_eq_true hzp] at h9;exact h9)
    clear hzp
    obtain ⟨f0,f1,f2,f3,f4,f5,f6,f7,f8,f9,f10⟩:=cells11 H.bF
    go_upto_region 13 with (fail)
    have KS:=hid (show ∀ w',Below wr.heap.size wr w'→(w'.cell? ⟨w.heap.size+1,10,none⟩ = some (.slice AS xs.length cS)∧w'.cell? ⟨w.heap.size+1,9,none⟩ = some (.int .i64 r7)∧w'.cell? ⟨bA,oA+j,none⟩ = some (.int .i64 z)) from fun w' h=>⟨(h.cell z1).trans f10,(h.cell z1).trans f9,(h.cell hbA2).trans hcA⟩)
    refine wp_region_held_drew (S:=(fun w'=>Below wr.heap.size wr w')) (by kernel_rfl) ((Below.refl _ _).drew) (fun HT0=>?_)
    try dsimp only at HT0
    generalize wr.drew = W0 at HT0 ⊢
    refine tkW (oi:=⟨some 75,_,_,_,_,_⟩) (v:=?v51) 0 rfl (by kernel_rfl) (by kernel_rfl) (by kernel_rfl) (fun _ _ _ h=>h) (by rfl) ?h51 HT0 ?_
    case h51=>(intro w hS;clear hS;go_simp;try with_reducible rfl)
    try simp only [Act.put,pA,pZ,pS]
    refine tkW (oi:=⟨some 76,_,_,_,_,_⟩) (v:=?v52) 1 rfl (by kernel_rfl) (by kernel_rfl) (by kernel_rfl) (fun _ _ _ h=>h) (by rfl) ?h52 HT0 ?_
    case h52=>(intro w hS;clear hS;go_simp;try with_reducible rfl)
    try simp only [Act.put,pA,pZ,pS]
    refine tkW (oi:=⟨some 77,_,_,_,_,_⟩) (v:=?v53) 2 rfl (by kernel_rfl) (by kernel_rfl) (by kernel_rfl) (fun _ _ _ h=>h) (by rfl) ?h53 HT0 ?_
    case h53=>(intro w hS;clear hS;go_simp;try with_reducible rfl)
    try simp only [Act.put,pA,pZ,pS]
    refine tkW (oi:=⟨some 78,_,_,_,_,_⟩) (v:=?v54) 3 rfl (by kernel_rfl) (by kernel_rfl) (by kernel_rfl) (fun _ _ _ h=>h) (by rfl) ?h54 HT0 ?_
    case h54=>(intro w hS;clear hS;go_simp;try with_reducible rfl)
    try simp only [Act.put,pA,pZ,pS]
    refine tkW (oi:=⟨some 79,_,_,_,_,_⟩) (v:=?v55) 4 rfl (by kernel_rfl) (by kernel_rfl) (by kernel_rfl) (fun _ _ _ h=>h) (by rfl) ?h55 HT0 ?_
    case h55=>(intro w hS;clear hS;go_simp;try with_reducible rfl)
    try simp only [Act.put,pA,pZ,pS]
    refine tkW (oi:=⟨some 80,_,_,_,_,_⟩) (v:=?v56) 5 rfl (by kernel_rfl) (by kernel_rfl) (by kernel_rfl) (fun _ _ _ h=>h) (by rfl) ?h56 HT0 ?_
    case h56=>(intro w hS;clear hS;go_simp;try with_reducible rfl)
    try simp only [Act.put,pA,pZ,pS]
    refine tkW (oi:=⟨some 81,_,_,_,_,_⟩) (v:=?v57) 6 rfl (by kernel_rfl) (by kernel_rfl) (by kernel_rfl) (fun _ _ _ h=>h) (by rfl) ?h57 HT0 ?_
    case h57=>(intro w hS;clear hS;go_simp;try with_reducible rfl)
    try simp only [Act.put,pA,pZ,pS]
    refine tkW (oi:=⟨some 82,_,_,_,_,_⟩) (v:=?v58) 7 rfl (by kernel_rfl) (by kernel_rfl) (by kernel_rfl) (fun _ _ _ h=>h) (by rfl) ?h58 HT0 ?_
    case h58=>(intro w hS;clear hS;go_simp;try with_reducible rfl)
    try simp only [Act.put,pA,pZ,pS]
    refine tkW (oi:=⟨some 83,_,_,_,_,_⟩) (v:=?v59) 8 rfl (by kernel_rfl) (by kernel_rfl) (by kernel_rfl) (fun _ _ _ h=>h) (by rfl) ?h59 HT0 ?_
    case h59=>(intro w hS;clear hS;go_simp;try with_reducible rfl)
    try simp only [Act.put,pA,pZ,pS]
    refine tkW (oi:=⟨some 84,_,_,_,_,_⟩) (v:=?v60) 9 rfl (by kernel_rfl) (by kernel_rfl) (by kernel_rfl) (fun _ _ _ h=>h) (by rfl) ?h60 HT0 ?_
    case h60=>(intro w hS;clear hS;go_simp;try with_reducible rfl)
    try simp only [Act.put,pA,pZ,pS]
    refine tkW (oi:=⟨some 85,_,_,_,_,_⟩) (v:=?v61) 10 rfl (by kernel_rfl) (by kernel_rfl) (by kernel_rfl) (fun _ _ _ h=>h) (by rfl) ?h61 HT0 ?_
    case h61=>(intro w hS;obtain ⟨x0,x1,x2⟩:=KS.out w hS;clear hS;go_simp;try with_reducible rfl)
    try simp only [Act.put,pA,pZ,pS]
    refine tkW (oi:=⟨some 86,_,_,_,_,_⟩) (v:=?v62) 11 rfl (by kernel_rfl) (by kernel_rfl) (by kernel_rfl) (fun _ _ _ h=>h) (by rfl) ?h62 HT0 ?_
    case h62=>(intro w hS;clear hS;go_simp;try with_reducible rfl)
    try simp only [Act.put,pA,pZ,pS]
    refine tkW (oi:=⟨some 87,_,_,_,_,_⟩) (v:=?v63) 12 rfl (by kernel_rfl) (by kernel_rfl) (by kernel_rfl) (fun _ _ _ h=>h) (by rfl) ?h63 HT0 ?_
    case h63=>(intro w hS;clear hS;go_simp;try with_reducible rfl)
    try simp only [Act.put,pA,pZ,pS]
    refine tkW (oi:=⟨some 88,_,_,_,_,_⟩) (v:=?v64) 13 rfl (by kernel_rfl) (by kernel_rfl) (by kernel_rfl) (fun _ _ _ h=>h) (by rfl) ?h64 HT0 ?_
    case h64=>(intro w hS;clear hS;go_simp;try with_reducible rfl)
    try simp only [Act.put,pA,pZ,pS]
    refine tkW (oi:=⟨some 89,_,_,_,_,_⟩) (v:=?v65) 14 rfl (by kernel_rfl) (by kernel_rfl) (by kernel_rfl) (fun _ _ _ h=>h) (by rfl) ?h65 HT0 ?_
    case h65=>(intro w hS;obtain ⟨x0,x1,x2⟩:=KS.out w hS;clear hS;go_simp;try with_reducible rfl)
    try simp only [Act.put,pA,pZ,pS]
    refine wpAnyH_ready (rs:=[15]) (by kernel_rfl) (by simp) ?_
    refine AllReadyH.cons (o:=⟨some 90,_,_,_,_,_⟩) rfl (fun K hK=>?_) AllReadyH.nil
    go_simp
    (go_at_call 76;(with_reducible refine (HIN.out _ ((hS.step H.be).step HT0)).mono ?_);rintro e wk1 ⟨rfl,rfl⟩;have hk1:Below W0.heap.size W0 W0:=Below.refl _ _)
    have HT1:=bstep HT0 hk1
    refine hK.out _ _ HT1 (fun _=>?_)
    clear hK K
    try simp only [Act.put,pA,pZ,pS]
    refine tkW (oi:=⟨some 91,_,_,_,_,_⟩) (v:=?v66) 16 rfl (by kernel_rfl) (by kernel_rfl) (by kernel_rfl) (fun _ _ _ h=>h) (by rfl) ?h66 HT1 ?_
    case h66=>(intro w hS;clear hS;go_simp;try with_reducible rfl)
    try simp only [Act.put,pA,pZ,pS]
    refine wpAnyH_done (by kernel_rfl) ?_ _
    clear f0 f1 f2 f3 f4 f5 f6 f7 f8 f9 f10
    have K9:=H.step HT1
    have hk3:=bstep hk2 HT1
    clear H z0 z1 z2 KS
    have H:=K9
    clear K9
    obtain ⟨z0,z1,z2⟩:=H.zs
    go_wp2_with fail
    go_roundw
    case rel=>exact ⟨j+1,by omega,.inl (by omega),by go_num,HNx,hk3⟩
    case measure=>simp [intOf];omega
   ·have HU:=hid (pUn_at hj0 hlt (by rw [HE.out];exact hzp) HT9.out)
    obtain rfl:j = j0:=Option.some.inj (HU.out.symm.trans HQ0.out)
    have HIN:=hid (show ∀ w',Row w' AS xs→Calls Tryz.prog 76 #[.slice AS xs.length cS,.int .i64 z] w' (fun e w2=>e = .returned (.bool false)∧w' = w2) from fun w' k1=>by have h9:=rin_any AS cS xs z w' k1 h6;rw [decide_eq_false hzp] at h9;exact h9)
    clear hzp HU HT9
    obtain ⟨l,hl⟩:∃ l,l = x.ret.take j++x.ret.drop (j+1):=⟨_,rfl⟩
    have hll:l.length≤1000000:=by rw [hl];simp;omega
    have hres:pKeep s k (x.ret.take j++x.ret.drop (j+1)) = syWith s k (coKeep x l):=by rw [pKeep_nat HX.out,← hl]
    have fw:SyFew (syWith s k (coKeep x l)):=few_keep hs HX.out hll
    obtain ⟨t8,ht8⟩:∃ t,t = pSet (syWith s k (coKeep x l)) k ⟨op,1,[r0,(j:Int),r2,r3,r4,r5,r6,r7],xs⟩:=⟨_,rfl⟩
    have f8:SyFew t8:=by rw [ht8];exact few_set fw h6 _
    have hF2:∀ y ∈ (syWith s k (coKeep x l)).C,y.F.length≤999999:=by
     intro y hy
     rcases List.mem_or_eq_of_mem_set (show y ∈ s.C.set k (coKeep x l) from hy) with h9 | h9
     ·have:=hF y h9;omega
     ·subst h9;have:=hF x (List.mem_of_getElem? HX.out);show x.F.length≤999999;omega
    have HSet:=hid (show ∀ (C2:Option Addr) (c2:Nat) w',RowC w' C2 (s.C.set k (coKeep x l))→Row w' A s.M.W→Row w' B s.M.G→RowE w' L s.L→Row w' AS xs→Calls Tryz.prog 63 #[.agg (uS A B C2 L a b c2 d s),.int .i64 k,.agg (uF op 1 r0 (j:Int) r2 r3 r4 r5 r6 r7 AS xs cS)] w' (RetSys w' t8) from fun C2 c2 w' k1 k2 k3 k4 k5=>by have h9:=rset_u A B C2 L a b c2 d (syWith s k (coKeep x l)) k AS cS op 1 r0 (j:Int) r2 r3 r4 r5 r6 r7 xs w' fw ⟨k2,k3,k1,k4⟩ k5 hF2;dsimp only [uS] at h9;rw [show (syWith s k (coKeep x l)).C.length = s.C.length by simp [syWith],← ht8] at h9;exact h9)
    have HCall:=hid (show ∀ (A8 B8 C8 L8:Option Addr) (a8 b8 c8 d8:Nat) w',RS w' t8 A8 B8 C8 L8→Calls Tryz.prog 8 #[.agg (uS A8 B8 C8 L8 a8 b8 c8 d8 t8),.int .i64 k,.int .i64 2,.int .i64 z,.int .i64 0,.int .i64 0] w' (RetSys w' (pCall t8 k ⟨2,0,[z,0,0,0,0,0,0,0],[]⟩)) from fun A8 B8 C8 L8 a8 b8 c8 d8 w' k1=>rcall_u A8 B8 C8 L8 a8 b8 c8 d8 t8 k 2 z 0 0 w' f8 k1)
    obtain ⟨t9,ht9⟩:∃ t,t = pCall t8 k ⟨2,0,[z,0,0,0,0,0,0,0],[]⟩:=⟨_,rfl⟩
    rw [← ht9] at HCall
    have HFIN:=hid (show pCall (pSet (pKeep s k (x.ret.take j++x.ret.drop (j+1))) k ⟨op,1,[r0,(j:Int),r2,r3,r4,r5,r6,r7],xs⟩) k (frS 2 z) = t9 by rw [hres,← ht8,ht9];rfl)
    clear hres ht9 ht8 fw f8 hF2
    have e1:(x.ret.take j).length = j:=by simp;omega
    have e2:(x.ret.drop (j+1)).length = x.ret.length - (j+1):=by simp
    have HE1:=hid e1
    have HE2:=hid e2
    have HL9:=hid hl
    clear e1 e2 hl
    have jn2:¬ (j:Int) < 0:=by omega
    have jl2:¬ (x.ret.length:Int)≤(j:Int):=by omega
    obtain ⟨f0,f1,f2,f3,f4,f5,f6,f7,f8,f9,f10⟩:=cells11 H.bF
    go_upto_region 13 with (fail)
    have KS:=hid (show ∀ w',Below wr.heap.size wr w'→(w'.cell? ⟨w.heap.size+1,10,none⟩ = some (.slice AS xs.length cS)∧w'.cell? ⟨w.heap.size+1,9,none⟩ = some (.int .i64 r7)∧w'.cell? ⟨bA,oA+j,none⟩ = some (.int .i64 z)) from fun w' h=>⟨(h.cell z1).trans f10,(h.cell z1).trans f9,(h.cell hbA2).trans hcA⟩)
    refine wp_region_held_drew (S:=(fun w'=>Below wr.heap.size wr w')) (by kernel_rfl) ((Below.refl _ _).drew) (fun HT0=>?_)
    try dsimp only at HT0
    generalize wr.drew = W0 at HT0 ⊢
    refine tkW (oi:=⟨some 75,_,_,_,_,_⟩) (v:=?v67) 0 rfl (by kernel_rfl) (by kernel_rfl) (by kernel_rfl) (fun _ _ _ h=>h) (by rfl) ?h67 HT0 ?_
    case h67=>(intro w hS;clear hS;go_simp;try with_reducible rfl)
    try simp only [Act.put,pA,pZ,pS]
    refine tkW (oi:=⟨some 76,_,_,_,_,_⟩) (v:=?v68) 1 rfl (by kernel_rfl) (by kernel_rfl) (by kernel_rfl) (fun _ _ _ h=>h) (by rfl) ?h68 HT0 ?_
    case h68=>(intro w hS;clear hS;go_simp;try with_reducible rfl)
    try simp only [Act.put,pA,pZ,pS]
    refine tkW (oi:=⟨some 77,_,_,_,_,_⟩) (v:=?v69) 2 rfl (by kernel_rfl) (by kernel_rfl) (by kernel_rfl) (fun _ _ _ h=>h) (by rfl) ?h69 HT0 ?_
    case h69=>(intro w hS;clear hS;go_simp;try with_reducible rfl)
    try simp only [Act.put,pA,pZ,pS]
    refine tkW (oi:=⟨some 78,_,_,_,_,_⟩) (v:=?v70) 3 rfl (by kernel_rfl) (by kernel_rfl) (by kernel_rfl) (fun _ _ _ h=>h) (by rfl) ?h70 HT0 ?_
    case h70=>(intro w hS;clear hS;go_simp;try with_reducible rfl)
    try simp only [Act.put,pA,pZ,pS]
    refine tkW (oi:=⟨some 79,_,_,_,_,_⟩) (v:=?v71) 4 rfl (by kernel_rfl) (by kernel_rfl) (by kernel_rfl) (fun _ _ _ h=>h) (by rfl) ?h71 HT0 ?_
    case h71=>(intro w hS;clear hS;go_simp;try with_reducible rfl)
    try simp only [Act.put,pA,pZ,pS]
    refine tkW (oi:=⟨some 80,_,_,_,_,_⟩) (v:=?v72) 5 rfl (by kernel_rfl) (by kernel_rfl) (by kernel_rfl) (fun _ _ _ h=>h) (by rfl) ?h72 HT0 ?_
    case h72=>(intro w hS;clear hS;go_simp;try with_reducible rfl)
    try simp only [Act.put,pA,pZ,pS]
    refine tkW (oi:=⟨some 81,_,_,_,_,_⟩) (v:=?v73) 6 rfl (by kernel_rfl) (by kernel_rfl) (by kernel_rfl) (fun _ _ _ h=>h) (by rfl) ?h73 HT0 ?_
    case h73=>(intro w hS;clear hS;go_simp;try with_reducible rfl)
    try simp only [Act.put,pA,pZ,pS]
    refine tkW (oi:=⟨some 82,_,_,_,_,_⟩) (v:=?v74) 7 rfl (by kernel_rfl) (by kernel_rfl) (by kernel_rfl) (fun _ _ _ h=>h) (by rfl) ?h74 HT0 ?_
    case h74=>(intro w hS;clear hS;go_simp;try with_reducible rfl)
    try simp only [Act.put,pA,pZ,pS]
    refine tkW (oi:=⟨some 83,_,_,_,_,_⟩) (v:=?v75) 8 rfl (by kernel_rfl) (by kernel_rfl) (by kernel_rfl) (fun _ _ _ h=>h) (by rfl) ?h75 HT0 ?_
    case h75=>(intro w hS;clear hS;go_simp;try with_reducible rfl)
    try simp only [Act.put,pA,pZ,pS]
    refine tkW (oi:=⟨some 84,_,_,_,_,_⟩) (v:=?v76) 9 rfl (by kernel_rfl) (by kernel_rfl) (by kernel_rfl) (fun _ _ _ h=>h) (by rfl) ?h76 HT0 ?_
    case h76=>(intro w hS;clear hS;go_simp;try with_reducible rfl)
    try simp only [Act.put,pA,pZ,pS]
    refine tkW (oi:=⟨some 85,_,_,_,_,_⟩) (v:=?v77) 10 rfl (by kernel_rfl) (by kernel_rfl) (by kernel_rfl) (fun _ _ _ h=>h) (by rfl) ?h77 HT0 ?_
    case h77=>(intro w hS;obtain ⟨x0,x1,x2⟩:=KS.out w hS;clear hS;go_simp;try with_reducible rfl)
    try simp only [Act.put,pA,pZ,pS]
    refine tkW (oi:=⟨some 86,_,_,_,_,_⟩) (v:=?v78) 11 rfl (by kernel_rfl) (by kernel_rfl) (by kernel_rfl) (fun _ _ _ h=>h) (by rfl) ?h78 HT0 ?_
    case h78=>(intro w hS;clear hS;go_simp;try with_reducible rfl)
    try simp only [Act.put,pA,pZ,pS]
    refine tkW (oi:=⟨some 87,_,_,_,_,_⟩) (v:=?v79) 12 rfl (by kernel_rfl) (by kernel_rfl) (by kernel_rfl) (fun _ _ _ h=>h) (by rfl) ?h79 HT0 ?_
    case h79=>(intro w hS;clear hS;go_simp;try with_reducible rfl)
    try simp only [Act.put,pA,pZ,pS]
    refine tkW (oi:=⟨some 88,_,_,_,_,_⟩) (v:=?v80) 13 rfl (by kernel_rfl) (by kernel_rfl) (by kernel_rfl) (fun _ _ _ h=>h) (by rfl) ?h80 HT0 ?_
    case h80=>(intro w hS;clear hS;go_simp;try with_reducible rfl)
    try simp only [Act.put,pA,pZ,pS]
    refine tkW (oi:=⟨some 89,_,_,_,_,_⟩) (v:=?v81) 14 rfl (by kernel_rfl) (by kernel_rfl) (by kernel_rfl) (fun _ _ _ h=>h) (by rfl) ?h81 HT0 ?_
    case h81=>(intro w hS;obtain ⟨x0,x1,x2⟩:=KS.out w hS;clear hS;go_simp;try with_reducible rfl)
    try simp only [Act.put,pA,pZ,pS]
    refine wpAnyH_ready (rs:=[15]) (by kernel_rfl) (by simp) ?_
    refine AllReadyH.cons (o:=⟨some 90,_,_,_,_,_⟩) rfl (fun K hK=>?_) AllReadyH.nil
    go_simp
    (go_at_call 76;(with_reducible refine (HIN.out _ ((hS.step H.be).step HT0)).mono ?_);rintro e wk1 ⟨rfl,rfl⟩;have hk1:Below W0.heap.size W0 W0:=Below.refl _ _)
    have HT1:=bstep HT0 hk1
    refine hK.out _ _ HT1 (fun _=>?_)
    clear hK K
    try simp only [Act.put,pA,pZ,pS]
    refine tkW (oi:=⟨some 91,_,_,_,_,_⟩) (v:=?v82) 16 rfl (by kernel_rfl) (by kernel_rfl) (by kernel_rfl) (fun _ _ _ h=>h) (by rfl) ?h82 HT1 ?_
    case h82=>(intro w hS;clear hS;go_simp;try with_reducible rfl)
    try simp only [Act.put,pA,pZ,pS]
    refine wpAnyH_done (by kernel_rfl) ?_ _
    clear f0 f1 f2 f3 f4 f5 f6 f7 f8 f9 f10
    have K9:=H.step HT1
    have hk3:=bstep hk2 HT1
    clear H z0 z1 z2 KS
    have H:=K9
    clear K9
    obtain ⟨z0,z1,z2⟩:=H.zs
    obtain ⟨f0,f1,f2,f3,f4,f5,f6,f7,f8,f9,f10,ff0,ff1,ff2,ff3,ff4,ff5,ff6,ff7,ff8,ff9,ff10⟩:=cf11 H.bF
    go_upto_region 17 with (fail)
    go_upto_region 18 with (fail)
    have K8:=H.putF 3 (.int .i64 (j:Int))
    clear H z0 z1 z2
    clear f0 f1 f2 f3 f4 f5 f6 f7 f8 f9 f10 ff0 ff1 ff2 ff3 ff4 ff5 ff6 ff7 ff8 ff9 ff10
    have t17:Below w.heap.size w (W0.setCell ⟨w.heap.size+1,3,none⟩ (.int .i64 (j:Int))):=K8.be
    generalize W0.setCell ⟨w.heap.size+1,3,none⟩ (.int .i64 (j:Int)) = wB at *
    have H:SF w s A B (some ⟨b0,o0,none⟩) L a b c d (uF op 1 r0 (j:Int) r2 r3 r4 r5 r6 r7 AS xs cS) wB:=K8
    clear K8 t17
    obtain ⟨z0,z1,z2⟩:=H.zs
    have k1:j≤cR:=by omega
    have k2:j+1≤x.ret.length:=by omega
    have k3:j+1≤cR:=by omega
    have k4:IntKind.i64.wrap ((j:Int)+1) = (j:Int)+1:=IntWalk.i64_in _ (by omega)
    have k5:0≤(j:Int)+1:=by omega
    have k6:(j:Int)+1≤(x.ret.length:Int):=by omega
    have rT:=(hrX.step H.be).takeK j
    have rD:=(hrX.step H.be).cut (j+1) (cR = j+1) (x.ret.drop (j+1)) (fun i y hi=>by simpa using hi) (fun q=>List.eq_nil_of_length_eq_zero (by have:=HE2.out;omega))
    go_cut [11] from 75 (fun y11 wx=>∃ (A9:Option Addr) (c9:Nat),y11 = .slice A9 l.length c9∧RowV (V3 w) wx A9 l∧l.length≤c9∧Below wB.heap.size wB wx)
    case first =>
     by_cases q9:cR = j+1
     subst q9
     rw [if_pos rfl] at rD
     have k7:(j:Int)≤(j:Int)+1:=by omega
     have k8:(x.ret.length:Int)≤(j:Int)+1:=by omega
     rotate_left
     rw [if_neg q9] at rD
     all_goals
      refine wp_region_held_drew (S:=fun w'=>Below wB.heap.size wB w') (by kernel_rfl) ((Below.refl _ _).drew) (fun HT=>?_)
      try dsimp only at HT
      have KB0:Below wB.heap.size wB wB.drew:=(Below.refl _ _).drew
      generalize wB.drew = W0 at HT KB0 ⊢
      refine tkW (oi:=⟨some 111,_,_,_,_,_⟩) (v:=?_) 1 rfl (by kernel_rfl) (by kernel_rfl) (by kernel_rfl) (fun _ _ _ h=>h) (by rfl) ?_ HT ?_
      rotate_left
      ·(intro w hSw;clear hSw;go_simp;try with_reducible rfl)
      try simp only [Act.put,pA,pZ,pS]
      refine tkW (oi:=⟨some 112,_,_,_,_,_⟩) (v:=?_) 2 rfl (by kernel_rfl) (by kernel_rfl) (by kernel_rfl) (fun _ _ _ h=>h) (by rfl) ?_ HT ?_
      rotate_left
      ·(intro w hSw;clear hSw;go_simp;try with_reducible rfl)
      try simp only [Act.put,pA,pZ,pS]
      refine tkW (oi:=⟨some 113,_,_,_,_,_⟩) (v:=?_) 3 rfl (by kernel_rfl) (by kernel_rfl) (by kernel_rfl) (fun _ _ _ h=>h) (by rfl) ?_ HT ?_
      rotate_left
      ·(intro w hSw;clear hSw;go_simp;try with_reducible rfl)
      try simp only [Act.put,pA,pZ,pS]
      refine tkW (oi:=⟨some 115,_,_,_,_,_⟩) (v:=?_) 5 rfl (by kernel_rfl) (by kernel_rfl) (by kernel_rfl) (fun _ _ _ h=>h) (by rfl) ?_ HT ?_
      rotate_left
      ·(intro w hSw;clear hSw;go_simp;try with_reducible rfl)
      try simp only [Act.put,pA,pZ,pS]
      refine tkW (oi:=⟨some 116,_,_,_,_,_⟩) (v:=?_) 6 rfl (by kernel_rfl) (by kernel_rfl) (by kernel_rfl) (fun _ _ _ h=>h) (by rfl) ?_ HT ?_
      rotate_left
      ·(intro w hSw;clear hSw;go_simp;try with_reducible rfl)
      try simp only [Act.put,pA,pZ,pS]
      refine tkW (oi:=⟨some 117,_,_,_,_,_⟩) (v:=?_) 7 rfl (by kernel_rfl) (by kernel_rfl) (by kernel_rfl) (fun _ _ _ h=>h) (by rfl) ?_ HT ?_
      rotate_left
      ·(intro w hSw;clear hSw;go_simp;try with_reducible rfl)
      try simp only [Act.put,pA,pZ,pS]
      refine tkW (oi:=⟨some 118,_,_,_,_,_⟩) (v:=?_) 8 rfl (by kernel_rfl) (by kernel_rfl) (by kernel_rfl) (fun _ _ _ h=>h) (by rfl) ?_ HT ?_
      rotate_left
      ·(intro w hSw;clear hSw;go_simp;try with_reducible rfl)
      try simp only [Act.put,pA,pZ,pS]
      refine wpAnyH_ready (rs:=[0]) (by kernel_rfl) (by simp) ?_
      refine AllReadyH.cons (o:=⟨some 110,_,_,_,_,_⟩) rfl (fun K hK=>?_) AllReadyH.nil
      go_simp
      have KB1:=bstep KB0 (boxed W0 (.cells #[] 3 (0,0)))
      refine hK.out _ _ KB1 (fun HT=>?_)
      clear hK K
      have h2w:(W0.alloc (.cells #[] 3 (0,0))).ownsRow wB.heap.size 3 1 (.slice (some ⟨W0.heap.size,0,none⟩) 0 0) ([]:List Int).length (([]:List Int).map inCells).flatten:=own_base (own_empty (heap_alloc_new W0 (.cells #[] 3 (0,0)))) KB0.size
      obtain ⟨g2,hgz⟩:∃ g,W0.heap.size = g:=⟨_,rfl⟩
      rw [hgz] at h2w ⊢
      clear hgz KB0
      generalize W0.alloc (.cells #[] 3 (0,0)) = W1 at *
      try simp only [Act.put,pA,pZ,pS]
      refine wpAnyH_ready (rs:=[4]) (by kernel_rfl) (by simp) ?_
      refine AllReadyH.cons (o:=⟨some 114,_,_,_,_,_⟩) rfl (fun K hK=>?_) AllReadyH.nil
      refine step_append_ontoR (by rfl) _ _ _ (by rfl) wB.heap.size Tryz.underlying24 infoI _ _ ([]:List Int) rfl (by rfl) h2w _ _ j (x.ret.take j) (by rfl) HE1.out.symm (rT.step KB1) (by rw [HE1.out];simp;omega) KB1.size ?_
      intro v4 W2 h4 hg4
      rw [List.nil_append] at h4
      have KB2:=KB1.trans (Turn.to_below ((Turn.refl (fun b=>wB.heap.size≤b) W1).grown hg4 (fun q e=>(h2w.lt q e).1)) KB1.size (fun _ h=>h))
      refine hK.out _ _ KB2 (fun HT=>?_)
      clear hK K hg4 h2w KB1
      try simp only [Act.put,pA,pZ,pS]
      refine wpAnyH_ready (rs:=[9]) (by kernel_rfl) (by simp) ?_
      refine AllReadyH.cons (o:=⟨some 119,_,_,_,_,_⟩) rfl (fun K hK=>?_) AllReadyH.nil
      refine step_append_ontoR (by rfl) _ _ _ (by rfl) wB.heap.size Tryz.underlying24 infoI _ _ (x.ret.take j) rfl (by rfl) h4 _ _ _ (x.ret.drop (j+1)) rfl (by have:=HE2.out;omega) (rD.step KB2) (by have:=HE1.out;have:=HE2.out;omega) KB2.size ?_
      intro v9 W3 h9 hg9
      have KB3:=KB2.trans (Turn.to_below ((Turn.refl (fun b=>wB.heap.size≤b) W2).grown hg9 (fun q e=>(h4.lt q e).1)) KB2.size (fun _ h=>h))
      refine hK.out _ _ KB3 (fun HT=>?_)
      clear hK K hg9 h4 KB2
      rw [← HL9.out] at h9
      try simp only [Act.put,pA,pZ,pS]
      refine tkW (oi:=⟨some 11,_,_,_,_,_⟩) (v:=?_) 10 rfl (by kernel_rfl) (by kernel_rfl) (by kernel_rfl) (fun _ _ _ h=>h) (by rfl) ?_ HT ?_
      rotate_left
      ·(intro w hSw;clear hSw;go_simp;try with_reducible rfl)
      try simp only [Act.put,pA,pZ,pS]
      refine wpAnyH_done (by kernel_rfl) ?_ _
      go_wp2_with fail
      obtain ⟨A9,c9,rfl,r9⟩:=own_row1 h9 rfl
      go_meet
      exact ⟨A9,c9,rfl,RowV.own h9 rfl rfl (fun b hb=>by have:=v3_bd hb;omega) r9,own_cap h9,KB3⟩
    case rest =>
     obtain ⟨A9,c9,rfl,rV9,hc9,hkC⟩:=hcut
     have K9:=H.step hkC
     clear H z0 z1 z2
     have H:=K9
     clear K9
     obtain ⟨wD,hwD⟩:∃ v,v = wc:=⟨_,rfl⟩
     subst hwD
     obtain ⟨z0,z1,z2⟩:=H.zs
     go_upto_region 19 with (fail)
     have hcD:wD.cell? ⟨bA,oA+j,none⟩ = some (.int .i64 z):=(H.be.cell hbA).trans hcA8
     have hbD:bA < wD.heap.size:=Nat.lt_of_lt_of_le hbA H.be.size
     obtain ⟨p0,p1,p2,p3,p4⟩:=cells5 H.bS
     obtain ⟨f0,f1,f2,f3,f4,f5,f6,f7,f8,f9,f10⟩:=cells11 H.bF
     have KS:=hid (show ∀ w',Turn (fun g=>g = w.heap.size+1+1 ∨ wD.heap.size≤g) wD w'→(w'.cell? ⟨w.heap.size,0,none⟩ = some (.slice A s.M.W.length a)∧w'.cell? ⟨w.heap.size,1,none⟩ = some (.slice B s.M.G.length b)∧w'.cell? ⟨w.heap.size,2,none⟩ = some (.bool s.M.bad)∧w'.cell? ⟨w.heap.size,3,none⟩ = some (.slice (some ⟨b0,o0,none⟩) s.C.length c)∧w'.cell? ⟨w.heap.size,4,none⟩ = some (.slice L s.L.length d)∧w'.cell? ⟨w.heap.size+1,0,none⟩ = some (.int .i64 op)∧w'.cell? ⟨w.heap.size+1,1,none⟩ = some (.int .i64 1)∧w'.cell? ⟨w.heap.size+1,2,none⟩ = some (.int .i64 r0)∧w'.cell? ⟨w.heap.size+1,3,none⟩ = some (.int .i64 (j:Int))∧w'.cell? ⟨w.heap.size+1,4,none⟩ = some (.int .i64 r2)∧w'.cell? ⟨w.heap.size+1,5,none⟩ = some (.int .i64 r3)∧w'.cell? ⟨w.heap.size+1,6,none⟩ = some (.int .i64 r4)∧w'.cell? ⟨w.heap.size+1,7,none⟩ = some (.int .i64 r5)∧w'.cell? ⟨w.heap.size+1,8,none⟩ = some (.int .i64 r6)∧w'.cell? ⟨w.heap.size+1,9,none⟩ = some (.int .i64 r7)∧w'.cell? ⟨w.heap.size+1,10,none⟩ = some (.slice AS xs.length cS)∧w'.cell? ⟨bA,oA+j,none⟩ = some (.int .i64 z)) from fun w' h=>⟨(h.cell z0 (fun h9=>by rcases h9 with h9 | h9 <;> omega)).trans p0,(h.cell z0 (fun h9=>by rcases h9 with h9 | h9 <;> omega)).trans p1,(h.cell z0 (fun h9=>by rcases h9 with h9 | h9 <;> omega)).trans p2,(h.cell z0 (fun h9=>by rcases h9 with h9 | h9 <;> omega)).trans p3,(h.cell z0 (fun h9=>by rcases h9 with h9 | h9 <;> omega)).trans p4,(h.cell z1 (fun h9=>by rcases h9 with h9 | h9 <;> omega)).trans f0,(h.cell z1 (fun h9=>by rcases h9 with h9 | h9 <;> omega)).trans f1,(h.cell z1 (fun h9=>by rcases h9 with h9 | h9 <;> omega)).trans f2,(h.cell z1 (fun h9=>by rcases h9 with h9 | h9 <;> omega)).trans f3,(h.cell z1 (fun h9=>by rcases h9 with h9 | h9 <;> omega)).trans f4,(h.cell z1 (fun h9=>by rcases h9 with h9 | h9 <;> omega)).trans f5,(h.cell z1 (fun h9=>by rcases h9 with h9 | h9 <;> omega)).trans f6,(h.cell z1 (fun h9=>by rcases h9 with h9 | h9 <;> omega)).trans f7,(h.cell z1 (fun h9=>by rcases h9 with h9 | h9 <;> omega)).trans f8,(h.cell z1 (fun h9=>by rcases h9 with h9 | h9 <;> omega)).trans f9,(h.cell z1 (fun h9=>by rcases h9 with h9 | h9 <;> omega)).trans f10,(h.cell hbD (fun h9=>by rcases h9 with h9 | h9 <;> omega)).trans hcD⟩)
     clear p0 p1 p2 p3 p4 f0 f1 f2 f3 f4 f5 f6 f7 f8 f9 f10
     refine wp_region_held_drew (S:=fun w'=>Turn (fun g=>g = w.heap.size+1+1 ∨ wD.heap.size≤g) wD w') (by kernel_rfl) (Turn.drew (Turn.refl _ _)) (fun HT=>?_)
     try dsimp only at HT
     have KB0:Below wD.heap.size wD wD.drew:=(Below.refl _ _).drew
     generalize wD.drew = W0 at HT KB0 ⊢
     refine tkW (oi:=⟨some 120,_,_,_,_,_⟩) (v:=?vs1) 0 rfl (by kernel_rfl) (by kernel_rfl) (by kernel_rfl) (fun _ _ _ h=>h) (by rfl) ?hs1 HT ?_
     case hs1=>(intro w hSw;obtain ⟨y0,y1,y2,y3,y4,y5,y6,y7,y8,y9,y10,y11,y12,y13,y14,y15,y16⟩:=KS.out w hSw;clear hSw;go_simp;try with_reducible rfl)
     try simp only [Act.put,pA,pZ,pS]
     refine tkW (oi:=⟨some 121,_,_,_,_,_⟩) (v:=?vs2) 1 rfl (by kernel_rfl) (by kernel_rfl) (by kernel_rfl) (fun _ _ _ h=>h) (by rfl) ?hs2 HT ?_
     case hs2=>(intro w hSw;clear hSw;go_simp;try with_reducible rfl)
     try simp only [Act.put,pA,pZ,pS]
     refine tkW (oi:=⟨some 122,_,_,_,_,_⟩) (v:=?vs3) 2 rfl (by kernel_rfl) (by kernel_rfl) (by kernel_rfl) (fun _ _ _ h=>h) (by rfl) ?hs3 HT ?_
     case hs3=>(intro w hSw;clear hSw;go_simp;try with_reducible rfl)
     try simp only [Act.put,pA,pZ,pS]
     refine tkW (oi:=⟨some 124,_,_,_,_,_⟩) (v:=?vs4) 4 rfl (by kernel_rfl) (by kernel_rfl) (by kernel_rfl) (fun _ _ _ h=>h) (by rfl) ?hs4 HT ?_
     case hs4=>(intro w hSw;clear hSw;go_simp;try with_reducible rfl)
     try simp only [Act.put,pA,pZ,pS]
     refine tkW (oi:=⟨some 125,_,_,_,_,_⟩) (v:=?vs5) 5 rfl (by kernel_rfl) (by kernel_rfl) (by kernel_rfl) (fun _ _ _ h=>h) (by rfl) ?hs5 HT ?_
     case hs5=>(intro w hSw;obtain ⟨y0,y1,y2,y3,y4,y5,y6,y7,y8,y9,y10,y11,y12,y13,y14,y15,y16⟩:=KS.out w hSw;clear hSw;go_simp;try with_reducible rfl)
     try simp only [Act.put,pA,pZ,pS]
     refine tkW (oi:=⟨some 127,_,_,_,_,_⟩) (v:=?vs6) 7 rfl (by kernel_rfl) (by kernel_rfl) (by kernel_rfl) (fun _ _ _ h=>h) (by rfl) ?hs6 HT ?_
     case hs6=>(intro w hSw;clear hSw;go_simp;try with_reducible rfl)
     try simp only [Act.put,pA,pZ,pS]
     refine tkW (oi:=⟨some 128,_,_,_,_,_⟩) (v:=?vs7) 8 rfl (by kernel_rfl) (by kernel_rfl) (by kernel_rfl) (fun _ _ _ h=>h) (by rfl) ?hs7 HT ?_
     case hs7=>(intro w hSw;clear hSw;go_simp;try with_reducible rfl)
     try simp only [Act.put,pA,pZ,pS]
     refine tkW (oi:=⟨some 129,_,_,_,_,_⟩) (v:=?vs8) 9 rfl (by kernel_rfl) (by kernel_rfl) (by kernel_rfl) (fun _ _ _ h=>h) (by rfl) ?hs8 HT ?_
     case hs8=>(intro w hSw;clear hSw;go_simp;try with_reducible rfl)
     try simp only [Act.put,pA,pZ,pS]
     refine tkW (oi:=⟨some 130,_,_,_,_,_⟩) (v:=?vs9) 10 rfl (by kernel_rfl) (by kernel_rfl) (by kernel_rfl) (fun _ _ _ h=>h) (by rfl) ?hs9 HT ?_
     case hs9=>(intro w hSw;clear hSw;go_simp;try with_reducible rfl)
     try simp only [Act.put,pA,pZ,pS]
     refine tkW (oi:=⟨some 131,_,_,_,_,_⟩) (v:=?vs10) 11 rfl (by kernel_rfl) (by kernel_rfl) (by kernel_rfl) (fun _ _ _ h=>h) (by rfl) ?hs10 HT ?_
     case hs10=>(intro w hSw;obtain ⟨y0,y1,y2,y3,y4,y5,y6,y7,y8,y9,y10,y11,y12,y13,y14,y15,y16⟩:=KS.out w hSw;clear hSw;go_simp;try with_reducible rfl)
     try simp only [Act.put,pA,pZ,pS]
     refine wpAnyH_ready (rs:=[3]) (by kernel_rfl) (by simp) ?_
     refine AllReadyH.cons (o:=⟨some 123,_,_,_,_,_⟩) rfl (fun K hK=>?_) AllReadyH.nil
     have hk9:=rkept_v A B (some ⟨b0,o0,none⟩) L a b c d s k x A9 c9 l (V3 w) w W0 HX.out h2 HC0.out (bstep H.be KB0) (fun b h=>by have:=v3_bd h;have:=KB0.size;omega) (rV9.step KB0) hc9
     go_simp
     (go_at_call 74;(with_reducible refine hk9.mono ?_);rintro e W1 ⟨C4,c4,rfl,rC4,hk4⟩)
     clear hk9
     have KB1:=bstep KB0 hk4
     refine hK.out _ _ (turn_of_below KB1) (fun HT=>?_)
     clear hK K hk4
     try simp only [Act.put,pA,pZ,pS]
     refine wpAnyH_ready (rs:=[6]) (by kernel_rfl) (by simp) ?_
     refine AllReadyH.cons (o:=⟨some 126,_,_,_,_,_⟩) rfl (fun K hK=>?_) AllReadyH.nil
     have R1:=(H.step KB1).rs
     go_simp
     (go_at_call 63;(with_reducible refine (HSet.out C4 c4 _ rC4.row R1.W R1.G R1.L (hS.step (bstep H.be KB1))).mono ?_);rintro e W2 ⟨A8,B8,C8,L8,a8,b8,c8,d8,rfl,x1,x2,x3,x4,hk6⟩)
     have KB2:=bstep KB1 hk6
     refine hK.out _ _ (turn_of_below KB2) (fun HT=>?_)
     clear hK K hk6
     try simp only [Act.put,pA,pZ,pS]
     refine wpAnyH_ready (rs:=[12]) (by kernel_rfl) (by simp) ?_
     refine AllReadyH.cons (o:=⟨some 132,_,_,_,_,_⟩) rfl (fun K hK=>?_) AllReadyH.nil
     go_simp
     (go_at_call 8;(with_reducible refine (HCall.out A8 B8 C8 L8 a8 b8 c8 d8 _ ⟨x1,x2,x3,x4⟩).mono ?_);rintro e W3 ⟨A9',B9,C9,L9,a9,b9,c9',d9,rfl,rW,rG,rC,rL,hk7⟩)
     have KB3:=bstep KB2 hk7
     refine hK.out _ _ (turn_of_below KB3) (fun HT=>?_)
     clear hK K hk7
     try simp only [Act.put,pA,pZ,pS]
     refine wpAnyH_ready (rs:=[13]) (by kernel_rfl) (by simp) ?_
     refine AllReadyH.cons (o:=⟨none,_,_,_,_,_⟩) rfl (fun K hK=>?_) AllReadyH.nil
     have kR:=(KB3.block (w.heap.size+1+1) z2).trans H.bR
     have kb:=bstep H.be KB3
     obtain ⟨q0,q1,q2,q3,q4,qf0,qf1,qf2,qf3,qf4⟩:=cf5 kR
     go_simp
     refine hK.out _ _ ((turn_of_below KB3).trans ((turn5 _ _ _ _ _ _ _).mono (fun b _ h=>.inl h))) (fun HT=>?_)
     clear hK K
     try simp only [Act.put,pA,pZ,pS]
     refine wpAnyH_done (by kernel_rfl) ?_ _
     go_wp2_with fail
     refine bodyPost_ret (v:=.agg (uS A9' B9 C9 L9 a9 b9 c9' d9 t9)) (by simp [uS,results,Tryz.results59,go_sem,q0,q1,q2,q3,q4]) rfl ?_
     first | rw [HFIN.out] | rw [← HZ.out,HFIN.out] | rw [HE.out,HFIN.out]
     exact ret_res kR kb rW rG rC rL
  ·have HU:=hid (pUn_none (ret:=x.ret) (seen:=xs) (r:=r) (fun q h1 h3=>HT9.out q h1 (by omega)))
   exact absurd (HU.out.symm.trans HQ0.out) (by simp)
theorem rscan_x (A B C L:Option Addr) (a b c d:Nat) (s:Sy) (k:Nat) (x:Co) (AS:Option Addr) (cS:Nat) (op pc r0 r1 r2 r3 r4 r5 r6 r7:Int) (xs:List Int) (w:World) (hs:SyFew s) (hg:2≤s.M.G.length) (h:RS w s A B C L) (hS:Row w AS xs) (h6:xs.length≤1000000) (hF:∀ x ∈ s.C,x.F.length≤999998) (hx:s.C[k]? = some x) (q0:¬ pc = 0) (q1:¬ pc = 1) :
  Calls Tryz.prog 59 #[.agg (uS A B C L a b c d s),.int .i64 k,.agg (uF op pc r0 r1 r2 r3 r4 r5 r6 r7 AS xs cS)] w (RetSys w (s)):=by
 have e0:(pc == 0) = false:=by simpa using q0
 have e1:(pc != 1) = true:=by simpa using q1
 clear q0 q1
 have hkl:k < s.C.length:=(List.getElem?_eq_some_iff.1 hx).1
 have kl:(k:Int) < (s.C.length:Int):=by omega
 have k0:(0:Int)≤(k:Int):=by omega
 have h2:=hs.2.2.1
 have hC0:=h.C
 obtain ⟨b0,o0,rfl,hbl,hat⟩:=h.C (by omega)
 obtain ⟨AF,AR,cF,cR,hcs,rF,rR,hcF,hcR⟩:=(hat k x hx).cs4
 have c6:w.cell? ⟨b0,o0+k * 7+6,none⟩ = some (.slice AR x.ret.length cR):=hcs 6 _ rfl
 have hrl:x.ret.length≤1000000:=(hs.2.2.2.2 x (List.mem_of_getElem? hx)).1
 have HX:=hid hx
 have HC0:=hid hC0
 clear hat hcs hx rF hcF hC0
 have h0:=hs.1
 have h1:=hs.2.1
 have H:=SF.start w s A B (some ⟨b0,o0,none⟩) L a b c d (uF op pc r0 r1 r2 r3 r4 r5 r6 r7 AS xs cS) h
 clear h
 go_enter Tryz.func59,Tryz.ntmps59
 go_upto_region 1 with (fail)
 generalize (((w.alloc (.cells (uS A B (some ⟨b0,o0,none⟩) L a b c d s) 30)).alloc (.cells (uF op pc r0 r1 r2 r3 r4 r5 r6 r7 AS xs cS) 60)).alloc (.cells uZ 30)) = w1 at *
 obtain ⟨z0,z1,z2⟩:=H.zs
 have d6:=(H.be.cell hbl).trans c6
 obtain ⟨p0,p1,p2,p3,p4⟩:=cells5 H.bS
 obtain ⟨f0,f1,f2,f3,f4,f5,f6,f7,f8,f9,f10⟩:=cells11 H.bF
 have kR:=H.bR
 obtain ⟨q0,q1,q2,q3,q4,qf0,qf1,qf2,qf3,qf4⟩:=cf5 kR
 go_wp2_with fail
 refine bodyPost_ret (v:=.agg (uS A B (some ⟨b0,o0,none⟩) L a b c d s)) (by simp [uS,results,Tryz.results59,go_sem,q0,q1,q2,q3,q4]) rfl ?_
 exact ret_res kR H.be H.rs.W H.rs.G H.rs.C H.rs.L
theorem rscan_any (A B C L:Option Addr) (a b c d:Nat) (s:Sy) (k:Nat) (x:Co) (AS:Option Addr) (cS:Nat) (op pc r0 r1 r2 r3 r4 r5 r6 r7:Int) (xs:List Int) (w:World) (hs:SyFew s) (hg:2≤s.M.G.length) (h:RS w s A B C L) (hS:Row w AS xs) (h6:xs.length≤1000000) (hF:∀ x ∈ s.C,x.F.length≤999998) (hx:s.C[k]? = some x) :
  Calls Tryz.prog 59 #[.agg (uS A B C L a b c d s),.int .i64 k,.agg (uF op pc r0 r1 r2 r3 r4 r5 r6 r7 AS xs cS)] w (RetSys w (pOScan s k ⟨op,pc,[r0,r1,r2,r3,r4,r5,r6,r7],xs⟩ s)):=by
 by_cases q0:pc = 0
 ·subst q0
  have e:pOScan s k ⟨op,0,[r0,r1,r2,r3,r4,r5,r6,r7],xs⟩ s = pLook s k ⟨op,0,[r0,r1,r2,r3,r4,r5,r6,r7],xs⟩:=if_pos rfl
  rw [e];exact rlook_any A B C L a b c d s (k:Int) AS cS op r0 r1 r2 r3 r4 r5 r6 r7 xs w hs hg h hS h6 hF
 ·by_cases q1:pc = 1
  ·subst q1
   have e:pOScan s k ⟨op,1,[r0,r1,r2,r3,r4,r5,r6,r7],xs⟩ s = pSweep s k ⟨op,1,[r0,r1,r2,r3,r4,r5,r6,r7],xs⟩:=by unfold pOScan;rw [if_neg (by simp),if_pos rfl]
   rw [e]
   unfold pSweep
   rw [pRet_nat hx]
   dsimp only
   rw [show [r0,r1,r2,r3,r4,r5,r6,r7].getD 1 0 = r1 from rfl]
   by_cases hr:r1 < 0
   ·rw [pUn_no hr];exact rsweep_neg A B C L a b c d s k x AS cS op r0 r1 r2 r3 r4 r5 r6 r7 xs w hs hg h hS h6 hF hx hr
   ·obtain ⟨r,rfl⟩:∃ n:Nat,r1 = (n:Int):=⟨r1.toNat,by omega⟩
    cases hq:pUn x.ret xs (r:Int) with
    | none=>exact rsweep_none A B C L a b c d s k x AS cS op r0 r2 r3 r4 r5 r6 r7 xs r w hs hg h hS h6 hF hx hq
    | some j0=>exact rsweep_some A B C L a b c d s k x AS cS op r0 r2 r3 r4 r5 r6 r7 xs r w hs hg h hS h6 hF hx j0 hq
  ·have e:pOScan s k ⟨op,pc,[r0,r1,r2,r3,r4,r5,r6,r7],xs⟩ s = s:=by unfold pOScan;rw [if_neg q0,if_neg q1]
   rw [e];exact rscan_x A B C L a b c d s k x AS cS op pc r0 r1 r2 r3 r4 r5 r6 r7 xs w hs hg h hS h6 hF hx q0 q1
end Go.Proofs.YtfipcdhodojodaaGreat
