/- Contract: a step of ORetire that goes on, by the document. -/
import Derived.Test.YtfipcdhodojodaaGreatMQ0
namespace Go.Proofs.YtfipcdhodojodaaGreat
open Go.RowKit
set_option maxRecDepth 100000
set_option maxHeartbeats 8000000
set_option linter.unusedVariables false
set_option linter.unusedSimpArgs false
theorem rret_go (A B C L:Option Addr) (a b c d:Nat) (s:Sy) (k:Nat) (x:Co) (AS:Option Addr) (cS:Nat) (op r0 r1 r2 r3 r4 r5 r6 r7:Int) (xs:List Int) (w:World) (hs:SyFew s) (hg:2≤s.M.G.length) (h:RS w s A B C L) (hS:Row w AS xs) (h6:xs.length≤1000000) (hF:∀ x ∈ s.C,x.F.length≤999998) (hx:s.C[k]? = some x) (hq:¬ 200≤x.ret.length) :
  Calls Tryz.prog 58 #[.agg (uS A B C L a b c d s),.int .i64 k,.agg (uF op 0 r0 r1 r2 r3 r4 r5 r6 r7 AS xs cS)] w (RetSys w (if x.ret.length+1 < 3 * s.C.length+1 then pBack (pMore s k r0) k r0 0 else pCall (pSet (pMore s k r0) k ⟨op,1,[r0,r1,r2,r3,r4,r5,r6,r7],xs⟩) k (frS 6 0))):=by
 have q2:¬ (200:Int)≤(x.ret.length:Int):=by omega
 have hkx:=hx
 obtain ⟨s2,hs2⟩:∃ t,t = syWith s k (coKeep x (x.ret++[r0])):=⟨_,rfl⟩
 have hM2:s2.M = s.M:=by rw [hs2];rfl
 have hL2:s2.L = s.L:=by rw [hs2];rfl
 have hC2:s2.C = s.C.set k (coKeep x (x.ret++[r0])):=by rw [hs2];rfl
 have hCl:s2.C.length = s.C.length:=by rw [hC2];simp
 have fw:SyFew s2:=by rw [hs2];exact few_keep hs hx (by simp;omega)
 obtain ⟨t3,ht3⟩:∃ t,t = syMem s2 (mTurn s2.M r0 2):=⟨_,rfl⟩
 have hl3:(mTurn s2.M r0 2).G.length = s2.M.G.length:=by unfold mTurn;dsimp only;split <;> simp
 have ft:SyFew t3:=by rw [ht3];exact few_mem fw rfl hl3
 have htC:t3.C = s2.C:=by rw [ht3];rfl
 have hres:pMore s k r0 = t3:=by unfold pMore;rw [pRet_nat hx,pKeep_nat hx,← hs2,← hM2,ht3]
 rw [hres]
 have hF3:∀ y ∈ t3.C,y.F.length≤999999:=by
  rw [htC,hC2]
  intro y hy
  rcases List.mem_or_eq_of_mem_set hy with h9 | h9
  ·have:=hF y h9;omega
  ·subst h9;have:=hF x (List.mem_of_getElem? hx);show x.F.length≤999999;omega
 have HTU:=hid (show ∀ w',Row w' A s2.M.W→Row w' B s2.M.G→Calls Tryz.prog 9 #[.agg #[.slice A s2.M.W.length a,.slice B s2.M.G.length b,.bool s2.M.bad],.int .i64 r0,.int .i64 2] w' (RetMemO w' A B (mTurn s2.M r0 2)) from fun w' k1 k2=>rturn_o A B a b s2.M r0 2 w' k1 k2 fw.1 fw.2.1)
 have HME:=hid (show ∀ (A3 B3 C2:Option Addr) (a3 b3 c2:Nat) w',RS w' s2 A B C2 L→Row w' A3 (mTurn s2.M r0 2).W→Row w' B3 (mTurn s2.M r0 2).G→Calls Tryz.prog 37 #[.agg (uS A B C2 L a b c2 d s2),.agg #[.slice A3 (mTurn s2.M r0 2).W.length a3,.slice B3 (mTurn s2.M r0 2).G.length b3,.bool (mTurn s2.M r0 2).bad]] w' fun e w''=>e = .returned (.agg #[.slice A3 (mTurn s2.M r0 2).W.length a3,.slice B3 (mTurn s2.M r0 2).G.length b3,.bool (mTurn s2.M r0 2).bad,.slice C2 s2.C.length c2,.slice L s2.L.length d])∧Below w'.heap.size w' w'' from fun A3 B3 C2 a3 b3 c2 w' k1 k2 k3=>(rmem3_any A B C2 L A3 B3 a b c2 d a3 b3 s2 (mTurn s2.M r0 2) w' k1 k2 k3).mono (fun e w'' h=>⟨h.1,h.2.2⟩))
 have HM2:=hid hM2
 have HLL:=hid hL2
 have HC2:=hid hC2
 have HT3:=hid ht3
 have HLG:=hid hl3
 have HCl:=hid (show t3.C.length = s.C.length by rw [htC,hCl])
 clear hs2 hM2 hL2 hC2 ht3 hl3 hCl htC hres hkx hq
 have hkl:k < s.C.length:=(List.getElem?_eq_some_iff.1 hx).1
 have kl:(k:Int) < (s.C.length:Int):=by omega
 have k0:(0:Int)≤(k:Int):=by omega
 have h2:=hs.2.2.1
 have hC0:=h.C
 obtain ⟨b0,o0,rfl,hbl,hat⟩:=h.C (by omega)
 obtain ⟨AF,AR,cF,cR,hcs,rF,rR,hcF,hcR⟩:=(hat k x hx).cs4
 have c6:w.cell? ⟨b0,o0+k * 7+6,none⟩ = some (.slice AR x.ret.length cR):=hcs 6 _ rfl
 have hrl:x.ret.length≤1000000:=(hs.2.2.2.2 x (List.mem_of_getElem? hx)).1
 have HX:=hid hx
 have HC0:=hid hC0
 clear hat hcs hx rF hcF hC0
 have h0:=hs.1
 have h1:=hs.2.1
 have H:=SF.start w s A B (some ⟨b0,o0,none⟩) L a b c d (uF op 0 r0 r1 r2 r3 r4 r5 r6 r7 AS xs cS) h
 clear h
 go_enter Tryz.func58,Tryz.ntmps58
 go_upto_region 1 with (fail)
 generalize (((w.alloc (.cells (uS A B (some ⟨b0,o0,none⟩) L a b c d s) 30)).alloc (.cells (uF op 0 r0 r1 r2 r3 r4 r5 r6 r7 AS xs cS) 60)).alloc (.cells uZ 30)) = w1 at *
 obtain ⟨z0,z1,z2⟩:=H.zs
 have d6:=(H.be.cell hbl).trans c6
 obtain ⟨p0,p1,p2,p3,p4⟩:=cells5 H.bS
 obtain ⟨f0,f1,f2,f3,f4,f5,f6,f7,f8,f9,f10⟩:=cells11 H.bF
 go_upto_region 8 with (fail)
 clear p0 p1 p2 p3 p4 f0 f1 f2 f3 f4 f5 f6 f7 f8 f9 f10
 obtain ⟨p0,p1,p2,p3,p4⟩:=cells5 H.bS
 obtain ⟨f0,f1,f2,f3,f4,f5,f6,f7,f8,f9,f10⟩:=cells11 H.bF
 have h2c:=h2
 go_cut [7] from 33 (fun y7 wx=>y7 = .slice AR x.ret.length cR∧∃ (C2:Option Addr) (c2:Nat),SG w ⟨s.M,s.C.set k (coKeep x (x.ret++[r0])),s.L⟩ A B C2 L a b c2 d (uF op 0 r0 r1 r2 r3 r4 r5 r6 r7 AS xs cS) wx)
 case first =>
  have KS:=hid (show ∀ w',Turn (fun g=>g = w.heap.size ∨ w1.heap.size≤g) w1 w'→(w'.cell? ⟨w.heap.size+1,2,none⟩ = some (.int .i64 r0)) from fun w' h=>(h.cell z1 (fun h9=>by rcases h9 with h9 | h9 <;> omega)).trans f2)
  clear p0 p1 p2 p3 p4 f0 f1 f2 f3 f4 f5 f6 f7 f8 f9 f10
  refine wp_region_held_drew (S:=fun w'=>Turn (fun g=>g = w.heap.size ∨ w1.heap.size≤g) w1 w') (by kernel_rfl) (Turn.drew (Turn.refl _ _)) (fun HT=>?_)
  try dsimp only at HT
  have KB0:Below w1.heap.size w1 w1.drew:=(Below.refl _ _).drew
  generalize w1.drew = W0 at HT KB0 ⊢
  refine tkW (oi:=⟨some 34,_,_,_,_,_⟩) (v:=?vk1) 1 rfl (by kernel_rfl) (by kernel_rfl) (by kernel_rfl) (fun _ _ _ h=>h) (by rfl) ?hk1 HT ?_
  case hk1=>(intro w hSw;have x0:=KS.out w hSw;clear hSw;go_simp;try with_reducible rfl)
  try simp only [Act.put,pA,pZ,pS]
  refine tkW (oi:=⟨some 36,_,_,_,_,_⟩) (v:=?vk2) 3 rfl (by kernel_rfl) (by kernel_rfl) (by kernel_rfl) (fun _ _ _ h=>h) (by rfl) ?hk2 HT ?_
  case hk2=>(intro w hSw;have x0:=KS.out w hSw;clear hSw;go_simp;try with_reducible rfl)
  try simp only [Act.put,pA,pZ,pS]
  refine tkW (oi:=⟨some 38,_,_,_,_,_⟩) (v:=?vk3) 5 rfl (by kernel_rfl) (by kernel_rfl) (by kernel_rfl) (fun _ _ _ h=>h) (by rfl) ?hk3 HT ?_
  case hk3=>(intro w hSw;have x0:=KS.out w hSw;clear hSw;go_simp;try with_reducible rfl)
  try simp only [Act.put,pA,pZ,pS]
  refine tkW (oi:=⟨some 39,_,_,_,_,_⟩) (v:=?vk4) 6 rfl (by kernel_rfl) (by kernel_rfl) (by kernel_rfl) (fun _ _ _ h=>h) (by rfl) ?hk4 HT ?_
  case hk4=>(intro w hSw;have x0:=KS.out w hSw;clear hSw;go_simp;try with_reducible rfl)
  try simp only [Act.put,pA,pZ,pS]
  refine tkW (oi:=⟨some 40,_,_,_,_,_⟩) (v:=?vk5) 7 rfl (by kernel_rfl) (by kernel_rfl) (by kernel_rfl) (fun _ _ _ h=>h) (by rfl) ?hk5 HT ?_
  case hk5=>(intro w hSw;have x0:=KS.out w hSw;clear hSw;go_simp;try with_reducible rfl)
  try simp only [Act.put,pA,pZ,pS]
  refine wpAnyH_ready (rs:=[0,2,8]) (by kernel_rfl) (by simp) ?_
  refine AllReadyH.cons (o:=⟨some 33,_,_,_,_,_⟩) rfl (fun K hK=>?_) ?_
  ·have bS:=(KB0.block w.heap.size z0).trans H.bS
   obtain ⟨p0,p1,p2,p3,p4⟩:=cells5 bS
   go_simp
   refine hK.out _ _ (turn_of_below KB0) (fun HT=>?_)
   clear hK K bS p0 p1 p2 p3 p4
   try simp only [Act.put,pA,pZ,pS]
   refine wpAnyH_ready (rs:=[2,8]) (by kernel_rfl) (by simp) ?_
   refine AllReadyH.cons (o:=⟨some 35,_,_,_,_,_⟩) rfl (fun K hK=>?_) ?_
   ·go_simp
    have KB1:=bstep KB0 (boxed W0 (.cells #[] 3 (0,0)))
    refine hK.out _ _ (turn_of_below KB1) (fun HT=>?_)
    clear hK K
    have hn2:(W0.alloc (.cells #[] 3 (0,0))).ownsRow w1.heap.size 3 1 (.slice (some ⟨W0.heap.size,0,none⟩) 0 0) ([]:List Int).length (([]:List Int).map inCells).flatten:=own_base (own_empty (heap_alloc_new W0 (.cells #[] 3 (0,0)))) KB0.size
    have ln:W0.heap.size < (W0.alloc (.cells #[] 3 (0,0))).heap.size:=by simp
    obtain ⟨g2,hgz⟩:∃ g,W0.heap.size = g:=⟨_,rfl⟩
    rw [hgz] at hn2 ln ⊢
    clear hgz KB0
    generalize W0.alloc (.cells #[] 3 (0,0)) = W1 at *
    have l2:=ln
    clear ln
    have h2:=hn2
    clear hn2
    try simp only [Act.put,pA,pZ,pS]
    refine wpAnyH_ready (rs:=[4,8]) (by kernel_rfl) (by simp) ?_
    refine AllReadyH.cons (o:=⟨some 37,_,_,_,_,_⟩) rfl (fun K hK=>?_) ?_
    ·refine step_append_ontoR (by rfl) _ _ _ (by rfl) w1.heap.size Tryz.underlying24 infoI _ _ ([]:List Int) rfl (by rfl) h2 AR cR x.ret.length x.ret (by rfl) rfl (rR.step (bstep H.be KB1)) (by simp;omega) KB1.size ?_
     intro v4 W2 h4 hg4
     rw [List.nil_append] at h4
     have KB2:=KB1.trans (Turn.to_below ((Turn.refl (fun b=>w1.heap.size≤b) W1).grown hg4 (fun q e=>(h2.lt q e).1)) KB1.size (fun _ h=>h))
     refine hK.out _ _ (turn_of_below KB2) (fun HT=>?_)
     clear hK K hg4 h2 KB1 l2
     try simp only [Act.put,pA,pZ,pS]
     refine wpAnyH_ready (rs:=[8]) (by kernel_rfl) (by simp) ?_
     refine AllReadyH.cons (o:=⟨some 41,_,_,_,_,_⟩) rfl (fun K hK=>?_) ?_
     ·go_simp
      have KB3:=bstep KB2 (boxed W2 (.cells #[.int .i64 r0] 3 (0,0)))
      refine hK.out _ _ (turn_of_below KB3) (fun HT=>?_)
      clear hK K
      have hn8:=heap_alloc_new W2 (.cells #[.int .i64 r0] 3 (0,0))
      have ln:W2.heap.size < (W2.alloc (.cells #[.int .i64 r0] 3 (0,0))).heap.size:=by simp
      replace h4:=own_step h4 (boxed W2 (.cells #[.int .i64 r0] 3 (0,0)))
      obtain ⟨g8,hgz⟩:∃ g,W2.heap.size = g:=⟨_,rfl⟩
      rw [hgz] at hn8 ln ⊢
      clear hgz KB2
      generalize W2.alloc (.cells #[.int .i64 r0] 3 (0,0)) = W3 at *
      have l8:=ln
      clear ln
      have B8:=hn8
      clear hn8
      try simp only [Act.put,pA,pZ,pS]
      refine wpAnyH_ready (rs:=[9]) (by kernel_rfl) (by simp) ?_
      refine AllReadyH.cons (o:=⟨some 42,_,_,_,_,_⟩) rfl (fun K hK=>?_) ?_
      ·refine step_append_ontoR (by rfl) _ _ _ (by rfl) w1.heap.size Tryz.underlying24 infoI _ _ x.ret rfl (by rfl) h4 (some ⟨g8,0,none⟩) 1 1 [r0] (by rfl) rfl (Blk.row B8) (by simp;omega) KB3.size ?_
       intro v9 W4 h9 hg9
       have KB4:=KB3.trans (Turn.to_below ((Turn.refl (fun b=>w1.heap.size≤b) W3).grown hg9 (fun q e=>(h4.lt q e).1)) KB3.size (fun _ h=>h))
       refine hK.out _ _ (turn_of_below KB4) (fun HT=>?_)
       clear hK K hg9 h4 B8 l8 KB3
       try simp only [Act.put,pA,pZ,pS]
       refine wpAnyH_ready (rs:=[10]) (by kernel_rfl) (by simp) ?_
       refine AllReadyH.cons (o:=⟨some 43,_,_,_,_,_⟩) rfl (fun K hK=>?_) ?_
       ·obtain ⟨g9,c9,rfl,hg91,hg92⟩:=h9.form (by simp)
        have hc9:=own_cap h9
        have r9:Row W4 (some ⟨g9,0,none⟩) (x.ret++[r0]):=by
         obtain ⟨A7,c7,e7,r7⟩:=own_row1 h9 rfl
         injection e7 with e7 _ _
         rw [e7];exact r7
        have rV9:RowV (V3 w) W4 (some ⟨g9,0,none⟩) (x.ret++[r0]):=RowV.of r9 (fun q e h=>by injection e with e;subst e;have:=v3_bd h;dsimp only at this;omega)
        have hk9:=rkept_v A B (some ⟨b0,o0,none⟩) L a b c d s k x (some ⟨g9,0,none⟩) c9 (x.ret++[r0]) (V3 w) w W4 HX.out h2c HC0.out (bstep H.be KB4) (fun b h=>by have:=v3_bd h;have:=KB4.size;omega) rV9 hc9
        rw [show (x.ret++[r0]).length = x.ret.length+1 by simp] at hk9
        have HK9:=hid hk9
        clear hk9
        go_simp
        (go_at_call 74;(with_reducible refine HK9.out.mono ?_);rintro e W5 ⟨C4,c4,rfl,rC4,hk4⟩)
        have KB5:=bstep KB4 hk4
        refine hK.out _ _ (turn_of_below KB5) (fun HT=>?_)
        clear hK K hk4 h9 r9 rV9 HK9 KB4
        try simp only [Act.put,pA,pZ,pS]
        refine wpAnyH_ready (rs:=[11]) (by kernel_rfl) (by simp) ?_
        refine AllReadyH.cons (o:=⟨none,_,_,_,_,_⟩) rfl (fun K hK=>?_) ?_
        ·have bS:=(KB5.block w.heap.size z0).trans H.bS
         obtain ⟨p0,p1,p2,p3,p4,pf0,pf1,pf2,pf3,pf4⟩:=cf5 bS
         go_simp
         refine hK.out _ _ ((turn_of_below KB5).trans ((turn5 _ _ _ _ _ _ _).mono (fun b _ h=>.inl h))) (fun HT=>?_)
         clear hK K
         try simp only [Act.put,pA,pZ,pS]
         refine wpAnyH_done (by kernel_rfl) ?_ _
         go_wp2_with fail
         go_meet
         exact ⟨rfl,C4,c4,(H.step KB5).sg.putC (by simp) rC4⟩
        exact AllReadyH.nil
       exact AllReadyH.nil
      exact AllReadyH.nil
     exact AllReadyH.nil
    refine AllReadyH.cons (o:=⟨some 41,_,_,_,_,_⟩) rfl (fun K hK=>?_) ?_
    ·go_simp
     have KB2:=bstep KB1 (boxed W1 (.cells #[.int .i64 r0] 3 (0,0)))
     refine hK.out _ _ (turn_of_below KB2) (fun HT=>?_)
     clear hK K
     have hn8:=heap_alloc_new W1 (.cells #[.int .i64 r0] 3 (0,0))
     have ln:W1.heap.size < (W1.alloc (.cells #[.int .i64 r0] 3 (0,0))).heap.size:=by simp
     replace h2:=own_step h2 (boxed W1 (.cells #[.int .i64 r0] 3 (0,0)))
     have n28:g2 ≠ W1.heap.size:=Nat.ne_of_lt l2
     replace l2:=Nat.lt_trans l2 ln
     obtain ⟨g8,hgz⟩:∃ g,W1.heap.size = g:=⟨_,rfl⟩
     rw [hgz] at hn8 ln n28 ⊢
     clear hgz KB1
     generalize W1.alloc (.cells #[.int .i64 r0] 3 (0,0)) = W2 at *
     have l8:=ln
     clear ln
     have B8:=hn8
     clear hn8
     try simp only [Act.put,pA,pZ,pS]
     refine wpAnyH_ready (rs:=[4]) (by kernel_rfl) (by simp) ?_
     refine AllReadyH.cons (o:=⟨some 37,_,_,_,_,_⟩) rfl (fun K hK=>?_) ?_
     ·refine step_append_ontoR (by rfl) _ _ _ (by rfl) w1.heap.size Tryz.underlying24 infoI _ _ ([]:List Int) rfl (by rfl) h2 AR cR x.ret.length x.ret (by rfl) rfl (rR.step (bstep H.be KB2)) (by simp;omega) KB2.size ?_
      intro v4 W3 h4 hg4
      rw [List.nil_append] at h4
      have KB3:=KB2.trans (Turn.to_below ((Turn.refl (fun b=>w1.heap.size≤b) W2).grown hg4 (fun q e=>(h2.lt q e).1)) KB2.size (fun _ h=>h))
      replace B8:=(((Turn.refl (fun b=>b = g2) W2).grown hg4 (fun q e=>by injection e with e;exact e.symm)).block g8 l8 (fun h9=>n28 h9.symm)).trans B8
      replace l8:=Nat.lt_of_lt_of_le l8 hg4.size
      refine hK.out _ _ (turn_of_below KB3) (fun HT=>?_)
      clear hK K hg4 h2 KB2 l2 n28
      try simp only [Act.put,pA,pZ,pS]
      refine wpAnyH_ready (rs:=[9]) (by kernel_rfl) (by simp) ?_
      refine AllReadyH.cons (o:=⟨some 42,_,_,_,_,_⟩) rfl (fun K hK=>?_) ?_
      ·refine step_append_ontoR (by rfl) _ _ _ (by rfl) w1.heap.size Tryz.underlying24 infoI _ _ x.ret rfl (by rfl) h4 (some ⟨g8,0,none⟩) 1 1 [r0] (by rfl) rfl (Blk.row B8) (by simp;omega) KB3.size ?_
       intro v9 W4 h9 hg9
       have KB4:=KB3.trans (Turn.to_below ((Turn.refl (fun b=>w1.heap.size≤b) W3).grown hg9 (fun q e=>(h4.lt q e).1)) KB3.size (fun _ h=>h))
       refine hK.out _ _ (turn_of_below KB4) (fun HT=>?_)
       clear hK K hg9 h4 B8 l8 KB3
       try simp only [Act.put,pA,pZ,pS]
       refine wpAnyH_ready (rs:=[10]) (by kernel_rfl) (by simp) ?_
       refine AllReadyH.cons (o:=⟨some 43,_,_,_,_,_⟩) rfl (fun K hK=>?_) ?_
       ·obtain ⟨g9,c9,rfl,hg91,hg92⟩:=h9.form (by simp)
        have hc9:=own_cap h9
        have r9:Row W4 (some ⟨g9,0,none⟩) (x.ret++[r0]):=by
         obtain ⟨A7,c7,e7,r7⟩:=own_row1 h9 rfl
         injection e7 with e7 _ _
         rw [e7];exact r7
        have rV9:RowV (V3 w) W4 (some ⟨g9,0,none⟩) (x.ret++[r0]):=RowV.of r9 (fun q e h=>by injection e with e;subst e;have:=v3_bd h;dsimp only at this;omega)
        have hk9:=rkept_v A B (some ⟨b0,o0,none⟩) L a b c d s k x (some ⟨g9,0,none⟩) c9 (x.ret++[r0]) (V3 w) w W4 HX.out h2c HC0.out (bstep H.be KB4) (fun b h=>by have:=v3_bd h;have:=KB4.size;omega) rV9 hc9
        rw [show (x.ret++[r0]).length = x.ret.length+1 by simp] at hk9
        have HK9:=hid hk9
        clear hk9
        go_simp
        (go_at_call 74;(with_reducible refine HK9.out.mono ?_);rintro e W5 ⟨C4,c4,rfl,rC4,hk4⟩)
        have KB5:=bstep KB4 hk4
        refine hK.out _ _ (turn_of_below KB5) (fun HT=>?_)
        clear hK K hk4 h9 r9 rV9 HK9 KB4
        try simp only [Act.put,pA,pZ,pS]
        refine wpAnyH_ready (rs:=[11]) (by kernel_rfl) (by simp) ?_
        refine AllReadyH.cons (o:=⟨none,_,_,_,_,_⟩) rfl (fun K hK=>?_) ?_
        ·have bS:=(KB5.block w.heap.size z0).trans H.bS
         obtain ⟨p0,p1,p2,p3,p4,pf0,pf1,pf2,pf3,pf4⟩:=cf5 bS
         go_simp
         refine hK.out _ _ ((turn_of_below KB5).trans ((turn5 _ _ _ _ _ _ _).mono (fun b _ h=>.inl h))) (fun HT=>?_)
         clear hK K
         try simp only [Act.put,pA,pZ,pS]
         refine wpAnyH_done (by kernel_rfl) ?_ _
         go_wp2_with fail
         go_meet
         exact ⟨rfl,C4,c4,(H.step KB5).sg.putC (by simp) rC4⟩
        exact AllReadyH.nil
       exact AllReadyH.nil
      exact AllReadyH.nil
     exact AllReadyH.nil
    exact AllReadyH.nil
   refine AllReadyH.cons (o:=⟨some 41,_,_,_,_,_⟩) rfl (fun K hK=>?_) ?_
   ·go_simp
    have KB1:=bstep KB0 (boxed W0 (.cells #[.int .i64 r0] 3 (0,0)))
    refine hK.out _ _ (turn_of_below KB1) (fun HT=>?_)
    clear hK K
    have hn8:=heap_alloc_new W0 (.cells #[.int .i64 r0] 3 (0,0))
    have ln:W0.heap.size < (W0.alloc (.cells #[.int .i64 r0] 3 (0,0))).heap.size:=by simp
    obtain ⟨g8,hgz⟩:∃ g,W0.heap.size = g:=⟨_,rfl⟩
    rw [hgz] at hn8 ln ⊢
    clear hgz KB0
    generalize W0.alloc (.cells #[.int .i64 r0] 3 (0,0)) = W1 at *
    have l8:=ln
    clear ln
    have B8:=hn8
    clear hn8
    try simp only [Act.put,pA,pZ,pS]
    refine wpAnyH_ready (rs:=[2]) (by kernel_rfl) (by simp) ?_
    refine AllReadyH.cons (o:=⟨some 35,_,_,_,_,_⟩) rfl (fun K hK=>?_) ?_
    ·go_simp
     have KB2:=bstep KB1 (boxed W1 (.cells #[] 3 (0,0)))
     refine hK.out _ _ (turn_of_below KB2) (fun HT=>?_)
     clear hK K
     have hn2:(W1.alloc (.cells #[] 3 (0,0))).ownsRow w1.heap.size 3 1 (.slice (some ⟨W1.heap.size,0,none⟩) 0 0) ([]:List Int).length (([]:List Int).map inCells).flatten:=own_base (own_empty (heap_alloc_new W1 (.cells #[] 3 (0,0)))) KB1.size
     have ln:W1.heap.size < (W1.alloc (.cells #[] 3 (0,0))).heap.size:=by simp
     replace B8:=((boxed W1 (.cells #[] 3 (0,0))).block g8 l8).trans B8
     have n28:W1.heap.size ≠ g8:=Nat.ne_of_gt l8
     replace l8:=Nat.lt_trans l8 ln
     obtain ⟨g2,hgz⟩:∃ g,W1.heap.size = g:=⟨_,rfl⟩
     rw [hgz] at hn2 ln n28 ⊢
     clear hgz KB1
     generalize W1.alloc (.cells #[] 3 (0,0)) = W2 at *
     have l2:=ln
     clear ln
     have h2:=hn2
     clear hn2
     try simp only [Act.put,pA,pZ,pS]
     refine wpAnyH_ready (rs:=[4]) (by kernel_rfl) (by simp) ?_
     refine AllReadyH.cons (o:=⟨some 37,_,_,_,_,_⟩) rfl (fun K hK=>?_) ?_
     ·refine step_append_ontoR (by rfl) _ _ _ (by rfl) w1.heap.size Tryz.underlying24 infoI _ _ ([]:List Int) rfl (by rfl) h2 AR cR x.ret.length x.ret (by rfl) rfl (rR.step (bstep H.be KB2)) (by simp;omega) KB2.size ?_
      intro v4 W3 h4 hg4
      rw [List.nil_append] at h4
      have KB3:=KB2.trans (Turn.to_below ((Turn.refl (fun b=>w1.heap.size≤b) W2).grown hg4 (fun q e=>(h2.lt q e).1)) KB2.size (fun _ h=>h))
      replace B8:=(((Turn.refl (fun b=>b = g2) W2).grown hg4 (fun q e=>by injection e with e;exact e.symm)).block g8 l8 (fun h9=>n28 h9.symm)).trans B8
      replace l8:=Nat.lt_of_lt_of_le l8 hg4.size
      refine hK.out _ _ (turn_of_below KB3) (fun HT=>?_)
      clear hK K hg4 h2 KB2 l2 n28
      try simp only [Act.put,pA,pZ,pS]
      refine wpAnyH_ready (rs:=[9]) (by kernel_rfl) (by simp) ?_
      refine AllReadyH.cons (o:=⟨some 42,_,_,_,_,_⟩) rfl (fun K hK=>?_) ?_
      ·refine step_append_ontoR (by rfl) _ _ _ (by rfl) w1.heap.size Tryz.underlying24 infoI _ _ x.ret rfl (by rfl) h4 (some ⟨g8,0,none⟩) 1 1 [r0] (by rfl) rfl (Blk.row B8) (by simp;omega) KB3.size ?_
       intro v9 W4 h9 hg9
       have KB4:=KB3.trans (Turn.to_below ((Turn.refl (fun b=>w1.heap.size≤b) W3).grown hg9 (fun q e=>(h4.lt q e).1)) KB3.size (fun _ h=>h))
       refine hK.out _ _ (turn_of_below KB4) (fun HT=>?_)
       clear hK K hg9 h4 B8 l8 KB3
       try simp only [Act.put,pA,pZ,pS]
       refine wpAnyH_ready (rs:=[10]) (by kernel_rfl) (by simp) ?_
       refine AllReadyH.cons (o:=⟨some 43,_,_,_,_,_⟩) rfl (fun K hK=>?_) ?_
       ·obtain ⟨g9,c9,rfl,hg91,hg92⟩:=h9.form (by simp)
        have hc9:=own_cap h9
        have r9:Row W4 (some ⟨g9,0,none⟩) (x.ret++[r0]):=by
         obtain ⟨A7,c7,e7,r7⟩:=own_row1 h9 rfl
         injection e7 with e7 _ _
         rw [e7];exact r7
        have rV9:RowV (V3 w) W4 (some ⟨g9,0,none⟩) (x.ret++[r0]):=RowV.of r9 (fun q e h=>by injection e with e;subst e;have:=v3_bd h;dsimp only at this;omega)
        have hk9:=rkept_v A B (some ⟨b0,o0,none⟩) L a b c d s k x (some ⟨g9,0,none⟩) c9 (x.ret++[r0]) (V3 w) w W4 HX.out h2c HC0.out (bstep H.be KB4) (fun b h=>by have:=v3_bd h;have:=KB4.size;omega) rV9 hc9
        rw [show (x.ret++[r0]).length = x.ret.length+1 by simp] at hk9
        have HK9:=hid hk9
        clear hk9
        go_simp
        (go_at_call 74;(with_reducible refine HK9.out.mono ?_);rintro e W5 ⟨C4,c4,rfl,rC4,hk4⟩)
        have KB5:=bstep KB4 hk4
        refine hK.out _ _ (turn_of_below KB5) (fun HT=>?_)
        clear hK K hk4 h9 r9 rV9 HK9 KB4
        try simp only [Act.put,pA,pZ,pS]
        refine wpAnyH_ready (rs:=[11]) (by kernel_rfl) (by simp) ?_
        refine AllReadyH.cons (o:=⟨none,_,_,_,_,_⟩) rfl (fun K hK=>?_) ?_
        ·have bS:=(KB5.block w.heap.size z0).trans H.bS
         obtain ⟨p0,p1,p2,p3,p4,pf0,pf1,pf2,pf3,pf4⟩:=cf5 bS
         go_simp
         refine hK.out _ _ ((turn_of_below KB5).trans ((turn5 _ _ _ _ _ _ _).mono (fun b _ h=>.inl h))) (fun HT=>?_)
         clear hK K
         try simp only [Act.put,pA,pZ,pS]
         refine wpAnyH_done (by kernel_rfl) ?_ _
         go_wp2_with fail
         go_meet
         exact ⟨rfl,C4,c4,(H.step KB5).sg.putC (by simp) rC4⟩
        exact AllReadyH.nil
       exact AllReadyH.nil
      exact AllReadyH.nil
     exact AllReadyH.nil
    exact AllReadyH.nil
   exact AllReadyH.nil
  refine AllReadyH.cons (o:=⟨some 35,_,_,_,_,_⟩) rfl (fun K hK=>?_) ?_
  ·go_simp
   have KB1:=bstep KB0 (boxed W0 (.cells #[] 3 (0,0)))
   refine hK.out _ _ (turn_of_below KB1) (fun HT=>?_)
   clear hK K
   have hn2:(W0.alloc (.cells #[] 3 (0,0))).ownsRow w1.heap.size 3 1 (.slice (some ⟨W0.heap.size,0,none⟩) 0 0) ([]:List Int).length (([]:List Int).map inCells).flatten:=own_base (own_empty (heap_alloc_new W0 (.cells #[] 3 (0,0)))) KB0.size
   have ln:W0.heap.size < (W0.alloc (.cells #[] 3 (0,0))).heap.size:=by simp
   obtain ⟨g2,hgz⟩:∃ g,W0.heap.size = g:=⟨_,rfl⟩
   rw [hgz] at hn2 ln ⊢
   clear hgz KB0
   generalize W0.alloc (.cells #[] 3 (0,0)) = W1 at *
   have l2:=ln
   clear ln
   have h2:=hn2
   clear hn2
   try simp only [Act.put,pA,pZ,pS]
   refine wpAnyH_ready (rs:=[0,4,8]) (by kernel_rfl) (by simp) ?_
   refine AllReadyH.cons (o:=⟨some 33,_,_,_,_,_⟩) rfl (fun K hK=>?_) ?_
   ·have bS:=(KB1.block w.heap.size z0).trans H.bS
    obtain ⟨p0,p1,p2,p3,p4⟩:=cells5 bS
    go_simp
    refine hK.out _ _ (turn_of_below KB1) (fun HT=>?_)
    clear hK K bS p0 p1 p2 p3 p4
    try simp only [Act.put,pA,pZ,pS]
    refine wpAnyH_ready (rs:=[4,8]) (by kernel_rfl) (by simp) ?_
    refine AllReadyH.cons (o:=⟨some 37,_,_,_,_,_⟩) rfl (fun K hK=>?_) ?_
    ·refine step_append_ontoR (by rfl) _ _ _ (by rfl) w1.heap.size Tryz.underlying24 infoI _ _ ([]:List Int) rfl (by rfl) h2 AR cR x.ret.length x.ret (by rfl) rfl (rR.step (bstep H.be KB1)) (by simp;omega) KB1.size ?_
     intro v4 W2 h4 hg4
     rw [List.nil_append] at h4
     have KB2:=KB1.trans (Turn.to_below ((Turn.refl (fun b=>w1.heap.size≤b) W1).grown hg4 (fun q e=>(h2.lt q e).1)) KB1.size (fun _ h=>h))
     refine hK.out _ _ (turn_of_below KB2) (fun HT=>?_)
     clear hK K hg4 h2 KB1 l2
     try simp only [Act.put,pA,pZ,pS]
     refine wpAnyH_ready (rs:=[8]) (by kernel_rfl) (by simp) ?_
     refine AllReadyH.cons (o:=⟨some 41,_,_,_,_,_⟩) rfl (fun K hK=>?_) ?_
     ·go_simp
      have KB3:=bstep KB2 (boxed W2 (.cells #[.int .i64 r0] 3 (0,0)))
      refine hK.out _ _ (turn_of_below KB3) (fun HT=>?_)
      clear hK K
      have hn8:=heap_alloc_new W2 (.cells #[.int .i64 r0] 3 (0,0))
      have ln:W2.heap.size < (W2.alloc (.cells #[.int .i64 r0] 3 (0,0))).heap.size:=by simp
      replace h4:=own_step h4 (boxed W2 (.cells #[.int .i64 r0] 3 (0,0)))
      obtain ⟨g8,hgz⟩:∃ g,W2.heap.size = g:=⟨_,rfl⟩
      rw [hgz] at hn8 ln ⊢
      clear hgz KB2
      generalize W2.alloc (.cells #[.int .i64 r0] 3 (0,0)) = W3 at *
      have l8:=ln
      clear ln
      have B8:=hn8
      clear hn8
      try simp only [Act.put,pA,pZ,pS]
      refine wpAnyH_ready (rs:=[9]) (by kernel_rfl) (by simp) ?_
      refine AllReadyH.cons (o:=⟨some 42,_,_,_,_,_⟩) rfl (fun K hK=>?_) ?_
      ·refine step_append_ontoR (by rfl) _ _ _ (by rfl) w1.heap.size Tryz.underlying24 infoI _ _ x.ret rfl (by rfl) h4 (some ⟨g8,0,none⟩) 1 1 [r0] (by rfl) rfl (Blk.row B8) (by simp;omega) KB3.size ?_
       intro v9 W4 h9 hg9
       have KB4:=KB3.trans (Turn.to_below ((Turn.refl (fun b=>w1.heap.size≤b) W3).grown hg9 (fun q e=>(h4.lt q e).1)) KB3.size (fun _ h=>h))
       refine hK.out _ _ (turn_of_below KB4) (fun HT=>?_)
       clear hK K hg9 h4 B8 l8 KB3
       try simp only [Act.put,pA,pZ,pS]
       refine wpAnyH_ready (rs:=[10]) (by kernel_rfl) (by simp) ?_
       refine AllReadyH.cons (o:=⟨some 43,_,_,_,_,_⟩) rfl (fun K hK=>?_) ?_
       ·obtain ⟨g9,c9,rfl,hg91,hg92⟩:=h9.form (by simp)
        have hc9:=own_cap h9
        have r9:Row W4 (some ⟨g9,0,none⟩) (x.ret++[r0]):=by
         obtain ⟨A7,c7,e7,r7⟩:=own_row1 h9 rfl
         injection e7 with e7 _ _
         rw [e7];exact r7
        have rV9:RowV (V3 w) W4 (some ⟨g9,0,none⟩) (x.ret++[r0]):=RowV.of r9 (fun q e h=>by injection e with e;subst e;have:=v3_bd h;dsimp only at this;omega)
        have hk9:=rkept_v A B (some ⟨b0,o0,none⟩) L a b c d s k x (some ⟨g9,0,none⟩) c9 (x.ret++[r0]) (V3 w) w W4 HX.out h2c HC0.out (bstep H.be KB4) (fun b h=>by have:=v3_bd h;have:=KB4.size;omega) rV9 hc9
        rw [show (x.ret++[r0]).length = x.ret.length+1 by simp] at hk9
        have HK9:=hid hk9
        clear hk9
        go_simp
        (go_at_call 74;(with_reducible refine HK9.out.mono ?_);rintro e W5 ⟨C4,c4,rfl,rC4,hk4⟩)
        have KB5:=bstep KB4 hk4
        refine hK.out _ _ (turn_of_below KB5) (fun HT=>?_)
        clear hK K hk4 h9 r9 rV9 HK9 KB4
        try simp only [Act.put,pA,pZ,pS]
        refine wpAnyH_ready (rs:=[11]) (by kernel_rfl) (by simp) ?_
        refine AllReadyH.cons (o:=⟨none,_,_,_,_,_⟩) rfl (fun K hK=>?_) ?_
        ·have bS:=(KB5.block w.heap.size z0).trans H.bS
         obtain ⟨p0,p1,p2,p3,p4,pf0,pf1,pf2,pf3,pf4⟩:=cf5 bS
         go_simp
         refine hK.out _ _ ((turn_of_below KB5).trans ((turn5 _ _ _ _ _ _ _).mono (fun b _ h=>.inl h))) (fun HT=>?_)
         clear hK K
         try simp only [Act.put,pA,pZ,pS]
         refine wpAnyH_done (by kernel_rfl) ?_ _
         go_wp2_with fail
         go_meet
         exact ⟨rfl,C4,c4,(H.step KB5).sg.putC (by simp) rC4⟩
        exact AllReadyH.nil
       exact AllReadyH.nil
      exact AllReadyH.nil
     exact AllReadyH.nil
    refine AllReadyH.cons (o:=⟨some 41,_,_,_,_,_⟩) rfl (fun K hK=>?_) ?_
    ·go_simp
     have KB2:=bstep KB1 (boxed W1 (.cells #[.int .i64 r0] 3 (0,0)))
     refine hK.out _ _ (turn_of_below KB2) (fun HT=>?_)
     clear hK K
     have hn8:=heap_alloc_new W1 (.cells #[.int .i64 r0] 3 (0,0))
     have ln:W1.heap.size < (W1.alloc (.cells #[.int .i64 r0] 3 (0,0))).heap.size:=by simp
     replace h2:=own_step h2 (boxed W1 (.cells #[.int .i64 r0] 3 (0,0)))
     have n28:g2 ≠ W1.heap.size:=Nat.ne_of_lt l2
     replace l2:=Nat.lt_trans l2 ln
     obtain ⟨g8,hgz⟩:∃ g,W1.heap.size = g:=⟨_,rfl⟩
     rw [hgz] at hn8 ln n28 ⊢
     clear hgz KB1
     generalize W1.alloc (.cells #[.int .i64 r0] 3 (0,0)) = W2 at *
     have l8:=ln
     clear ln
     have B8:=hn8
     clear hn8
     try simp only [Act.put,pA,pZ,pS]
     refine wpAnyH_ready (rs:=[4]) (by kernel_rfl) (by simp) ?_
     refine AllReadyH.cons (o:=⟨some 37,_,_,_,_,_⟩) rfl (fun K hK=>?_) ?_
     ·refine step_append_ontoR (by rfl) _ _ _ (by rfl) w1.heap.size Tryz.underlying24 infoI _ _ ([]:List Int) rfl (by rfl) h2 AR cR x.ret.length x.ret (by rfl) rfl (rR.step (bstep H.be KB2)) (by simp;omega) KB2.size ?_
      intro v4 W3 h4 hg4
      rw [List.nil_append] at h4
      have KB3:=KB2.trans (Turn.to_below ((Turn.refl (fun b=>w1.heap.size≤b) W2).grown hg4 (fun q e=>(h2.lt q e).1)) KB2.size (fun _ h=>h))
      replace B8:=(((Turn.refl (fun b=>b = g2) W2).grown hg4 (fun q e=>by injection e with e;exact e.symm)).block g8 l8 (fun h9=>n28 h9.symm)).trans B8
      replace l8:=Nat.lt_of_lt_of_le l8 hg4.size
      refine hK.out _ _ (turn_of_below KB3) (fun HT=>?_)
      clear hK K hg4 h2 KB2 l2 n28
      try simp only [Act.put,pA,pZ,pS]
      refine wpAnyH_ready (rs:=[9]) (by kernel_rfl) (by simp) ?_
      refine AllReadyH.cons (o:=⟨some 42,_,_,_,_,_⟩) rfl (fun K hK=>?_) ?_
      ·refine step_append_ontoR (by rfl) _ _ _ (by rfl) w1.heap.size Tryz.underlying24 infoI _ _ x.ret rfl (by rfl) h4 (some ⟨g8,0,none⟩) 1 1 [r0] (by rfl) rfl (Blk.row B8) (by simp;omega) KB3.size ?_
       intro v9 W4 h9 hg9
       have KB4:=KB3.trans (Turn.to_below ((Turn.refl (fun b=>w1.heap.size≤b) W3).grown hg9 (fun q e=>(h4.lt q e).1)) KB3.size (fun _ h=>h))
       refine hK.out _ _ (turn_of_below KB4) (fun HT=>?_)
       clear hK K hg9 h4 B8 l8 KB3
       try simp only [Act.put,pA,pZ,pS]
       refine wpAnyH_ready (rs:=[10]) (by kernel_rfl) (by simp) ?_
       refine AllReadyH.cons (o:=⟨some 43,_,_,_,_,_⟩) rfl (fun K hK=>?_) ?_
       ·obtain ⟨g9,c9,rfl,hg91,hg92⟩:=h9.form (by simp)
        have hc9:=own_cap h9
        have r9:Row W4 (some ⟨g9,0,none⟩) (x.ret++[r0]):=by
         obtain ⟨A7,c7,e7,r7⟩:=own_row1 h9 rfl
         injection e7 with e7 _ _
         rw [e7];exact r7
        have rV9:RowV (V3 w) W4 (some ⟨g9,0,none⟩) (x.ret++[r0]):=RowV.of r9 (fun q e h=>by injection e with e;subst e;have:=v3_bd h;dsimp only at this;omega)
        have hk9:=rkept_v A B (some ⟨b0,o0,none⟩) L a b c d s k x (some ⟨g9,0,none⟩) c9 (x.ret++[r0]) (V3 w) w W4 HX.out h2c HC0.out (bstep H.be KB4) (fun b h=>by have:=v3_bd h;have:=KB4.size;omega) rV9 hc9
        rw [show (x.ret++[r0]).length = x.ret.length+1 by simp] at hk9
        have HK9:=hid hk9
        clear hk9
        go_simp
        (go_at_call 74;(with_reducible refine HK9.out.mono ?_);rintro e W5 ⟨C4,c4,rfl,rC4,hk4⟩)
        have KB5:=bstep KB4 hk4
        refine hK.out _ _ (turn_of_below KB5) (fun HT=>?_)
        clear hK K hk4 h9 r9 rV9 HK9 KB4
        try simp only [Act.put,pA,pZ,pS]
        refine wpAnyH_ready (rs:=[11]) (by kernel_rfl) (by simp) ?_
        refine AllReadyH.cons (o:=⟨none,_,_,_,_,_⟩) rfl (fun K hK=>?_) ?_
        ·have bS:=(KB5.block w.heap.size z0).trans H.bS
         obtain ⟨p0,p1,p2,p3,p4,pf0,pf1,pf2,pf3,pf4⟩:=cf5 bS
         go_simp
         refine hK.out _ _ ((turn_of_below KB5).trans ((turn5 _ _ _ _ _ _ _).mono (fun b _ h=>.inl h))) (fun HT=>?_)
         clear hK K
         try simp only [Act.put,pA,pZ,pS]
         refine wpAnyH_done (by kernel_rfl) ?_ _
         go_wp2_with fail
         go_meet
         exact ⟨rfl,C4,c4,(H.step KB5).sg.putC (by simp) rC4⟩
        exact AllReadyH.nil
       exact AllReadyH.nil
      exact AllReadyH.nil
     exact AllReadyH.nil
    exact AllReadyH.nil
   refine AllReadyH.cons (o:=⟨some 37,_,_,_,_,_⟩) rfl (fun K hK=>?_) ?_
   ·refine step_append_ontoR (by rfl) _ _ _ (by rfl) w1.heap.size Tryz.underlying24 infoI _ _ ([]:List Int) rfl (by rfl) h2 AR cR x.ret.length x.ret (by rfl) rfl (rR.step (bstep H.be KB1)) (by simp;omega) KB1.size ?_
    intro v4 W2 h4 hg4
    rw [List.nil_append] at h4
    have KB2:=KB1.trans (Turn.to_below ((Turn.refl (fun b=>w1.heap.size≤b) W1).grown hg4 (fun q e=>(h2.lt q e).1)) KB1.size (fun _ h=>h))
    refine hK.out _ _ (turn_of_below KB2) (fun HT=>?_)
    clear hK K hg4 h2 KB1 l2
    try simp only [Act.put,pA,pZ,pS]
    refine wpAnyH_ready (rs:=[0,8]) (by kernel_rfl) (by simp) ?_
    refine AllReadyH.cons (o:=⟨some 33,_,_,_,_,_⟩) rfl (fun K hK=>?_) ?_
    ·have bS:=(KB2.block w.heap.size z0).trans H.bS
     obtain ⟨p0,p1,p2,p3,p4⟩:=cells5 bS
     go_simp
     refine hK.out _ _ (turn_of_below KB2) (fun HT=>?_)
     clear hK K bS p0 p1 p2 p3 p4
     try simp only [Act.put,pA,pZ,pS]
     refine wpAnyH_ready (rs:=[8]) (by kernel_rfl) (by simp) ?_
     refine AllReadyH.cons (o:=⟨some 41,_,_,_,_,_⟩) rfl (fun K hK=>?_) ?_
     ·go_simp
      have KB3:=bstep KB2 (boxed W2 (.cells #[.int .i64 r0] 3 (0,0)))
      refine hK.out _ _ (turn_of_below KB3) (fun HT=>?_)
      clear hK K
      have hn8:=heap_alloc_new W2 (.cells #[.int .i64 r0] 3 (0,0))
      have ln:W2.heap.size < (W2.alloc (.cells #[.int .i64 r0] 3 (0,0))).heap.size:=by simp
      replace h4:=own_step h4 (boxed W2 (.cells #[.int .i64 r0] 3 (0,0)))
      obtain ⟨g8,hgz⟩:∃ g,W2.heap.size = g:=⟨_,rfl⟩
      rw [hgz] at hn8 ln ⊢
      clear hgz KB2
      generalize W2.alloc (.cells #[.int .i64 r0] 3 (0,0)) = W3 at *
      have l8:=ln
      clear ln
      have B8:=hn8
      clear hn8
      try simp only [Act.put,pA,pZ,pS]
      refine wpAnyH_ready (rs:=[9]) (by kernel_rfl) (by simp) ?_
      refine AllReadyH.cons (o:=⟨some 42,_,_,_,_,_⟩) rfl (fun K hK=>?_) ?_
      ·refine step_append_ontoR (by rfl) _ _ _ (by rfl) w1.heap.size Tryz.underlying24 infoI _ _ x.ret rfl (by rfl) h4 (some ⟨g8,0,none⟩) 1 1 [r0] (by rfl) rfl (Blk.row B8) (by simp;omega) KB3.size ?_
       intro v9 W4 h9 hg9
       have KB4:=KB3.trans (Turn.to_below ((Turn.refl (fun b=>w1.heap.size≤b) W3).grown hg9 (fun q e=>(h4.lt q e).1)) KB3.size (fun _ h=>h))
       refine hK.out _ _ (turn_of_below KB4) (fun HT=>?_)
       clear hK K hg9 h4 B8 l8 KB3
       try simp only [Act.put,pA,pZ,pS]
       refine wpAnyH_ready (rs:=[10]) (by kernel_rfl) (by simp) ?_
       refine AllReadyH.cons (o:=⟨some 43,_,_,_,_,_⟩) rfl (fun K hK=>?_) ?_
       ·obtain ⟨g9,c9,rfl,hg91,hg92⟩:=h9.form (by simp)
        have hc9:=own_cap h9
        have r9:Row W4 (some ⟨g9,0,none⟩) (x.ret++[r0]):=by
         obtain ⟨A7,c7,e7,r7⟩:=own_row1 h9 rfl
         injection e7 with e7 _ _
         rw [e7];exact r7
        have rV9:RowV (V3 w) W4 (some ⟨g9,0,none⟩) (x.ret++[r0]):=RowV.of r9 (fun q e h=>by injection e with e;subst e;have:=v3_bd h;dsimp only at this;omega)
        have hk9:=rkept_v A B (some ⟨b0,o0,none⟩) L a b c d s k x (some ⟨g9,0,none⟩) c9 (x.ret++[r0]) (V3 w) w W4 HX.out h2c HC0.out (bstep H.be KB4) (fun b h=>by have:=v3_bd h;have:=KB4.size;omega) rV9 hc9
        rw [show (x.ret++[r0]).length = x.ret.length+1 by simp] at hk9
        have HK9:=hid hk9
        clear hk9
        go_simp
        (go_at_call 74;(with_reducible refine HK9.out.mono ?_);rintro e W5 ⟨C4,c4,rfl,rC4,hk4⟩)
        have KB5:=bstep KB4 hk4
        refine hK.out _ _ (turn_of_below KB5) (fun HT=>?_)
        clear hK K hk4 h9 r9 rV9 HK9 KB4
        try simp only [Act.put,pA,pZ,pS]
        refine wpAnyH_ready (rs:=[11]) (by kernel_rfl) (by simp) ?_
        refine AllReadyH.cons (o:=⟨none,_,_,_,_,_⟩) rfl (fun K hK=>?_) ?_
        ·have bS:=(KB5.block w.heap.size z0).trans H.bS
         obtain ⟨p0,p1,p2,p3,p4,pf0,pf1,pf2,pf3,pf4⟩:=cf5 bS
         go_simp
         refine hK.out _ _ ((turn_of_below KB5).trans ((turn5 _ _ _ _ _ _ _).mono (fun b _ h=>.inl h))) (fun HT=>?_)
         clear hK K
         try simp only [Act.put,pA,pZ,pS]
         refine wpAnyH_done (by kernel_rfl) ?_ _
         go_wp2_with fail
         go_meet
         exact ⟨rfl,C4,c4,(H.step KB5).sg.putC (by simp) rC4⟩
        exact AllReadyH.nil
       exact AllReadyH.nil
      exact AllReadyH.nil
     exact AllReadyH.nil
    refine AllReadyH.cons (o:=⟨some 41,_,_,_,_,_⟩) rfl (fun K hK=>?_) ?_
    ·go_simp
     have KB3:=bstep KB2 (boxed W2 (.cells #[.int .i64 r0] 3 (0,0)))
     refine hK.out _ _ (turn_of_below KB3) (fun HT=>?_)
     clear hK K
     have hn8:=heap_alloc_new W2 (.cells #[.int .i64 r0] 3 (0,0))
     have ln:W2.heap.size < (W2.alloc (.cells #[.int .i64 r0] 3 (0,0))).heap.size:=by simp
     replace h4:=own_step h4 (boxed W2 (.cells #[.int .i64 r0] 3 (0,0)))
     obtain ⟨g8,hgz⟩:∃ g,W2.heap.size = g:=⟨_,rfl⟩
     rw [hgz] at hn8 ln ⊢
     clear hgz KB2
     generalize W2.alloc (.cells #[.int .i64 r0] 3 (0,0)) = W3 at *
     have l8:=ln
     clear ln
     have B8:=hn8
     clear hn8
     try simp only [Act.put,pA,pZ,pS]
     refine wpAnyH_ready (rs:=[0,9]) (by kernel_rfl) (by simp) ?_
     refine AllReadyH.cons (o:=⟨some 33,_,_,_,_,_⟩) rfl (fun K hK=>?_) ?_
     ·have bS:=(KB3.block w.heap.size z0).trans H.bS
      obtain ⟨p0,p1,p2,p3,p4⟩:=cells5 bS
      go_simp
      refine hK.out _ _ (turn_of_below KB3) (fun HT=>?_)
      clear hK K bS p0 p1 p2 p3 p4
      try simp only [Act.put,pA,pZ,pS]
      refine wpAnyH_ready (rs:=[9]) (by kernel_rfl) (by simp) ?_
      refine AllReadyH.cons (o:=⟨some 42,_,_,_,_,_⟩) rfl (fun K hK=>?_) ?_
      ·refine step_append_ontoR (by rfl) _ _ _ (by rfl) w1.heap.size Tryz.underlying24 infoI _ _ x.ret rfl (by rfl) h4 (some ⟨g8,0,none⟩) 1 1 [r0] (by rfl) rfl (Blk.row B8) (by simp;omega) KB3.size ?_
       intro v9 W4 h9 hg9
       have KB4:=KB3.trans (Turn.to_below ((Turn.refl (fun b=>w1.heap.size≤b) W3).grown hg9 (fun q e=>(h4.lt q e).1)) KB3.size (fun _ h=>h))
       refine hK.out _ _ (turn_of_below KB4) (fun HT=>?_)
       clear hK K hg9 h4 B8 l8 KB3
       try simp only [Act.put,pA,pZ,pS]
       refine wpAnyH_ready (rs:=[10]) (by kernel_rfl) (by simp) ?_
       refine AllReadyH.cons (o:=⟨some 43,_,_,_,_,_⟩) rfl (fun K hK=>?_) ?_
       ·obtain ⟨g9,c9,rfl,hg91,hg92⟩:=h9.form (by simp)
        have hc9:=own_cap h9
        have r9:Row W4 (some ⟨g9,0,none⟩) (x.ret++[r0]):=by
         obtain ⟨A7,c7,e7,r7⟩:=own_row1 h9 rfl
         injection e7 with e7 _ _
         rw [e7];exact r7
        have rV9:RowV (V3 w) W4 (some ⟨g9,0,none⟩) (x.ret++[r0]):=RowV.of r9 (fun q e h=>by injection e with e;subst e;have:=v3_bd h;dsimp only at this;omega)
        have hk9:=rkept_v A B (some ⟨b0,o0,none⟩) L a b c d s k x (some ⟨g9,0,none⟩) c9 (x.ret++[r0]) (V3 w) w W4 HX.out h2c HC0.out (bstep H.be KB4) (fun b h=>by have:=v3_bd h;have:=KB4.size;omega) rV9 hc9
        rw [show (x.ret++[r0]).length = x.ret.length+1 by simp] at hk9
        have HK9:=hid hk9
        clear hk9
        go_simp
        (go_at_call 74;(with_reducible refine HK9.out.mono ?_);rintro e W5 ⟨C4,c4,rfl,rC4,hk4⟩)
        have KB5:=bstep KB4 hk4
        refine hK.out _ _ (turn_of_below KB5) (fun HT=>?_)
        clear hK K hk4 h9 r9 rV9 HK9 KB4
        try simp only [Act.put,pA,pZ,pS]
        refine wpAnyH_ready (rs:=[11]) (by kernel_rfl) (by simp) ?_
        refine AllReadyH.cons (o:=⟨none,_,_,_,_,_⟩) rfl (fun K hK=>?_) ?_
        ·have bS:=(KB5.block w.heap.size z0).trans H.bS
         obtain ⟨p0,p1,p2,p3,p4,pf0,pf1,pf2,pf3,pf4⟩:=cf5 bS
         go_simp
         refine hK.out _ _ ((turn_of_below KB5).trans ((turn5 _ _ _ _ _ _ _).mono (fun b _ h=>.inl h))) (fun HT=>?_)
         clear hK K
         try simp only [Act.put,pA,pZ,pS]
         refine wpAnyH_done (by kernel_rfl) ?_ _
         go_wp2_with fail
         go_meet
         exact ⟨rfl,C4,c4,(H.step KB5).sg.putC (by simp) rC4⟩
        exact AllReadyH.nil
       exact AllReadyH.nil
      exact AllReadyH.nil
     refine AllReadyH.cons (o:=⟨some 42,_,_,_,_,_⟩) rfl (fun K hK=>?_) ?_
     ·refine step_append_ontoR (by rfl) _ _ _ (by rfl) w1.heap.size Tryz.underlying24 infoI _ _ x.ret rfl (by rfl) h4 (some ⟨g8,0,none⟩) 1 1 [r0] (by rfl) rfl (Blk.row B8) (by simp;omega) KB3.size ?_
      intro v9 W4 h9 hg9
      have KB4:=KB3.trans (Turn.to_below ((Turn.refl (fun b=>w1.heap.size≤b) W3).grown hg9 (fun q e=>(h4.lt q e).1)) KB3.size (fun _ h=>h))
      refine hK.out _ _ (turn_of_below KB4) (fun HT=>?_)
      clear hK K hg9 h4 B8 l8 KB3
      try simp only [Act.put,pA,pZ,pS]
      refine wpAnyH_ready (rs:=[0]) (by kernel_rfl) (by simp) ?_
      refine AllReadyH.cons (o:=⟨some 33,_,_,_,_,_⟩) rfl (fun K hK=>?_) ?_
      ·have bS:=(KB4.block w.heap.size z0).trans H.bS
       obtain ⟨p0,p1,p2,p3,p4⟩:=cells5 bS
       go_simp
       refine hK.out _ _ (turn_of_below KB4) (fun HT=>?_)
       clear hK K bS p0 p1 p2 p3 p4
       try simp only [Act.put,pA,pZ,pS]
       refine wpAnyH_ready (rs:=[10]) (by kernel_rfl) (by simp) ?_
       refine AllReadyH.cons (o:=⟨some 43,_,_,_,_,_⟩) rfl (fun K hK=>?_) ?_
       ·obtain ⟨g9,c9,rfl,hg91,hg92⟩:=h9.form (by simp)
        have hc9:=own_cap h9
        have r9:Row W4 (some ⟨g9,0,none⟩) (x.ret++[r0]):=by
         obtain ⟨A7,c7,e7,r7⟩:=own_row1 h9 rfl
         injection e7 with e7 _ _
         rw [e7];exact r7
        have rV9:RowV (V3 w) W4 (some ⟨g9,0,none⟩) (x.ret++[r0]):=RowV.of r9 (fun q e h=>by injection e with e;subst e;have:=v3_bd h;dsimp only at this;omega)
        have hk9:=rkept_v A B (some ⟨b0,o0,none⟩) L a b c d s k x (some ⟨g9,0,none⟩) c9 (x.ret++[r0]) (V3 w) w W4 HX.out h2c HC0.out (bstep H.be KB4) (fun b h=>by have:=v3_bd h;have:=KB4.size;omega) rV9 hc9
        rw [show (x.ret++[r0]).length = x.ret.length+1 by simp] at hk9
        have HK9:=hid hk9
        clear hk9
        go_simp
        (go_at_call 74;(with_reducible refine HK9.out.mono ?_);rintro e W5 ⟨C4,c4,rfl,rC4,hk4⟩)
        have KB5:=bstep KB4 hk4
        refine hK.out _ _ (turn_of_below KB5) (fun HT=>?_)
        clear hK K hk4 h9 r9 rV9 HK9 KB4
        try simp only [Act.put,pA,pZ,pS]
        refine wpAnyH_ready (rs:=[11]) (by kernel_rfl) (by simp) ?_
        refine AllReadyH.cons (o:=⟨none,_,_,_,_,_⟩) rfl (fun K hK=>?_) ?_
        ·have bS:=(KB5.block w.heap.size z0).trans H.bS
         obtain ⟨p0,p1,p2,p3,p4,pf0,pf1,pf2,pf3,pf4⟩:=cf5 bS
         go_simp
         refine hK.out _ _ ((turn_of_below KB5).trans ((turn5 _ _ _ _ _ _ _).mono (fun b _ h=>.inl h))) (fun HT=>?_)
         clear hK K
         try simp only [Act.put,pA,pZ,pS]
         refine wpAnyH_done (by kernel_rfl) ?_ _
         go_wp2_with fail
         go_meet
         exact ⟨rfl,C4,c4,(H.step KB5).sg.putC (by simp) rC4⟩
        exact AllReadyH.nil
       exact AllReadyH.nil
      exact AllReadyH.nil
     exact AllReadyH.nil
    exact AllReadyH.nil
   refine AllReadyH.cons (o:=⟨some 41,_,_,_,_,_⟩) rfl (fun K hK=>?_) ?_
   ·go_simp
    have KB2:=bstep KB1 (boxed W1 (.cells #[.int .i64 r0] 3 (0,0)))
    refine hK.out _ _ (turn_of_below KB2) (fun HT=>?_)
    clear hK K
    have hn8:=heap_alloc_new W1 (.cells #[.int .i64 r0] 3 (0,0))
    have ln:W1.heap.size < (W1.alloc (.cells #[.int .i64 r0] 3 (0,0))).heap.size:=by simp
    replace h2:=own_step h2 (boxed W1 (.cells #[.int .i64 r0] 3 (0,0)))
    have n28:g2 ≠ W1.heap.size:=Nat.ne_of_lt l2
    replace l2:=Nat.lt_trans l2 ln
    obtain ⟨g8,hgz⟩:∃ g,W1.heap.size = g:=⟨_,rfl⟩
    rw [hgz] at hn8 ln n28 ⊢
    clear hgz KB1
    generalize W1.alloc (.cells #[.int .i64 r0] 3 (0,0)) = W2 at *
    have l8:=ln
    clear ln
    have B8:=hn8
    clear hn8
    try simp only [Act.put,pA,pZ,pS]
    refine wpAnyH_ready (rs:=[0,4]) (by kernel_rfl) (by simp) ?_
    refine AllReadyH.cons (o:=⟨some 33,_,_,_,_,_⟩) rfl (fun K hK=>?_) ?_
    ·have bS:=(KB2.block w.heap.size z0).trans H.bS
     obtain ⟨p0,p1,p2,p3,p4⟩:=cells5 bS
     go_simp
     refine hK.out _ _ (turn_of_below KB2) (fun HT=>?_)
     clear hK K bS p0 p1 p2 p3 p4
     try simp only [Act.put,pA,pZ,pS]
     refine wpAnyH_ready (rs:=[4]) (by kernel_rfl) (by simp) ?_
     refine AllReadyH.cons (o:=⟨some 37,_,_,_,_,_⟩) rfl (fun K hK=>?_) ?_
     ·refine step_append_ontoR (by rfl) _ _ _ (by rfl) w1.heap.size Tryz.underlying24 infoI _ _ ([]:List Int) rfl (by rfl) h2 AR cR x.ret.length x.ret (by rfl) rfl (rR.step (bstep H.be KB2)) (by simp;omega) KB2.size ?_
      intro v4 W3 h4 hg4
      rw [List.nil_append] at h4
      have KB3:=KB2.trans (Turn.to_below ((Turn.refl (fun b=>w1.heap.size≤b) W2).grown hg4 (fun q e=>(h2.lt q e).1)) KB2.size (fun _ h=>h))
      replace B8:=(((Turn.refl (fun b=>b = g2) W2).grown hg4 (fun q e=>by injection e with e;exact e.symm)).block g8 l8 (fun h9=>n28 h9.symm)).trans B8
      replace l8:=Nat.lt_of_lt_of_le l8 hg4.size
      refine hK.out _ _ (turn_of_below KB3) (fun HT=>?_)
      clear hK K hg4 h2 KB2 l2 n28
      try simp only [Act.put,pA,pZ,pS]
      refine wpAnyH_ready (rs:=[9]) (by kernel_rfl) (by simp) ?_
      refine AllReadyH.cons (o:=⟨some 42,_,_,_,_,_⟩) rfl (fun K hK=>?_) ?_
      ·refine step_append_ontoR (by rfl) _ _ _ (by rfl) w1.heap.size Tryz.underlying24 infoI _ _ x.ret rfl (by rfl) h4 (some ⟨g8,0,none⟩) 1 1 [r0] (by rfl) rfl (Blk.row B8) (by simp;omega) KB3.size ?_
       intro v9 W4 h9 hg9
       have KB4:=KB3.trans (Turn.to_below ((Turn.refl (fun b=>w1.heap.size≤b) W3).grown hg9 (fun q e=>(h4.lt q e).1)) KB3.size (fun _ h=>h))
       refine hK.out _ _ (turn_of_below KB4) (fun HT=>?_)
       clear hK K hg9 h4 B8 l8 KB3
       try simp only [Act.put,pA,pZ,pS]
       refine wpAnyH_ready (rs:=[10]) (by kernel_rfl) (by simp) ?_
       refine AllReadyH.cons (o:=⟨some 43,_,_,_,_,_⟩) rfl (fun K hK=>?_) ?_
       ·obtain ⟨g9,c9,rfl,hg91,hg92⟩:=h9.form (by simp)
        have hc9:=own_cap h9
        have r9:Row W4 (some ⟨g9,0,none⟩) (x.ret++[r0]):=by
         obtain ⟨A7,c7,e7,r7⟩:=own_row1 h9 rfl
         injection e7 with e7 _ _
         rw [e7];exact r7
        have rV9:RowV (V3 w) W4 (some ⟨g9,0,none⟩) (x.ret++[r0]):=RowV.of r9 (fun q e h=>by injection e with e;subst e;have:=v3_bd h;dsimp only at this;omega)
        have hk9:=rkept_v A B (some ⟨b0,o0,none⟩) L a b c d s k x (some ⟨g9,0,none⟩) c9 (x.ret++[r0]) (V3 w) w W4 HX.out h2c HC0.out (bstep H.be KB4) (fun b h=>by have:=v3_bd h;have:=KB4.size;omega) rV9 hc9
        rw [show (x.ret++[r0]).length = x.ret.length+1 by simp] at hk9
        have HK9:=hid hk9
        clear hk9
        go_simp
        (go_at_call 74;(with_reducible refine HK9.out.mono ?_);rintro e W5 ⟨C4,c4,rfl,rC4,hk4⟩)
        have KB5:=bstep KB4 hk4
        refine hK.out _ _ (turn_of_below KB5) (fun HT=>?_)
        clear hK K hk4 h9 r9 rV9 HK9 KB4
        try simp only [Act.put,pA,pZ,pS]
        refine wpAnyH_ready (rs:=[11]) (by kernel_rfl) (by simp) ?_
        refine AllReadyH.cons (o:=⟨none,_,_,_,_,_⟩) rfl (fun K hK=>?_) ?_
        ·have bS:=(KB5.block w.heap.size z0).trans H.bS
         obtain ⟨p0,p1,p2,p3,p4,pf0,pf1,pf2,pf3,pf4⟩:=cf5 bS
         go_simp
         refine hK.out _ _ ((turn_of_below KB5).trans ((turn5 _ _ _ _ _ _ _).mono (fun b _ h=>.inl h))) (fun HT=>?_)
         clear hK K
         try simp only [Act.put,pA,pZ,pS]
         refine wpAnyH_done (by kernel_rfl) ?_ _
         go_wp2_with fail
         go_meet
         exact ⟨rfl,C4,c4,(H.step KB5).sg.putC (by simp) rC4⟩
        exact AllReadyH.nil
       exact AllReadyH.nil
      exact AllReadyH.nil
     exact AllReadyH.nil
    refine AllReadyH.cons (o:=⟨some 37,_,_,_,_,_⟩) rfl (fun K hK=>?_) ?_
    ·refine step_append_ontoR (by rfl) _ _ _ (by rfl) w1.heap.size Tryz.underlying24 infoI _ _ ([]:List Int) rfl (by rfl) h2 AR cR x.ret.length x.ret (by rfl) rfl (rR.step (bstep H.be KB2)) (by simp;omega) KB2.size ?_
     intro v4 W3 h4 hg4
     rw [List.nil_append] at h4
     have KB3:=KB2.trans (Turn.to_below ((Turn.refl (fun b=>w1.heap.size≤b) W2).grown hg4 (fun q e=>(h2.lt q e).1)) KB2.size (fun _ h=>h))
     replace B8:=(((Turn.refl (fun b=>b = g2) W2).grown hg4 (fun q e=>by injection e with e;exact e.symm)).block g8 l8 (fun h9=>n28 h9.symm)).trans B8
     replace l8:=Nat.lt_of_lt_of_le l8 hg4.size
     refine hK.out _ _ (turn_of_below KB3) (fun HT=>?_)
     clear hK K hg4 h2 KB2 l2 n28
     try simp only [Act.put,pA,pZ,pS]
     refine wpAnyH_ready (rs:=[0,9]) (by kernel_rfl) (by simp) ?_
     refine AllReadyH.cons (o:=⟨some 33,_,_,_,_,_⟩) rfl (fun K hK=>?_) ?_
     ·have bS:=(KB3.block w.heap.size z0).trans H.bS
      obtain ⟨p0,p1,p2,p3,p4⟩:=cells5 bS
      go_simp
      refine hK.out _ _ (turn_of_below KB3) (fun HT=>?_)
      clear hK K bS p0 p1 p2 p3 p4
      try simp only [Act.put,pA,pZ,pS]
      refine wpAnyH_ready (rs:=[9]) (by kernel_rfl) (by simp) ?_
      refine AllReadyH.cons (o:=⟨some 42,_,_,_,_,_⟩) rfl (fun K hK=>?_) ?_
      ·refine step_append_ontoR (by rfl) _ _ _ (by rfl) w1.heap.size Tryz.underlying24 infoI _ _ x.ret rfl (by rfl) h4 (some ⟨g8,0,none⟩) 1 1 [r0] (by rfl) rfl (Blk.row B8) (by simp;omega) KB3.size ?_
       intro v9 W4 h9 hg9
       have KB4:=KB3.trans (Turn.to_below ((Turn.refl (fun b=>w1.heap.size≤b) W3).grown hg9 (fun q e=>(h4.lt q e).1)) KB3.size (fun _ h=>h))
       refine hK.out _ _ (turn_of_below KB4) (fun HT=>?_)
       clear hK K hg9 h4 B8 l8 KB3
       try simp only [Act.put,pA,pZ,pS]
       refine wpAnyH_ready (rs:=[10]) (by kernel_rfl) (by simp) ?_
       refine AllReadyH.cons (o:=⟨some 43,_,_,_,_,_⟩) rfl (fun K hK=>?_) ?_
       ·obtain ⟨g9,c9,rfl,hg91,hg92⟩:=h9.form (by simp)
        have hc9:=own_cap h9
        have r9:Row W4 (some ⟨g9,0,none⟩) (x.ret++[r0]):=by
         obtain ⟨A7,c7,e7,r7⟩:=own_row1 h9 rfl
         injection e7 with e7 _ _
         rw [e7];exact r7
        have rV9:RowV (V3 w) W4 (some ⟨g9,0,none⟩) (x.ret++[r0]):=RowV.of r9 (fun q e h=>by injection e with e;subst e;have:=v3_bd h;dsimp only at this;omega)
        have hk9:=rkept_v A B (some ⟨b0,o0,none⟩) L a b c d s k x (some ⟨g9,0,none⟩) c9 (x.ret++[r0]) (V3 w) w W4 HX.out h2c HC0.out (bstep H.be KB4) (fun b h=>by have:=v3_bd h;have:=KB4.size;omega) rV9 hc9
        rw [show (x.ret++[r0]).length = x.ret.length+1 by simp] at hk9
        have HK9:=hid hk9
        clear hk9
        go_simp
        (go_at_call 74;(with_reducible refine HK9.out.mono ?_);rintro e W5 ⟨C4,c4,rfl,rC4,hk4⟩)
        have KB5:=bstep KB4 hk4
        refine hK.out _ _ (turn_of_below KB5) (fun HT=>?_)
        clear hK K hk4 h9 r9 rV9 HK9 KB4
        try simp only [Act.put,pA,pZ,pS]
        refine wpAnyH_ready (rs:=[11]) (by kernel_rfl) (by simp) ?_
        refine AllReadyH.cons (o:=⟨none,_,_,_,_,_⟩) rfl (fun K hK=>?_) ?_
        ·have bS:=(KB5.block w.heap.size z0).trans H.bS
         obtain ⟨p0,p1,p2,p3,p4,pf0,pf1,pf2,pf3,pf4⟩:=cf5 bS
         go_simp
         refine hK.out _ _ ((turn_of_below KB5).trans ((turn5 _ _ _ _ _ _ _).mono (fun b _ h=>.inl h))) (fun HT=>?_)
         clear hK K
         try simp only [Act.put,pA,pZ,pS]
         refine wpAnyH_done (by kernel_rfl) ?_ _
         go_wp2_with fail
         go_meet
         exact ⟨rfl,C4,c4,(H.step KB5).sg.putC (by simp) rC4⟩
        exact AllReadyH.nil
       exact AllReadyH.nil
      exact AllReadyH.nil
     refine AllReadyH.cons (o:=⟨some 42,_,_,_,_,_⟩) rfl (fun K hK=>?_) ?_
     ·refine step_append_ontoR (by rfl) _ _ _ (by rfl) w1.heap.size Tryz.underlying24 infoI _ _ x.ret rfl (by rfl) h4 (some ⟨g8,0,none⟩) 1 1 [r0] (by rfl) rfl (Blk.row B8) (by simp;omega) KB3.size ?_
      intro v9 W4 h9 hg9
      have KB4:=KB3.trans (Turn.to_below ((Turn.refl (fun b=>w1.heap.size≤b) W3).grown hg9 (fun q e=>(h4.lt q e).1)) KB3.size (fun _ h=>h))
      refine hK.out _ _ (turn_of_below KB4) (fun HT=>?_)
      clear hK K hg9 h4 B8 l8 KB3
      try simp only [Act.put,pA,pZ,pS]
      refine wpAnyH_ready (rs:=[0]) (by kernel_rfl) (by simp) ?_
      refine AllReadyH.cons (o:=⟨some 33,_,_,_,_,_⟩) rfl (fun K hK=>?_) ?_
      ·have bS:=(KB4.block w.heap.size z0).trans H.bS
       obtain ⟨p0,p1,p2,p3,p4⟩:=cells5 bS
       go_simp
       refine hK.out _ _ (turn_of_below KB4) (fun HT=>?_)
       clear hK K bS p0 p1 p2 p3 p4
       try simp only [Act.put,pA,pZ,pS]
       refine wpAnyH_ready (rs:=[10]) (by kernel_rfl) (by simp) ?_
       refine AllReadyH.cons (o:=⟨some 43,_,_,_,_,_⟩) rfl (fun K hK=>?_) ?_
       ·obtain ⟨g9,c9,rfl,hg91,hg92⟩:=h9.form (by simp)
        have hc9:=own_cap h9
        have r9:Row W4 (some ⟨g9,0,none⟩) (x.ret++[r0]):=by
         obtain ⟨A7,c7,e7,r7⟩:=own_row1 h9 rfl
         injection e7 with e7 _ _
         rw [e7];exact r7
        have rV9:RowV (V3 w) W4 (some ⟨g9,0,none⟩) (x.ret++[r0]):=RowV.of r9 (fun q e h=>by injection e with e;subst e;have:=v3_bd h;dsimp only at this;omega)
        have hk9:=rkept_v A B (some ⟨b0,o0,none⟩) L a b c d s k x (some ⟨g9,0,none⟩) c9 (x.ret++[r0]) (V3 w) w W4 HX.out h2c HC0.out (bstep H.be KB4) (fun b h=>by have:=v3_bd h;have:=KB4.size;omega) rV9 hc9
        rw [show (x.ret++[r0]).length = x.ret.length+1 by simp] at hk9
        have HK9:=hid hk9
        clear hk9
        go_simp
        (go_at_call 74;(with_reducible refine HK9.out.mono ?_);rintro e W5 ⟨C4,c4,rfl,rC4,hk4⟩)
        have KB5:=bstep KB4 hk4
        refine hK.out _ _ (turn_of_below KB5) (fun HT=>?_)
        clear hK K hk4 h9 r9 rV9 HK9 KB4
        try simp only [Act.put,pA,pZ,pS]
        refine wpAnyH_ready (rs:=[11]) (by kernel_rfl) (by simp) ?_
        refine AllReadyH.cons (o:=⟨none,_,_,_,_,_⟩) rfl (fun K hK=>?_) ?_
        ·have bS:=(KB5.block w.heap.size z0).trans H.bS
         obtain ⟨p0,p1,p2,p3,p4,pf0,pf1,pf2,pf3,pf4⟩:=cf5 bS
         go_simp
         refine hK.out _ _ ((turn_of_below KB5).trans ((turn5 _ _ _ _ _ _ _).mono (fun b _ h=>.inl h))) (fun HT=>?_)
         clear hK K
         try simp only [Act.put,pA,pZ,pS]
         refine wpAnyH_done (by kernel_rfl) ?_ _
         go_wp2_with fail
         go_meet
         exact ⟨rfl,C4,c4,(H.step KB5).sg.putC (by simp) rC4⟩
        exact AllReadyH.nil
       exact AllReadyH.nil
      exact AllReadyH.nil
     exact AllReadyH.nil
    exact AllReadyH.nil
   exact AllReadyH.nil
  refine AllReadyH.cons (o:=⟨some 41,_,_,_,_,_⟩) rfl (fun K hK=>?_) ?_
  ·go_simp
   have KB1:=bstep KB0 (boxed W0 (.cells #[.int .i64 r0] 3 (0,0)))
   refine hK.out _ _ (turn_of_below KB1) (fun HT=>?_)
   clear hK K
   have hn8:=heap_alloc_new W0 (.cells #[.int .i64 r0] 3 (0,0))
   have ln:W0.heap.size < (W0.alloc (.cells #[.int .i64 r0] 3 (0,0))).heap.size:=by simp
   obtain ⟨g8,hgz⟩:∃ g,W0.heap.size = g:=⟨_,rfl⟩
   rw [hgz] at hn8 ln ⊢
   clear hgz KB0
   generalize W0.alloc (.cells #[.int .i64 r0] 3 (0,0)) = W1 at *
   have l8:=ln
   clear ln
   have B8:=hn8
   clear hn8
   try simp only [Act.put,pA,pZ,pS]
   refine wpAnyH_ready (rs:=[0,2]) (by kernel_rfl) (by simp) ?_
   refine AllReadyH.cons (o:=⟨some 33,_,_,_,_,_⟩) rfl (fun K hK=>?_) ?_
   ·have bS:=(KB1.block w.heap.size z0).trans H.bS
    obtain ⟨p0,p1,p2,p3,p4⟩:=cells5 bS
    go_simp
    refine hK.out _ _ (turn_of_below KB1) (fun HT=>?_)
    clear hK K bS p0 p1 p2 p3 p4
    try simp only [Act.put,pA,pZ,pS]
    refine wpAnyH_ready (rs:=[2]) (by kernel_rfl) (by simp) ?_
    refine AllReadyH.cons (o:=⟨some 35,_,_,_,_,_⟩) rfl (fun K hK=>?_) ?_
    ·go_simp
     have KB2:=bstep KB1 (boxed W1 (.cells #[] 3 (0,0)))
     refine hK.out _ _ (turn_of_below KB2) (fun HT=>?_)
     clear hK K
     have hn2:(W1.alloc (.cells #[] 3 (0,0))).ownsRow w1.heap.size 3 1 (.slice (some ⟨W1.heap.size,0,none⟩) 0 0) ([]:List Int).length (([]:List Int).map inCells).flatten:=own_base (own_empty (heap_alloc_new W1 (.cells #[] 3 (0,0)))) KB1.size
     have ln:W1.heap.size < (W1.alloc (.cells #[] 3 (0,0))).heap.size:=by simp
     replace B8:=((boxed W1 (.cells #[] 3 (0,0))).block g8 l8).trans B8
     have n28:W1.heap.size ≠ g8:=Nat.ne_of_gt l8
     replace l8:=Nat.lt_trans l8 ln
     obtain ⟨g2,hgz⟩:∃ g,W1.heap.size = g:=⟨_,rfl⟩
     rw [hgz] at hn2 ln n28 ⊢
     clear hgz KB1
     generalize W1.alloc (.cells #[] 3 (0,0)) = W2 at *
     have l2:=ln
     clear ln
     have h2:=hn2
     clear hn2
     try simp only [Act.put,pA,pZ,pS]
     refine wpAnyH_ready (rs:=[4]) (by kernel_rfl) (by simp) ?_
     refine AllReadyH.cons (o:=⟨some 37,_,_,_,_,_⟩) rfl (fun K hK=>?_) ?_
     ·refine step_append_ontoR (by rfl) _ _ _ (by rfl) w1.heap.size Tryz.underlying24 infoI _ _ ([]:List Int) rfl (by rfl) h2 AR cR x.ret.length x.ret (by rfl) rfl (rR.step (bstep H.be KB2)) (by simp;omega) KB2.size ?_
      intro v4 W3 h4 hg4
      rw [List.nil_append] at h4
      have KB3:=KB2.trans (Turn.to_below ((Turn.refl (fun b=>w1.heap.size≤b) W2).grown hg4 (fun q e=>(h2.lt q e).1)) KB2.size (fun _ h=>h))
      replace B8:=(((Turn.refl (fun b=>b = g2) W2).grown hg4 (fun q e=>by injection e with e;exact e.symm)).block g8 l8 (fun h9=>n28 h9.symm)).trans B8
      replace l8:=Nat.lt_of_lt_of_le l8 hg4.size
      refine hK.out _ _ (turn_of_below KB3) (fun HT=>?_)
      clear hK K hg4 h2 KB2 l2 n28
      try simp only [Act.put,pA,pZ,pS]
      refine wpAnyH_ready (rs:=[9]) (by kernel_rfl) (by simp) ?_
      refine AllReadyH.cons (o:=⟨some 42,_,_,_,_,_⟩) rfl (fun K hK=>?_) ?_
      ·refine step_append_ontoR (by rfl) _ _ _ (by rfl) w1.heap.size Tryz.underlying24 infoI _ _ x.ret rfl (by rfl) h4 (some ⟨g8,0,none⟩) 1 1 [r0] (by rfl) rfl (Blk.row B8) (by simp;omega) KB3.size ?_
       intro v9 W4 h9 hg9
       have KB4:=KB3.trans (Turn.to_below ((Turn.refl (fun b=>w1.heap.size≤b) W3).grown hg9 (fun q e=>(h4.lt q e).1)) KB3.size (fun _ h=>h))
       refine hK.out _ _ (turn_of_below KB4) (fun HT=>?_)
       clear hK K hg9 h4 B8 l8 KB3
       try simp only [Act.put,pA,pZ,pS]
       refine wpAnyH_ready (rs:=[10]) (by kernel_rfl) (by simp) ?_
       refine AllReadyH.cons (o:=⟨some 43,_,_,_,_,_⟩) rfl (fun K hK=>?_) ?_
       ·obtain ⟨g9,c9,rfl,hg91,hg92⟩:=h9.form (by simp)
        have hc9:=own_cap h9
        have r9:Row W4 (some ⟨g9,0,none⟩) (x.ret++[r0]):=by
         obtain ⟨A7,c7,e7,r7⟩:=own_row1 h9 rfl
         injection e7 with e7 _ _
         rw [e7];exact r7
        have rV9:RowV (V3 w) W4 (some ⟨g9,0,none⟩) (x.ret++[r0]):=RowV.of r9 (fun q e h=>by injection e with e;subst e;have:=v3_bd h;dsimp only at this;omega)
        have hk9:=rkept_v A B (some ⟨b0,o0,none⟩) L a b c d s k x (some ⟨g9,0,none⟩) c9 (x.ret++[r0]) (V3 w) w W4 HX.out h2c HC0.out (bstep H.be KB4) (fun b h=>by have:=v3_bd h;have:=KB4.size;omega) rV9 hc9
        rw [show (x.ret++[r0]).length = x.ret.length+1 by simp] at hk9
        have HK9:=hid hk9
        clear hk9
        go_simp
        (go_at_call 74;(with_reducible refine HK9.out.mono ?_);rintro e W5 ⟨C4,c4,rfl,rC4,hk4⟩)
        have KB5:=bstep KB4 hk4
        refine hK.out _ _ (turn_of_below KB5) (fun HT=>?_)
        clear hK K hk4 h9 r9 rV9 HK9 KB4
        try simp only [Act.put,pA,pZ,pS]
        refine wpAnyH_ready (rs:=[11]) (by kernel_rfl) (by simp) ?_
        refine AllReadyH.cons (o:=⟨none,_,_,_,_,_⟩) rfl (fun K hK=>?_) ?_
        ·have bS:=(KB5.block w.heap.size z0).trans H.bS
         obtain ⟨p0,p1,p2,p3,p4,pf0,pf1,pf2,pf3,pf4⟩:=cf5 bS
         go_simp
         refine hK.out _ _ ((turn_of_below KB5).trans ((turn5 _ _ _ _ _ _ _).mono (fun b _ h=>.inl h))) (fun HT=>?_)
         clear hK K
         try simp only [Act.put,pA,pZ,pS]
         refine wpAnyH_done (by kernel_rfl) ?_ _
         go_wp2_with fail
         go_meet
         exact ⟨rfl,C4,c4,(H.step KB5).sg.putC (by simp) rC4⟩
        exact AllReadyH.nil
       exact AllReadyH.nil
      exact AllReadyH.nil
     exact AllReadyH.nil
    exact AllReadyH.nil
   refine AllReadyH.cons (o:=⟨some 35,_,_,_,_,_⟩) rfl (fun K hK=>?_) ?_
   ·go_simp
    have KB2:=bstep KB1 (boxed W1 (.cells #[] 3 (0,0)))
    refine hK.out _ _ (turn_of_below KB2) (fun HT=>?_)
    clear hK K
    have hn2:(W1.alloc (.cells #[] 3 (0,0))).ownsRow w1.heap.size 3 1 (.slice (some ⟨W1.heap.size,0,none⟩) 0 0) ([]:List Int).length (([]:List Int).map inCells).flatten:=own_base (own_empty (heap_alloc_new W1 (.cells #[] 3 (0,0)))) KB1.size
    have ln:W1.heap.size < (W1.alloc (.cells #[] 3 (0,0))).heap.size:=by simp
    replace B8:=((boxed W1 (.cells #[] 3 (0,0))).block g8 l8).trans B8
    have n28:W1.heap.size ≠ g8:=Nat.ne_of_gt l8
    replace l8:=Nat.lt_trans l8 ln
    obtain ⟨g2,hgz⟩:∃ g,W1.heap.size = g:=⟨_,rfl⟩
    rw [hgz] at hn2 ln n28 ⊢
    clear hgz KB1
    generalize W1.alloc (.cells #[] 3 (0,0)) = W2 at *
    have l2:=ln
    clear ln
    have h2:=hn2
    clear hn2
    try simp only [Act.put,pA,pZ,pS]
    refine wpAnyH_ready (rs:=[0,4]) (by kernel_rfl) (by simp) ?_
    refine AllReadyH.cons (o:=⟨some 33,_,_,_,_,_⟩) rfl (fun K hK=>?_) ?_
    ·have bS:=(KB2.block w.heap.size z0).trans H.bS
     obtain ⟨p0,p1,p2,p3,p4⟩:=cells5 bS
     go_simp
     refine hK.out _ _ (turn_of_below KB2) (fun HT=>?_)
     clear hK K bS p0 p1 p2 p3 p4
     try simp only [Act.put,pA,pZ,pS]
     refine wpAnyH_ready (rs:=[4]) (by kernel_rfl) (by simp) ?_
     refine AllReadyH.cons (o:=⟨some 37,_,_,_,_,_⟩) rfl (fun K hK=>?_) ?_
     ·refine step_append_ontoR (by rfl) _ _ _ (by rfl) w1.heap.size Tryz.underlying24 infoI _ _ ([]:List Int) rfl (by rfl) h2 AR cR x.ret.length x.ret (by rfl) rfl (rR.step (bstep H.be KB2)) (by simp;omega) KB2.size ?_
      intro v4 W3 h4 hg4
      rw [List.nil_append] at h4
      have KB3:=KB2.trans (Turn.to_below ((Turn.refl (fun b=>w1.heap.size≤b) W2).grown hg4 (fun q e=>(h2.lt q e).1)) KB2.size (fun _ h=>h))
      replace B8:=(((Turn.refl (fun b=>b = g2) W2).grown hg4 (fun q e=>by injection e with e;exact e.symm)).block g8 l8 (fun h9=>n28 h9.symm)).trans B8
      replace l8:=Nat.lt_of_lt_of_le l8 hg4.size
      refine hK.out _ _ (turn_of_below KB3) (fun HT=>?_)
      clear hK K hg4 h2 KB2 l2 n28
      try simp only [Act.put,pA,pZ,pS]
      refine wpAnyH_ready (rs:=[9]) (by kernel_rfl) (by simp) ?_
      refine AllReadyH.cons (o:=⟨some 42,_,_,_,_,_⟩) rfl (fun K hK=>?_) ?_
      ·refine step_append_ontoR (by rfl) _ _ _ (by rfl) w1.heap.size Tryz.underlying24 infoI _ _ x.ret rfl (by rfl) h4 (some ⟨g8,0,none⟩) 1 1 [r0] (by rfl) rfl (Blk.row B8) (by simp;omega) KB3.size ?_
       intro v9 W4 h9 hg9
       have KB4:=KB3.trans (Turn.to_below ((Turn.refl (fun b=>w1.heap.size≤b) W3).grown hg9 (fun q e=>(h4.lt q e).1)) KB3.size (fun _ h=>h))
       refine hK.out _ _ (turn_of_below KB4) (fun HT=>?_)
       clear hK K hg9 h4 B8 l8 KB3
       try simp only [Act.put,pA,pZ,pS]
       refine wpAnyH_ready (rs:=[10]) (by kernel_rfl) (by simp) ?_
       refine AllReadyH.cons (o:=⟨some 43,_,_,_,_,_⟩) rfl (fun K hK=>?_) ?_
       ·obtain ⟨g9,c9,rfl,hg91,hg92⟩:=h9.form (by simp)
        have hc9:=own_cap h9
        have r9:Row W4 (some ⟨g9,0,none⟩) (x.ret++[r0]):=by
         obtain ⟨A7,c7,e7,r7⟩:=own_row1 h9 rfl
         injection e7 with e7 _ _
         rw [e7];exact r7
        have rV9:RowV (V3 w) W4 (some ⟨g9,0,none⟩) (x.ret++[r0]):=RowV.of r9 (fun q e h=>by injection e with e;subst e;have:=v3_bd h;dsimp only at this;omega)
        have hk9:=rkept_v A B (some ⟨b0,o0,none⟩) L a b c d s k x (some ⟨g9,0,none⟩) c9 (x.ret++[r0]) (V3 w) w W4 HX.out h2c HC0.out (bstep H.be KB4) (fun b h=>by have:=v3_bd h;have:=KB4.size;omega) rV9 hc9
        rw [show (x.ret++[r0]).length = x.ret.length+1 by simp] at hk9
        have HK9:=hid hk9
        clear hk9
        go_simp
        (go_at_call 74;(with_reducible refine HK9.out.mono ?_);rintro e W5 ⟨C4,c4,rfl,rC4,hk4⟩)
        have KB5:=bstep KB4 hk4
        refine hK.out _ _ (turn_of_below KB5) (fun HT=>?_)
        clear hK K hk4 h9 r9 rV9 HK9 KB4
        try simp only [Act.put,pA,pZ,pS]
        refine wpAnyH_ready (rs:=[11]) (by kernel_rfl) (by simp) ?_
        refine AllReadyH.cons (o:=⟨none,_,_,_,_,_⟩) rfl (fun K hK=>?_) ?_
        ·have bS:=(KB5.block w.heap.size z0).trans H.bS
         obtain ⟨p0,p1,p2,p3,p4,pf0,pf1,pf2,pf3,pf4⟩:=cf5 bS
         go_simp
         refine hK.out _ _ ((turn_of_below KB5).trans ((turn5 _ _ _ _ _ _ _).mono (fun b _ h=>.inl h))) (fun HT=>?_)
         clear hK K
         try simp only [Act.put,pA,pZ,pS]
         refine wpAnyH_done (by kernel_rfl) ?_ _
         go_wp2_with fail
         go_meet
         exact ⟨rfl,C4,c4,(H.step KB5).sg.putC (by simp) rC4⟩
        exact AllReadyH.nil
       exact AllReadyH.nil
      exact AllReadyH.nil
     exact AllReadyH.nil
    refine AllReadyH.cons (o:=⟨some 37,_,_,_,_,_⟩) rfl (fun K hK=>?_) ?_
    ·refine step_append_ontoR (by rfl) _ _ _ (by rfl) w1.heap.size Tryz.underlying24 infoI _ _ ([]:List Int) rfl (by rfl) h2 AR cR x.ret.length x.ret (by rfl) rfl (rR.step (bstep H.be KB2)) (by simp;omega) KB2.size ?_
     intro v4 W3 h4 hg4
     rw [List.nil_append] at h4
     have KB3:=KB2.trans (Turn.to_below ((Turn.refl (fun b=>w1.heap.size≤b) W2).grown hg4 (fun q e=>(h2.lt q e).1)) KB2.size (fun _ h=>h))
     replace B8:=(((Turn.refl (fun b=>b = g2) W2).grown hg4 (fun q e=>by injection e with e;exact e.symm)).block g8 l8 (fun h9=>n28 h9.symm)).trans B8
     replace l8:=Nat.lt_of_lt_of_le l8 hg4.size
     refine hK.out _ _ (turn_of_below KB3) (fun HT=>?_)
     clear hK K hg4 h2 KB2 l2 n28
     try simp only [Act.put,pA,pZ,pS]
     refine wpAnyH_ready (rs:=[0,9]) (by kernel_rfl) (by simp) ?_
     refine AllReadyH.cons (o:=⟨some 33,_,_,_,_,_⟩) rfl (fun K hK=>?_) ?_
     ·have bS:=(KB3.block w.heap.size z0).trans H.bS
      obtain ⟨p0,p1,p2,p3,p4⟩:=cells5 bS
      go_simp
      refine hK.out _ _ (turn_of_below KB3) (fun HT=>?_)
      clear hK K bS p0 p1 p2 p3 p4
      try simp only [Act.put,pA,pZ,pS]
      refine wpAnyH_ready (rs:=[9]) (by kernel_rfl) (by simp) ?_
      refine AllReadyH.cons (o:=⟨some 42,_,_,_,_,_⟩) rfl (fun K hK=>?_) ?_
      ·refine step_append_ontoR (by rfl) _ _ _ (by rfl) w1.heap.size Tryz.underlying24 infoI _ _ x.ret rfl (by rfl) h4 (some ⟨g8,0,none⟩) 1 1 [r0] (by rfl) rfl (Blk.row B8) (by simp;omega) KB3.size ?_
       intro v9 W4 h9 hg9
       have KB4:=KB3.trans (Turn.to_below ((Turn.refl (fun b=>w1.heap.size≤b) W3).grown hg9 (fun q e=>(h4.lt q e).1)) KB3.size (fun _ h=>h))
       refine hK.out _ _ (turn_of_below KB4) (fun HT=>?_)
       clear hK K hg9 h4 B8 l8 KB3
       try simp only [Act.put,pA,pZ,pS]
       refine wpAnyH_ready (rs:=[10]) (by kernel_rfl) (by simp) ?_
       refine AllReadyH.cons (o:=⟨some 43,_,_,_,_,_⟩) rfl (fun K hK=>?_) ?_
       ·obtain ⟨g9,c9,rfl,hg91,hg92⟩:=h9.form (by simp)
        have hc9:=own_cap h9
        have r9:Row W4 (some ⟨g9,0,none⟩) (x.ret++[r0]):=by
         obtain ⟨A7,c7,e7,r7⟩:=own_row1 h9 rfl
         injection e7 with e7 _ _
         rw [e7];exact r7
        have rV9:RowV (V3 w) W4 (some ⟨g9,0,none⟩) (x.ret++[r0]):=RowV.of r9 (fun q e h=>by injection e with e;subst e;have:=v3_bd h;dsimp only at this;omega)
        have hk9:=rkept_v A B (some ⟨b0,o0,none⟩) L a b c d s k x (some ⟨g9,0,none⟩) c9 (x.ret++[r0]) (V3 w) w W4 HX.out h2c HC0.out (bstep H.be KB4) (fun b h=>by have:=v3_bd h;have:=KB4.size;omega) rV9 hc9
        rw [show (x.ret++[r0]).length = x.ret.length+1 by simp] at hk9
        have HK9:=hid hk9
        clear hk9
        go_simp
        (go_at_call 74;(with_reducible refine HK9.out.mono ?_);rintro e W5 ⟨C4,c4,rfl,rC4,hk4⟩)
        have KB5:=bstep KB4 hk4
        refine hK.out _ _ (turn_of_below KB5) (fun HT=>?_)
        clear hK K hk4 h9 r9 rV9 HK9 KB4
        try simp only [Act.put,pA,pZ,pS]
        refine wpAnyH_ready (rs:=[11]) (by kernel_rfl) (by simp) ?_
        refine AllReadyH.cons (o:=⟨none,_,_,_,_,_⟩) rfl (fun K hK=>?_) ?_
        ·have bS:=(KB5.block w.heap.size z0).trans H.bS
         obtain ⟨p0,p1,p2,p3,p4,pf0,pf1,pf2,pf3,pf4⟩:=cf5 bS
         go_simp
         refine hK.out _ _ ((turn_of_below KB5).trans ((turn5 _ _ _ _ _ _ _).mono (fun b _ h=>.inl h))) (fun HT=>?_)
         clear hK K
         try simp only [Act.put,pA,pZ,pS]
         refine wpAnyH_done (by kernel_rfl) ?_ _
         go_wp2_with fail
         go_meet
         exact ⟨rfl,C4,c4,(H.step KB5).sg.putC (by simp) rC4⟩
        exact AllReadyH.nil
       exact AllReadyH.nil
      exact AllReadyH.nil
     refine AllReadyH.cons (o:=⟨some 42,_,_,_,_,_⟩) rfl (fun K hK=>?_) ?_
     ·refine step_append_ontoR (by rfl) _ _ _ (by rfl) w1.heap.size Tryz.underlying24 infoI _ _ x.ret rfl (by rfl) h4 (some ⟨g8,0,none⟩) 1 1 [r0] (by rfl) rfl (Blk.row B8) (by simp;omega) KB3.size ?_
      intro v9 W4 h9 hg9
      have KB4:=KB3.trans (Turn.to_below ((Turn.refl (fun b=>w1.heap.size≤b) W3).grown hg9 (fun q e=>(h4.lt q e).1)) KB3.size (fun _ h=>h))
      refine hK.out _ _ (turn_of_below KB4) (fun HT=>?_)
      clear hK K hg9 h4 B8 l8 KB3
      try simp only [Act.put,pA,pZ,pS]
      refine wpAnyH_ready (rs:=[0]) (by kernel_rfl) (by simp) ?_
      refine AllReadyH.cons (o:=⟨some 33,_,_,_,_,_⟩) rfl (fun K hK=>?_) ?_
      ·have bS:=(KB4.block w.heap.size z0).trans H.bS
       obtain ⟨p0,p1,p2,p3,p4⟩:=cells5 bS
       go_simp
       refine hK.out _ _ (turn_of_below KB4) (fun HT=>?_)
       clear hK K bS p0 p1 p2 p3 p4
       try simp only [Act.put,pA,pZ,pS]
       refine wpAnyH_ready (rs:=[10]) (by kernel_rfl) (by simp) ?_
       refine AllReadyH.cons (o:=⟨some 43,_,_,_,_,_⟩) rfl (fun K hK=>?_) ?_
       ·obtain ⟨g9,c9,rfl,hg91,hg92⟩:=h9.form (by simp)
        have hc9:=own_cap h9
        have r9:Row W4 (some ⟨g9,0,none⟩) (x.ret++[r0]):=by
         obtain ⟨A7,c7,e7,r7⟩:=own_row1 h9 rfl
         injection e7 with e7 _ _
         rw [e7];exact r7
        have rV9:RowV (V3 w) W4 (some ⟨g9,0,none⟩) (x.ret++[r0]):=RowV.of r9 (fun q e h=>by injection e with e;subst e;have:=v3_bd h;dsimp only at this;omega)
        have hk9:=rkept_v A B (some ⟨b0,o0,none⟩) L a b c d s k x (some ⟨g9,0,none⟩) c9 (x.ret++[r0]) (V3 w) w W4 HX.out h2c HC0.out (bstep H.be KB4) (fun b h=>by have:=v3_bd h;have:=KB4.size;omega) rV9 hc9
        rw [show (x.ret++[r0]).length = x.ret.length+1 by simp] at hk9
        have HK9:=hid hk9
        clear hk9
        go_simp
        (go_at_call 74;(with_reducible refine HK9.out.mono ?_);rintro e W5 ⟨C4,c4,rfl,rC4,hk4⟩)
        have KB5:=bstep KB4 hk4
        refine hK.out _ _ (turn_of_below KB5) (fun HT=>?_)
        clear hK K hk4 h9 r9 rV9 HK9 KB4
        try simp only [Act.put,pA,pZ,pS]
        refine wpAnyH_ready (rs:=[11]) (by kernel_rfl) (by simp) ?_
        refine AllReadyH.cons (o:=⟨none,_,_,_,_,_⟩) rfl (fun K hK=>?_) ?_
        ·have bS:=(KB5.block w.heap.size z0).trans H.bS
         obtain ⟨p0,p1,p2,p3,p4,pf0,pf1,pf2,pf3,pf4⟩:=cf5 bS
         go_simp
         refine hK.out _ _ ((turn_of_below KB5).trans ((turn5 _ _ _ _ _ _ _).mono (fun b _ h=>.inl h))) (fun HT=>?_)
         clear hK K
         try simp only [Act.put,pA,pZ,pS]
         refine wpAnyH_done (by kernel_rfl) ?_ _
         go_wp2_with fail
         go_meet
         exact ⟨rfl,C4,c4,(H.step KB5).sg.putC (by simp) rC4⟩
        exact AllReadyH.nil
       exact AllReadyH.nil
      exact AllReadyH.nil
     exact AllReadyH.nil
    exact AllReadyH.nil
   exact AllReadyH.nil
  exact AllReadyH.nil
 case rest =>
  obtain ⟨rfl,C2,c2,H2⟩:=hcut
  clear H z0 z1 z2 p0 p1 p2 p3 p4 f0 f1 f2 f3 f4 f5 f6 f7 f8 f9 f10
  obtain ⟨wB,hwB⟩:∃ v,v = wc:=⟨_,rfl⟩
  subst hwB
  rw [← HM2.out,← HC2.out,← HLL.out] at H2
  have H:SG w s2 A B C2 L a b c2 d (uF op 0 r0 r1 r2 r3 r4 r5 r6 r7 AS xs cS) wB:=H2
  clear H2
  obtain ⟨z0,z1,z2⟩:=H.zs
  have HME2:=hid (fun A3 B3 a3 b3=>HME.out A3 B3 C2 a3 b3 c2)
  clear HME
  have HME:=HME2
  clear HME2
  go_upto_region 9 with (fail)
  obtain ⟨-,-,f2⟩:=cells3 H.bF
  go_cut [7] from 44 (fun y7 wx=>y7 = .slice AR x.ret.length cR∧∃ (A3 B3:Option Addr) (a3 b3:Nat),SG w t3 A3 B3 C2 L a3 b3 c2 d (uF op 0 r0 r1 r2 r3 r4 r5 r6 r7 AS xs cS) wx)
  case first =>
   have KS:=hid (show ∀ w',Turn (fun g=>g = w.heap.size ∨ wB.heap.size≤g) wB w'→(w'.cell? ⟨w.heap.size+1,2,none⟩ = some (.int .i64 r0)) from fun w' h=>(h.cell z1 (fun h9=>by rcases h9 with h9 | h9 <;> omega)).trans f2)
   clear f2
   refine wp_region_held_drew (S:=fun w'=>Turn (fun g=>g = w.heap.size ∨ wB.heap.size≤g) wB w') (by kernel_rfl) (Turn.drew (Turn.refl _ _)) (fun HT=>?_)
   try dsimp only at HT
   have KB0:Below wB.heap.size wB wB.drew:=(Below.refl _ _).drew
   generalize wB.drew = W0 at HT KB0 ⊢
   refine tkW (oi:=⟨some 45,_,_,_,_,_⟩) (v:=?vk6) 1 rfl (by kernel_rfl) (by kernel_rfl) (by kernel_rfl) (fun _ _ _ h=>h) (by rfl) ?hk6 HT ?_
   case hk6=>(intro w hSw;have x0:=KS.out w hSw;clear hSw;go_simp;try with_reducible rfl)
   try simp only [Act.put,pA,pZ,pS]
   refine tkW (oi:=⟨some 47,_,_,_,_,_⟩) (v:=?vk7) 3 rfl (by kernel_rfl) (by kernel_rfl) (by kernel_rfl) (fun _ _ _ h=>h) (by rfl) ?hk7 HT ?_
   case hk7=>(intro w hSw;have x0:=KS.out w hSw;clear hSw;go_simp;try with_reducible rfl)
   try simp only [Act.put,pA,pZ,pS]
   refine tkW (oi:=⟨some 48,_,_,_,_,_⟩) (v:=?vk8) 4 rfl (by kernel_rfl) (by kernel_rfl) (by kernel_rfl) (fun _ _ _ h=>h) (by rfl) ?hk8 HT ?_
   case hk8=>(intro w hSw;have x0:=KS.out w hSw;clear hSw;go_simp;try with_reducible rfl)
   try simp only [Act.put,pA,pZ,pS]
   refine tkW (oi:=⟨some 49,_,_,_,_,_⟩) (v:=?vk9) 5 rfl (by kernel_rfl) (by kernel_rfl) (by kernel_rfl) (fun _ _ _ h=>h) (by rfl) ?hk9 HT ?_
   case hk9=>(intro w hSw;have x0:=KS.out w hSw;clear hSw;go_simp;try with_reducible rfl)
   try simp only [Act.put,pA,pZ,pS]
   refine wpAnyH_ready (rs:=[0,2]) (by kernel_rfl) (by simp) ?_
   refine AllReadyH.cons (o:=⟨some 44,_,_,_,_,_⟩) rfl (fun K hK=>?_) ?_
   ·have bS:=(KB0.block w.heap.size z0).trans H.bS
    obtain ⟨p0,p1,p2,p3,p4⟩:=cells5 bS
    go_simp
    refine hK.out _ _ (turn_of_below KB0) (fun HT=>?_)
    clear hK K bS p0 p1 p2 p3 p4
    try simp only [Act.put,pA,pZ,pS]
    refine wpAnyH_ready (rs:=[2]) (by kernel_rfl) (by simp) ?_
    refine AllReadyH.cons (o:=⟨some 46,_,_,_,_,_⟩) rfl (fun K hK=>?_) ?_
    ·have bS:=(KB0.block w.heap.size z0).trans H.bS
     obtain ⟨p0,p1,p2⟩:=cells3 bS
     go_simp
     refine hK.out _ _ (turn_of_below KB0) (fun HT=>?_)
     clear hK K bS p0 p1 p2
     try simp only [Act.put,pA,pZ,pS]
     refine wpAnyH_ready (rs:=[6]) (by kernel_rfl) (by simp) ?_
     refine AllReadyH.cons (o:=⟨some 50,_,_,_,_,_⟩) rfl (fun K hK=>?_) ?_
     ·go_simp
      (go_at_call 9;(with_reducible refine (HTU.out _ (H.rW.step KB0) (H.rG.step KB0)).mono ?_);rintro e W1 ⟨A3,B3,a3,b3,rfl,r1,r2,hk3,G1,G2⟩)
      have F1:Wh wB A A3:=wh_below KB0.size G1
      have F2:Wh wB B B3:=wh_below KB0.size G2
      clear G1 G2
      have KB1:=bstep KB0 hk3
      refine hK.out _ _ (turn_of_below KB1) (fun HT=>?_)
      clear hK K hk3 KB0
      try simp only [Act.put,pA,pZ,pS]
      refine wpAnyH_ready (rs:=[7]) (by kernel_rfl) (by simp) ?_
      refine AllReadyH.cons (o:=⟨some 51,_,_,_,_,_⟩) rfl (fun K hK=>?_) ?_
      ·go_simp
       (go_at_call 37;(with_reducible refine (HME.out A3 B3 a3 b3 _ (H.step KB1).rs r1 r2).mono ?_);rintro e W2 ⟨rfl,hk4⟩)
       replace r1:=r1.step hk4
       replace r2:=r2.step hk4
       have KB2:=bstep KB1 hk4
       refine hK.out _ _ (turn_of_below KB2) (fun HT=>?_)
       clear hK K hk4 KB1
       try simp only [Act.put,pA,pZ,pS]
       refine wpAnyH_ready (rs:=[8]) (by kernel_rfl) (by simp) ?_
       refine AllReadyH.cons (o:=⟨none,_,_,_,_,_⟩) rfl (fun K hK=>?_) ?_
       ·have bS:=(KB2.block w.heap.size z0).trans H.bS
        obtain ⟨p0,p1,p2,p3,p4,pf0,pf1,pf2,pf3,pf4⟩:=cf5 bS
        go_simp
        refine hK.out _ _ ((turn_of_below KB2).trans ((turn5 _ _ _ _ _ _ _).mono (fun b _ h=>.inl h))) (fun HT=>?_)
        clear hK K
        try simp only [Act.put,pA,pZ,pS]
        refine wpAnyH_done (by kernel_rfl) ?_ _
        go_wp2_with fail
        go_meet
        have H9:=(H.step KB2).put5 (a2:=a3) (b2:=b3) r1 r2 (H.whW F1 rfl) (H.whG F2 HLG.out)
        rw [← HT3.out] at H9
        exact ⟨rfl,A3,B3,a3,b3,H9⟩
       exact AllReadyH.nil
      exact AllReadyH.nil
     exact AllReadyH.nil
    exact AllReadyH.nil
   refine AllReadyH.cons (o:=⟨some 46,_,_,_,_,_⟩) rfl (fun K hK=>?_) ?_
   ·have bS:=(KB0.block w.heap.size z0).trans H.bS
    obtain ⟨p0,p1,p2⟩:=cells3 bS
    go_simp
    refine hK.out _ _ (turn_of_below KB0) (fun HT=>?_)
    clear hK K bS p0 p1 p2
    try simp only [Act.put,pA,pZ,pS]
    refine wpAnyH_ready (rs:=[0,6]) (by kernel_rfl) (by simp) ?_
    refine AllReadyH.cons (o:=⟨some 44,_,_,_,_,_⟩) rfl (fun K hK=>?_) ?_
    ·have bS:=(KB0.block w.heap.size z0).trans H.bS
     obtain ⟨p0,p1,p2,p3,p4⟩:=cells5 bS
     go_simp
     refine hK.out _ _ (turn_of_below KB0) (fun HT=>?_)
     clear hK K bS p0 p1 p2 p3 p4
     try simp only [Act.put,pA,pZ,pS]
     refine wpAnyH_ready (rs:=[6]) (by kernel_rfl) (by simp) ?_
     refine AllReadyH.cons (o:=⟨some 50,_,_,_,_,_⟩) rfl (fun K hK=>?_) ?_
     ·go_simp
      (go_at_call 9;(with_reducible refine (HTU.out _ (H.rW.step KB0) (H.rG.step KB0)).mono ?_);rintro e W1 ⟨A3,B3,a3,b3,rfl,r1,r2,hk3,G1,G2⟩)
      have F1:Wh wB A A3:=wh_below KB0.size G1
      have F2:Wh wB B B3:=wh_below KB0.size G2
      clear G1 G2
      have KB1:=bstep KB0 hk3
      refine hK.out _ _ (turn_of_below KB1) (fun HT=>?_)
      clear hK K hk3 KB0
      try simp only [Act.put,pA,pZ,pS]
      refine wpAnyH_ready (rs:=[7]) (by kernel_rfl) (by simp) ?_
      refine AllReadyH.cons (o:=⟨some 51,_,_,_,_,_⟩) rfl (fun K hK=>?_) ?_
      ·go_simp
       (go_at_call 37;(with_reducible refine (HME.out A3 B3 a3 b3 _ (H.step KB1).rs r1 r2).mono ?_);rintro e W2 ⟨rfl,hk4⟩)
       replace r1:=r1.step hk4
       replace r2:=r2.step hk4
       have KB2:=bstep KB1 hk4
       refine hK.out _ _ (turn_of_below KB2) (fun HT=>?_)
       clear hK K hk4 KB1
       try simp only [Act.put,pA,pZ,pS]
       refine wpAnyH_ready (rs:=[8]) (by kernel_rfl) (by simp) ?_
       refine AllReadyH.cons (o:=⟨none,_,_,_,_,_⟩) rfl (fun K hK=>?_) ?_
       ·have bS:=(KB2.block w.heap.size z0).trans H.bS
        obtain ⟨p0,p1,p2,p3,p4,pf0,pf1,pf2,pf3,pf4⟩:=cf5 bS
        go_simp
        refine hK.out _ _ ((turn_of_below KB2).trans ((turn5 _ _ _ _ _ _ _).mono (fun b _ h=>.inl h))) (fun HT=>?_)
        clear hK K
        try simp only [Act.put,pA,pZ,pS]
        refine wpAnyH_done (by kernel_rfl) ?_ _
        go_wp2_with fail
        go_meet
        have H9:=(H.step KB2).put5 (a2:=a3) (b2:=b3) r1 r2 (H.whW F1 rfl) (H.whG F2 HLG.out)
        rw [← HT3.out] at H9
        exact ⟨rfl,A3,B3,a3,b3,H9⟩
       exact AllReadyH.nil
      exact AllReadyH.nil
     exact AllReadyH.nil
    refine AllReadyH.cons (o:=⟨some 50,_,_,_,_,_⟩) rfl (fun K hK=>?_) ?_
    ·go_simp
     (go_at_call 9;(with_reducible refine (HTU.out _ (H.rW.step KB0) (H.rG.step KB0)).mono ?_);rintro e W1 ⟨A3,B3,a3,b3,rfl,r1,r2,hk3,G1,G2⟩)
     have F1:Wh wB A A3:=wh_below KB0.size G1
     have F2:Wh wB B B3:=wh_below KB0.size G2
     clear G1 G2
     have KB1:=bstep KB0 hk3
     refine hK.out _ _ (turn_of_below KB1) (fun HT=>?_)
     clear hK K hk3 KB0
     try simp only [Act.put,pA,pZ,pS]
     refine wpAnyH_ready (rs:=[0]) (by kernel_rfl) (by simp) ?_
     refine AllReadyH.cons (o:=⟨some 44,_,_,_,_,_⟩) rfl (fun K hK=>?_) ?_
     ·have bS:=(KB1.block w.heap.size z0).trans H.bS
      obtain ⟨p0,p1,p2,p3,p4⟩:=cells5 bS
      go_simp
      refine hK.out _ _ (turn_of_below KB1) (fun HT=>?_)
      clear hK K bS p0 p1 p2 p3 p4
      try simp only [Act.put,pA,pZ,pS]
      refine wpAnyH_ready (rs:=[7]) (by kernel_rfl) (by simp) ?_
      refine AllReadyH.cons (o:=⟨some 51,_,_,_,_,_⟩) rfl (fun K hK=>?_) ?_
      ·go_simp
       (go_at_call 37;(with_reducible refine (HME.out A3 B3 a3 b3 _ (H.step KB1).rs r1 r2).mono ?_);rintro e W2 ⟨rfl,hk4⟩)
       replace r1:=r1.step hk4
       replace r2:=r2.step hk4
       have KB2:=bstep KB1 hk4
       refine hK.out _ _ (turn_of_below KB2) (fun HT=>?_)
       clear hK K hk4 KB1
       try simp only [Act.put,pA,pZ,pS]
       refine wpAnyH_ready (rs:=[8]) (by kernel_rfl) (by simp) ?_
       refine AllReadyH.cons (o:=⟨none,_,_,_,_,_⟩) rfl (fun K hK=>?_) ?_
       ·have bS:=(KB2.block w.heap.size z0).trans H.bS
        obtain ⟨p0,p1,p2,p3,p4,pf0,pf1,pf2,pf3,pf4⟩:=cf5 bS
        go_simp
        refine hK.out _ _ ((turn_of_below KB2).trans ((turn5 _ _ _ _ _ _ _).mono (fun b _ h=>.inl h))) (fun HT=>?_)
        clear hK K
        try simp only [Act.put,pA,pZ,pS]
        refine wpAnyH_done (by kernel_rfl) ?_ _
        go_wp2_with fail
        go_meet
        have H9:=(H.step KB2).put5 (a2:=a3) (b2:=b3) r1 r2 (H.whW F1 rfl) (H.whG F2 HLG.out)
        rw [← HT3.out] at H9
        exact ⟨rfl,A3,B3,a3,b3,H9⟩
       exact AllReadyH.nil
      exact AllReadyH.nil
     exact AllReadyH.nil
    exact AllReadyH.nil
   exact AllReadyH.nil
  case rest =>
   obtain ⟨rfl,A3,B3,a3,b3,H2⟩:=hcut
   clear H z0 z1 z2 f2
   obtain ⟨wD,hwD⟩:∃ v,v = wc:=⟨_,rfl⟩
   subst hwD
   have H:=H2
   clear H2
   obtain ⟨z0,z1,z2⟩:=H.zs
   have HLI:=hid (fun w'=>rlimit_any (t3.C.length:Int) w' (by omega) (by have:=HCl.out;omega))
   have hw9:IntKind.i64.wrap ((x.ret.length:Int)+1) = (x.ret.length:Int)+1:=IntWalk.i64_in _ (by omega)
   by_cases hn:x.ret.length+1 < 3 * s.C.length+1
   ·have q3:(x.ret.length:Int)+1 < 3 * (t3.C.length:Int)+1:=by have:=HCl.out;omega
    obtain ⟨p0,p1,p2,p3,p4⟩:=cells5 H.bS
    obtain ⟨f0,f1,f2,f3,f4,f5,f6,f7,f8,f9,f10⟩:=cells11 H.bF
    go_upto_region 11 with (go_at_call 75;(with_reducible refine (HLI.out _).mono ?_);rintro e wL ⟨rfl,rfl⟩)
    rw [if_pos hn]
    go_wp2_with (go_at_call 43;(with_reducible refine (rback_u A3 B3 C2 L a3 b3 c2 d t3 k r0 0 _ ft H.rs).mono ?_);rintro e wz ⟨A9,B9,C9,L9,a9,b9,c9,d9,rfl,rW,rG,rC,rL,hz⟩;have kR:=(hz.block (w.heap.size+1+1) z2).trans H.bR;have kb:=bstep H.be hz;obtain ⟨q0,q1,q2,q3,q4,qf0,qf1,qf2,qf3,qf4⟩:=cf5 kR)
    refine bodyPost_ret (v:=.agg (uS A9 B9 C9 L9 a9 b9 c9 d9 (pBack t3 k r0 0))) (by simp [uS,results,Tryz.results58,go_sem,q0,q1,q2,q3,q4]) rfl ?_
    exact ret_res kR kb rW rG rC rL
   ·have q3:¬ (x.ret.length:Int)+1 < 3 * (t3.C.length:Int)+1:=by have:=HCl.out;omega
    obtain ⟨p0,p1,p2,p3,p4⟩:=cells5 H.bS
    obtain ⟨f0,f1,f2,f3,f4,f5,f6,f7,f8,f9,f10⟩:=cells11 H.bF
    obtain ⟨pf0,pf1,pf2,pf3,pf4⟩:=frz5 H.bS
    obtain ⟨ff0,ff1,ff2,ff3,ff4,ff5,ff6,ff7,ff8,ff9,ff10⟩:=frz11 H.bF
    go_upto_region 12 with (go_at_call 75;(with_reducible refine (HLI.out _).mono ?_);rintro e wL ⟨rfl,rfl⟩)
    rw [if_neg hn]
    obtain ⟨t8,ht8⟩:∃ t,t = pSet t3 k ⟨op,1,[r0,r1,r2,r3,r4,r5,r6,r7],xs⟩:=⟨_,rfl⟩
    have few8:SyFew t8:=by rw [ht8];exact few_set ft h6 _
    have HT8:=hid ht8
    clear ht8
    go_upto_region 13 with (fail)
    have K7:=H.putF 1 (.int .i64 1)
    clear H z0 z1 z2
    clear p0 p1 p2 p3 p4 f0 f1 f2 f3 f4 f5 f6 f7 f8 f9 f10 pf0 pf1 pf2 pf3 pf4 ff0 ff1 ff2 ff3 ff4 ff5 ff6 ff7 ff8 ff9 ff10
    generalize wD.setCell ⟨w.heap.size+1,1,none⟩ (.int .i64 1) = wS at *
    have H:SG w t3 A3 B3 C2 L a3 b3 c2 d (uF op 1 r0 r1 r2 r3 r4 r5 r6 r7 AS xs cS) wS:=K7
    clear K7
    obtain ⟨z0,z1,z2⟩:=H.zs
    obtain ⟨p0,p1,p2,p3,p4⟩:=cells5 H.bS
    obtain ⟨f0,f1,f2,f3,f4,f5,f6,f7,f8,f9,f10⟩:=cells11 H.bF
    have HSet:=hid (show ∀ w',RS w' t3 A3 B3 C2 L→Row w' AS xs→Calls Tryz.prog 63 #[.agg (uS A3 B3 C2 L a3 b3 c2 d t3),.int .i64 k,.agg (uF op 1 r0 r1 r2 r3 r4 r5 r6 r7 AS xs cS)] w' (RetSys w' t8) from fun w' k1 k2=>by rw [HT8.out];exact rset_u A3 B3 C2 L a3 b3 c2 d t3 k AS cS op 1 r0 r1 r2 r3 r4 r5 r6 r7 xs w' ft k1 k2 hF3)
    go_wp2_with (go_at_call 63;(with_reducible refine (HSet.out _ H.rs (hS.step H.be)).mono ?_);rintro e w8 ⟨A8,B8,C8,L8,a8,b8,c8,d8,rfl,x1,x2,x3,x4,hk8⟩)
    clear p0 p1 p2 p3 p4 f0 f1 f2 f3 f4 f5 f6 f7 f8 f9 f10
    replace H:=H.step hk8
    clear hk8 z0 z1 z2
    obtain ⟨z0,z1,z2⟩:=H.zs
    refine (rcall_u A8 B8 C8 L8 a8 b8 c8 d8 t8 k 6 0 0 0 _ few8 ⟨x1,x2,x3,x4⟩).mono ?_
    rintro e wz ⟨A9,B9,C9,L9,a9,b9,c9,d9,rfl,rW,rG,rC,rL,hz⟩
    have kR:=(hz.block (w.heap.size+1+1) z2).trans H.bR
    have kb:=bstep H.be hz
    obtain ⟨q0,q1,q2,q3,q4,qf0,qf1,qf2,qf3,qf4⟩:=cf5 kR
    go_wp2_with fail
    refine bodyPost_ret (v:=.agg (uS A9 B9 C9 L9 a9 b9 c9 d9 (pCall t8 k ⟨6,0,[0,0,0,0,0,0,0,0],[]⟩))) (by simp [uS,results,Tryz.results58,go_sem,q0,q1,q2,q3,q4]) rfl ?_
    rw [← HT8.out];exact ret_res kR kb rW rG rC rL
theorem rret_any (A B C L:Option Addr) (a b c d:Nat) (s:Sy) (k:Nat) (x:Co) (AS:Option Addr) (cS:Nat) (op pc r0 r1 r2 r3 r4 r5 r6 r7:Int) (xs:List Int) (w:World) (hs:SyFew s) (hg:2≤s.M.G.length) (h:RS w s A B C L) (hS:Row w AS xs) (h6:xs.length≤1000000) (hF:∀ x ∈ s.C,x.F.length≤999998) (hx:s.C[k]? = some x) :
  Calls Tryz.prog 58 #[.agg (uS A B C L a b c d s),.int .i64 k,.agg (uF op pc r0 r1 r2 r3 r4 r5 r6 r7 AS xs cS)] w (RetSys w (pRetire s k ⟨op,pc,[r0,r1,r2,r3,r4,r5,r6,r7],xs⟩ s)):=by
 by_cases q0:pc = 0
 ·subst q0
  have e0:pRetire s k ⟨op,0,[r0,r1,r2,r3,r4,r5,r6,r7],xs⟩ s = pRetire0 s k ⟨op,0,[r0,r1,r2,r3,r4,r5,r6,r7],xs⟩:=if_pos rfl
  rw [e0]
  by_cases hq:200≤x.ret.length
  ·have e:pRetire0 s k ⟨op,0,[r0,r1,r2,r3,r4,r5,r6,r7],xs⟩ = pBack s k 0 2:=by unfold pRetire0;rw [pRet_nat hx,if_pos hq]
   rw [e];exact rret_full A B C L a b c d s k x AS cS op r0 r1 r2 r3 r4 r5 r6 r7 xs w hs hg h hS h6 hF hx hq
  ·have e:pRetire0 s k ⟨op,0,[r0,r1,r2,r3,r4,r5,r6,r7],xs⟩ = if x.ret.length+1 < 3 * s.C.length+1 then pBack (pMore s k r0) k r0 0 else pCall (pSet (pMore s k r0) k ⟨op,1,[r0,r1,r2,r3,r4,r5,r6,r7],xs⟩) k (frS 6 0):=by unfold pRetire0;rw [pRet_nat hx,if_neg hq];rfl
   rw [e];exact rret_go A B C L a b c d s k x AS cS op r0 r1 r2 r3 r4 r5 r6 r7 xs w hs hg h hS h6 hF hx hq
 ·by_cases q1:pc = 1
  ·subst q1
   have e:pRetire s k ⟨op,1,[r0,r1,r2,r3,r4,r5,r6,r7],xs⟩ s = pBack s k r0 0:=by unfold pRetire;rw [if_neg (by simp),if_pos rfl];rfl
   rw [e];exact rret_1 A B C L a b c d s k x AS cS op r0 r1 r2 r3 r4 r5 r6 r7 xs w hs hg h hS h6 hF hx
  ·have e:pRetire s k ⟨op,pc,[r0,r1,r2,r3,r4,r5,r6,r7],xs⟩ s = s:=by unfold pRetire;rw [if_neg q0,if_neg q1]
   rw [e];exact rret_x A B C L a b c d s k x AS cS op pc r0 r1 r2 r3 r4 r5 r6 r7 xs w hs hg h hS h6 hF hx q0 q1
end Go.Proofs.YtfipcdhodojodaaGreat
