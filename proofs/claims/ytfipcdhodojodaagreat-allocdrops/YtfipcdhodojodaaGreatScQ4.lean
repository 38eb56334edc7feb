/- Contract: a step of OScan that looks, by the document. -/
import Derived.Test.YtfipcdhodojodaaGreatMQ0
import Derived.Test.YtfipcdhodojodaaGreatStkR
import Derived.Test.YtfipcdhodojodaaGreatMS2
import Derived.Test.YtfipcdhodojodaaGreatKStA
namespace Go.Proofs.YtfipcdhodojodaaGreat
open Go.RowKit
set_option maxRecDepth 100000
set_option maxHeartbeats 8000000
set_option linter.unusedVariables false
set_option linter.unusedSimpArgs false
theorem rlook_any (A B C L:Option Addr) (a b c d:Nat) (s:Sy) (i:Int) (AS:Option Addr) (cS:Nat) (op r0 r1 r2 r3 r4 r5 r6 r7:Int) (xs:List Int) (w:World) (hs:SyFew s) (hg:2≤s.M.G.length) (h:RS w s A B C L) (hS:Row w AS xs) (h6:xs.length≤1000000) (hF:∀ x ∈ s.C,x.F.length≤999998)  :
  Calls Tryz.prog 59 #[.agg (uS A B C L a b c d s),.int .i64 i,.agg (uF op 0 r0 r1 r2 r3 r4 r5 r6 r7 AS xs cS)] w (RetSys w (pLook s i ⟨op,0,[r0,r1,r2,r3,r4,r5,r6,r7],xs⟩)):=by
 obtain ⟨s2,hs2⟩:∃ t,t = syMem s (mLoad s.M (wrap64 (8+r0))):=⟨_,rfl⟩
 obtain ⟨vv,hvv⟩:∃ v,v = mVal s.M (wrap64 (8+r0)):=⟨_,rfl⟩
 obtain ⟨l,hl⟩:∃ l,l = pSeen xs vv:=⟨_,rfl⟩
 obtain ⟨nx,hnx⟩:∃ n,n = (wrap64 (r0+1)):=⟨_,rfl⟩
 obtain ⟨pn,hpn⟩:∃ p:Int,p = if 3 * (s.C.length:Int)≤nx then 1 else 0:=⟨_,rfl⟩
 have HC:=hid (show ∀ w',Row w' A s.M.W→Row w' B s.M.G→Calls Tryz.prog 29 #[.agg #[.slice A s.M.W.length a,.slice B s.M.G.length b,.bool s.M.bad],.int .i64 (wrap64 (8+r0))] w' (RetMem2O w' A B s2.M (.int .i64 vv)) from fun w' k1 k2=>by have h9:=rload_o A B a b s.M (wrap64 (8+r0)) w' k1 k2 hs.1 hs.2.1 (by omega);rw [← hvv] at h9;rw [hs2];exact h9)
 have HW2:=hid (show s2.M.W.length = s.M.W.length by rw [hs2];rfl)
 have HG2:=hid (show s2.M.G.length = s.M.G.length by rw [hs2];rfl)
 have fw:SyFew s2:=by rw [hs2];exact few_mem hs rfl rfl
 have ES:=hid (show syMem s s2.M = s2 by rw [hs2];rfl)
 have hF2:∀ y ∈ s2.C,y.F.length≤999999:=by rw [hs2];intro y hy;have:=hF y hy;omega
 have hres:pLook s i ⟨op,0,[r0,r1,r2,r3,r4,r5,r6,r7],xs⟩ = pSet s2 i ⟨op,pn,[nx,r1,r2,r3,r4,r5,r6,r7],l⟩:=by unfold pLook;rw [hpn,hl,hs2,hvv,hnx];simp only [List.getD_cons_zero];rfl
 rw [hres]
 have HSet:=hid (show ∀ (A2 B2 AN:Option Addr) (a2 b2 cN:Nat) w',RS w' s2 A2 B2 C L→Row w' AN l→Calls Tryz.prog 63 #[.agg (uS A2 B2 C L a2 b2 c d s2),.int .i64 i,.agg (uF op pn nx r1 r2 r3 r4 r5 r6 r7 AN l cN)] w' (RetSys w' (pSet s2 i ⟨op,pn,[nx,r1,r2,r3,r4,r5,r6,r7],l⟩)) from fun A2 B2 AN a2 b2 cN w' k1 k2=>rset_u A2 B2 C L a2 b2 c d s2 i AN cN op pn nx r1 r2 r3 r4 r5 r6 r7 l w' fw k1 k2 hF2)
 have HME:=hid (show ∀ (A2 B2:Option Addr) (a2 b2:Nat) w',RS w' s A B C L→Row w' A2 s2.M.W→Row w' B2 s2.M.G→Calls Tryz.prog 37 #[.agg (uS A B C L a b c d s),.agg #[.slice A2 s2.M.W.length a2,.slice B2 s2.M.G.length b2,.bool s2.M.bad]] w' fun e w''=>e = .returned (.agg (uS A2 B2 C L a2 b2 c d s2))∧RS w'' s2 A2 B2 C L∧Below w'.heap.size w' w'' from fun A2 B2 a2 b2 w' k1 k2 k3=>by have h9:=rmem3_any A B C L A2 B2 a b c d a2 b2 s s2.M w' k1 k2 k3;have e8:s2.C = s.C:=(by rw [hs2];rfl);have e7:s2.L = s.L:=(by rw [hs2];rfl);rw [ES.out] at h9;dsimp only [uS];rw [e8,e7];exact h9)
 obtain ⟨t9,ht9⟩:∃ t,t = pSet s2 i ⟨op,pn,[nx,r1,r2,r3,r4,r5,r6,r7],l⟩:=⟨_,rfl⟩
 rw [← ht9] at HSet ⊢
 have HNX:=hid hnx
 have HPN:=hid hpn
 have HSN:=hid hl
 clear ht9 hres hs2 hvv hnx hpn hl
 have h0:=hs.1
 have h1:=hs.2.1
 have H:=SF.start w s A B C L a b c d (uF op 0 r0 r1 r2 r3 r4 r5 r6 r7 AS xs cS) h
 clear h
 go_enter Tryz.func59,Tryz.ntmps59
 go_upto_region 1 with (fail)
 generalize (((w.alloc (.cells (uS A B C L a b c d s) 30)).alloc (.cells (uF op 0 r0 r1 r2 r3 r4 r5 r6 r7 AS xs cS) 60)).alloc (.cells uZ 30)) = w1 at *
 obtain ⟨z0,z1,z2⟩:=H.zs
 obtain ⟨p0,p1,p2,p3,p4⟩:=cells5 H.bS
 obtain ⟨f0,f1,f2,f3,f4,f5,f6,f7,f8,f9,f10⟩:=cells11 H.bF
 go_upto_region 3 with (go_at_call 29;(with_reducible refine (HC.out _ H.rW H.rG).mono ?_);rintro e w4 ⟨A2,B2,a2,b2,rfl,s1,s3,hk4,F1,F2⟩)
 clear p0 p1 p2 p3 p4 f0 f1 f2 f3 f4 f5 f6 f7 f8 f9 f10
 have K4:=H.step hk4
 have KM:=MVar.new (a:=a2) (b:=b2) s1 s3 (H.whW F1 HW2.out) (H.whG F2 HG2.out) K4.lt
 have K5:=K4.step (boxed w4 (.cells #[.slice A2 s2.M.W.length a2,.slice B2 s2.M.G.length b2,.bool s2.M.bad] 26))
 clear H K4 s1 s3 F1 F2 hk4 z0 z1 z2
 obtain ⟨vM,hv⟩:∃ v,w4.heap.size = v:=⟨_,rfl⟩
 rw [hv] at KM ⊢
 clear hv
 generalize w4.alloc (.cells #[.slice A2 s2.M.W.length a2,.slice B2 s2.M.G.length b2,.bool s2.M.bad] 26) = w5 at *
 have H:=K5
 clear K5
 obtain ⟨z0,z1,z2⟩:=H.zs
 by_cases q0:vv = 0
 case' pos =>
  have hl2:l = xs:=by rw [HSN.out];unfold pSeen;rw [if_neg (by rw [q0];simp)]
  have e3:(vv != 0) = false:=by rw [q0];rfl
  clear q0
  obtain ⟨f0,f1,f2,f3,f4,f5,f6,f7,f8,f9,f10,ff0,ff1,ff2,ff3,ff4,ff5,ff6,ff7,ff8,ff9,ff10⟩:=cf11 H.bF
  go_upto_region 5 with (fail)
  clear f0 f1 f2 f3 f4 f5 f6 f7 f8 f9 f10 ff0 ff1 ff2 ff3 ff4 ff5 ff6 ff7 ff8 ff9 ff10
  have rV2:RowV (V3 w) w5 AS xs:=RowV.old hS H.be (fun _ h=>v3_ge h)
  subst hl2
  clear e3 HSN z0 z1 z2
  obtain ⟨AN,hAN⟩:∃ v,v = AS:=⟨_,rfl⟩
  subst hAN
  obtain ⟨cN,hcN⟩:∃ v,v = cS:=⟨_,rfl⟩
  subst hcN
  obtain ⟨w8,hw8⟩:∃ v,v = w5:=⟨_,rfl⟩
  subst hw8
  clear hS h6
 case' neg =>
  have e3:(vv != 0) = true:=by simpa using q0
  have e1:¬ vv = 0:=q0
  by_cases q1:xs.length < 24
  case' pos =>
   have hl2:l = xs++[vv]:=by rw [HSN.out];unfold pSeen;rw [if_pos ⟨q0,q1⟩]
   have hln:l.length = xs.length+1:=by rw [hl2];simp
   have e2:(xs.length:Int) < 24:=by omega
   have HLL:=hid hl2
   have HLN:=hid hln
   clear hl2 hln HSN q0 q1
   obtain ⟨f0,f1,f2,f3,f4,f5,f6,f7,f8,f9,f10,ff0,ff1,ff2,ff3,ff4,ff5,ff6,ff7,ff8,ff9,ff10⟩:=cf11 H.bF
   go_upto_region 4 with (fail)
   go_upto_region 5 with (first | (at_builtin;(refine wpList_append_ontoR rfl _ _ _ rfl w5.heap.size Tryz.underlying24 infoI (.slice (some ⟨w5.heap.size,0,none⟩) 0 0) 0 [] rfl rfl (own_empty (heap_alloc_new w5 _)) AS cS xs.length xs rfl rfl ((hS.step H.be).step (boxed _ _)) (by simp;omega) (by simp) ?_);intro v9 wa ho9 hg9;have j9:Below w5.heap.size w5 wa:=(((Turn.refl (fun b=>w5.heap.size≤b) w5).alloc _).grown hg9 (fun g hg=>Nat.le_of_eq (Option.some.inj hg))).to_below (Nat.le_refl _) (fun _ h=>h);have x10:=(j9.cell z1).trans f10) | (at_builtin;(refine wpList_append_ontoR rfl _ _ _ rfl w5.heap.size Tryz.underlying24 infoI v9 _ ([]++xs) rfl rfl (own_step ho9 (boxed _ _)) _ _ 1 [vv] rfl rfl (Blk.row (heap_alloc_new wa (.cells #[.int .i64 vv] 3))) (by simp;omega) (by have:=hg9.size;simp at this ⊢;omega) ?_);intro v10 w6 ho10 hg10;obtain ⟨AN,cN,rfl,r3⟩:=own_row1 ho10 rfl;have j6:Below w5.heap.size w5 w6:=(((Turn.below (Turn.refl (fun b=>w5.heap.size≤b) w5) j9).alloc _).grown hg10 (fun g hg=>(ho9.lt g hg).1)).to_below (Nat.le_refl _) (fun _ h=>h);have K6:=H.step j6;obtain ⟨-,-,-,-,-,-,-,-,-,-,y10,-,-,-,-,-,-,-,-,-,-,yf10⟩:=cf11 K6.bF))
   simp only [List.nil_append] at r3 ho10
   have rV:RowV (V3 w) w6 AN l:=by
    rw [HLL.out]
    refine RowV.of r3 (fun q e h=>?_)
    obtain ⟨g,cp,e9,hg1,_⟩:=ho10.form (by simp)
    injection e9 with e9 _ _
    rw [e9] at e;injection e with e;subst e
    have h7:=v3_bd h;have h8:=H.lt;(try dsimp only at h7);omega
   have rV2:RowV (V3 w) (w6.setCell ⟨w.heap.size+1,10,none⟩ (.slice AN (xs.length+1) cN)) AN l:=fun w9 t9=>rV w9 ((Turn.set (p:=V3 w) (Turn.refl _ _) (.inr (.inl rfl)) _ _).trans t9)
   have K8:=K6.putF 10 (.slice AN (xs.length+1) cN)
   have M8:=(KM.step j6).putF 10 (.slice AN (xs.length+1) cN)
   clear H K6 KM rV r3 ho9 ho10 hg9 hg10 j9 j6 x10 y10 yf10 z0 z1 z2 e1 e2 e3
   clear f0 f1 f2 f3 f4 f5 f6 f7 f8 f9 f10 ff0 ff1 ff2 ff3 ff4 ff5 ff6 ff7 ff8 ff9 ff10
   generalize w6.setCell ⟨w.heap.size+1,10,none⟩ (.slice AN (xs.length+1) cN) = w8 at *
   have H:SF w s A B C L a b c d (uF op 0 r0 r1 r2 r3 r4 r5 r6 r7 AN l cN) w8:=by dsimp only [uF];rw [HLN.out];exact K8
   have KM:=M8
   clear K8 M8 HLL HLN hS h6
  case' neg =>
   have hl2:l = xs:=by rw [HSN.out];unfold pSeen;rw [if_neg (by intro h;omega)]
   have e2:¬ (xs.length:Int) < 24:=by omega
   clear q0 q1
   obtain ⟨f0,f1,f2,f3,f4,f5,f6,f7,f8,f9,f10,ff0,ff1,ff2,ff3,ff4,ff5,ff6,ff7,ff8,ff9,ff10⟩:=cf11 H.bF
   go_upto_region 5 with (fail)
   clear f0 f1 f2 f3 f4 f5 f6 f7 f8 f9 f10 ff0 ff1 ff2 ff3 ff4 ff5 ff6 ff7 ff8 ff9 ff10
   have rV2:RowV (V3 w) w5 AS xs:=RowV.old hS H.be (fun _ h=>v3_ge h)
   subst hl2
   clear e3 e2 e1 HSN z0 z1 z2
   obtain ⟨AN,hAN⟩:∃ v,v = AS:=⟨_,rfl⟩
   subst hAN
   obtain ⟨cN,hcN⟩:∃ v,v = cS:=⟨_,rfl⟩
   subst hcN
   obtain ⟨w8,hw8⟩:∃ v,v = w5:=⟨_,rfl⟩
   subst hw8
   clear hS h6
 all_goals
  obtain ⟨z0,z1,z2⟩:=H.zs
  obtain ⟨f0,f1,f2,f3,f4,f5,f6,f7,f8,f9,f10,ff0,ff1,ff2,ff3,ff4,ff5,ff6,ff7,ff8,ff9,ff10⟩:=cf11 H.bF
  go_upto_region 6 with (fail)
  have rV3:RowV (V3 w) (w8.setCell ⟨w.heap.size+1,2,none⟩ (.int .i64 (wrap64 (r0+1)))) AN l:=fun w9 t9=>rV2 w9 ((Turn.set (p:=V3 w) (Turn.refl _ _) (.inr (.inl rfl)) _ _).trans t9)
  have K8:=H.putF 2 (.int .i64 (wrap64 (r0+1)))
  have M8:=KM.putF 2 (.int .i64 (wrap64 (r0+1)))
  clear H KM rV2 z0 z1 z2
  clear f0 f1 f2 f3 f4 f5 f6 f7 f8 f9 f10 ff0 ff1 ff2 ff3 ff4 ff5 ff6 ff7 ff8 ff9 ff10
  generalize w8.setCell ⟨w.heap.size+1,2,none⟩ (.int .i64 (wrap64 (r0+1))) = w9 at *
  have rV2:=rV3
  have KM:=M8
  clear rV3 M8
  have H:SF w s A B C L a b c d (uF op 0 (wrap64 (r0+1)) r1 r2 r3 r4 r5 r6 r7 AN l cN) w9:=K8
  clear K8
  obtain ⟨z0,z1,z2⟩:=H.zs
  have hm:wrap64 (3 * (s.C.length:Int)) = 3 * (s.C.length:Int):=by have:=hs.2.2.1;unfold wrap64;omega
  rw [← HNX.out] at H
  by_cases hu:3 * (s.C.length:Int)≤nx
  case' pos =>
   have hp:pn = 1:=by rw [HPN.out,if_pos hu]
   obtain ⟨p0,p1,p2,p3,p4⟩:=cells5 H.bS
   obtain ⟨f0,f1,f2,f3,f4,f5,f6,f7,f8,f9,f10⟩:=cells11 H.bF
   obtain ⟨pf0,pf1,pf2,pf3,pf4⟩:=frz5 H.bS
   obtain ⟨ff0,ff1,ff2,ff3,ff4,ff5,ff6,ff7,ff8,ff9,ff10⟩:=frz11 H.bF
   go_upto_region 7 with (fail)
   go_upto_region 8 with (fail)
   have rV3:RowV (V3 w) (w9.setCell ⟨w.heap.size+1,1,none⟩ (.int .i64 1)) AN l:=fun w9 t9=>rV2 w9 ((Turn.set (p:=V3 w) (Turn.refl _ _) (.inr (.inl rfl)) _ _).trans t9)
   have K8:=H.putF 1 (.int .i64 1)
   have M8:=KM.putF 1 (.int .i64 1)
   clear H KM rV2 z0 z1 z2
   clear p0 p1 p2 p3 p4 f0 f1 f2 f3 f4 f5 f6 f7 f8 f9 f10 pf0 pf1 pf2 pf3 pf4 ff0 ff1 ff2 ff3 ff4 ff5 ff6 ff7 ff8 ff9 ff10
   generalize w9.setCell ⟨w.heap.size+1,1,none⟩ (.int .i64 1) = wA at *
   have rV2:=rV3
   have KM:=M8
   clear rV3 M8
   have H:SF w s A B C L a b c d (uF op 1 nx r1 r2 r3 r4 r5 r6 r7 AN l cN) wA:=K8
   clear K8
   obtain ⟨z0,z1,z2⟩:=H.zs
   replace H:SF w s A B C L a b c d (uF op pn nx r1 r2 r3 r4 r5 r6 r7 AN l cN) wA:=by rw [hp];exact H
   clear hm hu hp z0 z1 z2
  case' neg =>
   have hp:pn = 0:=by rw [HPN.out,if_neg hu]
   obtain ⟨p0,p1,p2,p3,p4⟩:=cells5 H.bS
   obtain ⟨f0,f1,f2,f3,f4,f5,f6,f7,f8,f9,f10⟩:=cells11 H.bF
   obtain ⟨pf0,pf1,pf2,pf3,pf4⟩:=frz5 H.bS
   obtain ⟨ff0,ff1,ff2,ff3,ff4,ff5,ff6,ff7,ff8,ff9,ff10⟩:=frz11 H.bF
   go_upto_region 8 with (fail)
   clear p0 p1 p2 p3 p4 f0 f1 f2 f3 f4 f5 f6 f7 f8 f9 f10 pf0 pf1 pf2 pf3 pf4 ff0 ff1 ff2 ff3 ff4 ff5 ff6 ff7 ff8 ff9 ff10
   replace H:SF w s A B C L a b c d (uF op pn nx r1 r2 r3 r4 r5 r6 r7 AN l cN) w9:=by rw [hp];exact H
   obtain ⟨wA,hwA⟩:∃ v,v = w9:=⟨_,rfl⟩
   subst hwA
   clear hm hu hp z0 z1 z2
  all_goals
   obtain ⟨z0,z1,z2⟩:=H.zs
   obtain ⟨p0,p1,p2,p3,p4⟩:=cells5 H.bS
   obtain ⟨f0,f1,f2,f3,f4,f5,f6,f7,f8,f9,f10⟩:=cells11 H.bF
   obtain ⟨x0,x1,x2⟩:=cells3 KM.bM
   have lM:=KM.lt
   have nM:=KM.ne
   have KS:=hid (show ∀ w',Turn (fun g=>g = w.heap.size+1+1 ∨ wA.heap.size≤g) wA w'→(w'.cell? ⟨w.heap.size,0,none⟩ = some (.slice A s.M.W.length a)∧w'.cell? ⟨w.heap.size,1,none⟩ = some (.slice B s.M.G.length b)∧w'.cell? ⟨w.heap.size,2,none⟩ = some (.bool s.M.bad)∧w'.cell? ⟨w.heap.size,3,none⟩ = some (.slice C s.C.length c)∧w'.cell? ⟨w.heap.size,4,none⟩ = some (.slice L s.L.length d)∧w'.cell? ⟨w.heap.size+1,0,none⟩ = some (.int .i64 op)∧w'.cell? ⟨w.heap.size+1,1,none⟩ = some (.int .i64 pn)∧w'.cell? ⟨w.heap.size+1,2,none⟩ = some (.int .i64 nx)∧w'.cell? ⟨w.heap.size+1,3,none⟩ = some (.int .i64 r1)∧w'.cell? ⟨w.heap.size+1,4,none⟩ = some (.int .i64 r2)∧w'.cell? ⟨w.heap.size+1,5,none⟩ = some (.int .i64 r3)∧w'.cell? ⟨w.heap.size+1,6,none⟩ = some (.int .i64 r4)∧w'.cell? ⟨w.heap.size+1,7,none⟩ = some (.int .i64 r5)∧w'.cell? ⟨w.heap.size+1,8,none⟩ = some (.int .i64 r6)∧w'.cell? ⟨w.heap.size+1,9,none⟩ = some (.int .i64 r7)∧w'.cell? ⟨w.heap.size+1,10,none⟩ = some (.slice AN l.length cN)∧w'.cell? ⟨vM,0,none⟩ = some (.slice A2 s2.M.W.length a2)∧w'.cell? ⟨vM,1,none⟩ = some (.slice B2 s2.M.G.length b2)∧w'.cell? ⟨vM,2,none⟩ = some (.bool s2.M.bad)) from fun w' h=>⟨(h.cell z0 (fun h9=>by rcases h9 with h9 | h9 <;> omega)).trans p0,(h.cell z0 (fun h9=>by rcases h9 with h9 | h9 <;> omega)).trans p1,(h.cell z0 (fun h9=>by rcases h9 with h9 | h9 <;> omega)).trans p2,(h.cell z0 (fun h9=>by rcases h9 with h9 | h9 <;> omega)).trans p3,(h.cell z0 (fun h9=>by rcases h9 with h9 | h9 <;> omega)).trans p4,(h.cell z1 (fun h9=>by rcases h9 with h9 | h9 <;> omega)).trans f0,(h.cell z1 (fun h9=>by rcases h9 with h9 | h9 <;> omega)).trans f1,(h.cell z1 (fun h9=>by rcases h9 with h9 | h9 <;> omega)).trans f2,(h.cell z1 (fun h9=>by rcases h9 with h9 | h9 <;> omega)).trans f3,(h.cell z1 (fun h9=>by rcases h9 with h9 | h9 <;> omega)).trans f4,(h.cell z1 (fun h9=>by rcases h9 with h9 | h9 <;> omega)).trans f5,(h.cell z1 (fun h9=>by rcases h9 with h9 | h9 <;> omega)).trans f6,(h.cell z1 (fun h9=>by rcases h9 with h9 | h9 <;> omega)).trans f7,(h.cell z1 (fun h9=>by rcases h9 with h9 | h9 <;> omega)).trans f8,(h.cell z1 (fun h9=>by rcases h9 with h9 | h9 <;> omega)).trans f9,(h.cell z1 (fun h9=>by rcases h9 with h9 | h9 <;> omega)).trans f10,(h.cell lM (fun h9=>by rcases h9 with h9 | h9 <;> omega)).trans x0,(h.cell lM (fun h9=>by rcases h9 with h9 | h9 <;> omega)).trans x1,(h.cell lM (fun h9=>by rcases h9 with h9 | h9 <;> omega)).trans x2⟩)
   clear p0 p1 p2 p3 p4 f0 f1 f2 f3 f4 f5 f6 f7 f8 f9 f10 x0 x1 x2
   refine wp_region_held_drew (S:=fun w'=>Turn (fun g=>g = w.heap.size+1+1 ∨ wA.heap.size≤g) wA w') (by kernel_rfl) (Turn.drew (Turn.refl _ _)) (fun HT=>?_)
   try dsimp only at HT
   have KB0:Below wA.heap.size wA wA.drew:=(Below.refl _ _).drew
   generalize wA.drew = W0 at HT KB0 ⊢
   refine tkW (oi:=⟨some 56,_,_,_,_,_⟩) (v:=?_) 0 rfl (by kernel_rfl) (by kernel_rfl) (by kernel_rfl) (fun _ _ _ h=>h) (by rfl) ?_ HT ?_
   rotate_left
   ·(intro w hSw;obtain ⟨y0,y1,y2,y3,y4,y5,y6,y7,y8,y9,y10,y11,y12,y13,y14,y15,y16,y17,y18⟩:=KS.out w hSw;clear hSw;go_simp;try with_reducible rfl)
   try simp only [Act.put,pA,pZ,pS]
   refine tkW (oi:=⟨some 57,_,_,_,_,_⟩) (v:=?_) 1 rfl (by kernel_rfl) (by kernel_rfl) (by kernel_rfl) (fun _ _ _ h=>h) (by rfl) ?_ HT ?_
   rotate_left
   ·(intro w hSw;obtain ⟨y0,y1,y2,y3,y4,y5,y6,y7,y8,y9,y10,y11,y12,y13,y14,y15,y16,y17,y18⟩:=KS.out w hSw;clear hSw;go_simp;try with_reducible rfl)
   try simp only [Act.put,pA,pZ,pS]
   refine tkW (oi:=⟨some 59,_,_,_,_,_⟩) (v:=?_) 3 rfl (by kernel_rfl) (by kernel_rfl) (by kernel_rfl) (fun _ _ _ h=>h) (by rfl) ?_ HT ?_
   rotate_left
   ·(intro w hSw;obtain ⟨y0,y1,y2,y3,y4,y5,y6,y7,y8,y9,y10,y11,y12,y13,y14,y15,y16,y17,y18⟩:=KS.out w hSw;clear hSw;go_simp;try with_reducible rfl)
   try simp only [Act.put,pA,pZ,pS]
   refine tkW (oi:=⟨some 60,_,_,_,_,_⟩) (v:=?_) 4 rfl (by kernel_rfl) (by kernel_rfl) (by kernel_rfl) (fun _ _ _ h=>h) (by rfl) ?_ HT ?_
   rotate_left
   ·(intro w hSw;obtain ⟨y0,y1,y2,y3,y4,y5,y6,y7,y8,y9,y10,y11,y12,y13,y14,y15,y16,y17,y18⟩:=KS.out w hSw;clear hSw;go_simp;try with_reducible rfl)
   try simp only [Act.put,pA,pZ,pS]
   refine wpAnyH_ready (rs:=[2]) (by kernel_rfl) (by simp) ?_
   refine AllReadyH.cons (o:=⟨some 58,_,_,_,_,_⟩) rfl (fun K hK=>?_) AllReadyH.nil
   go_simp
   (go_at_call 37;(with_reducible refine (HME.out A2 B2 a2 b2 _ (H.step KB0).rs (KM.step KB0).rW (KM.step KB0).rG).mono ?_);rintro e W1 ⟨rfl,S5,hk5⟩)
   have KB1:=bstep KB0 hk5
   refine hK.out _ _ (turn_of_below KB1) (fun HT=>?_)
   clear hK K hk5
   try simp only [Act.put,pA,pZ,pS]
   refine wpAnyH_ready (rs:=[5]) (by kernel_rfl) (by simp) ?_
   refine AllReadyH.cons (o:=⟨some 61,_,_,_,_,_⟩) rfl (fun K hK=>?_) AllReadyH.nil
   go_simp
   (go_at_call 63;(with_reducible refine (HSet.out A2 B2 AN a2 b2 cN _ S5 ((rV2.row).step KB1)).mono ?_);rintro e W2 ⟨A9,B9,C9,L9,a9,b9,c9,d9,rfl,rW,rG,rC,rL,hk6⟩)
   have KB2:=bstep KB1 hk6
   refine hK.out _ _ (turn_of_below KB2) (fun HT=>?_)
   clear hK K hk6
   try simp only [Act.put,pA,pZ,pS]
   refine wpAnyH_ready (rs:=[6]) (by kernel_rfl) (by simp) ?_
   refine AllReadyH.cons (o:=⟨none,_,_,_,_,_⟩) rfl (fun K hK=>?_) AllReadyH.nil
   have kR:=(KB2.block (w.heap.size+1+1) z2).trans H.bR
   have kb:=bstep H.be KB2
   obtain ⟨q0,q1,q2,q3,q4,qf0,qf1,qf2,qf3,qf4⟩:=cf5 kR
   go_simp
   refine hK.out _ _ ((turn_of_below KB2).trans ((turn5 _ _ _ _ _ _ _).mono (fun b _ h=>.inl h))) (fun HT=>?_)
   clear hK K
   try simp only [Act.put,pA,pZ,pS]
   refine wpAnyH_done (by kernel_rfl) ?_ _
   go_wp2_with fail
   refine bodyPost_ret (v:=.agg (uS A9 B9 C9 L9 a9 b9 c9 d9 t9)) (by simp [uS,results,Tryz.results59,go_sem,q0,q1,q2,q3,q4]) rfl ?_
   exact ret_res kR kb rW rG rC rL
end Go.Proofs.YtfipcdhodojodaaGreat
