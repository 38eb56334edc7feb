/- Contract: scan.look, by the program. -/
import Derived.Test.YtfipcdhodojodaaGreatScn5
namespace Go.Proofs.YtfipcdhodojodaaGreat
open Go.RowKit
set_option maxRecDepth 100000
set_option maxHeartbeats 8000000
set_option linter.unusedVariables false
set_option linter.unusedSimpArgs false
theorem RowV.turn {V:Nat→Prop} {w w':World} {A:Option Addr} {xs:List Int} (h:RowV V w A xs) (hb:Turn V w w'):RowV V w' A xs:=fun w2 t=>h w2 (hb.trans t)
theorem look_any (A B C L:Option Addr) (a b c d:Nat) (s:Sy) (i:Int) (AS:Option Addr) (cS:Nat) (op pc r0 r1 r2 r3 r4 r5 r6 r7:Int) (xs:List Int) (w:World) (hs:SyFew s) (hg:2≤s.M.G.length) (h:RS w s A B C L) (hS:Row w AS xs) (h6:xs.length≤1000000) (hcS:xs.length≤cS)  :
  Calls Tryz.prog 113 #[.agg (uS A B C L a b c d s),.int .i64 i,.agg (uF op pc r0 r1 r2 r3 r4 r5 r6 r7 AS xs cS)] w (RetSysN w (pLook s i ⟨op,pc,[r0,r1,r2,r3,r4,r5,r6,r7],xs⟩)):=by
 obtain ⟨s2,hs2⟩:∃ t,t = syMem s (mLoad s.M (wrap64 (8+r0))):=⟨_,rfl⟩
 obtain ⟨vv,hvv⟩:∃ v,v = mVal s.M (wrap64 (8+r0)):=⟨_,rfl⟩
 obtain ⟨l,hl⟩:∃ l,l = pSeen xs vv:=⟨_,rfl⟩
 obtain ⟨nx,hnx⟩:∃ n,n = (wrap64 (r0+1)):=⟨_,rfl⟩
 obtain ⟨pn,hpn⟩:∃ p:Int,p = if 3 * (s.C.length:Int)≤nx then 1 else pc:=⟨_,rfl⟩
 have HC:=hid (show ∀ w',Row w' A s.M.W→Row w' B s.M.G→Calls Tryz.prog 105 #[.agg #[.slice A s.M.W.length a,.slice B s.M.G.length b,.bool s.M.bad],.int .i64 (wrap64 (8+r0))] w' (RetMem2O w' A B s2.M (.int .i64 vv)) from fun w' k1 k2=>by have h9:=load_o A B a b s.M (wrap64 (8+r0)) w' k1 k2 hs.1 hs.2.1 hg (wrap64_bd _).1 (wrap64_bd _).2;rw [← hvv] at h9;rw [hs2];exact h9)
 have HW2:=hid (show s2.M.W.length = s.M.W.length by rw [hs2];rfl)
 have HG2:=hid (show s2.M.G.length = s.M.G.length by rw [hs2];rfl)
 have HLC:=hid (show s2.C.length = s.C.length by rw [hs2];rfl)
 have fw:SyFew s2:=by rw [hs2];exact few_mem hs rfl rfl
 have HS3:=hid (show syMem s s2.M = s2 by rw [hs2];rfl)
 have hres:pLook s i ⟨op,pc,[r0,r1,r2,r3,r4,r5,r6,r7],xs⟩ = pSet s2 i ⟨op,pn,[nx,r1,r2,r3,r4,r5,r6,r7],l⟩:=by unfold pLook;rw [hpn,hl,hs2,hvv,hnx];simp only [List.getD_cons_zero];rfl
 rw [hres]
 have hll:l.length≤1000000:=by
  rw [hl];unfold pSeen
  split
  ·next h=>have:=h.2;simp;omega
  ·exact h6
 have HSet:=hid (show ∀ (A2 B2 AN:Option Addr) (a2 b2 cN:Nat) w',RS w' s2 A2 B2 C L→Row w' AN l→Calls Tryz.prog 50 #[.agg (uS A2 B2 C L a2 b2 c d s2),.int .i64 i,.agg (uF op pn nx r1 r2 r3 r4 r5 r6 r7 AN l cN)] w' (RetSysN w' (pSet s2 i ⟨op,pn,[nx,r1,r2,r3,r4,r5,r6,r7],l⟩)) from fun A2 B2 AN a2 b2 cN w' k1 k2=>set_uN A2 B2 C L a2 b2 c d s2 i AN cN op pn nx r1 r2 r3 r4 r5 r6 r7 l w' fw k1 k2 hll)
 obtain ⟨t9,ht9⟩:∃ t,t = pSet s2 i ⟨op,pn,[nx,r1,r2,r3,r4,r5,r6,r7],l⟩:=⟨_,rfl⟩
 rw [← ht9] at HSet ⊢
 have HNX:=hid hnx
 have HPN:=hid hpn
 have HSN:=hid hl
 clear ht9 hres hs2 hvv hnx hpn hl hll
 have h0:=hs.1
 have h1:=hs.2.1
 have H:=SF.start w s A B C L a b c d (uF op pc r0 r1 r2 r3 r4 r5 r6 r7 AS xs cS) h
 clear h
 go_enter Tryz.func113,Tryz.ntmps113
 go_upto_region 2 with (fail)
 generalize (((w.alloc (.cells (uS A B C L a b c d s) 30)).alloc (.cells (uF op pc r0 r1 r2 r3 r4 r5 r6 r7 AS xs cS) 60)).alloc (.cells uZ 30)) = w1 at *
 obtain ⟨z0,z1,z2⟩:=H.zs
 obtain ⟨p0,p1,p2,p3,p4⟩:=cells5 H.bS
 obtain ⟨f0,f1,f2,f3,f4,f5,f6,f7,f8,f9,f10⟩:=cells11 H.bF
 obtain ⟨pf0,pf1,pf2,pf3,pf4⟩:=frz5 H.bS
 obtain ⟨ff0,ff1,ff2,ff3,ff4,ff5,ff6,ff7,ff8,ff9,ff10⟩:=frz11 H.bF
 go_upto_region 3 with (go_at_call 105;(with_reducible refine (HC.out _ H.rW H.rG).mono ?_);rintro e w4 ⟨A2,B2,a2,b2,rfl,s1,s3,hk4,F1,F2⟩;have K4:=H.step hk4;obtain ⟨v0,v1,v2,v3,v4,vf0,vf1,vf2,vf3,vf4⟩:=cf5 K4.bS)
 have K6:=K4.putM (m:=s2.M) (a2:=a2) (b2:=b2) s1 s3 (H.whW F1 HW2.out) (H.whG F2 HG2.out)
 generalize (((w4.setCell ⟨w.heap.size,0,none⟩ (.slice A2 s2.M.W.length a2)).setCell ⟨w.heap.size,1,none⟩ (.slice B2 s2.M.G.length b2)).setCell ⟨w.heap.size,2,none⟩ (.bool s2.M.bad)) = w6 at *
 clear H K4 F1 F2 s1 s3 hk4 z0 z1 z2 v0 vf0 v1 vf1 v2 vf2 v3 vf3 v4 vf4
 clear p0 p1 p2 p3 p4 f0 f1 f2 f3 f4 f5 f6 f7 f8 f9 f10 pf0 pf1 pf2 pf3 pf4 ff0 ff1 ff2 ff3 ff4 ff5 ff6 ff7 ff8 ff9 ff10
 have e9:syMem s s2.M = s2:=HS3.out
 rw [e9] at K6
 clear e9
 have H:SF w s2 A2 B2 C L a2 b2 c d (uF op pc r0 r1 r2 r3 r4 r5 r6 r7 AS xs cS) w6:=K6
 clear K6
 obtain ⟨z0,z1,z2⟩:=H.zs
 by_cases q0:vv = 0
 case' pos =>
  have hl2:l = xs:=by rw [HSN.out];unfold pSeen;rw [if_neg (by rw [q0];simp)]
  have e3:(vv != 0) = false:=by rw [q0];rfl
  clear q0
  obtain ⟨p0,p1,p2,p3,p4⟩:=cells5 H.bS
  obtain ⟨f0,f1,f2,f3,f4,f5,f6,f7,f8,f9,f10⟩:=cells11 H.bF
  obtain ⟨pf0,pf1,pf2,pf3,pf4⟩:=frz5 H.bS
  obtain ⟨ff0,ff1,ff2,ff3,ff4,ff5,ff6,ff7,ff8,ff9,ff10⟩:=frz11 H.bF
  go_upto_region 5 with (fail)
  clear p0 p1 p2 p3 p4 f0 f1 f2 f3 f4 f5 f6 f7 f8 f9 f10 pf0 pf1 pf2 pf3 pf4 ff0 ff1 ff2 ff3 ff4 ff5 ff6 ff7 ff8 ff9 ff10
  have rV2:RowV (V3 w) w6 AS xs:=RowV.old hS H.be (fun _ h=>v3_ge h)
  subst hl2
  clear e3 HSN z0 z1 z2
  obtain ⟨AN,hAN⟩:∃ v,v = AS:=⟨_,rfl⟩
  subst hAN
  obtain ⟨cN,hcN⟩:∃ v,v = cS:=⟨_,rfl⟩
  subst hcN
  obtain ⟨w8,hw8⟩:∃ v,v = w6:=⟨_,rfl⟩
  subst hw8
  clear hS h6 hcS
 case' neg =>
  have e3:(vv != 0) = true:=by simpa using q0
  have e1:¬ vv = 0:=q0
  by_cases q1:xs.length < 24
  case' pos =>
   have hl2:l = xs++[vv]:=by rw [HSN.out];unfold pSeen;rw [if_pos ⟨q0,q1⟩]
   have e2:(xs.length:Int) < 24:=by omega
   have HMo:=hid (show ∀ w',Row w' AS xs→Calls Tryz.prog 121 #[.slice AS xs.length cS,.int .i64 vv] w' (fun e w''=>∃ (A':Option Addr) (c':Nat),e = .returned (.slice A' l.length c')∧Row w'' A' l∧l.length≤c'∧Below w'.heap.size w' w''∧∀ q,A' = some q→w'.heap.size≤q.block) from fun w' k1=>by have h9:=more_any AS cS xs vv w' k1 hcS h6;rw [← hl2] at h9;exact h9)
   clear hl2 q0 q1 HSN
   obtain ⟨p0,p1,p2,p3,p4⟩:=cells5 H.bS
   obtain ⟨f0,f1,f2,f3,f4,f5,f6,f7,f8,f9,f10⟩:=cells11 H.bF
   obtain ⟨pf0,pf1,pf2,pf3,pf4⟩:=frz5 H.bS
   obtain ⟨ff0,ff1,ff2,ff3,ff4,ff5,ff6,ff7,ff8,ff9,ff10⟩:=frz11 H.bF
   go_upto_region 5 with (go_at_call 121;(with_reducible refine (HMo.out _ (hS.step H.be)).mono ?_);rintro e w7 ⟨AN,cN,rfl,rA3,hc3,hk7,hn7⟩;have K7:=H.step hk7;obtain ⟨-,-,-,-,-,-,-,-,-,-,g10,-,-,-,-,-,-,-,-,-,-,gf10⟩:=cf11 K7.bF)
   have rV:RowV (V3 w) w7 AN l:=RowV.of rA3 (fun q e h=>by have:=hn7 q e;have:=v3_bd h;omega)
   have rV2:RowV (V3 w) (w7.setCell ⟨w.heap.size+1,10,none⟩ (.slice AN l.length cN)) AN l:=rV.turn (Turn.set (p:=V3 w) (Turn.refl _ _) (.inr (.inl rfl)) _ _)
   have K8:=K7.putF 10 (.slice AN l.length cN)
   clear H K7 rV hk7 hn7 hc3 rA3 z0 z1 z2 g10 gf10 e1 e2 e3 HMo hS h6 hcS
   clear p0 p1 p2 p3 p4 f0 f1 f2 f3 f4 f5 f6 f7 f8 f9 f10 pf0 pf1 pf2 pf3 pf4 ff0 ff1 ff2 ff3 ff4 ff5 ff6 ff7 ff8 ff9 ff10
   generalize w7.setCell ⟨w.heap.size+1,10,none⟩ (.slice AN l.length cN) = w8 at *
   have H:SF w s2 A2 B2 C L a2 b2 c d (uF op pc r0 r1 r2 r3 r4 r5 r6 r7 AN l cN) w8:=K8
   clear K8
  case' neg =>
   have hl2:l = xs:=by rw [HSN.out];unfold pSeen;rw [if_neg (by intro h;omega)]
   have e2:¬ (xs.length:Int) < 24:=by omega
   clear q0 q1
   obtain ⟨p0,p1,p2,p3,p4⟩:=cells5 H.bS
   obtain ⟨f0,f1,f2,f3,f4,f5,f6,f7,f8,f9,f10⟩:=cells11 H.bF
   obtain ⟨pf0,pf1,pf2,pf3,pf4⟩:=frz5 H.bS
   obtain ⟨ff0,ff1,ff2,ff3,ff4,ff5,ff6,ff7,ff8,ff9,ff10⟩:=frz11 H.bF
   go_upto_region 5 with (fail)
   clear p0 p1 p2 p3 p4 f0 f1 f2 f3 f4 f5 f6 f7 f8 f9 f10 pf0 pf1 pf2 pf3 pf4 ff0 ff1 ff2 ff3 ff4 ff5 ff6 ff7 ff8 ff9 ff10
   have rV2:RowV (V3 w) w6 AS xs:=RowV.old hS H.be (fun _ h=>v3_ge h)
   subst hl2
   clear e3 e2 e1 HSN z0 z1 z2
   obtain ⟨AN,hAN⟩:∃ v,v = AS:=⟨_,rfl⟩
   subst hAN
   obtain ⟨cN,hcN⟩:∃ v,v = cS:=⟨_,rfl⟩
   subst hcN
   obtain ⟨w8,hw8⟩:∃ v,v = w6:=⟨_,rfl⟩
   subst hw8
   clear hS h6 hcS
 all_goals
  obtain ⟨z0,z1,z2⟩:=H.zs
  obtain ⟨p0,p1,p2,p3,p4⟩:=cells5 H.bS
  obtain ⟨f0,f1,f2,f3,f4,f5,f6,f7,f8,f9,f10⟩:=cells11 H.bF
  obtain ⟨pf0,pf1,pf2,pf3,pf4⟩:=frz5 H.bS
  obtain ⟨ff0,ff1,ff2,ff3,ff4,ff5,ff6,ff7,ff8,ff9,ff10⟩:=frz11 H.bF
  go_upto_region 6 with (fail)
  have rV3:RowV (V3 w) (w8.setCell ⟨w.heap.size+1,2,none⟩ (.int .i64 (wrap64 (r0+1)))) AN l:=rV2.turn (Turn.set (p:=V3 w) (Turn.refl _ _) (.inr (.inl rfl)) _ _)
  have K8:=H.putF 2 (.int .i64 (wrap64 (r0+1)))
  clear H rV2 z0 z1 z2
  clear p0 p1 p2 p3 p4 f0 f1 f2 f3 f4 f5 f6 f7 f8 f9 f10 pf0 pf1 pf2 pf3 pf4 ff0 ff1 ff2 ff3 ff4 ff5 ff6 ff7 ff8 ff9 ff10
  generalize w8.setCell ⟨w.heap.size+1,2,none⟩ (.int .i64 (wrap64 (r0+1))) = w9 at *
  have rV2:=rV3
  clear rV3
  have H:SF w s2 A2 B2 C L a2 b2 c d (uF op pc (wrap64 (r0+1)) r1 r2 r3 r4 r5 r6 r7 AN l cN) w9:=K8
  clear K8
  obtain ⟨z0,z1,z2⟩:=H.zs
  have hm:wrap64 (3 * (s2.C.length:Int)) = 3 * (s2.C.length:Int):=by have:=fw.2.2.1;unfold wrap64;omega
  rw [← HNX.out] at H
  by_cases hu:3 * (s2.C.length:Int)≤nx
  case' pos =>
   have hp:pn = 1:=by rw [HPN.out,if_pos (by rw [← HLC.out];exact hu)]
   obtain ⟨p0,p1,p2,p3,p4⟩:=cells5 H.bS
   obtain ⟨f0,f1,f2,f3,f4,f5,f6,f7,f8,f9,f10⟩:=cells11 H.bF
   obtain ⟨pf0,pf1,pf2,pf3,pf4⟩:=frz5 H.bS
   obtain ⟨ff0,ff1,ff2,ff3,ff4,ff5,ff6,ff7,ff8,ff9,ff10⟩:=frz11 H.bF
   go_upto_region 7 with (fail)
   go_upto_region 8 with (fail)
   have rV3:RowV (V3 w) (w9.setCell ⟨w.heap.size+1,1,none⟩ (.int .i64 1)) AN l:=rV2.turn (Turn.set (p:=V3 w) (Turn.refl _ _) (.inr (.inl rfl)) _ _)
   have K8:=H.putF 1 (.int .i64 1)
   clear H rV2 z0 z1 z2
   clear p0 p1 p2 p3 p4 f0 f1 f2 f3 f4 f5 f6 f7 f8 f9 f10 pf0 pf1 pf2 pf3 pf4 ff0 ff1 ff2 ff3 ff4 ff5 ff6 ff7 ff8 ff9 ff10
   generalize w9.setCell ⟨w.heap.size+1,1,none⟩ (.int .i64 1) = wA at *
   have rV2:=rV3
   clear rV3
   have H:SF w s2 A2 B2 C L a2 b2 c d (uF op 1 nx r1 r2 r3 r4 r5 r6 r7 AN l cN) wA:=K8
   clear K8
   obtain ⟨z0,z1,z2⟩:=H.zs
   replace H:SF w s2 A2 B2 C L a2 b2 c d (uF op pn nx r1 r2 r3 r4 r5 r6 r7 AN l cN) wA:=by rw [hp];exact H
   clear hm hu hp z0 z1 z2
  case' neg =>
   have hp:pn = pc:=by rw [HPN.out,if_neg (by rw [← HLC.out];exact hu)]
   obtain ⟨p0,p1,p2,p3,p4⟩:=cells5 H.bS
   obtain ⟨f0,f1,f2,f3,f4,f5,f6,f7,f8,f9,f10⟩:=cells11 H.bF
   obtain ⟨pf0,pf1,pf2,pf3,pf4⟩:=frz5 H.bS
   obtain ⟨ff0,ff1,ff2,ff3,ff4,ff5,ff6,ff7,ff8,ff9,ff10⟩:=frz11 H.bF
   go_upto_region 8 with (fail)
   clear p0 p1 p2 p3 p4 f0 f1 f2 f3 f4 f5 f6 f7 f8 f9 f10 pf0 pf1 pf2 pf3 pf4 ff0 ff1 ff2 ff3 ff4 ff5 ff6 ff7 ff8 ff9 ff10
   replace H:SF w s2 A2 B2 C L a2 b2 c d (uF op pn nx r1 r2 r3 r4 r5 r6 r7 AN l cN) w9:=by rw [hp];exact H
   obtain ⟨wA,hwA⟩:∃ v,v = w9:=⟨_,rfl⟩
   subst hwA
   clear hm hu hp z0 z1 z2
  all_goals
   obtain ⟨z0,z1,z2⟩:=H.zs
   obtain ⟨p0,p1,p2,p3,p4⟩:=cells5 H.bS
   obtain ⟨f0,f1,f2,f3,f4,f5,f6,f7,f8,f9,f10⟩:=cells11 H.bF
   go_wp2_with (go_at_call 50;(with_reducible refine (HSet.out A2 B2 AN a2 b2 cN _ H.rs rV2.row).mono ?_);rintro e wz hN;have hz:=hN.2;obtain ⟨A9,B9,C9,L9,a9,b9,c9,d9,he,_,_,_,_,_⟩:=hN.1 wz (Turn.refl _ _);subst he;have HN:=hid hN;clear hN;have kR:=(hz.block (w.heap.size+1+1) z2).trans H.bR;have kb:=bstep H.be hz;obtain ⟨q0,q1,q2,q3,q4,qf0,qf1,qf2,qf3,qf4⟩:=cf5 kR)
   refine bodyPost_ret (v:=.agg (uS A9 B9 C9 L9 a9 b9 c9 d9 t9)) (by simp [uS,results,Tryz.results113,go_sem,q0,q1,q2,q3,q4]) rfl ?_
   exact ret_resN _ _ _ _ _ HN.out z2 (by omega) kb
end Go.Proofs.YtfipcdhodojodaaGreat
