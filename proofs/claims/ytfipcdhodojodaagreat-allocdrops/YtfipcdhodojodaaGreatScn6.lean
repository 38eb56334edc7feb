/- Contract: scan.retire, by the program. -/
import Derived.Test.YtfipcdhodojodaaGreatScn5
namespace Go.Proofs.YtfipcdhodojodaaGreat
open Go.RowKit
set_option maxRecDepth 100000
set_option maxHeartbeats 4000000
set_option linter.unusedVariables false
set_option linter.unusedSimpArgs false
theorem retire_full (A B C L:Option Addr) (a b c d:Nat) (s:Sy) (k:Nat) (x:Co) (AS:Option Addr) (cS:Nat) (op pc r0 r1 r2 r3 r4 r5 r6 r7:Int) (xs:List Int) (w:World) (hs:SyFew s) (hg:2≤s.M.G.length) (h:RS w s A B C L) (hS:Row w AS xs) (h6:xs.length≤1000000) (hx:s.C[k]? = some x) (hq:200≤x.ret.length) :
  Calls Tryz.prog 110 #[.agg (uS A B C L a b c d s),.int .i64 k,.agg (uF op pc r0 r1 r2 r3 r4 r5 r6 r7 AS xs cS)] w (RetSysN w (pBack s k 0 2)):=by
 have hkl:k < s.C.length:=(List.getElem?_eq_some_iff.1 hx).1
 have kl:(k:Int) < (s.C.length:Int):=by omega
 have k0:(0:Int)≤(k:Int):=by omega
 have h2:=hs.2.2.1
 have hC0:=h.C
 obtain ⟨b0,o0,rfl,hbl,hat⟩:=h.C (by omega)
 obtain ⟨AF,AR,cF,cR,hcs,rF,rR,hcF,hcR⟩:=(hat k x hx).cs4
 have c6:w.cell? ⟨b0,o0+k * 7+6,none⟩ = some (.slice AR x.ret.length cR):=hcs 6 _ rfl
 have hrl:x.ret.length≤1000000:=(hs.2.2.2.2 x (List.mem_of_getElem? hx)).1
 have HX:=hid hx
 have HC0:=hid hC0
 clear hat hcs hx rF hcF hC0
 have h0:=hs.1
 have h1:=hs.2.1
 have H:=SF.start w s A B (some ⟨b0,o0,none⟩) L a b c d (uF op pc r0 r1 r2 r3 r4 r5 r6 r7 AS xs cS) h
 clear h
 go_enter Tryz.func110,Tryz.ntmps110
 go_upto_region 1 with (fail)
 generalize (((w.alloc (.cells (uS A B (some ⟨b0,o0,none⟩) L a b c d s) 30)).alloc (.cells (uF op pc r0 r1 r2 r3 r4 r5 r6 r7 AS xs cS) 60)).alloc (.cells uZ 30)) = w1 at *
 obtain ⟨z0,z1,z2⟩:=H.zs
 have d6:=(H.be.cell hbl).trans c6
 obtain ⟨p0,p1,p2,p3,p4⟩:=cells5 H.bS
 obtain ⟨f0,f1,f2,f3,f4,f5,f6,f7,f8,f9,f10⟩:=cells11 H.bF
 go_upto_region 2 with (go_quiet (fail))
 clear p0 p1 p2 p3 p4 f0 f1 f2 f3 f4 f5 f6 f7 f8 f9 f10
 have hkq:Below w1.heap.size w1 (w1.drewN nq):=bdrewN (Below.refl _ _) nq
 have d7:=(hkq.cell (World.block_lt_of_cell? w1 _ d6)).trans d6
 have K:=H.step hkq
 clear H hkq d6 z0 z1 z2
 have H:=K
 clear K
 have d6:=d7
 clear d7
 generalize w1.drewN nq = w2 at *
 obtain ⟨z0,z1,z2⟩:=H.zs
 obtain ⟨p0,p1,p2,p3,p4⟩:=cells5 H.bS
 have q2:(200:Int)≤(x.ret.length:Int):=by omega
 clear hq
 go_wp2_with (go_at_call 49;(with_reducible refine (back_uN A B (some ⟨b0,o0,none⟩) L a b c d s k 0 2 _ hs H.rs).mono ?_);rintro e wz hN;have hz:=hN.2;obtain ⟨A9,B9,C9,L9,a9,b9,c9,d9,he,_,_,_,_,_⟩:=hN.1 wz (Turn.refl _ _);subst he;have HN:=hid hN;clear hN;have kR:=(hz.block (w.heap.size+1+1) z2).trans H.bR;have kb:=bstep H.be hz;obtain ⟨q0,q1,q2,q3,q4,qf0,qf1,qf2,qf3,qf4⟩:=cf5 kR)
 refine bodyPost_ret (v:=.agg (uS A9 B9 C9 L9 a9 b9 c9 d9 (pBack s k 0 2))) (by simp [uS,results,Tryz.results110,go_sem,q0,q1,q2,q3,q4]) rfl ?_
 exact ret_resN _ _ _ _ _ HN.out z2 (by omega) kb
theorem retire_lt (A B C L:Option Addr) (a b c d:Nat) (s:Sy) (k:Nat) (x:Co) (AS:Option Addr) (cS:Nat) (op pc r0 r1 r2 r3 r4 r5 r6 r7:Int) (xs:List Int) (w:World) (hs:SyFew s) (hg:2≤s.M.G.length) (h:RS w s A B C L) (hS:Row w AS xs) (h6:xs.length≤1000000) (hx:s.C[k]? = some x) (hq:¬ 200≤x.ret.length) (hn:x.ret.length+1 < 3 * s.C.length+1) :
  Calls Tryz.prog 110 #[.agg (uS A B C L a b c d s),.int .i64 k,.agg (uF op pc r0 r1 r2 r3 r4 r5 r6 r7 AS xs cS)] w (RetSysN w (pBack (pMore s k r0) k r0 0)):=by
 have hkl:k < s.C.length:=(List.getElem?_eq_some_iff.1 hx).1
 have kl:(k:Int) < (s.C.length:Int):=by omega
 have k0:(0:Int)≤(k:Int):=by omega
 have h2:=hs.2.2.1
 have hC0:=h.C
 obtain ⟨b0,o0,rfl,hbl,hat⟩:=h.C (by omega)
 obtain ⟨AF,AR,cF,cR,hcs,rF,rR,hcF,hcR⟩:=(hat k x hx).cs4
 have c6:w.cell? ⟨b0,o0+k * 7+6,none⟩ = some (.slice AR x.ret.length cR):=hcs 6 _ rfl
 have hrl:x.ret.length≤1000000:=(hs.2.2.2.2 x (List.mem_of_getElem? hx)).1
 have HX:=hid hx
 have HC0:=hid hC0
 clear hat hcs hx rF hcF hC0
 obtain ⟨l,hl⟩:∃ l,l = x.ret++[r0]:=⟨_,rfl⟩
 have hll:l.length = x.ret.length+1:=by rw [hl];simp
 have HMo:=hid (show ∀ w',Row w' AR x.ret→Calls Tryz.prog 121 #[.slice AR x.ret.length cR,.int .i64 r0] w' (fun e w''=>∃ (A':Option Addr) (c':Nat),e = .returned (.slice A' l.length c')∧Row w'' A' l∧l.length≤c'∧Below w'.heap.size w' w''∧∀ q,A' = some q→w'.heap.size≤q.block) from fun w' k1=>by have h9:=more_any AR cR x.ret r0 w' k1 hcR hrl;rw [← hl] at h9;exact h9)
 obtain ⟨s2,hs2⟩:∃ t,t = syWith s k (coKeep x l):=⟨_,rfl⟩
 have hM2:s2.M = s.M:=by rw [hs2];rfl
 have hC2:s2.C = s.C.set k (coKeep x l):=by rw [hs2];rfl
 have hL2:s2.L = s.L:=by rw [hs2];rfl
 have hCl:s2.C.length = s.C.length:=by rw [hC2];simp
 have fw:SyFew s2:=by rw [hs2];exact few_keep hs HX.out (by omega)
 obtain ⟨t3,ht3⟩:∃ t,t = syMem s2 (mTurn s2.M r0 2):=⟨_,rfl⟩
 have hl3:(mTurn s2.M r0 2).G.length = s2.M.G.length:=by unfold mTurn;dsimp only;split <;> simp
 have ft:SyFew t3:=by rw [ht3];exact few_mem fw rfl hl3
 have htC:t3.C = s2.C:=by rw [ht3];rfl
 have hk2:s2.C[k]? = some (coKeep x l):=by rw [hC2];exact List.getElem?_set_self hkl
 have hres:pMore s k r0 = t3:=by unfold pMore;rw [pRet_nat HX.out,pKeep_nat HX.out,← hl,← hs2,← hM2,ht3]
 rw [hres]
 have HLn:=hid hll
 clear hl hll
 have HS2:=hid hs2
 have HT3:=hid ht3
 have HL3:=hid hl3
 have HM2:=hid hM2
 have HC2:=hid hC2
 have HLL:=hid hL2
 have HCl:=hid hCl
 have HK2:=hid hk2
 have HTC:=hid htC
 clear hs2 ht3 hl3 hM2 hC2 hL2 hCl hk2 htC hres
 have h0:=hs.1
 have h1:=hs.2.1
 have H:=SF.start w s A B (some ⟨b0,o0,none⟩) L a b c d (uF op pc r0 r1 r2 r3 r4 r5 r6 r7 AS xs cS) h
 clear h
 go_enter Tryz.func110,Tryz.ntmps110
 go_upto_region 1 with (fail)
 generalize (((w.alloc (.cells (uS A B (some ⟨b0,o0,none⟩) L a b c d s) 30)).alloc (.cells (uF op pc r0 r1 r2 r3 r4 r5 r6 r7 AS xs cS) 60)).alloc (.cells uZ 30)) = w1 at *
 obtain ⟨z0,z1,z2⟩:=H.zs
 have d6:=(H.be.cell hbl).trans c6
 obtain ⟨p0,p1,p2,p3,p4⟩:=cells5 H.bS
 obtain ⟨f0,f1,f2,f3,f4,f5,f6,f7,f8,f9,f10⟩:=cells11 H.bF
 go_upto_region 2 with (go_quiet (fail))
 clear p0 p1 p2 p3 p4 f0 f1 f2 f3 f4 f5 f6 f7 f8 f9 f10
 have hkq:Below w1.heap.size w1 (w1.drewN nq):=bdrewN (Below.refl _ _) nq
 have d7:=(hkq.cell (World.block_lt_of_cell? w1 _ d6)).trans d6
 have K:=H.step hkq
 clear H hkq d6 z0 z1 z2
 have H:=K
 clear K
 have d6:=d7
 clear d7
 generalize w1.drewN nq = w2 at *
 obtain ⟨z0,z1,z2⟩:=H.zs
 have q2:¬ (200:Int)≤(x.ret.length:Int):=by omega
 go_upto_region 4 with (fail)
 have HD:=H.step ((Below.refl _ _).drew)
 clear d6
 obtain ⟨p0,p1,p2,p3,p4,pf0,pf1,pf2,pf3,pf4⟩:=cf5 H.bS
 go_cut [7] from 24 (fun s0 wx=>s0 = .int .i64 r0∧∃ (C2:Option Addr) (c2:Nat),SG w ⟨s.M,s.C.set k (coKeep x l),s.L⟩ A B C2 L a b c2 d (uF op pc r0 r1 r2 r3 r4 r5 r6 r7 AS xs cS) wx)
 case first =>
  go_region_with (first | (go_at_call 121;(with_reducible refine (HMo.out _ (rR.step HD.be)).mono ?_);rintro e w3 ⟨A3,c3,rfl,rA3,hc3,hk3,hn3⟩;have K3:=HD.step hk3;obtain ⟨u0,u1,u2,u3,u4,uf0,uf1,uf2,uf3,uf4⟩:=cf5 K3.bS) | (go_at_call 120;(with_reducible refine (keep_any A B (some ⟨b0,o0,none⟩) L a b c d s k x A3 c3 l (V3 w) w w3 HX.out h2 HC0.out K3.be (fun b h=>by have:=K3.lt;have:=v3_bd h;omega) (RowV.of rA3 (fun q e h=>by have:=hn3 q e;have:=HD.lt;have:=v3_bd h;omega)) hc3).mono ?_);rintro e w4 ⟨C4,c4,rfl,rC4,hk4⟩;have K4:=K3.step hk4;obtain ⟨v0,v1,v2,v3,v4,vf0,vf1,vf2,vf3,vf4⟩:=cf5 K4.bS))
  all_goals go_wp2_with fail
  all_goals go_meet
  all_goals exact ⟨rfl,C4,c4,K4.sg.putC (by simp) rC4⟩
 case rest =>
  obtain ⟨rfl,C2,c2,H2⟩:=hcut
  clear H HD z0 z1 z2 p0 p1 p2 p3 p4 pf0 pf1 pf2 pf3 pf4
  rw [← HM2.out,← HC2.out,← HLL.out] at H2
  have H:SG w s2 A B C2 L a b c2 d (uF op pc r0 r1 r2 r3 r4 r5 r6 r7 AS xs cS) wc:=H2
  clear H2
  obtain ⟨z0,z1,z2⟩:=H.zs
  have fw1:s2.M.W.length≤1000000:=fw.1
  have fw2:s2.M.G.length≤1000000:=fw.2.1
  obtain ⟨p0,p1,p2,p3,p4,pf0,pf1,pf2,pf3,pf4⟩:=cf5 H.bS
  go_upto_region 6 with (go_at_call 119;(with_reducible refine (turn_o A B a b s2.M r0 2 _ H.rW H.rG fw1 fw2).mono ?_);rintro e w5 ⟨A3,B3,a3,b3,rfl,s1,s2',hk5,F1,F2⟩;have K5:=H.step hk5;obtain ⟨v0,v1,v2,v3,v4,vf0,vf1,vf2,vf3,vf4⟩:=cf5 K5.bS)
  have K6:=K5.putM (a2:=a3) (b2:=b3) s1 s2' (H.whW F1 rfl) (H.whG F2 HL3.out)
  clear H K5 F1 F2 s1 s2' hk5 z0 z1 z2 fw1 fw2 v0 vf0 v1 vf1 v2 vf2 v3 vf3 v4 vf4
  clear p0 p1 p2 p3 p4 pf0 pf1 pf2 pf3 pf4
  generalize ((w5.setCell ⟨w.heap.size,0,none⟩ (.slice A3 (mTurn s2.M r0 2).W.length a3)).setCell ⟨w.heap.size,1,none⟩ (.slice B3 (mTurn s2.M r0 2).G.length b3)).setCell ⟨w.heap.size,2,none⟩ (.bool (mTurn s2.M r0 2).bad) = w6 at *
  rw [← HT3.out] at K6
  have H:=K6
  clear K6
  obtain ⟨z0,z1,z2⟩:=H.zs
  have hk3:t3.C[k]? = some (coKeep x l):=by rw [HTC.out];exact HK2.out
  have hcl:t3.C.length = s.C.length:=by rw [HTC.out];exact HCl.out
  have kl3:(k:Int) < (t3.C.length:Int):=by omega
  have hl3:t3.C.length≤1000000:=by omega
  have hll:=HLn.out
  obtain ⟨bC,oC,eC,hbC,hatC⟩:=H.rC.row (by omega)
  subst eC
  obtain ⟨AF9,AR9,cF9,cR9,hc9,_,_,_,_⟩:=(hatC k _ hk3).cs4
  have g6:w6.cell? ⟨bC,oC+k * 7+6,none⟩ = some (.slice AR9 l.length cR9):=hc9 6 _ rfl
  clear hatC hc9
  obtain ⟨p0,p1,p2,p3,p4⟩:=cells5 H.bS
  have KS:=hid (show ∀ w',Below w6.heap.size w6 w'→(w'.cell? ⟨w.heap.size,0,none⟩ = some (.slice A3 t3.M.W.length a3)∧w'.cell? ⟨w.heap.size,1,none⟩ = some (.slice B3 t3.M.G.length b3)∧w'.cell? ⟨w.heap.size,2,none⟩ = some (.bool t3.M.bad)∧w'.cell? ⟨w.heap.size,3,none⟩ = some (.slice (some ⟨bC,oC,none⟩) t3.C.length c2)∧w'.cell? ⟨w.heap.size,4,none⟩ = some (.slice L t3.L.length d)∧w'.cell? ⟨bC,oC+k * 7+6,none⟩ = some (.slice AR9 l.length cR9)) from fun w' h=>⟨(h.cell z0).trans p0,(h.cell z0).trans p1,(h.cell z0).trans p2,(h.cell z0).trans p3,(h.cell z0).trans p4,(h.cell hbC).trans g6⟩)
  have HLM:=hid (show ∀ w',Calls Tryz.prog 122 #[.int .i64 (t3.C.length:Int)] w' fun e w2=>e = .returned (.int .i64 (3 * (t3.C.length:Int)+1))∧w' = w2 from fun w'=>by have h9:=limit_any (t3.C.length:Int) w';rw [pLimit_in (by omega) (by omega)] at h9;exact h9)
  have q3: (l.length:Int) < 3 * (t3.C.length:Int)+1:=by omega
  clear hll hcl
  go_upto_region 6 with (fail)
  go_region_held3 (fun w'=>w'.cell? ⟨w.heap.size,0,none⟩ = some (.slice A3 t3.M.W.length a3)∧w'.cell? ⟨w.heap.size,1,none⟩ = some (.slice B3 t3.M.G.length b3)∧w'.cell? ⟨w.heap.size,2,none⟩ = some (.bool t3.M.bad)∧w'.cell? ⟨w.heap.size,3,none⟩ = some (.slice (some ⟨bC,oC,none⟩) t3.C.length c2)∧w'.cell? ⟨w.heap.size,4,none⟩ = some (.slice L t3.L.length d)∧w'.cell? ⟨bC,oC+k * 7+6,none⟩ = some (.slice AR9 l.length cR9)) (exact KS.out _ (by repeat (first | (with_reducible exact Below.refl _ _) | (with_reducible refine Below.drew ?_))))
   (first | (go_at_call 122;(with_reducible refine (HLM.out _).mono ?_);rintro e wL ⟨rfl,rfl⟩))
  rename_i hHeld
  clear hHeld KS
  clear p0 p1 p2 p3 p4
  have K:=H.step ((Below.refl _ _).drew)
  clear H z0 z1 z2
  have H:=K
  clear K
  generalize w6.drew = w7 at *
  obtain ⟨z0,z1,z2⟩:=H.zs
  obtain ⟨p0,p1,p2,p3,p4⟩:=cells5 H.bS
  go_wp2_with (go_at_call 49;(with_reducible refine (back_uN A3 B3 (some ⟨bC,oC,none⟩) L a3 b3 c2 d t3 k r0 0 _ ft H.rs).mono ?_);rintro e wz hN;have hz:=hN.2;obtain ⟨A9,B9,C9,L9,a9,b9,c9,d9,he,_,_,_,_,_⟩:=hN.1 wz (Turn.refl _ _);subst he;have HN:=hid hN;clear hN;have kR:=(hz.block (w.heap.size+1+1) z2).trans H.bR;have kb:=bstep H.be hz;obtain ⟨q0,q1,q2,q3,q4,qf0,qf1,qf2,qf3,qf4⟩:=cf5 kR)
  refine bodyPost_ret (v:=.agg (uS A9 B9 C9 L9 a9 b9 c9 d9 (pBack t3 k r0 0))) (by simp [uS,results,Tryz.results110,go_sem,q0,q1,q2,q3,q4]) rfl ?_
  exact ret_resN _ _ _ _ _ HN.out z2 (by omega) kb
theorem retire_ge (A B C L:Option Addr) (a b c d:Nat) (s:Sy) (k:Nat) (x:Co) (AS:Option Addr) (cS:Nat) (op pc r0 r1 r2 r3 r4 r5 r6 r7:Int) (xs:List Int) (w:World) (hs:SyFew s) (hg:2≤s.M.G.length) (h:RS w s A B C L) (hS:Row w AS xs) (h6:xs.length≤1000000) (hx:s.C[k]? = some x) (hq:¬ 200≤x.ret.length) (hn:¬ x.ret.length+1 < 3 * s.C.length+1) :
  Calls Tryz.prog 110 #[.agg (uS A B C L a b c d s),.int .i64 k,.agg (uF op pc r0 r1 r2 r3 r4 r5 r6 r7 AS xs cS)] w (RetSysN w (pCall (pSet (pMore s k r0) k ⟨op,1,[r0,r1,r2,r3,r4,r5,r6,r7],xs⟩) k (frS 6 0))):=by
 have hkl:k < s.C.length:=(List.getElem?_eq_some_iff.1 hx).1
 have kl:(k:Int) < (s.C.length:Int):=by omega
 have k0:(0:Int)≤(k:Int):=by omega
 have h2:=hs.2.2.1
 have hC0:=h.C
 obtain ⟨b0,o0,rfl,hbl,hat⟩:=h.C (by omega)
 obtain ⟨AF,AR,cF,cR,hcs,rF,rR,hcF,hcR⟩:=(hat k x hx).cs4
 have c6:w.cell? ⟨b0,o0+k * 7+6,none⟩ = some (.slice AR x.ret.length cR):=hcs 6 _ rfl
 have hrl:x.ret.length≤1000000:=(hs.2.2.2.2 x (List.mem_of_getElem? hx)).1
 have HX:=hid hx
 have HC0:=hid hC0
 clear hat hcs hx rF hcF hC0
 obtain ⟨l,hl⟩:∃ l,l = x.ret++[r0]:=⟨_,rfl⟩
 have hll:l.length = x.ret.length+1:=by rw [hl];simp
 have HMo:=hid (show ∀ w',Row w' AR x.ret→Calls Tryz.prog 121 #[.slice AR x.ret.length cR,.int .i64 r0] w' (fun e w''=>∃ (A':Option Addr) (c':Nat),e = .returned (.slice A' l.length c')∧Row w'' A' l∧l.length≤c'∧Below w'.heap.size w' w''∧∀ q,A' = some q→w'.heap.size≤q.block) from fun w' k1=>by have h9:=more_any AR cR x.ret r0 w' k1 hcR hrl;rw [← hl] at h9;exact h9)
 obtain ⟨s2,hs2⟩:∃ t,t = syWith s k (coKeep x l):=⟨_,rfl⟩
 have hM2:s2.M = s.M:=by rw [hs2];rfl
 have hC2:s2.C = s.C.set k (coKeep x l):=by rw [hs2];rfl
 have hL2:s2.L = s.L:=by rw [hs2];rfl
 have hCl:s2.C.length = s.C.length:=by rw [hC2];simp
 have fw:SyFew s2:=by rw [hs2];exact few_keep hs HX.out (by omega)
 obtain ⟨t3,ht3⟩:∃ t,t = syMem s2 (mTurn s2.M r0 2):=⟨_,rfl⟩
 have hl3:(mTurn s2.M r0 2).G.length = s2.M.G.length:=by unfold mTurn;dsimp only;split <;> simp
 have ft:SyFew t3:=by rw [ht3];exact few_mem fw rfl hl3
 have htC:t3.C = s2.C:=by rw [ht3];rfl
 have hk2:s2.C[k]? = some (coKeep x l):=by rw [hC2];exact List.getElem?_set_self hkl
 have hres:pMore s k r0 = t3:=by unfold pMore;rw [pRet_nat HX.out,pKeep_nat HX.out,← hl,← hs2,← hM2,ht3]
 rw [hres]
 obtain ⟨t8,ht8⟩:∃ t,t = pSet t3 k ⟨op,1,[r0,r1,r2,r3,r4,r5,r6,r7],xs⟩:=⟨_,rfl⟩
 rw [← ht8]
 unfold frS
 have HT8:=hid ht8
 clear ht8
 have HLn:=hid hll
 clear hl hll
 have HS2:=hid hs2
 have HT3:=hid ht3
 have HL3:=hid hl3
 have HM2:=hid hM2
 have HC2:=hid hC2
 have HLL:=hid hL2
 have HCl:=hid hCl
 have HK2:=hid hk2
 have HTC:=hid htC
 clear hs2 ht3 hl3 hM2 hC2 hL2 hCl hk2 htC hres
 have h0:=hs.1
 have h1:=hs.2.1
 have H:=SF.start w s A B (some ⟨b0,o0,none⟩) L a b c d (uF op pc r0 r1 r2 r3 r4 r5 r6 r7 AS xs cS) h
 clear h
 go_enter Tryz.func110,Tryz.ntmps110
 go_upto_region 1 with (fail)
 generalize (((w.alloc (.cells (uS A B (some ⟨b0,o0,none⟩) L a b c d s) 30)).alloc (.cells (uF op pc r0 r1 r2 r3 r4 r5 r6 r7 AS xs cS) 60)).alloc (.cells uZ 30)) = w1 at *
 obtain ⟨z0,z1,z2⟩:=H.zs
 have d6:=(H.be.cell hbl).trans c6
 obtain ⟨p0,p1,p2,p3,p4⟩:=cells5 H.bS
 obtain ⟨f0,f1,f2,f3,f4,f5,f6,f7,f8,f9,f10⟩:=cells11 H.bF
 go_upto_region 2 with (go_quiet (fail))
 clear p0 p1 p2 p3 p4 f0 f1 f2 f3 f4 f5 f6 f7 f8 f9 f10
 have hkq:Below w1.heap.size w1 (w1.drewN nq):=bdrewN (Below.refl _ _) nq
 have d7:=(hkq.cell (World.block_lt_of_cell? w1 _ d6)).trans d6
 have K:=H.step hkq
 clear H hkq d6 z0 z1 z2
 have H:=K
 clear K
 have d6:=d7
 clear d7
 generalize w1.drewN nq = w2 at *
 obtain ⟨z0,z1,z2⟩:=H.zs
 have q2:¬ (200:Int)≤(x.ret.length:Int):=by omega
 go_upto_region 4 with (fail)
 have HD:=H.step ((Below.refl _ _).drew)
 clear d6
 obtain ⟨p0,p1,p2,p3,p4,pf0,pf1,pf2,pf3,pf4⟩:=cf5 H.bS
 go_cut [7] from 24 (fun s0 wx=>s0 = .int .i64 r0∧∃ (C2:Option Addr) (c2:Nat),SG w ⟨s.M,s.C.set k (coKeep x l),s.L⟩ A B C2 L a b c2 d (uF op pc r0 r1 r2 r3 r4 r5 r6 r7 AS xs cS) wx)
 case first =>
  go_region_with (first | (go_at_call 121;(with_reducible refine (HMo.out _ (rR.step HD.be)).mono ?_);rintro e w3 ⟨A3,c3,rfl,rA3,hc3,hk3,hn3⟩;have K3:=HD.step hk3;obtain ⟨u0,u1,u2,u3,u4,uf0,uf1,uf2,uf3,uf4⟩:=cf5 K3.bS) | (go_at_call 120;(with_reducible refine (keep_any A B (some ⟨b0,o0,none⟩) L a b c d s k x A3 c3 l (V3 w) w w3 HX.out h2 HC0.out K3.be (fun b h=>by have:=K3.lt;have:=v3_bd h;omega) (RowV.of rA3 (fun q e h=>by have:=hn3 q e;have:=HD.lt;have:=v3_bd h;omega)) hc3).mono ?_);rintro e w4 ⟨C4,c4,rfl,rC4,hk4⟩;have K4:=K3.step hk4;obtain ⟨v0,v1,v2,v3,v4,vf0,vf1,vf2,vf3,vf4⟩:=cf5 K4.bS))
  all_goals go_wp2_with fail
  all_goals go_meet
  all_goals exact ⟨rfl,C4,c4,K4.sg.putC (by simp) rC4⟩
 case rest =>
  obtain ⟨rfl,C2,c2,H2⟩:=hcut
  clear H HD z0 z1 z2 p0 p1 p2 p3 p4 pf0 pf1 pf2 pf3 pf4
  rw [← HM2.out,← HC2.out,← HLL.out] at H2
  have H:SG w s2 A B C2 L a b c2 d (uF op pc r0 r1 r2 r3 r4 r5 r6 r7 AS xs cS) wc:=H2
  clear H2
  obtain ⟨z0,z1,z2⟩:=H.zs
  have fw1:s2.M.W.length≤1000000:=fw.1
  have fw2:s2.M.G.length≤1000000:=fw.2.1
  obtain ⟨p0,p1,p2,p3,p4,pf0,pf1,pf2,pf3,pf4⟩:=cf5 H.bS
  go_upto_region 6 with (go_at_call 119;(with_reducible refine (turn_o A B a b s2.M r0 2 _ H.rW H.rG fw1 fw2).mono ?_);rintro e w5 ⟨A3,B3,a3,b3,rfl,s1,s2',hk5,F1,F2⟩;have K5:=H.step hk5;obtain ⟨v0,v1,v2,v3,v4,vf0,vf1,vf2,vf3,vf4⟩:=cf5 K5.bS)
  have K6:=K5.putM (a2:=a3) (b2:=b3) s1 s2' (H.whW F1 rfl) (H.whG F2 HL3.out)
  clear H K5 F1 F2 s1 s2' hk5 z0 z1 z2 fw1 fw2 v0 vf0 v1 vf1 v2 vf2 v3 vf3 v4 vf4
  clear p0 p1 p2 p3 p4 pf0 pf1 pf2 pf3 pf4
  generalize ((w5.setCell ⟨w.heap.size,0,none⟩ (.slice A3 (mTurn s2.M r0 2).W.length a3)).setCell ⟨w.heap.size,1,none⟩ (.slice B3 (mTurn s2.M r0 2).G.length b3)).setCell ⟨w.heap.size,2,none⟩ (.bool (mTurn s2.M r0 2).bad) = w6 at *
  rw [← HT3.out] at K6
  have H:=K6
  clear K6
  obtain ⟨z0,z1,z2⟩:=H.zs
  have hk3:t3.C[k]? = some (coKeep x l):=by rw [HTC.out];exact HK2.out
  have hcl:t3.C.length = s.C.length:=by rw [HTC.out];exact HCl.out
  have kl3:(k:Int) < (t3.C.length:Int):=by omega
  have hl3:t3.C.length≤1000000:=by omega
  have hll:=HLn.out
  obtain ⟨bC,oC,eC,hbC,hatC⟩:=H.rC.row (by omega)
  subst eC
  obtain ⟨AF9,AR9,cF9,cR9,hc9,_,_,_,_⟩:=(hatC k _ hk3).cs4
  have g6:w6.cell? ⟨bC,oC+k * 7+6,none⟩ = some (.slice AR9 l.length cR9):=hc9 6 _ rfl
  clear hatC hc9
  obtain ⟨p0,p1,p2,p3,p4⟩:=cells5 H.bS
  have KS:=hid (show ∀ w',Below w6.heap.size w6 w'→(w'.cell? ⟨w.heap.size,0,none⟩ = some (.slice A3 t3.M.W.length a3)∧w'.cell? ⟨w.heap.size,1,none⟩ = some (.slice B3 t3.M.G.length b3)∧w'.cell? ⟨w.heap.size,2,none⟩ = some (.bool t3.M.bad)∧w'.cell? ⟨w.heap.size,3,none⟩ = some (.slice (some ⟨bC,oC,none⟩) t3.C.length c2)∧w'.cell? ⟨w.heap.size,4,none⟩ = some (.slice L t3.L.length d)∧w'.cell? ⟨bC,oC+k * 7+6,none⟩ = some (.slice AR9 l.length cR9)) from fun w' h=>⟨(h.cell z0).trans p0,(h.cell z0).trans p1,(h.cell z0).trans p2,(h.cell z0).trans p3,(h.cell z0).trans p4,(h.cell hbC).trans g6⟩)
  have HLM:=hid (show ∀ w',Calls Tryz.prog 122 #[.int .i64 (t3.C.length:Int)] w' fun e w2=>e = .returned (.int .i64 (3 * (t3.C.length:Int)+1))∧w' = w2 from fun w'=>by have h9:=limit_any (t3.C.length:Int) w';rw [pLimit_in (by omega) (by omega)] at h9;exact h9)
  have q3:¬ (l.length:Int) < 3 * (t3.C.length:Int)+1:=by omega
  clear hll hcl
  go_upto_region 6 with (fail)
  go_region_held3 (fun w'=>w'.cell? ⟨w.heap.size,0,none⟩ = some (.slice A3 t3.M.W.length a3)∧w'.cell? ⟨w.heap.size,1,none⟩ = some (.slice B3 t3.M.G.length b3)∧w'.cell? ⟨w.heap.size,2,none⟩ = some (.bool t3.M.bad)∧w'.cell? ⟨w.heap.size,3,none⟩ = some (.slice (some ⟨bC,oC,none⟩) t3.C.length c2)∧w'.cell? ⟨w.heap.size,4,none⟩ = some (.slice L t3.L.length d)∧w'.cell? ⟨bC,oC+k * 7+6,none⟩ = some (.slice AR9 l.length cR9)) (exact KS.out _ (by repeat (first | (with_reducible exact Below.refl _ _) | (with_reducible refine Below.drew ?_))))
   (first | (go_at_call 122;(with_reducible refine (HLM.out _).mono ?_);rintro e wL ⟨rfl,rfl⟩))
  rename_i hHeld
  clear hHeld KS
  clear p0 p1 p2 p3 p4
  have K:=H.step ((Below.refl _ _).drew)
  clear H z0 z1 z2
  have H:=K
  clear K
  generalize w6.drew = w7 at *
  obtain ⟨z0,z1,z2⟩:=H.zs
  obtain ⟨f0,f1,f2,f3,f4,f5,f6,f7,f8,f9,f10,ff0,ff1,ff2,ff3,ff4,ff5,ff6,ff7,ff8,ff9,ff10⟩:=cf11 H.bF
  go_upto_region 9 with (fail)
  have K7:=H.putF 1 (.int .i64 1)
  clear H z0 z1 z2
  clear f0 f1 f2 f3 f4 f5 f6 f7 f8 f9 f10 ff0 ff1 ff2 ff3 ff4 ff5 ff6 ff7 ff8 ff9 ff10
  generalize w7.setCell ⟨w.heap.size+1,1,none⟩ (.int .i64 1) = wS at *
  have H:=K7
  clear K7
  obtain ⟨z0,z1,z2⟩:=H.zs
  have f8:SyFew t8:=by rw [HT8.out];exact few_set ft h6 _
  have hSet:=set_uN A3 B3 (some ⟨bC,oC,none⟩) L a3 b3 c2 d t3 k AS cS op 1 r0 r1 r2 r3 r4 r5 r6 r7 xs _ ft H.rs (hS.step H.be) h6
  rw [← HT8.out] at hSet
  obtain ⟨p0,p1,p2,p3,p4⟩:=cells5 H.bS
  obtain ⟨f0,f1,f2,f3,f4,f5,f6,f7,f8,f9,f10⟩:=cells11 H.bF
  go_wp2_with (go_at_call 50;(with_reducible refine hSet.mono ?_);rintro e w8 hN8;obtain ⟨A8,B8,C8,L8,a8,b8,c8,d8,rfl,x1,x2,x3,x4,hk8⟩:=hN8.weak;clear hN8 hSet)
  clear p0 p1 p2 p3 p4 f0 f1 f2 f3 f4 f5 f6 f7 f8 f9 f10
  replace H:=H.step hk8
  clear hk8 z0 z1 z2
  obtain ⟨z0,z1,z2⟩:=H.zs
  refine (call_uN A8 B8 C8 L8 a8 b8 c8 d8 t8 k 6 [] none 0 0 0 0 0 0 0 0 0 rfl (by simp) _ f8 ⟨x1,x2,x3,x4⟩ (Row.nil _ _)).mono ?_
  rintro e wz hN
  have hz:=hN.2
  obtain ⟨A9,B9,C9,L9,a9,b9,c9,d9,he,_,_,_,_,_⟩:=hN.1 wz (Turn.refl _ _)
  subst he
  have HN:=hid hN
  clear hN
  have kR:=(hz.block (w.heap.size+1+1) z2).trans H.bR
  have kb:=bstep H.be hz
  obtain ⟨q0,q1,q2,q3,q4,qf0,qf1,qf2,qf3,qf4⟩:=cf5 kR
  go_wp2_with fail
  refine bodyPost_ret (v:=.agg (uS A9 B9 C9 L9 a9 b9 c9 d9 (pCall t8 k ⟨6,0,[0,0,0,0,0,0,0,0],[]⟩))) (by simp [uS,results,Tryz.results110,go_sem,q0,q1,q2,q3,q4]) rfl ?_
  exact ret_resN _ _ _ _ _ HN.out z2 (by omega) kb
theorem retire_any (A B C L:Option Addr) (a b c d:Nat) (s:Sy) (k:Nat) (x:Co) (AS:Option Addr) (cS:Nat) (op pc r0 r1 r2 r3 r4 r5 r6 r7:Int) (xs:List Int) (w:World) (hs:SyFew s) (hg:2≤s.M.G.length) (h:RS w s A B C L) (hS:Row w AS xs) (h6:xs.length≤1000000) (hx:s.C[k]? = some x) :
  Calls Tryz.prog 110 #[.agg (uS A B C L a b c d s),.int .i64 k,.agg (uF op pc r0 r1 r2 r3 r4 r5 r6 r7 AS xs cS)] w (RetSysN w (pRetire0 s k ⟨op,pc,[r0,r1,r2,r3,r4,r5,r6,r7],xs⟩)):=by
 by_cases hq:200≤x.ret.length
 ·have e:pRetire0 s k ⟨op,pc,[r0,r1,r2,r3,r4,r5,r6,r7],xs⟩ = pBack s k 0 2:=by unfold pRetire0;rw [pRet_nat hx,if_pos hq]
  rw [e];exact retire_full A B C L a b c d s k x AS cS op pc r0 r1 r2 r3 r4 r5 r6 r7 xs w hs hg h hS h6 hx hq
 ·by_cases hn:x.ret.length+1 < 3 * s.C.length+1
  ·have e:pRetire0 s k ⟨op,pc,[r0,r1,r2,r3,r4,r5,r6,r7],xs⟩ = pBack (pMore s k r0) k r0 0:=by unfold pRetire0;rw [pRet_nat hx,if_neg hq,if_pos hn];rfl
   rw [e];exact retire_lt A B C L a b c d s k x AS cS op pc r0 r1 r2 r3 r4 r5 r6 r7 xs w hs hg h hS h6 hx hq hn
  ·have e:pRetire0 s k ⟨op,pc,[r0,r1,r2,r3,r4,r5,r6,r7],xs⟩ = pCall (pSet (pMore s k r0) k ⟨op,1,[r0,r1,r2,r3,r4,r5,r6,r7],xs⟩) k (frS 6 0):=by unfold pRetire0;rw [pRet_nat hx,if_neg hq,if_neg hn];rfl
   rw [e];exact retire_ge A B C L a b c d s k x AS cS op pc r0 r1 r2 r3 r4 r5 r6 r7 xs w hs hg h hS h6 hx hq hn
end Go.Proofs.YtfipcdhodojodaaGreat
