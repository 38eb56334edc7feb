/- Contract: scan.sweep, by the program. -/
import Derived.Test.YtfipcdhodojodaaGreatScn5
import Derived.Test.YtfipcdhodojodaaGreatKSho
namespace Go.Proofs.YtfipcdhodojodaaGreat
open Go.RowKit
set_option maxRecDepth 100000
set_option maxHeartbeats 4000000
set_option linter.unusedVariables false
set_option linter.unusedSimpArgs false
theorem sweep_none (A B C L:Option Addr) (a b c d:Nat) (s:Sy) (k:Nat) (x:Co) (AS:Option Addr) (cS:Nat) (op pc r0 r1 r2 r3 r4 r5 r6 r7:Int) (xs:List Int) (w:World) (hs:SyFew s) (hg:2≤s.M.G.length) (h:RS w s A B C L) (hS:Row w AS xs) (h6:xs.length≤1000000) (hx:s.C[k]? = some x) (hq:pUn x.ret xs r1 = none) :
  Calls Tryz.prog 115 #[.agg (uS A B C L a b c d s),.int .i64 k,.agg (uF op pc r0 r1 r2 r3 r4 r5 r6 r7 AS xs cS)] w (RetSysN w (pBack s k (x.ret.length:Int) 0)):=by
 have hkl:k < s.C.length:=(List.getElem?_eq_some_iff.1 hx).1
 have kl:(k:Int) < (s.C.length:Int):=by omega
 have k0:(0:Int)≤(k:Int):=by omega
 have h2:=hs.2.2.1
 have hC0:=h.C
 obtain ⟨b0,o0,rfl,hbl,hat⟩:=h.C (by omega)
 obtain ⟨AF,AR,cF,cR,hcs,rF,rR,hcF,hcR⟩:=(hat k x hx).cs4
 have c6:w.cell? ⟨b0,o0+k * 7+6,none⟩ = some (.slice AR x.ret.length cR):=hcs 6 _ rfl
 have hrl:x.ret.length≤1000000:=(hs.2.2.2.2 x (List.mem_of_getElem? hx)).1
 have HX:=hid hx
 have HC0:=hid hC0
 clear hat hcs hx rF hcF hC0
 have HUn:=hid (show ∀ w',Row w' AR x.ret→Row w' AS xs→Calls Tryz.prog 123 #[.slice AR x.ret.length cR,.slice AS xs.length cS,.int .i64 r1] w' (fun e w''=>e = .returned (.tuple #[.int .i64 0,.bool false])∧w' = w'') from fun w' k1 k2=>(unnamed_any AR AS cR cS x.ret xs r1 w' k1 k2 hrl h6).mono (fun e w'' hh=>by rw [hq] at hh;exact hh))
 have h0:=hs.1
 have h1:=hs.2.1
 have H:=SF.start w s A B (some ⟨b0,o0,none⟩) L a b c d (uF op pc r0 r1 r2 r3 r4 r5 r6 r7 AS xs cS) h
 clear h
 go_enter Tryz.func115,Tryz.ntmps115
 go_upto_region 1 with (fail)
 generalize (((w.alloc (.cells (uS A B (some ⟨b0,o0,none⟩) L a b c d s) 30)).alloc (.cells (uF op pc r0 r1 r2 r3 r4 r5 r6 r7 AS xs cS) 60)).alloc (.cells uZ 30)) = w1 at *
 obtain ⟨z0,z1,z2⟩:=H.zs
 have d6:=(H.be.cell hbl).trans c6
 obtain ⟨p0,p1,p2,p3,p4⟩:=cells5 H.bS
 obtain ⟨f0,f1,f2,f3,f4,f5,f6,f7,f8,f9,f10⟩:=cells11 H.bF
 go_upto_region 2 with (fail)
 go_upto_region 3 with (go_at_call 123;(with_reducible refine (HUn.out _ (rR.step H.be) (hS.step H.be)).mono ?_);rintro e w2 ⟨rfl,rfl⟩)
 go_wp2_with (go_at_call 49;(with_reducible refine (back_uN A B (some ⟨b0,o0,none⟩) L a b c d s k (x.ret.length:Int) 0 _ hs H.rs).mono ?_);rintro e wz hN;have hz:=hN.2;obtain ⟨A9,B9,C9,L9,a9,b9,c9,d9,he,_,_,_,_,_⟩:=hN.1 wz (Turn.refl _ _);subst he;have HN:=hid hN;clear hN;have kR:=(hz.block (w.heap.size+1+1) z2).trans H.bR;have kb:=bstep H.be hz;obtain ⟨q0,q1,q2,q3,q4,qf0,qf1,qf2,qf3,qf4⟩:=cf5 kR)
 refine bodyPost_ret (v:=.agg (uS A9 B9 C9 L9 a9 b9 c9 d9 (pBack s k (x.ret.length:Int) 0))) (by simp [uS,results,Tryz.results115,go_sem,q0,q1,q2,q3,q4]) rfl ?_
 exact ret_resN _ _ _ _ _ HN.out z2 (by omega) kb
theorem sweep_some (A B C L:Option Addr) (a b c d:Nat) (s:Sy) (k:Nat) (x:Co) (AS:Option Addr) (cS:Nat) (op pc r0 r1 r2 r3 r4 r5 r6 r7:Int) (xs:List Int) (w:World) (hs:SyFew s) (hg:2≤s.M.G.length) (h:RS w s A B C L) (hS:Row w AS xs) (h6:xs.length≤1000000) (hx:s.C[k]? = some x) (j:Nat) (hq:pUn x.ret xs r1 = some j) :
  Calls Tryz.prog 115 #[.agg (uS A B C L a b c d s),.int .i64 k,.agg (uF op pc r0 r1 r2 r3 r4 r5 r6 r7 AS xs cS)] w (RetSysN w (pCall (pSet (pKeep s k (x.ret.take j++x.ret.drop (j+1))) k ⟨op,pc,[r0,(j:Int),r2,r3,r4,r5,r6,r7],xs⟩) k (frS 2 (x.ret.getD j 0)))):=by
 have hkl:k < s.C.length:=(List.getElem?_eq_some_iff.1 hx).1
 have kl:(k:Int) < (s.C.length:Int):=by omega
 have k0:(0:Int)≤(k:Int):=by omega
 have h2:=hs.2.2.1
 have hC0:=h.C
 obtain ⟨b0,o0,rfl,hbl,hat⟩:=h.C (by omega)
 obtain ⟨AF,AR,cF,cR,hcs,rF,rR,hcF,hcR⟩:=(hat k x hx).cs4
 have c6:w.cell? ⟨b0,o0+k * 7+6,none⟩ = some (.slice AR x.ret.length cR):=hcs 6 _ rfl
 have hrl:x.ret.length≤1000000:=(hs.2.2.2.2 x (List.mem_of_getElem? hx)).1
 have HX:=hid hx
 have HC0:=hid hC0
 clear hat hcs hx rF hcF hC0
 have HUn:=hid (show ∀ w',Row w' AR x.ret→Row w' AS xs→Calls Tryz.prog 123 #[.slice AR x.ret.length cR,.slice AS xs.length cS,.int .i64 r1] w' (fun e w''=>e = .returned (.tuple #[.int .i64 (j:Int),.bool true])∧w' = w'') from fun w' k1 k2=>(unnamed_any AR AS cR cS x.ret xs r1 w' k1 k2 hrl h6).mono (fun e w'' hh=>by rw [hq] at hh;exact hh))
 have hj:=pUn_lt hq
 clear hq
 obtain ⟨bA,oA,eA,hbA,hcA⟩:=rR.atE j hj
 obtain ⟨z,hz⟩:∃ z,z = x.ret.getD j 0:=⟨_,rfl⟩
 have hz2:x.ret[j] = z:=by rw [hz,List.getD_eq_getElem?_getD,List.getElem?_eq_getElem hj];rfl
 rw [hz2] at hcA
 rw [← hz]
 clear hz hz2
 subst eA
 obtain ⟨l,hl⟩:∃ l,l = x.ret.take j++x.ret.drop (j+1):=⟨_,rfl⟩
 have hll:l.length≤1000000:=by rw [hl];simp;omega
 have HMo:=hid (show ∀ w',Row w' (some ⟨bA,oA,none⟩) x.ret→Calls Tryz.prog 124 #[.slice (some ⟨bA,oA,none⟩) x.ret.length cR,.int .i64 (j:Int)] w' (fun e w''=>∃ (A':Option Addr) (c':Nat),e = .returned (.slice A' l.length c')∧Row w'' A' l∧l.length≤c'∧Below w'.heap.size w' w''∧∀ q:Addr,A' = some q→((some ⟨bA,oA,none⟩):Option Addr) = some q ∨ w'.heap.size≤q.block) from fun w' k1=>by have h9:=without_any (some ⟨bA,oA,none⟩) cR x.ret j w' k1 hcR hrl hj;rw [← hl] at h9;exact h9)
 obtain ⟨s2,hs2⟩:∃ t,t = syWith s k (coKeep x l):=⟨_,rfl⟩
 have hM2:s2.M = s.M:=by rw [hs2];rfl
 have hC2:s2.C = s.C.set k (coKeep x l):=by rw [hs2];rfl
 have hL2:s2.L = s.L:=by rw [hs2];rfl
 have fw:SyFew s2:=by rw [hs2];exact few_keep hs HX.out hll
 have hres:pKeep s k (x.ret.take j++x.ret.drop (j+1)) = s2:=by rw [pKeep_nat HX.out,← hl,← hs2]
 rw [hres]
 obtain ⟨t8,ht8⟩:∃ t,t = pSet s2 k ⟨op,pc,[r0,(j:Int),r2,r3,r4,r5,r6,r7],xs⟩:=⟨_,rfl⟩
 rw [← ht8]
 unfold frS
 have HT8:=hid ht8
 clear ht8
 have HM2:=hid hM2
 have HC2:=hid hC2
 have HLL:=hid hL2
 clear hs2 hM2 hC2 hL2 hl hres
 have f8:SyFew t8:=by rw [HT8.out];exact few_set fw h6 _
 have HSet:=hid (show ∀ (C2:Option Addr) (c2:Nat) w',RS w' s2 A B C2 L→Row w' AS xs→Calls Tryz.prog 50 #[.agg (uS A B C2 L a b c2 d s2),.int .i64 k,.agg (uF op pc r0 (j:Int) r2 r3 r4 r5 r6 r7 AS xs cS)] w' (RetSysN w' t8) from fun C2 c2 w' k1 k2=>by have h9:=set_uN A B C2 L a b c2 d s2 k AS cS op pc r0 (j:Int) r2 r3 r4 r5 r6 r7 xs w' fw k1 k2 h6;rw [← HT8.out] at h9;exact h9)
 have HCall:=hid (show ∀ (A8 B8 C8 L8 A9:Option Addr) (a8 b8 c8 d8:Nat) w',RS w' t8 A8 B8 C8 L8→Row w' A9 [z]→Calls Tryz.prog 66 #[.agg (uS A8 B8 C8 L8 a8 b8 c8 d8 t8),.int .i64 k,.int .i64 2,.slice A9 1 1] w' (RetSysN w' (pCall t8 k ⟨2,0,[z,0,0,0,0,0,0,0],[]⟩)) from fun A8 B8 C8 L8 A9 a8 b8 c8 d8 w' k1 k2=>call_uN A8 B8 C8 L8 a8 b8 c8 d8 t8 k 2 [z] A9 1 z 0 0 0 0 0 0 0 rfl (by simp) w' f8 k1 k2)
 have zj:(j:Int) < (x.ret.length:Int):=by omega
 have zj0:(0:Int)≤(j:Int):=by omega
 have h0:=hs.1
 have h1:=hs.2.1
 have H:=SF.start w s A B (some ⟨b0,o0,none⟩) L a b c d (uF op pc r0 r1 r2 r3 r4 r5 r6 r7 AS xs cS) h
 clear h
 go_enter Tryz.func115,Tryz.ntmps115
 go_upto_region 1 with (fail)
 generalize (((w.alloc (.cells (uS A B (some ⟨b0,o0,none⟩) L a b c d s) 30)).alloc (.cells (uF op pc r0 r1 r2 r3 r4 r5 r6 r7 AS xs cS) 60)).alloc (.cells uZ 30)) = w1 at *
 obtain ⟨z0,z1,z2⟩:=H.zs
 have d6:=(H.be.cell hbl).trans c6
 obtain ⟨p0,p1,p2,p3,p4⟩:=cells5 H.bS
 obtain ⟨f0,f1,f2,f3,f4,f5,f6,f7,f8,f9,f10⟩:=cells11 H.bF
 go_upto_region 2 with (fail)
 go_upto_region 3 with (go_at_call 123;(with_reducible refine (HUn.out _ (rR.step H.be) (hS.step H.be)).mono ?_);rintro e w2 ⟨rfl,rfl⟩)
 clear p0 p1 p2 p3 p4 f0 f1 f2 f3 f4 f5 f6 f7 f8 f9 f10
 obtain ⟨f0,f1,f2,f3,f4,f5,f6,f7,f8,f9,f10,ff0,ff1,ff2,ff3,ff4,ff5,ff6,ff7,ff8,ff9,ff10⟩:=cf11 H.bF
 go_upto_region 6 with (fail)
 have K7:=H.putF 3 (.int .i64 (j:Int))
 clear H z0 z1 z2 d6
 clear f0 f1 f2 f3 f4 f5 f6 f7 f8 f9 f10 ff0 ff1 ff2 ff3 ff4 ff5 ff6 ff7 ff8 ff9 ff10
 generalize w1.setCell ⟨w.heap.size+1,3,none⟩ (.int .i64 (j:Int)) = w4 at *
 have H:SF w s A B (some ⟨b0,o0,none⟩) L a b c d (uF op pc r0 (j:Int) r2 r3 r4 r5 r6 r7 AS xs cS) w4:=K7
 clear K7
 obtain ⟨z0,z1,z2⟩:=H.zs
 have HD:=H.step ((Below.refl _ _).drew)
 have hAR:∀ q:Addr,((some ⟨bA,oA,none⟩):Option Addr) = some q→q.block < w.heap.size:=fun q e=>by injection e with e;subst e;exact hbA
 obtain ⟨p0,p1,p2,p3,p4,pf0,pf1,pf2,pf3,pf4⟩:=cf5 H.bS
 go_cut [7] from 36 (fun s0 wx=>s0 = .slice (some ⟨bA,oA,none⟩) x.ret.length cR∧∃ (C2:Option Addr) (c2:Nat),SG w ⟨s.M,s.C.set k (coKeep x l),s.L⟩ A B C2 L a b c2 d (uF op pc r0 (j:Int) r2 r3 r4 r5 r6 r7 AS xs cS) wx)
 case first =>
  go_region_with (first | (go_at_call 124;(with_reducible refine (HMo.out _ (rR.step HD.be)).mono ?_);rintro e w5 ⟨A3,c3,rfl,rA3,hc3,hk3,hn3⟩;have K3:=HD.step hk3;obtain ⟨u0,u1,u2,u3,u4,uf0,uf1,uf2,uf3,uf4⟩:=cf5 K3.bS) | (go_at_call 120;(with_reducible refine (keep_any A B (some ⟨b0,o0,none⟩) L a b c d s k x A3 c3 l (V3 w) w w5 HX.out h2 HC0.out K3.be (fun b h=>by have:=K3.lt;have:=v3_bd h;omega) (RowV.of rA3 (fun q e h=>by have:=v3_bd h;rcases hn3 q e with h8 | h8;(have:=hAR q h8;omega);(have:=HD.lt;omega))) hc3).mono ?_);rintro e w6 ⟨C4,c4,rfl,rC4,hk4⟩;have K4:=K3.step hk4;obtain ⟨v0,v1,v2,v3,v4,vf0,vf1,vf2,vf3,vf4⟩:=cf5 K4.bS))
  all_goals go_wp2_with fail
  all_goals go_meet
  all_goals exact ⟨rfl,C4,c4,K4.sg.putC (by simp) rC4⟩
 case rest =>
  obtain ⟨rfl,C2,c2,H2⟩:=hcut
  clear H HD z0 z1 z2 p0 p1 p2 p3 p4 pf0 pf1 pf2 pf3 pf4
  rw [← HM2.out,← HC2.out,← HLL.out] at H2
  have H:SG w s2 A B C2 L a b c2 d (uF op pc r0 (j:Int) r2 r3 r4 r5 r6 r7 AS xs cS) wc:=H2
  clear H2
  obtain ⟨z0,z1,z2⟩:=H.zs
  have hcA2:=(H.be.cell hbA).trans hcA
  have hbA2:bA < wc.heap.size:=Nat.lt_of_lt_of_le hbA H.be.size
  obtain ⟨p0,p1,p2,p3,p4⟩:=cells5 H.bS
  obtain ⟨f0,f1,f2,f3,f4,f5,f6,f7,f8,f9,f10⟩:=cells11 H.bF
  go_upto_region 7 with (fail)
  go_region_with (first | (go_at_call 50;(with_reducible refine (HSet.out C2 c2 _ (H.step (by repeat (first | (with_reducible exact Below.refl _ _) | (with_reducible refine Below.drew ?_) | (with_reducible refine bstep ?_ (boxed _ _))))).rs (hS.step (bstep H.be (by repeat (first | (with_reducible exact Below.refl _ _) | (with_reducible refine Below.drew ?_) | (with_reducible refine bstep ?_ (boxed _ _))))))).mono ?_);rintro e w8 hN8;obtain ⟨A8,B8,C8,L8,a8,b8,c8,d8,rfl,x1,x2,x3,x4,hk8⟩:=hN8.weak;have R8:RS w8 t8 A8 B8 C8 L8:=⟨x1,x2,x3,x4⟩;clear hN8 x1 x2 x3 x4;have hj8:Below wc.heap.size wc w8:=(by repeat (first | (with_reducible exact Below.refl _ _) | (with_reducible refine Below.drew ?_) | (with_reducible refine bstep ?_ (boxed _ _)) | (with_reducible refine bstep ?_ hk8)));have u0:w8.cell? ⟨bA,oA+j,none⟩ = some (.int .i64 z):=(hj8.cell hbA2).trans hcA2) | (go_at_call 66;(with_reducible refine (HCall.out A8 B8 C8 L8 _ a8 b8 c8 d8 _ (R8.step (by repeat (first | (with_reducible exact Below.refl _ _) | (with_reducible refine Below.drew ?_) | (with_reducible refine bstep ?_ (boxed _ _))))) (by first | exact row_of_blk (xs:=[z]) (heap_alloc_new w8 _) | (refine Row.step ?_ hk8;exact row_of_blk (xs:=[z]) (heap_alloc_new _ _)) | (refine Row.step ?_ hk8;exact row_of_blk (xs:=[z]) (heap_alloc_new wc _)))).mono ?_);rintro e wz hN;have hz:=hN.2;obtain ⟨A9,B9,C9,L9,a9,b9,c9,d9,he,_,_,_,_,_⟩:=hN.1 wz (Turn.refl _ _);subst he;have HN:=hid hN;clear hN;have hjz:Below wc.heap.size wc wz:=(by repeat (first | (with_reducible exact Below.refl _ _) | (with_reducible refine Below.drew ?_) | (with_reducible refine bstep ?_ (boxed _ _)) | (with_reducible refine bstep ?_ hk8) | (with_reducible refine bstep ?_ hz)));have kR:=(hjz.block (w.heap.size+1+1) z2).trans H.bR;have kb:=bstep H.be hjz;have zz:(w.heap.size+1+1) < wz.heap.size:=Nat.lt_of_lt_of_le z2 hjz.size;obtain ⟨q0,q1,q2,q3,q4,qf0,qf1,qf2,qf3,qf4⟩:=cf5 kR))
  all_goals go_wp2_with fail
  all_goals refine bodyPost_ret (v:=.agg (uS A9 B9 C9 L9 a9 b9 c9 d9 (pCall t8 k ⟨2,0,[z,0,0,0,0,0,0,0],[]⟩))) (by simp [uS,results,Tryz.results115,go_sem,q0,q1,q2,q3,q4]) rfl ?_
  all_goals exact ret_resN _ _ _ _ _ HN.out (by have:=hj8.size;first | omega | (simp;omega)) (by omega) kb
theorem sweep_any (A B C L:Option Addr) (a b c d:Nat) (s:Sy) (k:Nat) (x:Co) (AS:Option Addr) (cS:Nat) (op pc r0 r1 r2 r3 r4 r5 r6 r7:Int) (xs:List Int) (w:World) (hs:SyFew s) (hg:2≤s.M.G.length) (h:RS w s A B C L) (hS:Row w AS xs) (h6:xs.length≤1000000) (hx:s.C[k]? = some x) :
  Calls Tryz.prog 115 #[.agg (uS A B C L a b c d s),.int .i64 k,.agg (uF op pc r0 r1 r2 r3 r4 r5 r6 r7 AS xs cS)] w (RetSysN w (pSweep s k ⟨op,pc,[r0,r1,r2,r3,r4,r5,r6,r7],xs⟩)):=by
 cases hq:pUn x.ret xs r1 with
 | none =>
  have e:pSweep s k ⟨op,pc,[r0,r1,r2,r3,r4,r5,r6,r7],xs⟩ = pBack s k (x.ret.length:Int) 0:=by unfold pSweep;rw [pRet_nat hx];dsimp only;rw [show [r0,r1,r2,r3,r4,r5,r6,r7].getD 1 0 = r1 from rfl,hq]
  rw [e];exact sweep_none A B C L a b c d s k x AS cS op pc r0 r1 r2 r3 r4 r5 r6 r7 xs w hs hg h hS h6 hx hq
 | some j =>
  have e:pSweep s k ⟨op,pc,[r0,r1,r2,r3,r4,r5,r6,r7],xs⟩ = pCall (pSet (pKeep s k (x.ret.take j++x.ret.drop (j+1))) k ⟨op,pc,[r0,(j:Int),r2,r3,r4,r5,r6,r7],xs⟩) k (frS 2 (x.ret.getD j 0)):=by unfold pSweep;rw [pRet_nat hx];dsimp only;rw [show [r0,r1,r2,r3,r4,r5,r6,r7].getD 1 0 = r1 from rfl,hq];rfl
  rw [e];exact sweep_some A B C L a b c d s k x AS cS op pc r0 r1 r2 r3 r4 r5 r6 r7 xs w hs hg h hS h6 hx j hq
end Go.Proofs.YtfipcdhodojodaaGreat
