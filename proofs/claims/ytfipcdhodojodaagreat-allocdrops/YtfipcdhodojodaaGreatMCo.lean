/- Contract: core.Back, where nothing is taken away; the rows stand whatever becomes of older blocks. -/
import Derived.Test.YtfipcdhodojodaaGreatKCoT
import Derived.Deep.DrawnRows
import Derived.Deep.RegionWith
import Derived.Test.YtfipcdhodojodaaGreatKBas
namespace Go.Proofs.YtfipcdhodojodaaGreat
open Go.RowKit
set_option maxRecDepth 100000
set_option maxHeartbeats 16000000
set_option linter.unusedVariables false
set_option linter.unusedSimpArgs false
attribute [local go_sem ↓] Go.wp_at_zero Go.wp_at_succ
theorem back_outN (A B AC AL:Option Addr) (c d cC cL:Nat) (s:Sy) (i z er:Int) (hi:syHas s i = false) (w:World) (hW:Row w A s.M.W) (hG:Row w B s.M.G) (hC:RowC w AC s.C) (hL:RowE w AL s.L) (h0:s.M.W.length≤1000000) (h1:s.M.G.length≤1000000) (h2:s.C.length≤1000000) (h3:s.L.length≤1000000) (h4:∀ x ∈ s.C,x.ret.length≤1000000∧x.F.length≤1000000∧∀ f ∈ x.F,f.S.length≤1000000) :
  Calls Tryz.prog 49 #[.agg (uS A B AC AL c d cC cL s),.int .i64 i,.int .i64 z,.int .i64 er] w (RetSysN w s):=by
 obtain ⟨b1,b2,bs⟩:=heap2 w (.cells (uS A B AC AL c d cC cL s) 30) (.cells uZ 30)
 have hw2:Below w.heap.size w ((w.alloc (.cells (uS A B AC AL c d cC cL s) 30)).alloc (.cells uZ 30)):=bstep (boxed _ _) (boxed _ _)
 have H4:=hid h4
 clear h4
 go_enter Tryz.func49,Tryz.ntmps49
 go_wp2_with fail
 generalize ((w.alloc (.cells (uS A B AC AL c d cC cL s) 30)).alloc (.cells uZ 30)) = w2 at *
 refine (copied_any A B AC AL c d cC cL s w2 (hW.step hw2) (hG.step hw2) (hC.step hw2) (hL.step hw2) h0 h1 h2 h3 H4.out).mono ?_
 rintro e w3 ⟨lo,hm,own,vs,AW,AG,cW,cG,vC,vL,rfl,hlo,SI,hk⟩
 have hmv:hm≤w3.heap.size:=SI.hw
 have SI:=SI.seal
 have hside:∀ b,w3.heap.size≤b→Side s lo hm (fun b=>if b < w3.heap.size then own b else s.C.length) b:=fun b hb=>.inr ⟨by omega,if_neg (by omega)⟩
 generalize (fun b=>if b < w3.heap.size then own b else s.C.length) = own2 at *
 obtain ⟨AC',cC',rfl⟩:=own_val SI.co
 obtain ⟨AL',cL',rfl⟩:=own_val SI.ev
 replace b1:=(hk.block w.heap.size (by omega)).trans b1
 replace b2:=(hk.block (w.heap.size+1) (by omega)).trans b2
 have hb:=bstep hw2 hk
 have hz:w.heap.size+1 < w3.heap.size:=by have:=hk.size;omega
 have hz0:w.heap.size < w3.heap.size:=by omega
 have hlo2:w.heap.size+1 < lo:=by omega
 clear hk hw2 bs hlo hW hG hL h0 h1
 obtain ⟨p0,p1,p2,p3,p4⟩:=cells5 b1
 go_wp2_with fail
 have bv:=heap_alloc_new w3 (.cells (uS AW AG AC' AL' cW cG cC' cL' s) 30)
 have t4:Turn (fun _=>False) w3 (w3.alloc (.cells (uS AW AG AC' AL' cW cG cC' cL' s) 30)):=(Turn.refl _ _).alloc _
 replace SI:=SI.turn t4 (fun _ _ h=>h)
 replace b1:=(t4.block w.heap.size hz0 id).trans b1
 replace b2:=(t4.block (w.heap.size+1) hz id).trans b2
 skip
 replace hb:=bstep hb (boxed w3 (.cells (uS AW AG AC' AL' cW cG cC' cL' s) 30))
 have vx:w3.heap.size < (w3.alloc (.cells (uS AW AG AC' AL' cW cG cC' cL' s) 30)).heap.size:=by simp
 clear t4 p0 p1 p2 p3 p4
 obtain ⟨v,hv⟩:∃ v,w3.heap.size = v:=⟨_,rfl⟩
 generalize (w3.alloc (.cells (uS AW AG AC' AL' cW cG cC' cL' s) 30)) = w4 at *
 rw [hv] at bv vx hz hz0 hmv hside ⊢
 have HSD:=hid hside
 clear hside
 clear hv
 refine (hasFrame_out _ _ _ _ _ _ _ _ s i _ h2 hi).mono ?_
 rintro e w5 ⟨rfl,hk⟩
 replace b1:=(hk.block w.heap.size (by omega)).trans b1
 replace b2:=(hk.block (w.heap.size+1) (by omega)).trans b2
 replace bv:=(hk.block v vx).trans bv
 replace SI:=SI.turn (Turn.below (Turn.refl (fun _=>False) _) hk) (fun _ _ h=>h)
 replace hb:=bstep hb hk
 replace vx:=Nat.lt_of_lt_of_le vx hk.size
 clear hk
 obtain ⟨m0,m1,m2,m3,m4,mf0,mf1,mf2,mf3,mf4⟩:=cf5 bv
 obtain ⟨q0,q1,q2,q3,q4,qf0,qf1,qf2,qf3,qf4⟩:=cf5 b2
 clear b1 b2 bv
 go_wp2
 refine bodyPost_ret (v:=.agg (uS AW AG AC' AL' cW cG cC' cL' s)) (by simp [uS,results,Tryz.results49,go_sem,q0,q1,q2,q3,q4]) rfl ?_
 have key:∀ w',Turn (fun b=>(b = w.heap.size+1) ∨ b < w.heap.size) w5 w'→RetSys w' s (.returned (.agg (uS AW AG AC' AL' cW cG cC' cL' s))) w':=fun w' hT=>(SI.turn hT (fun b hb e=>by omega)).told cW cG (Below.refl _ _)
 exact retN (p:=fun b=>b = w.heap.size+1) key (turn5 _ _ _ _ _ _ _) (hb.trans ((turn5 _ _ _ _ _ _ _).to_below hb.size (fun g hg=>by omega)))
theorem back_noneN (A B AC AL:Option Addr) (c d cC cL:Nat) (s:Sy) (k:Nat) (x:Co) (z er:Int) (hx:s.C[k]? = some x) (hF:x.F.length = 0) (w:World) (hW:Row w A s.M.W) (hG:Row w B s.M.G) (hC:RowC w AC s.C) (hL:RowE w AL s.L) (h0:s.M.W.length≤1000000) (h1:s.M.G.length≤1000000) (h2:s.C.length≤1000000) (h3:s.L.length≤1000000) (h4:∀ x ∈ s.C,x.ret.length≤1000000∧x.F.length≤1000000∧∀ f ∈ x.F,f.S.length≤1000000) :
  Calls Tryz.prog 49 #[.agg (uS A B AC AL c d cC cL s),.int .i64 k,.int .i64 z,.int .i64 er] w (RetSysN w s):=by
 have hxF:¬ 0 < x.F.length:=by omega
 obtain ⟨b1,b2,bs⟩:=heap2 w (.cells (uS A B AC AL c d cC cL s) 30) (.cells uZ 30)
 have hw2:Below w.heap.size w ((w.alloc (.cells (uS A B AC AL c d cC cL s) 30)).alloc (.cells uZ 30)):=bstep (boxed _ _) (boxed _ _)
 have H4:=hid h4
 clear h4
 go_enter Tryz.func49,Tryz.ntmps49
 go_wp2_with fail
 generalize ((w.alloc (.cells (uS A B AC AL c d cC cL s) 30)).alloc (.cells uZ 30)) = w2 at *
 refine (copied_any A B AC AL c d cC cL s w2 (hW.step hw2) (hG.step hw2) (hC.step hw2) (hL.step hw2) h0 h1 h2 h3 H4.out).mono ?_
 rintro e w3 ⟨lo,hm,own,vs,AW,AG,cW,cG,vC,vL,rfl,hlo,SI,hk⟩
 have hmv:hm≤w3.heap.size:=SI.hw
 have SI:=SI.seal
 have hside:∀ b,w3.heap.size≤b→Side s lo hm (fun b=>if b < w3.heap.size then own b else s.C.length) b:=fun b hb=>.inr ⟨by omega,if_neg (by omega)⟩
 generalize (fun b=>if b < w3.heap.size then own b else s.C.length) = own2 at *
 obtain ⟨AC',cC',rfl⟩:=own_val SI.co
 obtain ⟨AL',cL',rfl⟩:=own_val SI.ev
 replace b1:=(hk.block w.heap.size (by omega)).trans b1
 replace b2:=(hk.block (w.heap.size+1) (by omega)).trans b2
 have hb:=bstep hw2 hk
 have hz:w.heap.size+1 < w3.heap.size:=by have:=hk.size;omega
 have hz0:w.heap.size < w3.heap.size:=by omega
 have hlo2:w.heap.size+1 < lo:=by omega
 clear hk hw2 bs hlo hW hG hL h0 h1
 obtain ⟨p0,p1,p2,p3,p4⟩:=cells5 b1
 go_wp2_with fail
 have bv:=heap_alloc_new w3 (.cells (uS AW AG AC' AL' cW cG cC' cL' s) 30)
 have t4:Turn (fun _=>False) w3 (w3.alloc (.cells (uS AW AG AC' AL' cW cG cC' cL' s) 30)):=(Turn.refl _ _).alloc _
 replace SI:=SI.turn t4 (fun _ _ h=>h)
 replace b1:=(t4.block w.heap.size hz0 id).trans b1
 replace b2:=(t4.block (w.heap.size+1) hz id).trans b2
 skip
 replace hb:=bstep hb (boxed w3 (.cells (uS AW AG AC' AL' cW cG cC' cL' s) 30))
 have vx:w3.heap.size < (w3.alloc (.cells (uS AW AG AC' AL' cW cG cC' cL' s) 30)).heap.size:=by simp
 clear t4 p0 p1 p2 p3 p4
 obtain ⟨v,hv⟩:∃ v,w3.heap.size = v:=⟨_,rfl⟩
 generalize (w3.alloc (.cells (uS AW AG AC' AL' cW cG cC' cL' s) 30)) = w4 at *
 rw [hv] at bv vx hz hz0 hmv hside ⊢
 have HSD:=hid hside
 clear hside
 clear hv
 refine (hasFrame_at _ _ _ _ _ _ _ _ s k x _ (hC.step hb) h2 hx (H4.out x (List.mem_of_getElem? hx)).2.1).mono ?_
 rintro e w5 ⟨rfl,hk⟩
 rw [decide_eq_false hxF]
 replace b1:=(hk.block w.heap.size (by omega)).trans b1
 replace b2:=(hk.block (w.heap.size+1) (by omega)).trans b2
 replace bv:=(hk.block v vx).trans bv
 replace SI:=SI.turn (Turn.below (Turn.refl (fun _=>False) _) hk) (fun _ _ h=>h)
 replace hb:=bstep hb hk
 replace vx:=Nat.lt_of_lt_of_le vx hk.size
 clear hk
 obtain ⟨m0,m1,m2,m3,m4,mf0,mf1,mf2,mf3,mf4⟩:=cf5 bv
 obtain ⟨q0,q1,q2,q3,q4,qf0,qf1,qf2,qf3,qf4⟩:=cf5 b2
 clear b1 b2 bv
 go_wp2
 refine bodyPost_ret (v:=.agg (uS AW AG AC' AL' cW cG cC' cL' s)) (by simp [uS,results,Tryz.results49,go_sem,q0,q1,q2,q3,q4]) rfl ?_
 have key:∀ w',Turn (fun b=>(b = w.heap.size+1) ∨ b < w.heap.size) w5 w'→RetSys w' s (.returned (.agg (uS AW AG AC' AL' cW cG cC' cL' s))) w':=fun w' hT=>(SI.turn hT (fun b hb e=>by omega)).told cW cG (Below.refl _ _)
 exact retN (p:=fun b=>b = w.heap.size+1) key (turn5 _ _ _ _ _ _ _) (hb.trans ((turn5 _ _ _ _ _ _ _).to_below hb.size (fun g hg=>by omega)))
theorem back_yesN (A B AC AL:Option Addr) (c d cC cL:Nat) (s:Sy) (k n:Nat) (x:Co) (z er:Int) (hx:s.C[k]? = some x) (hn:x.F.length = n+1) (w:World) (hW:Row w A s.M.W) (hG:Row w B s.M.G) (hC:RowC w AC s.C) (hL:RowE w AL s.L) (h0:s.M.W.length≤1000000) (h1:s.M.G.length≤1000000) (h2:s.C.length≤1000000) (h3:s.L.length≤1000000) (h4:∀ x ∈ s.C,x.ret.length≤1000000∧x.F.length≤1000000∧∀ f ∈ x.F,f.S.length≤1000000) :
  Calls Tryz.prog 49 #[.agg (uS A B AC AL c d cC cL s),.int .i64 k,.int .i64 z,.int .i64 er] w (RetSysN w (syWith s k (coBack x n z er))):=by
 have hxF:0 < x.F.length:=by omega
 have hkl:k < s.C.length:=(List.getElem?_eq_some_iff.1 hx).1
 have HX:=hid hx
 clear hx
 obtain ⟨b1,b2,bs⟩:=heap2 w (.cells (uS A B AC AL c d cC cL s) 30) (.cells uZ 30)
 have hw2:Below w.heap.size w ((w.alloc (.cells (uS A B AC AL c d cC cL s) 30)).alloc (.cells uZ 30)):=bstep (boxed _ _) (boxed _ _)
 have H4:=hid h4
 clear h4
 go_enter Tryz.func49,Tryz.ntmps49
 go_wp2_with fail
 generalize ((w.alloc (.cells (uS A B AC AL c d cC cL s) 30)).alloc (.cells uZ 30)) = w2 at *
 refine (copied_any A B AC AL c d cC cL s w2 (hW.step hw2) (hG.step hw2) (hC.step hw2) (hL.step hw2) h0 h1 h2 h3 H4.out).mono ?_
 rintro e w3 ⟨lo,hm,own,vs,AW,AG,cW,cG,vC,vL,rfl,hlo,SI,hk⟩
 have hmv:hm≤w3.heap.size:=SI.hw
 have SI:=SI.seal
 have hside:∀ b,w3.heap.size≤b→Side s lo hm (fun b=>if b < w3.heap.size then own b else s.C.length) b:=fun b hb=>.inr ⟨by omega,if_neg (by omega)⟩
 generalize (fun b=>if b < w3.heap.size then own b else s.C.length) = own2 at *
 obtain ⟨AC',cC',rfl⟩:=own_val SI.co
 obtain ⟨AL',cL',rfl⟩:=own_val SI.ev
 replace b1:=(hk.block w.heap.size (by omega)).trans b1
 replace b2:=(hk.block (w.heap.size+1) (by omega)).trans b2
 have hb:=bstep hw2 hk
 have hz:w.heap.size+1 < w3.heap.size:=by have:=hk.size;omega
 have hz0:w.heap.size < w3.heap.size:=by omega
 have hlo2:w.heap.size+1 < lo:=by omega
 clear hk hw2 bs hlo hW hG hL h0 h1
 obtain ⟨p0,p1,p2,p3,p4⟩:=cells5 b1
 go_wp2_with fail
 have bv:=heap_alloc_new w3 (.cells (uS AW AG AC' AL' cW cG cC' cL' s) 30)
 have t4:Turn (fun _=>False) w3 (w3.alloc (.cells (uS AW AG AC' AL' cW cG cC' cL' s) 30)):=(Turn.refl _ _).alloc _
 replace SI:=SI.turn t4 (fun _ _ h=>h)
 replace b1:=(t4.block w.heap.size hz0 id).trans b1
 replace b2:=(t4.block (w.heap.size+1) hz id).trans b2
 skip
 replace hb:=bstep hb (boxed w3 (.cells (uS AW AG AC' AL' cW cG cC' cL' s) 30))
 have vx:w3.heap.size < (w3.alloc (.cells (uS AW AG AC' AL' cW cG cC' cL' s) 30)).heap.size:=by simp
 clear t4 p0 p1 p2 p3 p4
 obtain ⟨v,hv⟩:∃ v,w3.heap.size = v:=⟨_,rfl⟩
 generalize (w3.alloc (.cells (uS AW AG AC' AL' cW cG cC' cL' s) 30)) = w4 at *
 rw [hv] at bv vx hz hz0 hmv hside ⊢
 have HSD:=hid hside
 clear hside
 clear hv
 refine (hasFrame_at _ _ _ _ _ _ _ _ s k x _ (hC.step hb) h2 HX.out (H4.out x (List.mem_of_getElem? HX.out)).2.1).mono ?_
 rintro e w5 ⟨rfl,hk⟩
 rw [decide_eq_true hxF]
 replace b1:=(hk.block w.heap.size (by omega)).trans b1
 replace b2:=(hk.block (w.heap.size+1) (by omega)).trans b2
 replace bv:=(hk.block v vx).trans bv
 replace SI:=SI.turn (Turn.below (Turn.refl (fun _=>False) _) hk) (fun _ _ h=>h)
 replace hb:=bstep hb hk
 replace vx:=Nat.lt_of_lt_of_le vx hk.size
 clear hk
 obtain ⟨g,cap,AF,AR,cF,cR,ps,eC,hvk,hg1,hg2,CI,hcell,hfz⟩:=SI.look HX.out
 obtain ⟨rfl,rfl⟩:AC' = some ⟨g,0,none⟩∧cC' = cap:=by simpa using eC
 obtain ⟨gF,capF,eF,_,_⟩:=CI.fr.form hxF
 obtain ⟨rfl,rfl⟩:AF = some ⟨gF,0,none⟩∧cF = capF:=by simpa using eF
 have hcap:n+1≤cF:=by
  rcases CI.fr.2 with ⟨h,_⟩ | ⟨_,_,_,h,_,_,h6,_⟩
  ·cases h
  ·injection h with _ _ h;omega
 clear eC eF
 have u0:w5.cell? ⟨g,k * 7,none⟩ = some (.slice (some ⟨gF,0,none⟩) (n+1) cF):=by rw [← hn];exact hcell 0 _ rfl
 have u1:w5.cell? ⟨g,k * 7+1,none⟩ = some (.int .i64 x.v):=hcell 1 _ rfl
 have u2:w5.cell? ⟨g,k * 7+2,none⟩ = some (.int .i64 x.e):=hcell 2 _ rfl
 have HC5:=hid (hC.step hb)
 obtain ⟨p0,p1,p2,p3,p4⟩:=cells5 b1
 obtain ⟨-,-,-,m3⟩:=cells4 bv
 have gl5:g < w5.heap.size:=World.block_lt_of_cell? w5 _ u0
 have n5:w.heap.size < w5.heap.size:=by omega
 have h5:x.F.length≤1000000:=(H4.out x (List.mem_of_getElem? HX.out)).2.1
 have HN:=hid (show (x.F.length:Int) - 1 = (n:Int) by omega)
 have kl:(k:Int) < (s.C.length:Int):=by omega
 have nl:(n:Int)≤(cF:Int):=by omega
 have HFZ:=hid hfz
 have Hhn:=hid hn
 clear hcell hfz hn
 go_upto_region 3 with (fail)
 go_cut [9] from 10 (fun s0 wx=>s0 = .pointer (some ⟨v,0,none⟩)∧∃ w6,Below w5.heap.size w5 w6∧wx = w6.setCell ⟨g,k * 7,none⟩ (.slice (some ⟨gF,0,none⟩) n cF))
 case first =>
  clear SI CI b1 b2 bv u1 u2 hvk
  go_region_with (first
   | (go_at_call 47;(with_reducible refine (last_at A B AC AL c d cC cL s k x _ (HC5.out.step ((Below.refl _ _).drew)) h2 HX.out h5).mono ?_);rintro e w6 ⟨rfl,hk6⟩;rw [HN.out];have hj:Below w5.heap.size w5 w6:=bstep ((Below.refl _ _).drew) hk6;have m36:=(hj.cell vx).trans m3;have u06:=(hj.cell gl5).trans u0;have f06:=(hj.frozen gl5).trans (HFZ.out (k * 7))))
  all_goals go_wp2_with fail
  all_goals go_meet
  all_goals exact ⟨rfl,_,hj,rfl⟩
 case rest =>
  obtain ⟨rfl,w6,hj,rfl⟩:=hcut
  have SI6:=SI.turn (Turn.below (Turn.refl (fun _=>False) _) hj) (fun _ _ h=>h)
  have CI6:=CI.keep hj.size (fun b hl _=>hj.block b hl)
  replace b2:=(hj.block (w.heap.size+1) (by omega)).trans b2
  replace bv:=(hj.block v vx).trans bv
  replace hb:=bstep hb hj
  obtain ⟨m0,m1,m2,m3,m4,mf0,mf1,mf2,mf3,mf4⟩:=cf5 bv
  obtain ⟨q0,q1,q2,q3,q4,qf0,qf1,qf2,qf3,qf4⟩:=cf5 b2
  have x0:=(hj.cell gl5).trans u0
  have x1:=(hj.cell gl5).trans u1
  have x2:=(hj.cell gl5).trans u2
  have xf0:=(hj.frozen gl5).trans (HFZ.out (k * 7))
  have xf1:=(hj.frozen gl5).trans (HFZ.out (k * 7+1))
  have xf2:=(hj.frozen gl5).trans (HFZ.out (k * 7+2))
  have ne1:v ≠ g:=by omega
  have ne2:w.heap.size+1 ≠ g:=by omega
  have ne3:g ≠ v:=by omega
  have ne4:g ≠ w.heap.size+1:=by omega
  have ne5:v ≠ w.heap.size+1:=by omega
  clear SI CI hj b1 b2 bv u0 u1 u2 p0 p1 p2 p3 p4
  go_wp2
  refine bodyPost_ret (v:=.agg (uS AW AG (some ⟨g,0,none⟩) AL' cW cG cC' cL' s)) (by simp [uS,results,Tryz.results49,go_sem,q0,q1,q2,q3,q4]) rfl ?_
  have key:∀ w',Turn (fun b=>(b = w.heap.size+1) ∨ b < w.heap.size) (((w6.setCell ⟨g,k * 7,none⟩ (.slice (some ⟨gF,0,none⟩) n cF)).setCell ⟨g,k * 7+1,none⟩ (.int .i64 z)).setCell ⟨g,k * 7+2,none⟩ (.int .i64 er)) w'→RetSys w' (syWith s k (coBack x n z er)) (.returned (.agg (uS AW AG (some ⟨g,0,none⟩) AL' cW cG cC' cL' s))) w':=fun w' hT=>by
   have t1:Turn (fun b=>b = g) w6 (((w6.setCell ⟨g,k * 7,none⟩ (.slice (some ⟨gF,0,none⟩) n cF)).setCell ⟨g,k * 7+1,none⟩ (.int .i64 z)).setCell ⟨g,k * 7+2,none⟩ (.int .i64 er)):=(((Turn.refl (fun b=>b = g) w6).set rfl _ _).set rfl _ _).set rfl _ _
   have h1:=(((SI6.co.stored (k * 7) (.slice (some ⟨gF,0,none⟩) n cF)).1.stored (k * 7+1) (.int .i64 z)).1.stored (k * 7+2) (.int .i64 er)).1
   rw [csV_set3 SI6.len HX.out hvk] at h1
   have tt:Turn (fun b=>b = g ∨ b = w.heap.size+1 ∨ b < w.heap.size) w6 w':=(t1.mono (fun b _ h=>.inl h)).trans (hT.mono (fun b _ h=>.inr h))
   refine SI6.put (x':=coBack x n z er) (vF':=(.slice (some ⟨gF,0,none⟩) n cF)) (vR':=.slice AR x.ret.length cR) HX.out hvk (tt.mono (fun b _ h=>?_)) (own_turn h1 hT (fun b hb h=>?_)) ?_ cW cG (Below.refl _ _)
   ·rcases h with rfl | rfl | h
    ·exact .inl rfl
    ·exact .inr (.inr (.inl hlo2))
    ·exact .inr (.inr (.inl (by omega)))
   ·simp [Value.ownBlock] at hb;omega
   ·obtain ⟨AF2,cF2,AR2,cR2,e1,e2,r1,r2⟩:=(CI6.turn tt (fun b _ hb h=>by omega)).told
    obtain ⟨rfl,rfl⟩:some ⟨gF,0,none⟩ = AF2∧cF = cF2:=by simpa using e1
    obtain ⟨rfl,rfl⟩:AR = AR2∧cR = cR2:=by simpa using e2
    exact ⟨_,cF,_,cR,by simp [coBack];have:=Hhn.out;omega,rfl,r1.take n,r2.1,by simp [coBack];omega,by simpa [coBack] using r2.2.2⟩
  have t1:Turn (fun b=>b = g ∨ b = w.heap.size+1) w6 (((w6.setCell ⟨g,k * 7,none⟩ (.slice (some ⟨gF,0,none⟩) n cF)).setCell ⟨g,k * 7+1,none⟩ (.int .i64 z)).setCell ⟨g,k * 7+2,none⟩ (.int .i64 er)):=(((Turn.refl (fun b=>b = g ∨ b = w.heap.size+1) w6).set (.inl rfl) _ _).set (.inl rfl) _ _).set (.inl rfl) _ _
  exact retN (p:=fun b=>b = w.heap.size+1) key (turn5 _ _ _ _ _ _ _) (hb.trans ((t1.trans ((turn5 _ _ _ _ _ _ _).mono (fun _ _ h=>.inr h))).to_below hb.size (fun b h=>by omega)))
theorem heap3b (w0:World) (a b c:Obj):(((w0.alloc a).alloc b).alloc c).heap[w0.heap.size]? = some a∧(((w0.alloc a).alloc b).alloc c).heap[w0.heap.size+1]? = some b∧(((w0.alloc a).alloc b).alloc c).heap[w0.heap.size+1+1]? = some c∧(((w0.alloc a).alloc b).alloc c).heap.size = w0.heap.size+3:=by
 obtain ⟨h1,h2,h3⟩:=heap2 w0 a b
 refine ⟨?_,?_,?_,by simp⟩
 ·rw [Below.heap_alloc _ _ _ (by omega),h1]
 ·rw [Below.heap_alloc _ _ _ (by omega),h2]
 ·rw [show w0.heap.size+1+1 = ((w0.alloc a).alloc b).heap.size by rw [h3],heap_alloc_new]
theorem CoI.setF {T:Nat} {ok:Nat→Prop} {w:World} {x:Co} {ps:List (Option Addr × Nat)} {gF cF n:Nat} {vR:Value} (h:CoI T ok w x ps (.slice (some ⟨gF,0,none⟩) x.F.length cF) vR) (hn:n < x.F.length)
  {op pc r0 r1 r2 r3 r4 r5 r6 r7:Int} {xs:List Int} {A:Option Addr} (c:Nat) {q:Nat→Prop} {w':World} (t':Turn q (((((((((((w.setCell ⟨gF,n * 11,none⟩ (.int .i64 op)).setCell ⟨gF,n * 11+1,none⟩ (.int .i64 pc)).setCell ⟨gF,n * 11+2,none⟩ (.int .i64 r0)).setCell ⟨gF,n * 11+3,none⟩ (.int .i64 r1)).setCell ⟨gF,n * 11+4,none⟩ (.int .i64 r2)).setCell ⟨gF,n * 11+5,none⟩ (.int .i64 r3)).setCell ⟨gF,n * 11+6,none⟩ (.int .i64 r4)).setCell ⟨gF,n * 11+7,none⟩ (.int .i64 r5)).setCell ⟨gF,n * 11+8,none⟩ (.int .i64 r6)).setCell ⟨gF,n * 11+9,none⟩ (.int .i64 r7)).setCell ⟨gF,n * 11+10,none⟩ (.slice A xs.length c)) w') (hq:∀ b,ok b→¬ q b) (hA:RowI (fun b=>b ≠ gF∧¬ q b) w A xs) :
  ToldCo w' (coSet x n ⟨op,pc,[r0,r1,r2,r3,r4,r5,r6,r7],xs⟩) (.slice (some ⟨gF,0,none⟩) x.F.length cF) vR:=by
 obtain ⟨h1,h2⟩:=own_put11 h.fr (fsCells_each h.r8) (i:=n) (by rw [fsCells_len h.pl];exact hn) (.int .i64 op) (.int .i64 pc) (.int .i64 r0) (.int .i64 r1) (.int .i64 r2) (.int .i64 r3) (.int .i64 r4) (.int .i64 r5) (.int .i64 r6) (.int .i64 r7) (.slice A xs.length c)
 have e:(fsCells x.F ps).set n [.int .i64 op,.int .i64 pc,.int .i64 r0,.int .i64 r1,.int .i64 r2,.int .i64 r3,.int .i64 r4,.int .i64 r5,.int .i64 r6,.int .i64 r7,.slice A xs.length c] = fsCells (x.F.set n ⟨op,pc,[r0,r1,r2,r3,r4,r5,r6,r7],xs⟩) (ps.set n (A,c)):=zip_set (f:=frCells) (us:=x.F) (ys:=ps) (i:=n) (a:=⟨op,pc,[r0,r1,r2,r3,r4,r5,r6,r7],xs⟩) (b:=(A,c))
 rw [e] at h1
 have hT:Turn (fun b=>b = gF) w _:=(Turn.refl _ _).grown h2 (fun b hb=>by simpa using hb.symm)
 have h8:∀ f ∈ x.F.set n ⟨op,pc,[r0,r1,r2,r3,r4,r5,r6,r7],xs⟩,f.R.length = 8:=fun f hf=>by
  rcases List.mem_or_eq_of_mem_set hf with h' | h'
  ·exact h.r8 f h'
  ·rw [h'];rfl
 have hpl:(ps.set n (A,c)).length = (x.F.set n ⟨op,pc,[r0,r1,r2,r3,r4,r5,r6,r7],xs⟩).length:=by simpa using h.pl
 obtain ⟨A2,c2,e2,hs⟩:=own_src (own_turn h1 t' (fun b hb e=>hq b (h.okF b hb) e)) (fsCells_each h8) (by rw [fsCells_len hpl];simp) (fsCells_one _ _)
 obtain ⟨AR,cR,eR,rR⟩:=h.rr
 have hcp:=own_cap h.fr
 have e3:c2 = cF:=by injection e2 with _ _ e2;exact e2.symm
 refine ⟨A2,c2,AR,cR,?_,eR,Src.rowF hpl h8 hs (fun j f p hf hp=>?_),((rR.turn hT (fun b _ hb e=>hb.2 (by rw [e];rfl))).turn t' (fun b _ hb e=>hq b hb.1 e)).row,by rw [e3];simpa [coSet] using hcp,by simpa [coSet] using h.rc _ _ _ eR⟩
 ·rw [e2];simp [coSet]
 ·have hf:(x.F.set n ⟨op,pc,[r0,r1,r2,r3,r4,r5,r6,r7],xs⟩)[j]? = some f:=hf
  by_cases ej:j = n
  ·subst ej
   rw [List.getElem?_set_self hn] at hf
   rw [List.getElem?_set_self (by rw [h.pl];exact hn)] at hp
   injection hf with hf
   injection hp with hp
   subst hf hp
   exact ((hA.turn hT (fun b _ hb e=>hb.1 e)).turn t' (fun b _ hb e=>hb.2 e)).row
  ·rw [List.getElem?_set_ne (fun h=>ej h.symm)] at hf hp
   exact (((h.sr j f p hf hp).turn hT (fun b _ hb e=>hb.2 (by rw [e];rfl))).turn t' (fun b _ hb e=>hq b hb.1 e)).row
theorem set_outN (A B AC AL:Option Addr) (c d cC cL:Nat) (s:Sy) (i:Int) (AS:Option Addr) (cS:Nat) (op pc r0 r1 r2 r3 r4 r5 r6 r7:Int) (xs:List Int) (hi:syHas s i = false) (w:World) (hW:Row w A s.M.W) (hG:Row w B s.M.G) (hC:RowC w AC s.C) (hL:RowE w AL s.L) (h0:s.M.W.length≤1000000) (h1:s.M.G.length≤1000000) (h2:s.C.length≤1000000) (h3:s.L.length≤1000000) (h4:∀ x ∈ s.C,x.ret.length≤1000000∧x.F.length≤1000000∧∀ f ∈ x.F,f.S.length≤1000000) :
  Calls Tryz.prog 50 #[.agg (uS A B AC AL c d cC cL s),.int .i64 i,.agg (uF op pc r0 r1 r2 r3 r4 r5 r6 r7 AS xs cS)] w (RetSysN w s):=by
 obtain ⟨b1,bf,b2,bs⟩:=heap3b w (.cells (uS A B AC AL c d cC cL s) 30) (.cells (uF op pc r0 r1 r2 r3 r4 r5 r6 r7 AS xs cS) 60) (.cells uZ 30)
 have hw2:Below w.heap.size w (((w.alloc (.cells (uS A B AC AL c d cC cL s) 30)).alloc (.cells (uF op pc r0 r1 r2 r3 r4 r5 r6 r7 AS xs cS) 60)).alloc (.cells uZ 30)):=bstep (bstep (boxed _ _) (boxed _ _)) (boxed _ _)
 have H4:=hid h4
 clear h4
 go_enter Tryz.func50,Tryz.ntmps50
 go_wp2_with fail
 generalize (((w.alloc (.cells (uS A B AC AL c d cC cL s) 30)).alloc (.cells (uF op pc r0 r1 r2 r3 r4 r5 r6 r7 AS xs cS) 60)).alloc (.cells uZ 30)) = w2 at *
 refine (copied_any A B AC AL c d cC cL s w2 (hW.step hw2) (hG.step hw2) (hC.step hw2) (hL.step hw2) h0 h1 h2 h3 H4.out).mono ?_
 rintro e w3 ⟨lo,hm,own,vs,AW,AG,cW,cG,vC,vL,rfl,hlo,SI,hk⟩
 have hmv:hm≤w3.heap.size:=SI.hw
 have SI:=SI.seal
 have hside:∀ b,w3.heap.size≤b→Side s lo hm (fun b=>if b < w3.heap.size then own b else s.C.length) b:=fun b hb=>.inr ⟨by omega,if_neg (by omega)⟩
 generalize (fun b=>if b < w3.heap.size then own b else s.C.length) = own2 at *
 obtain ⟨AC',cC',rfl⟩:=own_val SI.co
 obtain ⟨AL',cL',rfl⟩:=own_val SI.ev
 replace b1:=(hk.block w.heap.size (by omega)).trans b1
 replace b2:=(hk.block (w.heap.size+1+1) (by omega)).trans b2
 replace bf:=(hk.block (w.heap.size+1) (by omega)).trans bf
 have hb:=bstep hw2 hk
 have hz:w.heap.size+1+1 < w3.heap.size:=by have:=hk.size;omega
 have hz0:w.heap.size < w3.heap.size:=by omega
 have hlo2:w.heap.size+1+1 < lo:=by omega
 have hz1:w.heap.size+1 < w3.heap.size:=by omega
 clear hk hw2 bs hlo hW hG hL h0 h1
 obtain ⟨p0,p1,p2,p3,p4⟩:=cells5 b1
 go_wp2_with fail
 have bv:=heap_alloc_new w3 (.cells (uS AW AG AC' AL' cW cG cC' cL' s) 30)
 have t4:Turn (fun _=>False) w3 (w3.alloc (.cells (uS AW AG AC' AL' cW cG cC' cL' s) 30)):=(Turn.refl _ _).alloc _
 replace SI:=SI.turn t4 (fun _ _ h=>h)
 replace b1:=(t4.block w.heap.size hz0 id).trans b1
 replace b2:=(t4.block (w.heap.size+1+1) hz id).trans b2
 replace bf:=(t4.block (w.heap.size+1) hz1 id).trans bf
 skip
 replace hb:=bstep hb (boxed w3 (.cells (uS AW AG AC' AL' cW cG cC' cL' s) 30))
 have vx:w3.heap.size < (w3.alloc (.cells (uS AW AG AC' AL' cW cG cC' cL' s) 30)).heap.size:=by simp
 clear t4 p0 p1 p2 p3 p4
 obtain ⟨v,hv⟩:∃ v,w3.heap.size = v:=⟨_,rfl⟩
 generalize (w3.alloc (.cells (uS AW AG AC' AL' cW cG cC' cL' s) 30)) = w4 at *
 rw [hv] at bv vx hz hz0 hmv hside ⊢
 have HSD:=hid hside
 clear hside
 rw [hv] at hz1
 clear hv
 refine (hasFrame_out _ _ _ _ _ _ _ _ s i _ h2 hi).mono ?_
 rintro e w5 ⟨rfl,hk⟩
 replace b1:=(hk.block w.heap.size (by omega)).trans b1
 replace b2:=(hk.block (w.heap.size+1+1) (by omega)).trans b2
 replace bv:=(hk.block v vx).trans bv
 replace bf:=(hk.block (w.heap.size+1) (by omega)).trans bf
 replace SI:=SI.turn (Turn.below (Turn.refl (fun _=>False) _) hk) (fun _ _ h=>h)
 replace hb:=bstep hb hk
 replace vx:=Nat.lt_of_lt_of_le vx hk.size
 clear hk
 obtain ⟨m0,m1,m2,m3,m4,mf0,mf1,mf2,mf3,mf4⟩:=cf5 bv
 obtain ⟨q0,q1,q2,q3,q4,qf0,qf1,qf2,qf3,qf4⟩:=cf5 b2
 clear b1 b2 bv
 go_wp2
 refine bodyPost_ret (v:=.agg (uS AW AG AC' AL' cW cG cC' cL' s)) (by simp [uS,results,Tryz.results50,go_sem,q0,q1,q2,q3,q4]) rfl ?_
 have key:∀ w',Turn (fun b=>(b = w.heap.size+1+1) ∨ b < w.heap.size) w5 w'→RetSys w' s (.returned (.agg (uS AW AG AC' AL' cW cG cC' cL' s))) w':=fun w' hT=>(SI.turn hT (fun b hb e=>by omega)).told cW cG (Below.refl _ _)
 exact retN (p:=fun b=>b = w.heap.size+1+1) key (turn5 _ _ _ _ _ _ _) (hb.trans ((turn5 _ _ _ _ _ _ _).to_below hb.size (fun g hg=>by omega)))
theorem set_noneN (A B AC AL:Option Addr) (c d cC cL:Nat) (s:Sy) (k:Nat) (x:Co) (AS:Option Addr) (cS:Nat) (op pc r0 r1 r2 r3 r4 r5 r6 r7:Int) (xs:List Int) (hx:s.C[k]? = some x) (hF:x.F.length = 0) (w:World) (hW:Row w A s.M.W) (hG:Row w B s.M.G) (hC:RowC w AC s.C) (hL:RowE w AL s.L) (h0:s.M.W.length≤1000000) (h1:s.M.G.length≤1000000) (h2:s.C.length≤1000000) (h3:s.L.length≤1000000) (h4:∀ x ∈ s.C,x.ret.length≤1000000∧x.F.length≤1000000∧∀ f ∈ x.F,f.S.length≤1000000) :
  Calls Tryz.prog 50 #[.agg (uS A B AC AL c d cC cL s),.int .i64 k,.agg (uF op pc r0 r1 r2 r3 r4 r5 r6 r7 AS xs cS)] w (RetSysN w s):=by
 have hxF:¬ 0 < x.F.length:=by omega
 obtain ⟨b1,bf,b2,bs⟩:=heap3b w (.cells (uS A B AC AL c d cC cL s) 30) (.cells (uF op pc r0 r1 r2 r3 r4 r5 r6 r7 AS xs cS) 60) (.cells uZ 30)
 have hw2:Below w.heap.size w (((w.alloc (.cells (uS A B AC AL c d cC cL s) 30)).alloc (.cells (uF op pc r0 r1 r2 r3 r4 r5 r6 r7 AS xs cS) 60)).alloc (.cells uZ 30)):=bstep (bstep (boxed _ _) (boxed _ _)) (boxed _ _)
 have H4:=hid h4
 clear h4
 go_enter Tryz.func50,Tryz.ntmps50
 go_wp2_with fail
 generalize (((w.alloc (.cells (uS A B AC AL c d cC cL s) 30)).alloc (.cells (uF op pc r0 r1 r2 r3 r4 r5 r6 r7 AS xs cS) 60)).alloc (.cells uZ 30)) = w2 at *
 refine (copied_any A B AC AL c d cC cL s w2 (hW.step hw2) (hG.step hw2) (hC.step hw2) (hL.step hw2) h0 h1 h2 h3 H4.out).mono ?_
 rintro e w3 ⟨lo,hm,own,vs,AW,AG,cW,cG,vC,vL,rfl,hlo,SI,hk⟩
 have hmv:hm≤w3.heap.size:=SI.hw
 have SI:=SI.seal
 have hside:∀ b,w3.heap.size≤b→Side s lo hm (fun b=>if b < w3.heap.size then own b else s.C.length) b:=fun b hb=>.inr ⟨by omega,if_neg (by omega)⟩
 generalize (fun b=>if b < w3.heap.size then own b else s.C.length) = own2 at *
 obtain ⟨AC',cC',rfl⟩:=own_val SI.co
 obtain ⟨AL',cL',rfl⟩:=own_val SI.ev
 replace b1:=(hk.block w.heap.size (by omega)).trans b1
 replace b2:=(hk.block (w.heap.size+1+1) (by omega)).trans b2
 replace bf:=(hk.block (w.heap.size+1) (by omega)).trans bf
 have hb:=bstep hw2 hk
 have hz:w.heap.size+1+1 < w3.heap.size:=by have:=hk.size;omega
 have hz0:w.heap.size < w3.heap.size:=by omega
 have hlo2:w.heap.size+1+1 < lo:=by omega
 have hz1:w.heap.size+1 < w3.heap.size:=by omega
 clear hk hw2 bs hlo hW hG hL h0 h1
 obtain ⟨p0,p1,p2,p3,p4⟩:=cells5 b1
 go_wp2_with fail
 have bv:=heap_alloc_new w3 (.cells (uS AW AG AC' AL' cW cG cC' cL' s) 30)
 have t4:Turn (fun _=>False) w3 (w3.alloc (.cells (uS AW AG AC' AL' cW cG cC' cL' s) 30)):=(Turn.refl _ _).alloc _
 replace SI:=SI.turn t4 (fun _ _ h=>h)
 replace b1:=(t4.block w.heap.size hz0 id).trans b1
 replace b2:=(t4.block (w.heap.size+1+1) hz id).trans b2
 replace bf:=(t4.block (w.heap.size+1) hz1 id).trans bf
 skip
 replace hb:=bstep hb (boxed w3 (.cells (uS AW AG AC' AL' cW cG cC' cL' s) 30))
 have vx:w3.heap.size < (w3.alloc (.cells (uS AW AG AC' AL' cW cG cC' cL' s) 30)).heap.size:=by simp
 clear t4 p0 p1 p2 p3 p4
 obtain ⟨v,hv⟩:∃ v,w3.heap.size = v:=⟨_,rfl⟩
 generalize (w3.alloc (.cells (uS AW AG AC' AL' cW cG cC' cL' s) 30)) = w4 at *
 rw [hv] at bv vx hz hz0 hmv hside ⊢
 have HSD:=hid hside
 clear hside
 rw [hv] at hz1
 clear hv
 refine (hasFrame_at _ _ _ _ _ _ _ _ s k x _ (hC.step hb) h2 hx (H4.out x (List.mem_of_getElem? hx)).2.1).mono ?_
 rintro e w5 ⟨rfl,hk⟩
 rw [decide_eq_false hxF]
 replace b1:=(hk.block w.heap.size (by omega)).trans b1
 replace b2:=(hk.block (w.heap.size+1+1) (by omega)).trans b2
 replace bv:=(hk.block v vx).trans bv
 replace bf:=(hk.block (w.heap.size+1) (by omega)).trans bf
 replace SI:=SI.turn (Turn.below (Turn.refl (fun _=>False) _) hk) (fun _ _ h=>h)
 replace hb:=bstep hb hk
 replace vx:=Nat.lt_of_lt_of_le vx hk.size
 clear hk
 obtain ⟨m0,m1,m2,m3,m4,mf0,mf1,mf2,mf3,mf4⟩:=cf5 bv
 obtain ⟨q0,q1,q2,q3,q4,qf0,qf1,qf2,qf3,qf4⟩:=cf5 b2
 clear b1 b2 bv
 go_wp2
 refine bodyPost_ret (v:=.agg (uS AW AG AC' AL' cW cG cC' cL' s)) (by simp [uS,results,Tryz.results50,go_sem,q0,q1,q2,q3,q4]) rfl ?_
 have key:∀ w',Turn (fun b=>(b = w.heap.size+1+1) ∨ b < w.heap.size) w5 w'→RetSys w' s (.returned (.agg (uS AW AG AC' AL' cW cG cC' cL' s))) w':=fun w' hT=>(SI.turn hT (fun b hb e=>by omega)).told cW cG (Below.refl _ _)
 exact retN (p:=fun b=>b = w.heap.size+1+1) key (turn5 _ _ _ _ _ _ _) (hb.trans ((turn5 _ _ _ _ _ _ _).to_below hb.size (fun g hg=>by omega)))
theorem set_yesN (A B AC AL:Option Addr) (c d cC cL:Nat) (s:Sy) (k n:Nat) (x:Co) (AS:Option Addr) (cS:Nat) (op pc r0 r1 r2 r3 r4 r5 r6 r7:Int) (xs:List Int) (hx:s.C[k]? = some x) (hn:x.F.length = n+1) (h6:xs.length≤1000000) (w:World) (hS:Row w AS xs) (hW:Row w A s.M.W) (hG:Row w B s.M.G) (hC:RowC w AC s.C) (hL:RowE w AL s.L) (h0:s.M.W.length≤1000000) (h1:s.M.G.length≤1000000) (h2:s.C.length≤1000000) (h3:s.L.length≤1000000) (h4:∀ x ∈ s.C,x.ret.length≤1000000∧x.F.length≤1000000∧∀ f ∈ x.F,f.S.length≤1000000) :
  Calls Tryz.prog 50 #[.agg (uS A B AC AL c d cC cL s),.int .i64 k,.agg (uF op pc r0 r1 r2 r3 r4 r5 r6 r7 AS xs cS)] w (RetSysN w (syWith s k (coSet x n ⟨op,pc,[r0,r1,r2,r3,r4,r5,r6,r7],xs⟩))):=by
 have hxF:0 < x.F.length:=by omega
 have hkl:k < s.C.length:=(List.getElem?_eq_some_iff.1 hx).1
 have HX:=hid hx
 clear hx
 obtain ⟨b1,bf,b2,bs⟩:=heap3b w (.cells (uS A B AC AL c d cC cL s) 30) (.cells (uF op pc r0 r1 r2 r3 r4 r5 r6 r7 AS xs cS) 60) (.cells uZ 30)
 have hw2:Below w.heap.size w (((w.alloc (.cells (uS A B AC AL c d cC cL s) 30)).alloc (.cells (uF op pc r0 r1 r2 r3 r4 r5 r6 r7 AS xs cS) 60)).alloc (.cells uZ 30)):=bstep (bstep (boxed _ _) (boxed _ _)) (boxed _ _)
 have H4:=hid h4
 clear h4
 go_enter Tryz.func50,Tryz.ntmps50
 go_wp2_with fail
 generalize (((w.alloc (.cells (uS A B AC AL c d cC cL s) 30)).alloc (.cells (uF op pc r0 r1 r2 r3 r4 r5 r6 r7 AS xs cS) 60)).alloc (.cells uZ 30)) = w2 at *
 refine (copied_any A B AC AL c d cC cL s w2 (hW.step hw2) (hG.step hw2) (hC.step hw2) (hL.step hw2) h0 h1 h2 h3 H4.out).mono ?_
 rintro e w3 ⟨lo,hm,own,vs,AW,AG,cW,cG,vC,vL,rfl,hlo,SI,hk⟩
 have hmv:hm≤w3.heap.size:=SI.hw
 have SI:=SI.seal
 have hside:∀ b,w3.heap.size≤b→Side s lo hm (fun b=>if b < w3.heap.size then own b else s.C.length) b:=fun b hb=>.inr ⟨by omega,if_neg (by omega)⟩
 generalize (fun b=>if b < w3.heap.size then own b else s.C.length) = own2 at *
 obtain ⟨AC',cC',rfl⟩:=own_val SI.co
 obtain ⟨AL',cL',rfl⟩:=own_val SI.ev
 replace b1:=(hk.block w.heap.size (by omega)).trans b1
 replace b2:=(hk.block (w.heap.size+1+1) (by omega)).trans b2
 replace bf:=(hk.block (w.heap.size+1) (by omega)).trans bf
 have hb:=bstep hw2 hk
 have hz:w.heap.size+1+1 < w3.heap.size:=by have:=hk.size;omega
 have hz0:w.heap.size < w3.heap.size:=by omega
 have hlo2:w.heap.size+1+1 < lo:=by omega
 have hz1:w.heap.size+1 < w3.heap.size:=by omega
 clear hk hw2 bs hlo hW hG hL h0 h1
 obtain ⟨p0,p1,p2,p3,p4⟩:=cells5 b1
 go_wp2_with fail
 have bv:=heap_alloc_new w3 (.cells (uS AW AG AC' AL' cW cG cC' cL' s) 30)
 have t4:Turn (fun _=>False) w3 (w3.alloc (.cells (uS AW AG AC' AL' cW cG cC' cL' s) 30)):=(Turn.refl _ _).alloc _
 replace SI:=SI.turn t4 (fun _ _ h=>h)
 replace b1:=(t4.block w.heap.size hz0 id).trans b1
 replace b2:=(t4.block (w.heap.size+1+1) hz id).trans b2
 replace bf:=(t4.block (w.heap.size+1) hz1 id).trans bf
 skip
 replace hb:=bstep hb (boxed w3 (.cells (uS AW AG AC' AL' cW cG cC' cL' s) 30))
 have vx:w3.heap.size < (w3.alloc (.cells (uS AW AG AC' AL' cW cG cC' cL' s) 30)).heap.size:=by simp
 clear t4 p0 p1 p2 p3 p4
 obtain ⟨v,hv⟩:∃ v,w3.heap.size = v:=⟨_,rfl⟩
 generalize (w3.alloc (.cells (uS AW AG AC' AL' cW cG cC' cL' s) 30)) = w4 at *
 rw [hv] at bv vx hz hz0 hmv hside ⊢
 have HSD:=hid hside
 clear hside
 rw [hv] at hz1
 clear hv
 refine (hasFrame_at _ _ _ _ _ _ _ _ s k x _ (hC.step hb) h2 HX.out (H4.out x (List.mem_of_getElem? HX.out)).2.1).mono ?_
 rintro e w5 ⟨rfl,hk⟩
 rw [decide_eq_true hxF]
 replace b1:=(hk.block w.heap.size (by omega)).trans b1
 replace b2:=(hk.block (w.heap.size+1+1) (by omega)).trans b2
 replace bv:=(hk.block v vx).trans bv
 replace bf:=(hk.block (w.heap.size+1) (by omega)).trans bf
 replace SI:=SI.turn (Turn.below (Turn.refl (fun _=>False) _) hk) (fun _ _ h=>h)
 replace hb:=bstep hb hk
 replace vx:=Nat.lt_of_lt_of_le vx hk.size
 clear hk
 obtain ⟨g,cap,AF,AR,cF,cR,ps,eC,hvk,hg1,hg2,CI,hcell,hfz⟩:=SI.look HX.out
 obtain ⟨rfl,rfl⟩:AC' = some ⟨g,0,none⟩∧cC' = cap:=by simpa using eC
 obtain ⟨gF,capF,eF,_,gFl⟩:=CI.fr.form hxF
 obtain ⟨rfl,rfl⟩:AF = some ⟨gF,0,none⟩∧cF = capF:=by simpa using eF
 have gFh:=(CI.okF gF rfl).1
 have gFv:gF ≠ v:=by
  intro e
  have h7:=(CI.okF gF rfl).2
  have h8:=SI.lh
  rw [e] at h7
  rcases HSD.out v (Nat.le_refl _) with h9 | h9
  ·omega
  ·omega
 clear eC eF
 have u0:w5.cell? ⟨g,k * 7,none⟩ = some (.slice (some ⟨gF,0,none⟩) x.F.length cF):=hcell 0 _ rfl
 have HC5:=hid (hC.step hb)
 have HS5:=hid (hS.step hb)
 have HFC:=hid (show ∀ j,j < x.F.length * 11→∃ u,w5.cell? ⟨gF,j,none⟩ = some u from fun j hj=>⟨_,(CI.fr.cellAt j hj).trans (List.getElem?_eq_getElem (by rw [CI.fr.1];exact hj))⟩)
 have HFF:=hid (show ∀ j,w5.frozen? ⟨gF,j,none⟩ = false from CI.fr.frozenAt)
 obtain ⟨p0,p1,p2,p3,p4⟩:=cells5 b1
 obtain ⟨f0,f1,f2,f3,f4,f5,f6,f7,f8,f9,f10⟩:=cells11 bf
 obtain ⟨-,-,-,m3⟩:=cells4 bv
 have gl5:g < w5.heap.size:=World.block_lt_of_cell? w5 _ u0
 have n5:w.heap.size < w5.heap.size:=by omega
 have n6:w.heap.size+1 < w5.heap.size:=by omega
 have h5:x.F.length≤1000000:=(H4.out x (List.mem_of_getElem? HX.out)).2.1
 have HN:=hid (show (x.F.length:Int) - 1 = (n:Int) by omega)
 have kl:(k:Int) < (s.C.length:Int):=by omega
 have nl:(n:Int) < (x.F.length:Int):=by omega
 have hnl:n < x.F.length:=by omega
 have Hhn:=hid hn
 clear hcell hfz hn
 have KS:=hid (show ∀ w',Turn (fun b=>b = gF) w5 w'→(w'.cell? ⟨v,3,none⟩ = some (.slice (some ⟨g,0,none⟩) s.C.length cC')∧w'.cell? ⟨g,k * 7,none⟩ = some (.slice (some ⟨gF,0,none⟩) x.F.length cF)∧w'.cell? ⟨w.heap.size,0,none⟩ = some (.slice A s.M.W.length c)∧w'.cell? ⟨w.heap.size,1,none⟩ = some (.slice B s.M.G.length d)∧w'.cell? ⟨w.heap.size,2,none⟩ = some (.bool s.M.bad)∧w'.cell? ⟨w.heap.size,3,none⟩ = some (.slice AC s.C.length cC)∧w'.cell? ⟨w.heap.size,4,none⟩ = some (.slice AL s.L.length cL)∧w'.cell? ⟨w.heap.size+1,0,none⟩ = some (.int .i64 op)∧w'.cell? ⟨w.heap.size+1,1,none⟩ = some (.int .i64 pc)∧w'.cell? ⟨w.heap.size+1,2,none⟩ = some (.int .i64 r0)∧w'.cell? ⟨w.heap.size+1,3,none⟩ = some (.int .i64 r1)∧w'.cell? ⟨w.heap.size+1,4,none⟩ = some (.int .i64 r2)∧w'.cell? ⟨w.heap.size+1,5,none⟩ = some (.int .i64 r3)∧w'.cell? ⟨w.heap.size+1,6,none⟩ = some (.int .i64 r4)∧w'.cell? ⟨w.heap.size+1,7,none⟩ = some (.int .i64 r5)∧w'.cell? ⟨w.heap.size+1,8,none⟩ = some (.int .i64 r6)∧w'.cell? ⟨w.heap.size+1,9,none⟩ = some (.int .i64 r7)∧w'.cell? ⟨w.heap.size+1,10,none⟩ = some (.slice AS xs.length cS)) from fun w' h=>⟨(h.cell vx (by omega)).trans m3,(h.cell gl5 (by omega)).trans u0,(h.cell n5 (by omega)).trans p0,(h.cell n5 (by omega)).trans p1,(h.cell n5 (by omega)).trans p2,(h.cell n5 (by omega)).trans p3,(h.cell n5 (by omega)).trans p4,(h.cell n6 (by omega)).trans f0,(h.cell n6 (by omega)).trans f1,(h.cell n6 (by omega)).trans f2,(h.cell n6 (by omega)).trans f3,(h.cell n6 (by omega)).trans f4,(h.cell n6 (by omega)).trans f5,(h.cell n6 (by omega)).trans f6,(h.cell n6 (by omega)).trans f7,(h.cell n6 (by omega)).trans f8,(h.cell n6 (by omega)).trans f9,(h.cell n6 (by omega)).trans f10⟩)
 go_upto_region 3 with (fail)
 go_cut [7] from 8 (fun s0 wx=>s0 = .pointer (some ⟨v,0,none⟩)∧∃ w7 A' c',Below w5.heap.size w5 w7∧RowI (fun b=>w5.heap.size≤b) w7 A' xs∧wx = (((((((((((w7.setCell ⟨gF,n * 11,none⟩ (.int .i64 op)).setCell ⟨gF,n * 11+1,none⟩ (.int .i64 pc)).setCell ⟨gF,n * 11+2,none⟩ (.int .i64 r0)).setCell ⟨gF,n * 11+3,none⟩ (.int .i64 r1)).setCell ⟨gF,n * 11+4,none⟩ (.int .i64 r2)).setCell ⟨gF,n * 11+5,none⟩ (.int .i64 r3)).setCell ⟨gF,n * 11+6,none⟩ (.int .i64 r4)).setCell ⟨gF,n * 11+7,none⟩ (.int .i64 r5)).setCell ⟨gF,n * 11+8,none⟩ (.int .i64 r6)).setCell ⟨gF,n * 11+9,none⟩ (.int .i64 r7)).setCell ⟨gF,n * 11+10,none⟩ (.slice A' xs.length c')))
 case first =>
  clear SI CI b1 b2 bv bf hvk hb
  go_region_held3 (fun w'=>w'.cell? ⟨v,3,none⟩ = some (.slice (some ⟨g,0,none⟩) s.C.length cC')∧w'.cell? ⟨g,k * 7,none⟩ = some (.slice (some ⟨gF,0,none⟩) x.F.length cF)∧w'.cell? ⟨w.heap.size,0,none⟩ = some (.slice A s.M.W.length c)∧w'.cell? ⟨w.heap.size,1,none⟩ = some (.slice B s.M.G.length d)∧w'.cell? ⟨w.heap.size,2,none⟩ = some (.bool s.M.bad)∧w'.cell? ⟨w.heap.size,3,none⟩ = some (.slice AC s.C.length cC)∧w'.cell? ⟨w.heap.size,4,none⟩ = some (.slice AL s.L.length cL)∧w'.cell? ⟨w.heap.size+1,0,none⟩ = some (.int .i64 op)∧w'.cell? ⟨w.heap.size+1,1,none⟩ = some (.int .i64 pc)∧w'.cell? ⟨w.heap.size+1,2,none⟩ = some (.int .i64 r0)∧w'.cell? ⟨w.heap.size+1,3,none⟩ = some (.int .i64 r1)∧w'.cell? ⟨w.heap.size+1,4,none⟩ = some (.int .i64 r2)∧w'.cell? ⟨w.heap.size+1,5,none⟩ = some (.int .i64 r3)∧w'.cell? ⟨w.heap.size+1,6,none⟩ = some (.int .i64 r4)∧w'.cell? ⟨w.heap.size+1,7,none⟩ = some (.int .i64 r5)∧w'.cell? ⟨w.heap.size+1,8,none⟩ = some (.int .i64 r6)∧w'.cell? ⟨w.heap.size+1,9,none⟩ = some (.int .i64 r7)∧w'.cell? ⟨w.heap.size+1,10,none⟩ = some (.slice AS xs.length cS)) (exact KS.out _ (by repeat (first | (with_reducible exact Turn.refl _ _) | (with_reducible refine Turn.set ?_ (by simp) _ _) | (with_reducible refine Turn.drew ?_) | (with_reducible refine Turn.below ?_ hk7) | (with_reducible refine Turn.below ?_ hk6))))
   (first
    | (go_at_call 47;refine (last_at A B AC AL c d cC cL s k x _ (HC5.out.step ((Below.refl _ _).drew)) h2 HX.out h5).mono ?_;rintro e w6 ⟨rfl,hk6⟩;rw [HN.out];have hj1:Below w5.heap.size w5 w6:=bstep ((Below.refl _ _).drew) hk6)
    | (go_at_call 46;refine (copiedFrame_any AS cS op pc r0 r1 r2 r3 r4 r5 r6 r7 xs _ (HS5.out.step hj1) h6).mono ?_;rintro e w7 ⟨A',c',rfl,hr7,hk7⟩;have hj2:=bstep hj1 hk7;obtain ⟨y0,hy0⟩:=HFC.out (n * 11) (by omega);replace hy0:=(hj2.cell gFl).trans hy0;have hz20:=(hj2.frozen gFl).trans (HFF.out (n * 11));obtain ⟨y1,hy1⟩:=HFC.out (n * 11+1) (by omega);replace hy1:=(hj2.cell gFl).trans hy1;have hz21:=(hj2.frozen gFl).trans (HFF.out (n * 11+1));obtain ⟨y2,hy2⟩:=HFC.out (n * 11+2) (by omega);replace hy2:=(hj2.cell gFl).trans hy2;have hz22:=(hj2.frozen gFl).trans (HFF.out (n * 11+2));obtain ⟨y3,hy3⟩:=HFC.out (n * 11+3) (by omega);replace hy3:=(hj2.cell gFl).trans hy3;have hz23:=(hj2.frozen gFl).trans (HFF.out (n * 11+3));obtain ⟨y4,hy4⟩:=HFC.out (n * 11+4) (by omega);replace hy4:=(hj2.cell gFl).trans hy4;have hz24:=(hj2.frozen gFl).trans (HFF.out (n * 11+4));obtain ⟨y5,hy5⟩:=HFC.out (n * 11+5) (by omega);replace hy5:=(hj2.cell gFl).trans hy5;have hz25:=(hj2.frozen gFl).trans (HFF.out (n * 11+5));obtain ⟨y6,hy6⟩:=HFC.out (n * 11+6) (by omega);replace hy6:=(hj2.cell gFl).trans hy6;have hz26:=(hj2.frozen gFl).trans (HFF.out (n * 11+6));obtain ⟨y7,hy7⟩:=HFC.out (n * 11+7) (by omega);replace hy7:=(hj2.cell gFl).trans hy7;have hz27:=(hj2.frozen gFl).trans (HFF.out (n * 11+7));obtain ⟨y8,hy8⟩:=HFC.out (n * 11+8) (by omega);replace hy8:=(hj2.cell gFl).trans hy8;have hz28:=(hj2.frozen gFl).trans (HFF.out (n * 11+8));obtain ⟨y9,hy9⟩:=HFC.out (n * 11+9) (by omega);replace hy9:=(hj2.cell gFl).trans hy9;have hz29:=(hj2.frozen gFl).trans (HFF.out (n * 11+9));obtain ⟨y10,hy10⟩:=HFC.out (n * 11+10) (by omega);replace hy10:=(hj2.cell gFl).trans hy10;have hz30:=(hj2.frozen gFl).trans (HFF.out (n * 11+10))))
  all_goals go_wp2_with fail
  all_goals go_meet
  all_goals exact ⟨rfl,_,A',c',hj2,hr7.mono (fun b _ hb=>Nat.le_trans hj1.size hb),rfl⟩
 case rest =>
  obtain ⟨rfl,w7,A',c',hj,hr7,rfl⟩:=hcut
  have SI7:=SI.turn (Turn.below (Turn.refl (fun _=>False) _) hj) (fun _ _ h=>h)
  have CI7:=CI.keep hj.size (fun b hl _=>hj.block b hl)
  replace b2:=(hj.block (w.heap.size+1+1) (by omega)).trans b2
  replace bv:=(hj.block v vx).trans bv
  replace hb:=bstep hb hj
  have tF:Turn (fun b=>b = gF) w7 (((((((((((w7.setCell ⟨gF,n * 11,none⟩ (.int .i64 op)).setCell ⟨gF,n * 11+1,none⟩ (.int .i64 pc)).setCell ⟨gF,n * 11+2,none⟩ (.int .i64 r0)).setCell ⟨gF,n * 11+3,none⟩ (.int .i64 r1)).setCell ⟨gF,n * 11+4,none⟩ (.int .i64 r2)).setCell ⟨gF,n * 11+5,none⟩ (.int .i64 r3)).setCell ⟨gF,n * 11+6,none⟩ (.int .i64 r4)).setCell ⟨gF,n * 11+7,none⟩ (.int .i64 r5)).setCell ⟨gF,n * 11+8,none⟩ (.int .i64 r6)).setCell ⟨gF,n * 11+9,none⟩ (.int .i64 r7)).setCell ⟨gF,n * 11+10,none⟩ (.slice A' xs.length c')):=(by repeat (first | (with_reducible exact Turn.refl _ _) | (with_reducible refine Turn.set ?_ (by simp) _ _)))
  replace b2:=(tF.block (w.heap.size+1+1) (by have:=hj.size;omega) (by omega)).trans b2
  replace bv:=(tF.block v (by have:=hj.size;omega) (fun e=>gFv e.symm)).trans bv
  have TC:∀ w',Turn (fun b=>(b = w.heap.size+1+1) ∨ b < w.heap.size) (((((((((((w7.setCell ⟨gF,n * 11,none⟩ (.int .i64 op)).setCell ⟨gF,n * 11+1,none⟩ (.int .i64 pc)).setCell ⟨gF,n * 11+2,none⟩ (.int .i64 r0)).setCell ⟨gF,n * 11+3,none⟩ (.int .i64 r1)).setCell ⟨gF,n * 11+4,none⟩ (.int .i64 r2)).setCell ⟨gF,n * 11+5,none⟩ (.int .i64 r3)).setCell ⟨gF,n * 11+6,none⟩ (.int .i64 r4)).setCell ⟨gF,n * 11+7,none⟩ (.int .i64 r5)).setCell ⟨gF,n * 11+8,none⟩ (.int .i64 r6)).setCell ⟨gF,n * 11+9,none⟩ (.int .i64 r7)).setCell ⟨gF,n * 11+10,none⟩ (.slice A' xs.length c')) w'→ToldCo w' (coSet x n ⟨op,pc,[r0,r1,r2,r3,r4,r5,r6,r7],xs⟩) (.slice (some ⟨gF,0,none⟩) x.F.length cF) (.slice AR x.ret.length cR):=fun w' hT=>CI7.setF hnl c' hT (fun b hb e=>by have h8:=SI.lh;omega) (hr7.mono (fun b _ hb=>⟨by omega,by omega⟩))
  have hw8:w7.heap.size≤(((((((((((w7.setCell ⟨gF,n * 11,none⟩ (.int .i64 op)).setCell ⟨gF,n * 11+1,none⟩ (.int .i64 pc)).setCell ⟨gF,n * 11+2,none⟩ (.int .i64 r0)).setCell ⟨gF,n * 11+3,none⟩ (.int .i64 r1)).setCell ⟨gF,n * 11+4,none⟩ (.int .i64 r2)).setCell ⟨gF,n * 11+5,none⟩ (.int .i64 r3)).setCell ⟨gF,n * 11+6,none⟩ (.int .i64 r4)).setCell ⟨gF,n * 11+7,none⟩ (.int .i64 r5)).setCell ⟨gF,n * 11+8,none⟩ (.int .i64 r6)).setCell ⟨gF,n * 11+9,none⟩ (.int .i64 r7)).setCell ⟨gF,n * 11+10,none⟩ (.slice A' xs.length c')).heap.size:=tF.size
  generalize (((((((((((w7.setCell ⟨gF,n * 11,none⟩ (.int .i64 op)).setCell ⟨gF,n * 11+1,none⟩ (.int .i64 pc)).setCell ⟨gF,n * 11+2,none⟩ (.int .i64 r0)).setCell ⟨gF,n * 11+3,none⟩ (.int .i64 r1)).setCell ⟨gF,n * 11+4,none⟩ (.int .i64 r2)).setCell ⟨gF,n * 11+5,none⟩ (.int .i64 r3)).setCell ⟨gF,n * 11+6,none⟩ (.int .i64 r4)).setCell ⟨gF,n * 11+7,none⟩ (.int .i64 r5)).setCell ⟨gF,n * 11+8,none⟩ (.int .i64 r6)).setCell ⟨gF,n * 11+9,none⟩ (.int .i64 r7)).setCell ⟨gF,n * 11+10,none⟩ (.slice A' xs.length c')) = w8 at *
  obtain ⟨m0,m1,m2,m3,m4,mf0,mf1,mf2,mf3,mf4⟩:=cf5 bv
  obtain ⟨q0,q1,q2,q3,q4,qf0,qf1,qf2,qf3,qf4⟩:=cf5 b2
  clear SI CI hj b1 b2 bv bf u0 p0 p1 p2 p3 p4 f0 f1 f2 f3 f4 f5 f6 f7 f8 f9 f10 KS HFC HFF
  go_wp2
  refine bodyPost_ret (v:=.agg (uS AW AG (some ⟨g,0,none⟩) AL' cW cG cC' cL' s)) (by simp [uS,results,Tryz.results50,go_sem,q0,q1,q2,q3,q4]) rfl ?_
  have key:∀ w',Turn (fun b=>(b = w.heap.size+1+1) ∨ b < w.heap.size) w8 w'→RetSys w' (syWith s k (coSet x n ⟨op,pc,[r0,r1,r2,r3,r4,r5,r6,r7],xs⟩)) (.returned (.agg (uS AW AG (some ⟨g,0,none⟩) AL' cW cG cC' cL' s))) w':=fun w' hT=>by
   have tt:Turn (fun b=>b = gF ∨ b = w.heap.size+1+1 ∨ b < w.heap.size) w7 w':=(tF.mono (fun b _ h=>.inl h)).trans (hT.mono (fun b _ h=>.inr h))
   refine SI7.put (x':=coSet x n ⟨op,pc,[r0,r1,r2,r3,r4,r5,r6,r7],xs⟩) (vF':=.slice (some ⟨gF,0,none⟩) x.F.length cF) (vR':=.slice AR x.ret.length cR) HX.out hvk (tt.mono (fun b _ h=>?_)) ?_ ?_ cW cG (Below.refl _ _)
   ·rcases h with rfl | rfl | h
    ·exact .inr (.inl rfl)
    ·exact .inr (.inr (.inl hlo2))
    ·exact .inr (.inr (.inl (by omega)))
   ·rw [set_same (show (csV s.C vs)[k]? = some (coCells (coSet x n ⟨op,pc,[r0,r1,r2,r3,r4,r5,r6,r7],xs⟩) (.slice (some ⟨gF,0,none⟩) x.F.length cF) (.slice AR x.ret.length cR)) from zip_at HX.out hvk)]
    exact own_turn SI7.co tt (fun b hb h=>by simp [Value.ownBlock] at hb;omega)
   ·exact TC w' hT
  exact retN (p:=fun b=>b = w.heap.size+1+1) key (turn5 _ _ _ _ _ _ _) (hb.trans (((tF.mono (q:=fun b=>b = gF ∨ b = w.heap.size+1+1) (fun _ _ h=>.inl h)).trans ((turn5 _ _ _ _ _ _ _).mono (fun _ _ h=>.inr h))).to_below hb.size (fun b h=>by omega)))
end Go.Proofs.YtfipcdhodojodaaGreat
