/- Contracts of the document's answers for layer 3: a system with another core. -/
import Derived.Test.YtfipcdhodojodaaGreatMCo
import Derived.Test.YtfipcdhodojodaaGreatKCoB
import Derived.Test.YtfipcdhodojodaaGreatKBas
namespace Go.Proofs.YtfipcdhodojodaaGreat
open Go.RowKit
set_option maxRecDepth 100000
set_option maxHeartbeats 16000000
set_option linter.unusedVariables false
set_option linter.unusedSimpArgs false
theorem run_append_no {P:Program} (w:World) (t ty e:TypeId) (i:TypeInfo) (ht:P.underlying t = some (.slice e)) (hi:P.info? e = some i) (g c:Nat) :
  (Builtin.append_ #[t,t] ty #[.slice (some ⟨g,0,none⟩) 0 0,.slice none 0 c]).run P w = .ok (.slice (some ⟨g,0,none⟩) 0 0) w:=by
 simp [Builtin.append_,run_underlying ht,sizeOf,typeInfo,hi,Builtin.lenOf,Builtin.firstCells,storeCells]
theorem Src.none {w:World} {k:Nat} {css:List (List Value)} (h:Src w none k css):css = []:=by
 rcases Nat.eq_zero_or_pos css.length with h0 | h0
 ·exact List.eq_nil_of_length_eq_zero h0
 ·obtain ⟨b,o,e,_⟩:=h.at_ h0
  cases e
theorem own_empty {w:World} {g0 e size:Nat} (hg0:w.heap[g0]? = some (.cells #[] e (0,0))):w.ownsRow g0 e size (.slice (some ⟨g0,0,none⟩) 0 0) 0 ([]:List (List Value)).flatten :=
 ⟨by simp,.inr ⟨g0,0,#[],rfl,Nat.le_refl _,hg0,Nat.le_refl _,by simp [maxLen],by simp,by simp⟩⟩
theorem wpList_append_any {P:Program} {w:World} {ops:Array Oper} {rest:List Oper} {o:Oper} {a:Act} {Q:Exit→Act→World→Prop} (hgd:o.guard = none) (s x:Operand) (t:TypeId)
  (ho:o.op = .call { callee:=.builtin .append,args:=#[s,x],argTypes:=#[t,t] })
  (e:TypeId) (z:Value) (size bytes:Nat) (ht:P.underlying t = some (.slice e)) (hinfo:(P.info? e).map (fun i=>(i.zero,i.size,i.bytes)) = some (some z,size,bytes)) (hzs:z.cells.size = size) (hsz:0 < size)
  (g0:Nat) (hs:a.eval s = .slice (some ⟨g0,0,none⟩) 0 0) (hg0:w.heap[g0]? = some (.cells #[] e (0,0)))
  (A:Option Addr) (c:Nat) (css:List (List Value)) (m:Nat) (hm:css.length = m) (hx:a.eval x = .slice A m c) (hsrc:Src w A size css)
  (hlen:m≤1000000) (hby:bytes≤1000)
  (h:∀ v' w',w'.ownsRow g0 e size v' m css.flatten→Below g0 w w'→wpList P ops Q rest (a.put o.dst v') w'):wpList P ops Q (o :: rest) a w:=by
 cases A with
 | none =>
  obtain rfl:=hsrc.none
  obtain rfl:m = 0:=hm.symm
  obtain ⟨i,hi,_,_,_⟩:=info_parts hinfo
  refine wpList_plain hgd fun K hK=>?_
  have hr:=run_append_no (P:=P) w t o.type e i ht hi g0 c
  unfold Oper.wp execOp
  simp only [ho,resolve,invoke,builtin,Sem.run_bind,Sem.run_pure,Result.andThen_ok,List.map_toArray,List.map_cons,List.map_nil,hs,hx,hr]
  exact hK _ _ (h _ w (own_empty hg0) (Below.refl _ _))
 | some ad=>exact wpList_append_fresh hgd s x t ho e z size bytes ht hinfo hzs hsz g0 hs hg0 ad c css m hm hx hsrc hlen hby h
theorem step_append_any {P:Program} {w:World} {ops:Array Oper} {o:Oper} {a:Act} {K:Act→World→Prop} {Q:Exit→Act→World→Prop} {E:Prop} (hgd:o.guard = none) (s x:Operand) (t:TypeId)
  (ho:o.op = .call { callee:=.builtin .append,args:=#[s,x],argTypes:=#[t,t] })
  (e:TypeId) (z:Value) (size bytes:Nat) (ht:P.underlying t = some (.slice e)) (hinfo:(P.info? e).map (fun i=>(i.zero,i.size,i.bytes)) = some (some z,size,bytes)) (hzs:z.cells.size = size) (hsz:0 < size)
  (g0:Nat) (hs:a.eval s = .slice (some ⟨g0,0,none⟩) 0 0) (hg0:w.heap[g0]? = some (.cells #[] e (0,0)))
  (A:Option Addr) (c:Nat) (css:List (List Value)) (m:Nat) (hm:css.length = m) (hx:a.eval x = .slice A m c) (hsrc:Src w A size css)
  (hlen:m≤1000000) (hby:bytes≤1000)
  (h:∀ v' w',w'.ownsRow g0 e size v' m css.flatten→w.grownBy w' (some g0)→K (a.put o.dst v') w') :
  if Region.wanted o (yielded ops a.tmps) = true then Oper.wp P o a w K Q else E:=by
 have hw:Region.wanted o (yielded ops a.tmps) = true:=by simp [Region.wanted,hgd]
 rw [if_pos hw]
 obtain ⟨i,hi,hz0,hz1,hz2⟩:=info_parts hinfo
 have hlt:g0 < w.heap.size:=(Array.getElem?_eq_some_iff.1 hg0).1
 cases A with
 | none =>
  obtain rfl:=hsrc.none
  obtain rfl:m = 0:=hm.symm
  have hr:=run_append_no (P:=P) w t o.type e i ht hi g0 c
  unfold Oper.wp execOp
  simp only [ho,resolve,invoke,builtin,Sem.run_bind,Sem.run_pure,Result.andThen_ok,List.map_toArray,List.map_cons,List.map_nil,hs,hx,hr]
  exact h _ w (own_empty hg0) (World.grownBy.refl _ _)
 | some ad =>
  obtain ⟨b,of,sp⟩:=ad
  have hnews:∀ j u,css.flatten[j]? = some u→w.cell? ((⟨b,of,sp⟩:Addr).add j) = some u:=by
   intro j u hu
   obtain ⟨i,r,c,rfl,hr,hi,hu'⟩:=flat_inv hsrc.each hu
   obtain ⟨b',o',e,_,hc⟩:=hsrc.at_ (by have:=(List.getElem?_eq_some_iff.1 hi).1;omega)
   simp only [Option.some.injEq,Addr.mk.injEq] at e
   obtain ⟨rfl,rfl,rfl⟩:=e
   rw [Addr.add_lit,show of+(i * size+r) = of+i * size+r by omega]
   exact hc i c hi r u hu'
  have hb1:(0+m) * bytes≤140737488355328:=Nat.le_trans (Nat.mul_le_mul (by omega:0+m≤1000000) hby) (by omega)
  obtain ⟨v',w',hr,h2,h3,_,_⟩:=run_append_own_at (P:=P) w g0 t o.type e i z size bytes ht hi hz0 hz1 hz2 hzs hsz (.slice (some ⟨g0,0,none⟩) 0 0) 0 [] ⟨by simp,.inr ⟨g0,0,#[],rfl,Nat.le_refl _,hg0,Nat.le_refl _,by simp [maxLen],by simp,by simp⟩⟩ ⟨b,of,sp⟩ m c css.flatten (by rw [flat_len hsrc.each,hm]) hnews (Each.one hsrc.one) (by simp only [maxLen];omega) hb1 (by omega)
  rw [Nat.zero_add,List.nil_append] at h2
  unfold Oper.wp execOp
  simp only [ho,resolve,invoke,builtin,Sem.run_bind,Sem.run_pure,Result.andThen_ok,List.map_toArray,List.map_cons,List.map_nil,hs,hx,hr]
  exact h v' w' h2 h3
theorem rwith_any (A B AC AL:Option Addr) (c d cC cL:Nat) (s:Sy) (k:Nat) (AF AR:Option Addr) (cF cR:Nat) (x:Co) (w:World) (hW:Row w A s.M.W) (hG:Row w B s.M.G) (hC:RowC w AC s.C) (hL:RowE w AL s.L) (h2:s.C.length≤1000000) (hF:RowF w AF x.F) (hRt:Row w AR x.ret) (hk:k < s.C.length) (hcp:x.F.length≤cF∧x.ret.length≤cR) :
  Calls Tryz.prog 10 #[.agg (uS A B AC AL c d cC cL s),.int .i64 k,.agg #[.slice AF x.F.length cF,.int .i64 x.v,.int .i64 x.e,.int .i64 x.x0,.int .i64 x.x1,.int .i64 x.x2,.slice AR x.ret.length cR]] w (RetSys w (syWith s k x)):=by
 obtain ⟨qs,hq,hsC,hR⟩:=hC.src4
 obtain ⟨b1,bf,b2,bs⟩:=heap3b w (.cells (uS A B AC AL c d cC cL s) 30) (.cells #[.slice AF x.F.length cF,.int .i64 x.v,.int .i64 x.e,.int .i64 x.x0,.int .i64 x.x1,.int .i64 x.x2,.slice AR x.ret.length cR] 39) (.cells uZ 30)
 have hw2:Below w.heap.size w (((w.alloc (.cells (uS A B AC AL c d cC cL s) 30)).alloc (.cells #[.slice AF x.F.length cF,.int .i64 x.v,.int .i64 x.e,.int .i64 x.x0,.int .i64 x.x1,.int .i64 x.x2,.slice AR x.ret.length cR] 39)).alloc (.cells uZ 30)):=bstep (bstep (boxed _ _) (boxed _ _)) (boxed _ _)
 go_enter Tryz.func10,Tryz.ntmps10
 have b1':=b1
 go_wp2_with (at_builtin;refine wpList_append_any rfl _ _ _ rfl 39 _ 7 88 Tryz.underlying27 infoCo rfl (by omega) (w.heap.size+3) rfl (by rw [← bs];exact heap_alloc_new _ _) AC cC (csCells s.C qs) s.C.length (csCells_len hq) rfl (hsC.step (bstep hw2 (boxed _ _))) h2 (by omega) ?_;intro v7 w7 ho7 hk7;have j7:Below (w.heap.size+3) (((w.alloc (.cells (uS A B AC AL c d cC cL s) 30)).alloc (.cells #[.slice AF x.F.length cF,.int .i64 x.v,.int .i64 x.e,.int .i64 x.x0,.int .i64 x.x1,.int .i64 x.x2,.slice AR x.ret.length cR] 39)).alloc (.cells uZ 30)) w7:=(((boxed _ _).mono (by omega)).trans hk7);obtain ⟨g,cap,rfl,hg1,hg2⟩:=ho7.form (by omega);replace b1:=(j7.block w.heap.size (by omega)).trans b1;replace bf:=(j7.block (w.heap.size+1) (by omega)).trans bf;replace b2:=(j7.block (w.heap.size+1+1) (by omega)).trans b2;have hcat:=ho7.cellAt;have hfz:=ho7.frozenAt;obtain ⟨p0,p1,p2,p3,p4⟩:=cells5 b1;obtain ⟨f0,f1,f2,f3,f4,f5,f6⟩:=cells7 bf;obtain ⟨q0,q1,q2,q3,q4,qf0,qf1,qf2,qf3,qf4⟩:=cf5 b2;obtain ⟨y0,hy0⟩:∃ u,w7.cell? ⟨g,k * 7,none⟩ = some u:=⟨_,(hcat _ (by omega)).trans (List.getElem?_eq_getElem (by rw [ho7.1];omega))⟩;have hz0:=hfz (k * 7);obtain ⟨y1,hy1⟩:∃ u,w7.cell? ⟨g,k * 7+1,none⟩ = some u:=⟨_,(hcat _ (by omega)).trans (List.getElem?_eq_getElem (by rw [ho7.1];omega))⟩;have hz1:=hfz (k * 7+1);obtain ⟨y2,hy2⟩:∃ u,w7.cell? ⟨g,k * 7+2,none⟩ = some u:=⟨_,(hcat _ (by omega)).trans (List.getElem?_eq_getElem (by rw [ho7.1];omega))⟩;have hz2:=hfz (k * 7+2);obtain ⟨y3,hy3⟩:∃ u,w7.cell? ⟨g,k * 7+3,none⟩ = some u:=⟨_,(hcat _ (by omega)).trans (List.getElem?_eq_getElem (by rw [ho7.1];omega))⟩;have hz3:=hfz (k * 7+3);obtain ⟨y4,hy4⟩:∃ u,w7.cell? ⟨g,k * 7+4,none⟩ = some u:=⟨_,(hcat _ (by omega)).trans (List.getElem?_eq_getElem (by rw [ho7.1];omega))⟩;have hz4:=hfz (k * 7+4);obtain ⟨y5,hy5⟩:∃ u,w7.cell? ⟨g,k * 7+5,none⟩ = some u:=⟨_,(hcat _ (by omega)).trans (List.getElem?_eq_getElem (by rw [ho7.1];omega))⟩;have hz5:=hfz (k * 7+5);obtain ⟨y6,hy6⟩:∃ u,w7.cell? ⟨g,k * 7+6,none⟩ = some u:=⟨_,(hcat _ (by omega)).trans (List.getElem?_eq_getElem (by rw [ho7.1];omega))⟩;have hz6:=hfz (k * 7+6);have ne1:w.heap.size ≠ g:=(by omega);have ne2:w.heap.size+1 ≠ g:=(by omega);have ne3:w.heap.size+1+1 ≠ g:=(by omega);have kl:(k:Int) < (s.C.length:Int):=(by omega);clear b1 bf b2 hcat hfz)
 refine bodyPost_ret (v:=.agg (uS A B (some ⟨g,0,none⟩) AL c d cap cL s)) (by simp [uS,results,Tryz.results10,go_sem,q0,q1,q2,q3,q4]) rfl ?_
 have key:∀ w',Turn (fun b=>b = w.heap.size+1+1) (((((((w7.setCell ⟨g,k * 7,none⟩ (.slice AF x.F.length cF)).setCell ⟨g,k * 7+1,none⟩ (.int .i64 x.v)).setCell ⟨g,k * 7+2,none⟩ (.int .i64 x.e)).setCell ⟨g,k * 7+3,none⟩ (.int .i64 x.x0)).setCell ⟨g,k * 7+4,none⟩ (.int .i64 x.x1)).setCell ⟨g,k * 7+5,none⟩ (.int .i64 x.x2)).setCell ⟨g,k * 7+6,none⟩ (.slice AR x.ret.length cR)) w'→RetSys w (syWith s k x) (.returned (.agg (uS A B (some ⟨g,0,none⟩) AL c d cap cL s))) w':=fun w' hT=>by
  obtain ⟨h1,h2'⟩:=own_put7 ho7 csCells_each (i:=k) (by rw [csCells_len hq];exact hk) (.slice AF x.F.length cF) (.int .i64 x.v) (.int .i64 x.e) (.int .i64 x.x0) (.int .i64 x.x1) (.int .i64 x.x2) (.slice AR x.ret.length cR)
  have e:(csCells s.C qs).set k [.slice AF x.F.length cF,.int .i64 x.v,.int .i64 x.e,.int .i64 x.x0,.int .i64 x.x1,.int .i64 x.x2,.slice AR x.ret.length cR] = csCells (s.C.set k x) (qs.set k ⟨AF,cF,AR,cR⟩):=zip_set (f:=coC) (us:=s.C) (ys:=qs) (i:=k) (a:=x) (b:=⟨AF,cF,AR,cR⟩)
  rw [e] at h1
  have tg:Turn (fun b=>b = g) w7 _:=(Turn.refl _ _).grown h2' (fun b hb=>by simpa using hb.symm)
  have tt:Turn (fun b=>b = g ∨ b = w.heap.size+1+1) w7 w':=(tg.mono (fun b _ h=>.inl h)).trans (hT.mono (fun b _ h=>.inr h))
  have hb:Below w.heap.size w w':=(hw2.trans (j7.mono (by omega))).trans (tt.to_below (by have:=hw2.size;have:=j7.size;omega) (fun b h=>by omega))
  have hlq:(qs.set k ⟨AF,cF,AR,cR⟩).length = (s.C.set k x).length:=by simpa using hq
  obtain ⟨A9,c9,e9,hs9⟩:=own_src (own_turn h1 hT (fun b hb h=>by simp [Value.ownBlock] at hb;omega)) csCells_each (by rw [csCells_len hlq];simp) (csCells_one _ _)
  have rC:=Src.rowC hlq hs9 (fun j y q hy hqj=>by
   by_cases ej:j = k
   ·subst ej
    rw [List.getElem?_set_self hk] at hy
    rw [List.getElem?_set_self (by omega)] at hqj
    injection hy with hy
    injection hqj with hqj
    subst hy hqj
    exact ⟨hF.step hb,hRt.step hb,hcp⟩
   ·rw [List.getElem?_set_ne (fun h=>ej h.symm)] at hy hqj
    obtain ⟨r1,r2,r3⟩:=hR j y q hy hqj
    exact ⟨r1.step hb,r2.step hb,r3⟩)
  obtain ⟨rfl,rfl⟩:A9 = some ⟨g,0,none⟩∧c9 = cap:=by simpa using e9.symm
  refine ⟨A,B,_,AL,c,d,c9,cL,?_,hW.step hb,hG.step hb,rC,hL.step hb,hb⟩
  simp [syWith]
 exact key _ (turn5 _ _ _ _ _ _ _)
theorem rback_out (A B AC AL:Option Addr) (c d cC cL:Nat) (s:Sy) (i z er:Int) (hi:i < 0 ∨ (s.C.length:Int)≤i) (w:World) (hW:Row w A s.M.W) (hG:Row w B s.M.G) (hC:RowC w AC s.C) (hL:RowE w AL s.L) (h2:s.C.length≤1000000) :
  Calls Tryz.prog 43 #[.agg (uS A B AC AL c d cC cL s),.int .i64 i,.int .i64 z,.int .i64 er] w (RetSys w s):=by
 obtain ⟨b1,b2,bs⟩:=heap2 w (.cells (uS A B AC AL c d cC cL s) 30) (.cells uZ 30)
 have hb:Below w.heap.size w ((w.alloc (.cells (uS A B AC AL c d cC cL s) 30)).alloc (.cells uZ 30)):=bstep (boxed _ _) (boxed _ _)
 go_enter Tryz.func43,Tryz.ntmps43
 go_wp2_with fail
 generalize ((w.alloc (.cells (uS A B AC AL c d cC cL s) 30)).alloc (.cells uZ 30)) = w2 at *
 refine (rtop_out _ _ _ _ _ _ _ _ s i _ h2 hi).mono ?_
 rintro e w3 ⟨rfl,hk⟩
 replace b1:=(hk.block w.heap.size (by omega)).trans b1
 replace b2:=(hk.block (w.heap.size+1) (by omega)).trans b2
 replace hb:=bstep hb hk
 have hz:w.heap.size+1 < w3.heap.size:=by have:=hk.size;omega
 have hz0:w.heap.size < w3.heap.size:=by omega
 clear hk bs
 go_upto_region 2 with (fail)
 replace b1:=(Below.heap_alloc w3 (.cells #[.int .i64 0,.int .i64 0,.int .i64 0,.int .i64 0,.int .i64 0,.int .i64 0,.int .i64 0,.int .i64 0,.int .i64 0,.int .i64 0,.slice none 0 0] 60) _ hz0).trans b1
 replace b2:=(Below.heap_alloc w3 (.cells #[.int .i64 0,.int .i64 0,.int .i64 0,.int .i64 0,.int .i64 0,.int .i64 0,.int .i64 0,.int .i64 0,.int .i64 0,.int .i64 0,.slice none 0 0] 60) _ hz).trans b2
 replace hb:=bstep hb (boxed w3 (.cells #[.int .i64 0,.int .i64 0,.int .i64 0,.int .i64 0,.int .i64 0,.int .i64 0,.int .i64 0,.int .i64 0,.int .i64 0,.int .i64 0,.slice none 0 0] 60))
 have s4:w3.heap.size < (w3.alloc (.cells #[.int .i64 0,.int .i64 0,.int .i64 0,.int .i64 0,.int .i64 0,.int .i64 0,.int .i64 0,.int .i64 0,.int .i64 0,.int .i64 0,.slice none 0 0] 60)).heap.size:=by simp
 generalize (w3.alloc (.cells #[.int .i64 0,.int .i64 0,.int .i64 0,.int .i64 0,.int .i64 0,.int .i64 0,.int .i64 0,.int .i64 0,.int .i64 0,.int .i64 0,.slice none 0 0] 60)) = w4 at *
 obtain ⟨p0,p1,p2,p3,p4⟩:=cells5 b1
 obtain ⟨q0,q1,q2,q3,q4,qf0,qf1,qf2,qf3,qf4⟩:=cf5 b2
 clear b1 b2
 go_wp2
 refine bodyPost_ret (v:=.agg (uS A B AC AL c d cC cL s)) (by simp [uS,results,Tryz.results43,go_sem,q0,q1,q2,q3,q4]) rfl ?_
 have key:∀ w',Turn (fun b=>b = w.heap.size+1) w4 w'→RetSys w s (.returned (.agg (uS A B AC AL c d cC cL s))) w':=fun w' hT=>by
  have hb':Below w.heap.size w w':=hb.trans (hT.to_below hb.size (fun g hg=>by omega))
  exact ⟨A,B,AC,AL,c,d,cC,cL,rfl,hW.step hb',hG.step hb',hC.step hb',hL.step hb',hb'⟩
 exact key _ (turn5 _ _ _ _ _ _ _)
theorem rback_none (A B AC AL:Option Addr) (c d cC cL:Nat) (s:Sy) (k:Nat) (x:Co) (z er:Int) (hx:s.C[k]? = some x) (hF:x.F.length = 0) (w:World) (hW:Row w A s.M.W) (hG:Row w B s.M.G) (hC:RowC w AC s.C) (hL:RowE w AL s.L) (h2:s.C.length≤1000000) :
  Calls Tryz.prog 43 #[.agg (uS A B AC AL c d cC cL s),.int .i64 k,.int .i64 z,.int .i64 er] w (RetSys w s):=by
 obtain ⟨b1,b2,bs⟩:=heap2 w (.cells (uS A B AC AL c d cC cL s) 30) (.cells uZ 30)
 have hb:Below w.heap.size w ((w.alloc (.cells (uS A B AC AL c d cC cL s) 30)).alloc (.cells uZ 30)):=bstep (boxed _ _) (boxed _ _)
 go_enter Tryz.func43,Tryz.ntmps43
 go_wp2_with fail
 generalize ((w.alloc (.cells (uS A B AC AL c d cC cL s) 30)).alloc (.cells uZ 30)) = w2 at *
 refine (rtop_none _ _ _ _ _ _ _ _ s k x _ (hC.step hb) h2 hx hF).mono ?_
 rintro e w3 ⟨rfl,hk⟩
 replace b1:=(hk.block w.heap.size (by omega)).trans b1
 replace b2:=(hk.block (w.heap.size+1) (by omega)).trans b2
 replace hb:=bstep hb hk
 have hz:w.heap.size+1 < w3.heap.size:=by have:=hk.size;omega
 have hz0:w.heap.size < w3.heap.size:=by omega
 clear hk bs
 go_upto_region 2 with (fail)
 replace b1:=(Below.heap_alloc w3 (.cells #[.int .i64 0,.int .i64 0,.int .i64 0,.int .i64 0,.int .i64 0,.int .i64 0,.int .i64 0,.int .i64 0,.int .i64 0,.int .i64 0,.slice none 0 0] 60) _ hz0).trans b1
 replace b2:=(Below.heap_alloc w3 (.cells #[.int .i64 0,.int .i64 0,.int .i64 0,.int .i64 0,.int .i64 0,.int .i64 0,.int .i64 0,.int .i64 0,.int .i64 0,.int .i64 0,.slice none 0 0] 60) _ hz).trans b2
 replace hb:=bstep hb (boxed w3 (.cells #[.int .i64 0,.int .i64 0,.int .i64 0,.int .i64 0,.int .i64 0,.int .i64 0,.int .i64 0,.int .i64 0,.int .i64 0,.int .i64 0,.slice none 0 0] 60))
 have s4:w3.heap.size < (w3.alloc (.cells #[.int .i64 0,.int .i64 0,.int .i64 0,.int .i64 0,.int .i64 0,.int .i64 0,.int .i64 0,.int .i64 0,.int .i64 0,.int .i64 0,.slice none 0 0] 60)).heap.size:=by simp
 generalize (w3.alloc (.cells #[.int .i64 0,.int .i64 0,.int .i64 0,.int .i64 0,.int .i64 0,.int .i64 0,.int .i64 0,.int .i64 0,.int .i64 0,.int .i64 0,.slice none 0 0] 60)) = w4 at *
 obtain ⟨p0,p1,p2,p3,p4⟩:=cells5 b1
 obtain ⟨q0,q1,q2,q3,q4,qf0,qf1,qf2,qf3,qf4⟩:=cf5 b2
 clear b1 b2
 go_wp2
 refine bodyPost_ret (v:=.agg (uS A B AC AL c d cC cL s)) (by simp [uS,results,Tryz.results43,go_sem,q0,q1,q2,q3,q4]) rfl ?_
 have key:∀ w',Turn (fun b=>b = w.heap.size+1) w4 w'→RetSys w s (.returned (.agg (uS A B AC AL c d cC cL s))) w':=fun w' hT=>by
  have hb':Below w.heap.size w w':=hb.trans (hT.to_below hb.size (fun g hg=>by omega))
  exact ⟨A,B,AC,AL,c,d,cC,cL,rfl,hW.step hb',hG.step hb',hC.step hb',hL.step hb',hb'⟩
 exact key _ (turn5 _ _ _ _ _ _ _)
theorem rback_yes (A B AC AL:Option Addr) (c d cC cL:Nat) (s:Sy) (k n:Nat) (x:Co) (z er:Int) (hx:s.C[k]? = some x) (hn:x.F.length = n+1) (h3:n≤999999) (w:World) (hW:Row w A s.M.W) (hG:Row w B s.M.G) (hC:RowC w AC s.C) (hL:RowE w AL s.L) (h2:s.C.length≤1000000) :
  Calls Tryz.prog 43 #[.agg (uS A B AC AL c d cC cL s),.int .i64 k,.int .i64 z,.int .i64 er] w (RetSys w (syWith s k (coBack x n z er))):=by
 obtain ⟨s',hs'⟩:∃ s',s' = syWith s k (coBack x n z er):=⟨_,rfl⟩
 rw [← hs']
 have HS':=hid hs'
 clear hs'
 have hkl:k < s.C.length:=(List.getElem?_eq_some_iff.1 hx).1
 obtain ⟨b0,o0,eA,hbl0,hat0⟩:=hC (by omega)
 obtain ⟨AF,AR,cF,cR,hc0,rF,rR,hcF,hcR⟩:=(hat0 k x hx).cs4
 subst eA
 have kl:(k:Int) < (s.C.length:Int):=by omega
 have HX:=hid hx
 obtain ⟨f0,hf0⟩:∃ f,x.F[n]? = some f:=⟨_,List.getElem?_eq_getElem (by omega)⟩
 obtain ⟨g0,of0,eF,hgl0,hatF⟩:=rF (by omega)
 have hf8:=(hatF n f0 hf0).1
 obtain ⟨op0,pc0,Q0,ys⟩:=f0
 dsimp only at hf8
 obtain ⟨q0,q1,q2,q3,q4,q5,q6,q7,rfl⟩:=fr8 hf8
 have hf:=hf0
 clear hf0 hf8 hx hatF
 obtain ⟨b1,b2,bs⟩:=heap2 w (.cells (uS A B (some ⟨b0,o0,none⟩) AL c d cC cL s) 30) (.cells uZ 30)
 have hb:Below w.heap.size w ((w.alloc (.cells (uS A B (some ⟨b0,o0,none⟩) AL c d cC cL s) 30)).alloc (.cells uZ 30)):=bstep (boxed _ _) (boxed _ _)
 go_enter Tryz.func43,Tryz.ntmps43
 go_wp2_with fail
 generalize ((w.alloc (.cells (uS A B (some ⟨b0,o0,none⟩) AL c d cC cL s) 30)).alloc (.cells uZ 30)) = w2 at *
 refine (rtop_yes _ _ _ _ _ _ _ _ s k n x op0 pc0 q0 q1 q2 q3 q4 q5 q6 q7 ys _ (hC.step hb) h2 HX.out hn (by omega) hf).mono ?_
 rintro e w3 ⟨AS0,cS0,rfl,rS0,hk⟩
 replace b1:=(hk.block w.heap.size (by omega)).trans b1
 replace b2:=(hk.block (w.heap.size+1) (by omega)).trans b2
 replace hb:=bstep hb hk
 have hz:w.heap.size+1 < w3.heap.size:=by have:=hk.size;omega
 have hz0:w.heap.size < w3.heap.size:=by omega
 clear hk bs
 go_upto_region 2 with (fail)
 replace b1:=(Below.heap_alloc w3 (.cells (uF op0 pc0 q0 q1 q2 q3 q4 q5 q6 q7 AS0 ys cS0) 60) _ hz0).trans b1
 replace b2:=(Below.heap_alloc w3 (.cells (uF op0 pc0 q0 q1 q2 q3 q4 q5 q6 q7 AS0 ys cS0) 60) _ hz).trans b2
 replace hb:=bstep hb (boxed w3 (.cells (uF op0 pc0 q0 q1 q2 q3 q4 q5 q6 q7 AS0 ys cS0) 60))
 have s4:w3.heap.size < (w3.alloc (.cells (uF op0 pc0 q0 q1 q2 q3 q4 q5 q6 q7 AS0 ys cS0) 60)).heap.size:=by simp
 generalize (w3.alloc (.cells (uF op0 pc0 q0 q1 q2 q3 q4 q5 q6 q7 AS0 ys cS0) 60)) = w4 at *
 have u0:w4.cell? ⟨b0,o0+k * 7,none⟩ = some (.slice AF x.F.length cF):=(hb.cell hbl0).trans (hc0 0 _ rfl)
 have u1:w4.cell? ⟨b0,o0+k * 7+1,none⟩ = some (.int .i64 x.v):=(hb.cell hbl0).trans (hc0 1 _ rfl)
 have u2:w4.cell? ⟨b0,o0+k * 7+2,none⟩ = some (.int .i64 x.e):=(hb.cell hbl0).trans (hc0 2 _ rfl)
 have u3:w4.cell? ⟨b0,o0+k * 7+3,none⟩ = some (.int .i64 x.x0):=(hb.cell hbl0).trans (hc0 3 _ rfl)
 have u4:w4.cell? ⟨b0,o0+k * 7+4,none⟩ = some (.int .i64 x.x1):=(hb.cell hbl0).trans (hc0 4 _ rfl)
 have u5:w4.cell? ⟨b0,o0+k * 7+5,none⟩ = some (.int .i64 x.x2):=(hb.cell hbl0).trans (hc0 5 _ rfl)
 have u6:w4.cell? ⟨b0,o0+k * 7+6,none⟩ = some (.slice AR x.ret.length cR):=(hb.cell hbl0).trans (hc0 6 _ rfl)
 obtain ⟨p0,p1,p2,p3,p4⟩:=cells5 b1
 have z4:w.heap.size+1 < w4.heap.size:=by omega
 have z40:w.heap.size < w4.heap.size:=by omega
 clear s4 hz hz0 rS0
 have hcap:n≤cF:=by omega
 have nl:(n:Int)≤(cF:Int):=by omega
 have hn2:((x.F.length:Int) - 1) = (n:Int):=by omega
 subst eF
 go_wp2_with fail
 have hb5:=bstep hb (boxed w4 (.cells #[.slice (some ⟨g0,of0,none⟩) n cF,.int .i64 z,.int .i64 er,.int .i64 x.x0,.int .i64 x.x1,.int .i64 x.x2,.slice AR x.ret.length cR] 39))
 clear hn2 u0 u1 u2 u3 u4 u5 u6 p0 p1 p2 p3 p4
 skip
 have hlen:(coBack x n z er).F.length = n:=by simp [coBack];omega
 have RW:=rwith_any A B (some ⟨b0,o0,none⟩) AL c d cC cL s k (some ⟨g0,of0,none⟩) AR cF cR (coBack x n z er) (w4.alloc (.cells #[.slice (some ⟨g0,of0,none⟩) n cF,.int .i64 z,.int .i64 er,.int .i64 x.x0,.int .i64 x.x1,.int .i64 x.x2,.slice AR x.ret.length cR] 39)) (hW.step hb5) (hG.step hb5) (hC.step hb5) (hL.step hb5) h2 ((rF.take n).step hb5) (rR.step hb5) hkl ⟨by simp [coBack];omega,by simpa [coBack] using hcR⟩
 rw [hlen,← HS'.out] at RW
 refine RW.mono ?_
 rintro e w6 ⟨A1,B1,C1,L1,c1,d1,cc1,cl1,rfl,rW,rG,rC,rL,hk6⟩
 have b6:=(hk6.block (w.heap.size+1) (by simp;omega)).trans ((Below.heap_alloc w4 _ _ z4).trans b2)
 have hb6:=bstep hb5 hk6
 clear RW hk6
 obtain ⟨q0,q1,q2,q3,q4,qf0,qf1,qf2,qf3,qf4⟩:=cf5 b6
 have NI:=noInt_sys b6
 go_wp2
 refine bodyPost_ret (v:=.agg (uS A1 B1 C1 L1 c1 d1 cc1 cl1 s')) (by simp [uS,results,Tryz.results43,go_sem,q0,q1,q2,q3,q4]) rfl ?_
 exact ret_store rW rG rC rL (turn5 _ _ _ _ _ _ _) NI (hb6.trans ((turn5 _ _ _ _ _ _ _).to_below hb6.size (fun g hg=>by omega)))
theorem setF_row {w w7 w':World} {base T g7 cap n:Nat} {fs:List Fr} {ps:List (Option Addr × Nat)} (ho:w7.ownsRow base T 11 (.slice (some ⟨g7,0,none⟩) fs.length cap) fs.length (fsCells fs ps).flatten) (h8:∀ f ∈ fs,f.R.length = 8) (hp:ps.length = fs.length) (hn:n < fs.length)
  (hr:∀ (j:Nat) (f:Fr) (p:Option Addr × Nat),fs[j]? = some f→ps[j]? = some p→Row w p.1 f.S) {AS:Option Addr} {cS:Nat} {op pc r0 r1 r2 r3 r4 r5 r6 r7:Int} {xs:List Int} (hS:Row w AS xs) {q:Nat→Prop} (t:Turn q (((((((((((w7.setCell ⟨g7,n * 11,none⟩ (.int .i64 op)).setCell ⟨g7,n * 11+1,none⟩ (.int .i64 pc)).setCell ⟨g7,n * 11+2,none⟩ (.int .i64 r0)).setCell ⟨g7,n * 11+3,none⟩ (.int .i64 r1)).setCell ⟨g7,n * 11+4,none⟩ (.int .i64 r2)).setCell ⟨g7,n * 11+5,none⟩ (.int .i64 r3)).setCell ⟨g7,n * 11+6,none⟩ (.int .i64 r4)).setCell ⟨g7,n * 11+7,none⟩ (.int .i64 r5)).setCell ⟨g7,n * 11+8,none⟩ (.int .i64 r6)).setCell ⟨g7,n * 11+9,none⟩ (.int .i64 r7)).setCell ⟨g7,n * 11+10,none⟩ (.slice AS xs.length cS)) w') (hq:¬ q g7) (hb:Below w.heap.size w w'):RowF w' (some ⟨g7,0,none⟩) (fs.set n ⟨op,pc,[r0,r1,r2,r3,r4,r5,r6,r7],xs⟩):=by
 obtain ⟨h1,h2⟩:=own_put11 ho (fsCells_each h8) (i:=n) (by rw [fsCells_len hp];exact hn) (.int .i64 op) (.int .i64 pc) (.int .i64 r0) (.int .i64 r1) (.int .i64 r2) (.int .i64 r3) (.int .i64 r4) (.int .i64 r5) (.int .i64 r6) (.int .i64 r7) (.slice AS xs.length cS)
 have e:(fsCells fs ps).set n [.int .i64 op,.int .i64 pc,.int .i64 r0,.int .i64 r1,.int .i64 r2,.int .i64 r3,.int .i64 r4,.int .i64 r5,.int .i64 r6,.int .i64 r7,.slice AS xs.length cS] = fsCells (fs.set n ⟨op,pc,[r0,r1,r2,r3,r4,r5,r6,r7],xs⟩) (ps.set n (AS,cS)):=zip_set (f:=frCells) (us:=fs) (ys:=ps) (i:=n) (a:=⟨op,pc,[r0,r1,r2,r3,r4,r5,r6,r7],xs⟩) (b:=(AS,cS))
 rw [e] at h1
 have h9:∀ f ∈ fs.set n ⟨op,pc,[r0,r1,r2,r3,r4,r5,r6,r7],xs⟩,f.R.length = 8:=fun f hf=>by
  rcases List.mem_or_eq_of_mem_set hf with h' | h'
  ·exact h8 f h'
  ·rw [h'];rfl
 have hpl:(ps.set n (AS,cS)).length = (fs.set n ⟨op,pc,[r0,r1,r2,r3,r4,r5,r6,r7],xs⟩).length:=by simpa using hp
 obtain ⟨A2,c2,e2,hs⟩:=own_src (own_turn h1 t (fun b hb e=>by simp [Value.ownBlock] at hb;subst hb;exact hq e)) (fsCells_each h9) (by rw [fsCells_len hpl];simp) (fsCells_one _ _)
 obtain ⟨rfl,rfl⟩:some ⟨g7,0,none⟩ = A2∧cap = c2:=by simpa using e2
 refine Src.rowF hpl h9 hs (fun j f p hf hpj=>?_)
 by_cases ej:j = n
 ·subst ej
  rw [List.getElem?_set_self hn] at hf
  rw [List.getElem?_set_self (by omega)] at hpj
  injection hf with hf
  injection hpj with hpj
  subst hf hpj
  exact hS.step hb
 ·rw [List.getElem?_set_ne (fun h=>ej h.symm)] at hf hpj
  exact (hr j f p hf hpj).step hb
theorem rset_out (A B AC AL:Option Addr) (c d cC cL:Nat) (s:Sy) (i:Int) (AS:Option Addr) (cS:Nat) (op pc r0 r1 r2 r3 r4 r5 r6 r7:Int) (xs:List Int) (hi:i < 0 ∨ (s.C.length:Int)≤i) (w:World) (hW:Row w A s.M.W) (hG:Row w B s.M.G) (hC:RowC w AC s.C) (hL:RowE w AL s.L) (h2:s.C.length≤1000000) :
  Calls Tryz.prog 63 #[.agg (uS A B AC AL c d cC cL s),.int .i64 i,.agg (uF op pc r0 r1 r2 r3 r4 r5 r6 r7 AS xs cS)] w (RetSys w s):=by
 obtain ⟨b1,bf,b2,bs⟩:=heap3b w (.cells (uS A B AC AL c d cC cL s) 30) (.cells (uF op pc r0 r1 r2 r3 r4 r5 r6 r7 AS xs cS) 60) (.cells uZ 30)
 have hb:Below w.heap.size w (((w.alloc (.cells (uS A B AC AL c d cC cL s) 30)).alloc (.cells (uF op pc r0 r1 r2 r3 r4 r5 r6 r7 AS xs cS) 60)).alloc (.cells uZ 30)):=bstep (bstep (boxed _ _) (boxed _ _)) (boxed _ _)
 go_enter Tryz.func63,Tryz.ntmps63
 go_wp2_with fail
 generalize (((w.alloc (.cells (uS A B AC AL c d cC cL s) 30)).alloc (.cells (uF op pc r0 r1 r2 r3 r4 r5 r6 r7 AS xs cS) 60)).alloc (.cells uZ 30)) = w2 at *
 refine (rtop_out _ _ _ _ _ _ _ _ s i _ h2 hi).mono ?_
 rintro e w3 ⟨rfl,hk⟩
 replace b1:=(hk.block w.heap.size (by omega)).trans b1
 replace b2:=(hk.block (w.heap.size+1+1) (by omega)).trans b2
 replace bf:=(hk.block (w.heap.size+1) (by omega)).trans bf
 replace hb:=bstep hb hk
 have hz:w.heap.size+1+1 < w3.heap.size:=by have:=hk.size;omega
 have hz0:w.heap.size < w3.heap.size:=by omega
 clear hk bs
 replace bf:=(Below.heap_alloc w3 (.cells #[.int .i64 0,.int .i64 0,.int .i64 0,.int .i64 0,.int .i64 0,.int .i64 0,.int .i64 0,.int .i64 0,.int .i64 0,.int .i64 0,.slice none 0 0] 60) _ (by omega)).trans bf
 go_upto_region 2 with (fail)
 replace b1:=(Below.heap_alloc w3 (.cells #[.int .i64 0,.int .i64 0,.int .i64 0,.int .i64 0,.int .i64 0,.int .i64 0,.int .i64 0,.int .i64 0,.int .i64 0,.int .i64 0,.slice none 0 0] 60) _ hz0).trans b1
 replace b2:=(Below.heap_alloc w3 (.cells #[.int .i64 0,.int .i64 0,.int .i64 0,.int .i64 0,.int .i64 0,.int .i64 0,.int .i64 0,.int .i64 0,.int .i64 0,.int .i64 0,.slice none 0 0] 60) _ hz).trans b2
 replace hb:=bstep hb (boxed w3 (.cells #[.int .i64 0,.int .i64 0,.int .i64 0,.int .i64 0,.int .i64 0,.int .i64 0,.int .i64 0,.int .i64 0,.int .i64 0,.int .i64 0,.slice none 0 0] 60))
 have s4:w3.heap.size < (w3.alloc (.cells #[.int .i64 0,.int .i64 0,.int .i64 0,.int .i64 0,.int .i64 0,.int .i64 0,.int .i64 0,.int .i64 0,.int .i64 0,.int .i64 0,.slice none 0 0] 60)).heap.size:=by simp
 generalize (w3.alloc (.cells #[.int .i64 0,.int .i64 0,.int .i64 0,.int .i64 0,.int .i64 0,.int .i64 0,.int .i64 0,.int .i64 0,.int .i64 0,.int .i64 0,.slice none 0 0] 60)) = w4 at *
 obtain ⟨p0,p1,p2,p3,p4⟩:=cells5 b1
 obtain ⟨q0,q1,q2,q3,q4,qf0,qf1,qf2,qf3,qf4⟩:=cf5 b2
 clear b1 b2
 go_wp2
 refine bodyPost_ret (v:=.agg (uS A B AC AL c d cC cL s)) (by simp [uS,results,Tryz.results63,go_sem,q0,q1,q2,q3,q4]) rfl ?_
 have key:∀ w',Turn (fun b=>b = w.heap.size+1+1) w4 w'→RetSys w s (.returned (.agg (uS A B AC AL c d cC cL s))) w':=fun w' hT=>by
  have hb':Below w.heap.size w w':=hb.trans (hT.to_below hb.size (fun g hg=>by omega))
  exact ⟨A,B,AC,AL,c,d,cC,cL,rfl,hW.step hb',hG.step hb',hC.step hb',hL.step hb',hb'⟩
 exact key _ (turn5 _ _ _ _ _ _ _)
theorem rset_none (A B AC AL:Option Addr) (c d cC cL:Nat) (s:Sy) (k:Nat) (x:Co) (AS:Option Addr) (cS:Nat) (op pc r0 r1 r2 r3 r4 r5 r6 r7:Int) (xs:List Int) (hx:s.C[k]? = some x) (hF:x.F.length = 0) (w:World) (hW:Row w A s.M.W) (hG:Row w B s.M.G) (hC:RowC w AC s.C) (hL:RowE w AL s.L) (h2:s.C.length≤1000000) :
  Calls Tryz.prog 63 #[.agg (uS A B AC AL c d cC cL s),.int .i64 k,.agg (uF op pc r0 r1 r2 r3 r4 r5 r6 r7 AS xs cS)] w (RetSys w s):=by
 obtain ⟨b1,bf,b2,bs⟩:=heap3b w (.cells (uS A B AC AL c d cC cL s) 30) (.cells (uF op pc r0 r1 r2 r3 r4 r5 r6 r7 AS xs cS) 60) (.cells uZ 30)
 have hb:Below w.heap.size w (((w.alloc (.cells (uS A B AC AL c d cC cL s) 30)).alloc (.cells (uF op pc r0 r1 r2 r3 r4 r5 r6 r7 AS xs cS) 60)).alloc (.cells uZ 30)):=bstep (bstep (boxed _ _) (boxed _ _)) (boxed _ _)
 go_enter Tryz.func63,Tryz.ntmps63
 go_wp2_with fail
 generalize (((w.alloc (.cells (uS A B AC AL c d cC cL s) 30)).alloc (.cells (uF op pc r0 r1 r2 r3 r4 r5 r6 r7 AS xs cS) 60)).alloc (.cells uZ 30)) = w2 at *
 refine (rtop_none _ _ _ _ _ _ _ _ s k x _ (hC.step hb) h2 hx hF).mono ?_
 rintro e w3 ⟨rfl,hk⟩
 replace b1:=(hk.block w.heap.size (by omega)).trans b1
 replace b2:=(hk.block (w.heap.size+1+1) (by omega)).trans b2
 replace bf:=(hk.block (w.heap.size+1) (by omega)).trans bf
 replace hb:=bstep hb hk
 have hz:w.heap.size+1+1 < w3.heap.size:=by have:=hk.size;omega
 have hz0:w.heap.size < w3.heap.size:=by omega
 clear hk bs
 replace bf:=(Below.heap_alloc w3 (.cells #[.int .i64 0,.int .i64 0,.int .i64 0,.int .i64 0,.int .i64 0,.int .i64 0,.int .i64 0,.int .i64 0,.int .i64 0,.int .i64 0,.slice none 0 0] 60) _ (by omega)).trans bf
 go_upto_region 2 with (fail)
 replace b1:=(Below.heap_alloc w3 (.cells #[.int .i64 0,.int .i64 0,.int .i64 0,.int .i64 0,.int .i64 0,.int .i64 0,.int .i64 0,.int .i64 0,.int .i64 0,.int .i64 0,.slice none 0 0] 60) _ hz0).trans b1
 replace b2:=(Below.heap_alloc w3 (.cells #[.int .i64 0,.int .i64 0,.int .i64 0,.int .i64 0,.int .i64 0,.int .i64 0,.int .i64 0,.int .i64 0,.int .i64 0,.int .i64 0,.slice none 0 0] 60) _ hz).trans b2
 replace hb:=bstep hb (boxed w3 (.cells #[.int .i64 0,.int .i64 0,.int .i64 0,.int .i64 0,.int .i64 0,.int .i64 0,.int .i64 0,.int .i64 0,.int .i64 0,.int .i64 0,.slice none 0 0] 60))
 have s4:w3.heap.size < (w3.alloc (.cells #[.int .i64 0,.int .i64 0,.int .i64 0,.int .i64 0,.int .i64 0,.int .i64 0,.int .i64 0,.int .i64 0,.int .i64 0,.int .i64 0,.slice none 0 0] 60)).heap.size:=by simp
 generalize (w3.alloc (.cells #[.int .i64 0,.int .i64 0,.int .i64 0,.int .i64 0,.int .i64 0,.int .i64 0,.int .i64 0,.int .i64 0,.int .i64 0,.int .i64 0,.slice none 0 0] 60)) = w4 at *
 obtain ⟨p0,p1,p2,p3,p4⟩:=cells5 b1
 obtain ⟨q0,q1,q2,q3,q4,qf0,qf1,qf2,qf3,qf4⟩:=cf5 b2
 clear b1 b2
 go_wp2
 refine bodyPost_ret (v:=.agg (uS A B AC AL c d cC cL s)) (by simp [uS,results,Tryz.results63,go_sem,q0,q1,q2,q3,q4]) rfl ?_
 have key:∀ w',Turn (fun b=>b = w.heap.size+1+1) w4 w'→RetSys w s (.returned (.agg (uS A B AC AL c d cC cL s))) w':=fun w' hT=>by
  have hb':Below w.heap.size w w':=hb.trans (hT.to_below hb.size (fun g hg=>by omega))
  exact ⟨A,B,AC,AL,c,d,cC,cL,rfl,hW.step hb',hG.step hb',hC.step hb',hL.step hb',hb'⟩
 exact key _ (turn5 _ _ _ _ _ _ _)
theorem rset_yes (A B AC AL:Option Addr) (c d cC cL:Nat) (s:Sy) (k n:Nat) (x:Co) (AS:Option Addr) (cS:Nat) (op pc r0 r1 r2 r3 r4 r5 r6 r7:Int) (xs:List Int) (hx:s.C[k]? = some x) (hn:x.F.length = n+1) (h3:n≤999998) (w:World) (hS:Row w AS xs) (hW:Row w A s.M.W) (hG:Row w B s.M.G) (hC:RowC w AC s.C) (hL:RowE w AL s.L) (h2:s.C.length≤1000000) :
  Calls Tryz.prog 63 #[.agg (uS A B AC AL c d cC cL s),.int .i64 k,.agg (uF op pc r0 r1 r2 r3 r4 r5 r6 r7 AS xs cS)] w (RetSys w (syWith s k (coSet x n ⟨op,pc,[r0,r1,r2,r3,r4,r5,r6,r7],xs⟩))):=by
 obtain ⟨s',hs'⟩:∃ s',s' = syWith s k (coSet x n ⟨op,pc,[r0,r1,r2,r3,r4,r5,r6,r7],xs⟩):=⟨_,rfl⟩
 rw [← hs']
 have HS':=hid hs'
 clear hs'
 have hkl:k < s.C.length:=(List.getElem?_eq_some_iff.1 hx).1
 obtain ⟨b0,o0,eA,hbl0,hat0⟩:=hC (by omega)
 obtain ⟨AF,AR,cF,cR,hc0,rF,rR,hcF,hcR⟩:=(hat0 k x hx).cs4
 subst eA
 have kl:(k:Int) < (s.C.length:Int):=by omega
 have HX:=hid hx
 obtain ⟨f0,hf0⟩:∃ f,x.F[n]? = some f:=⟨_,List.getElem?_eq_getElem (by omega)⟩
 obtain ⟨g0,of0,eF,hgl0,hatF⟩:=rF (by omega)
 have hf8:=(hatF n f0 hf0).1
 obtain ⟨op0,pc0,Q0,ys⟩:=f0
 dsimp only at hf8
 obtain ⟨q0,q1,q2,q3,q4,q5,q6,q7,rfl⟩:=fr8 hf8
 have hf:=hf0
 clear hf0 hf8 hx hatF
 obtain ⟨b1,bf,b2,bs⟩:=heap3b w (.cells (uS A B (some ⟨b0,o0,none⟩) AL c d cC cL s) 30) (.cells (uF op pc r0 r1 r2 r3 r4 r5 r6 r7 AS xs cS) 60) (.cells uZ 30)
 have hb:Below w.heap.size w (((w.alloc (.cells (uS A B (some ⟨b0,o0,none⟩) AL c d cC cL s) 30)).alloc (.cells (uF op pc r0 r1 r2 r3 r4 r5 r6 r7 AS xs cS) 60)).alloc (.cells uZ 30)):=bstep (bstep (boxed _ _) (boxed _ _)) (boxed _ _)
 go_enter Tryz.func63,Tryz.ntmps63
 go_wp2_with fail
 generalize (((w.alloc (.cells (uS A B (some ⟨b0,o0,none⟩) AL c d cC cL s) 30)).alloc (.cells (uF op pc r0 r1 r2 r3 r4 r5 r6 r7 AS xs cS) 60)).alloc (.cells uZ 30)) = w2 at *
 refine (rtop_yes _ _ _ _ _ _ _ _ s k n x op0 pc0 q0 q1 q2 q3 q4 q5 q6 q7 ys _ (hC.step hb) h2 HX.out hn (by omega) hf).mono ?_
 rintro e w3 ⟨AS0,cS0,rfl,rS0,hk⟩
 replace b1:=(hk.block w.heap.size (by omega)).trans b1
 replace b2:=(hk.block (w.heap.size+1+1) (by omega)).trans b2
 replace bf:=(hk.block (w.heap.size+1) (by omega)).trans bf
 replace hb:=bstep hb hk
 have hz:w.heap.size+1+1 < w3.heap.size:=by have:=hk.size;omega
 have hz0:w.heap.size < w3.heap.size:=by omega
 clear hk bs
 replace bf:=(Below.heap_alloc w3 (.cells (uF op0 pc0 q0 q1 q2 q3 q4 q5 q6 q7 AS0 ys cS0) 60) _ (by omega)).trans bf
 go_upto_region 2 with (fail)
 replace b1:=(Below.heap_alloc w3 (.cells (uF op0 pc0 q0 q1 q2 q3 q4 q5 q6 q7 AS0 ys cS0) 60) _ hz0).trans b1
 replace b2:=(Below.heap_alloc w3 (.cells (uF op0 pc0 q0 q1 q2 q3 q4 q5 q6 q7 AS0 ys cS0) 60) _ hz).trans b2
 replace hb:=bstep hb (boxed w3 (.cells (uF op0 pc0 q0 q1 q2 q3 q4 q5 q6 q7 AS0 ys cS0) 60))
 have s4:w3.heap.size < (w3.alloc (.cells (uF op0 pc0 q0 q1 q2 q3 q4 q5 q6 q7 AS0 ys cS0) 60)).heap.size:=by simp
 generalize (w3.alloc (.cells (uF op0 pc0 q0 q1 q2 q3 q4 q5 q6 q7 AS0 ys cS0) 60)) = w4 at *
 have u0:w4.cell? ⟨b0,o0+k * 7,none⟩ = some (.slice AF x.F.length cF):=(hb.cell hbl0).trans (hc0 0 _ rfl)
 have u1:w4.cell? ⟨b0,o0+k * 7+1,none⟩ = some (.int .i64 x.v):=(hb.cell hbl0).trans (hc0 1 _ rfl)
 have u2:w4.cell? ⟨b0,o0+k * 7+2,none⟩ = some (.int .i64 x.e):=(hb.cell hbl0).trans (hc0 2 _ rfl)
 have u3:w4.cell? ⟨b0,o0+k * 7+3,none⟩ = some (.int .i64 x.x0):=(hb.cell hbl0).trans (hc0 3 _ rfl)
 have u4:w4.cell? ⟨b0,o0+k * 7+4,none⟩ = some (.int .i64 x.x1):=(hb.cell hbl0).trans (hc0 4 _ rfl)
 have u5:w4.cell? ⟨b0,o0+k * 7+5,none⟩ = some (.int .i64 x.x2):=(hb.cell hbl0).trans (hc0 5 _ rfl)
 have u6:w4.cell? ⟨b0,o0+k * 7+6,none⟩ = some (.slice AR x.ret.length cR):=(hb.cell hbl0).trans (hc0 6 _ rfl)
 obtain ⟨p0,p1,p2,p3,p4⟩:=cells5 b1
 have z4:w.heap.size+1+1 < w4.heap.size:=by omega
 have z40:w.heap.size < w4.heap.size:=by omega
 clear s4 hz hz0 rS0
 have hnl:n < x.F.length:=by omega
 have nl:(n:Int) < (x.F.length:Int):=by omega
 have hn2:((x.F.length:Int) - 1) = (n:Int):=by omega
 have hl6:x.F.length≤999999:=by omega
 clear hn
 subst eF
 obtain ⟨ps,hp,hsF,h8,hSr⟩:=rF.src
 have H8:=hid h8
 have HP:=hid hp
 have HSr:=hid hSr
 clear h8 hp hSr
 go_wp2_with (at_builtin;(refine wpList_append_any rfl _ _ _ rfl 60 _ 11 104 Tryz.underlying35 infoFr rfl (by omega) (w4.heap.size+1) rfl (by rw [show w4.heap.size+1 = (w4.alloc (.cells #[.slice (some ⟨g0,of0,none⟩) x.F.length cF,.int .i64 x.v,.int .i64 x.e,.int .i64 x.x0,.int .i64 x.x1,.int .i64 x.x2,.slice AR x.ret.length cR] 39)).heap.size by simp];exact heap_alloc_new _ _) (some ⟨g0,of0,none⟩) cF (fsCells x.F ps) x.F.length (fsCells_len HP.out) rfl (hsF.step (bstep (bstep hb (boxed _ _)) (boxed _ _))) (by omega) (by omega) ?_);(intro v7 w7 ho7 hk7;obtain ⟨g7,cap7,rfl,hg71,hg72⟩:=ho7.form (by omega);have j7:Below (w4.heap.size+1) (w4.alloc (.cells #[.slice (some ⟨g0,of0,none⟩) x.F.length cF,.int .i64 x.v,.int .i64 x.e,.int .i64 x.x0,.int .i64 x.x1,.int .i64 x.x2,.slice AR x.ret.length cR] 39)) w7:=(((boxed _ _).mono (by simp)).trans hk7);have by7:=(j7.block w4.heap.size (by omega)).trans (heap_alloc_new w4 _);have b17:=(j7.block w.heap.size (by omega)).trans ((Below.heap_alloc w4 _ _ z40).trans b1);have bf7:=(j7.block (w.heap.size+1) (by omega)).trans ((Below.heap_alloc w4 _ _ (by omega)).trans bf);have b27:=(j7.block (w.heap.size+1+1) (by omega)).trans ((Below.heap_alloc w4 _ _ z4).trans b2);have hcat:=ho7.cellAt;have hfz:=ho7.frozenAt;obtain ⟨a0,a1,a2,a3,a4⟩:=cells5 b17;obtain ⟨f0,f1,f2,f3,f4,f5,f6,f7,f8,f9,f10⟩:=cells11 bf7;obtain ⟨y0,y1,y2,y3,y4,y5,y6⟩:=cells7 by7;obtain ⟨yf0,yf1,yf2,yf3,yf4,yf5,yf6⟩:=frz7 by7;obtain ⟨t0,ht0⟩:∃ u,w7.cell? ⟨g7,n * 11,none⟩ = some u:=⟨_,(hcat _ (by omega)).trans (List.getElem?_eq_getElem (by rw [ho7.1];omega))⟩;have tz0:=hfz (n * 11);obtain ⟨t1,ht1⟩:∃ u,w7.cell? ⟨g7,n * 11+1,none⟩ = some u:=⟨_,(hcat _ (by omega)).trans (List.getElem?_eq_getElem (by rw [ho7.1];omega))⟩;have tz1:=hfz (n * 11+1);obtain ⟨t2,ht2⟩:∃ u,w7.cell? ⟨g7,n * 11+2,none⟩ = some u:=⟨_,(hcat _ (by omega)).trans (List.getElem?_eq_getElem (by rw [ho7.1];omega))⟩;have tz2:=hfz (n * 11+2);obtain ⟨t3,ht3⟩:∃ u,w7.cell? ⟨g7,n * 11+3,none⟩ = some u:=⟨_,(hcat _ (by omega)).trans (List.getElem?_eq_getElem (by rw [ho7.1];omega))⟩;have tz3:=hfz (n * 11+3);obtain ⟨t4,ht4⟩:∃ u,w7.cell? ⟨g7,n * 11+4,none⟩ = some u:=⟨_,(hcat _ (by omega)).trans (List.getElem?_eq_getElem (by rw [ho7.1];omega))⟩;have tz4:=hfz (n * 11+4);obtain ⟨t5,ht5⟩:∃ u,w7.cell? ⟨g7,n * 11+5,none⟩ = some u:=⟨_,(hcat _ (by omega)).trans (List.getElem?_eq_getElem (by rw [ho7.1];omega))⟩;have tz5:=hfz (n * 11+5);obtain ⟨t6,ht6⟩:∃ u,w7.cell? ⟨g7,n * 11+6,none⟩ = some u:=⟨_,(hcat _ (by omega)).trans (List.getElem?_eq_getElem (by rw [ho7.1];omega))⟩;have tz6:=hfz (n * 11+6);obtain ⟨t7,ht7⟩:∃ u,w7.cell? ⟨g7,n * 11+7,none⟩ = some u:=⟨_,(hcat _ (by omega)).trans (List.getElem?_eq_getElem (by rw [ho7.1];omega))⟩;have tz7:=hfz (n * 11+7);obtain ⟨t8,ht8⟩:∃ u,w7.cell? ⟨g7,n * 11+8,none⟩ = some u:=⟨_,(hcat _ (by omega)).trans (List.getElem?_eq_getElem (by rw [ho7.1];omega))⟩;have tz8:=hfz (n * 11+8);obtain ⟨t9,ht9⟩:∃ u,w7.cell? ⟨g7,n * 11+9,none⟩ = some u:=⟨_,(hcat _ (by omega)).trans (List.getElem?_eq_getElem (by rw [ho7.1];omega))⟩;have tz9:=hfz (n * 11+9);obtain ⟨t10,ht10⟩:∃ u,w7.cell? ⟨g7,n * 11+10,none⟩ = some u:=⟨_,(hcat _ (by omega)).trans (List.getElem?_eq_getElem (by rw [ho7.1];omega))⟩;have tz10:=hfz (n * 11+10);have ne1:w.heap.size ≠ g7:=(by omega);have ne2:w.heap.size+1 ≠ g7:=(by omega);have ne3:w4.heap.size ≠ g7:=(by omega);have ne4:w.heap.size ≠ w4.heap.size:=(by omega);clear hcat hfz bf7 b17))
 have t8:Turn (fun b=>b = w4.heap.size) (((((((((((w7.setCell ⟨g7,n * 11,none⟩ (.int .i64 op)).setCell ⟨g7,n * 11+1,none⟩ (.int .i64 pc)).setCell ⟨g7,n * 11+2,none⟩ (.int .i64 r0)).setCell ⟨g7,n * 11+3,none⟩ (.int .i64 r1)).setCell ⟨g7,n * 11+4,none⟩ (.int .i64 r2)).setCell ⟨g7,n * 11+5,none⟩ (.int .i64 r3)).setCell ⟨g7,n * 11+6,none⟩ (.int .i64 r4)).setCell ⟨g7,n * 11+7,none⟩ (.int .i64 r5)).setCell ⟨g7,n * 11+8,none⟩ (.int .i64 r6)).setCell ⟨g7,n * 11+9,none⟩ (.int .i64 r7)).setCell ⟨g7,n * 11+10,none⟩ (.slice AS xs.length cS)) ((((((((((((w7.setCell ⟨g7,n * 11,none⟩ (.int .i64 op)).setCell ⟨g7,n * 11+1,none⟩ (.int .i64 pc)).setCell ⟨g7,n * 11+2,none⟩ (.int .i64 r0)).setCell ⟨g7,n * 11+3,none⟩ (.int .i64 r1)).setCell ⟨g7,n * 11+4,none⟩ (.int .i64 r2)).setCell ⟨g7,n * 11+5,none⟩ (.int .i64 r3)).setCell ⟨g7,n * 11+6,none⟩ (.int .i64 r4)).setCell ⟨g7,n * 11+7,none⟩ (.int .i64 r5)).setCell ⟨g7,n * 11+8,none⟩ (.int .i64 r6)).setCell ⟨g7,n * 11+9,none⟩ (.int .i64 r7)).setCell ⟨g7,n * 11+10,none⟩ (.slice AS xs.length cS)).setCell ⟨w4.heap.size,0,none⟩ (.slice (some ⟨g7,0,none⟩) x.F.length cap7)):=(Turn.refl _ _).set (p:=fun b=>b = w4.heap.size) rfl _ _
 have t11:Turn (fun b=>b = g7) w7 (((((((((((w7.setCell ⟨g7,n * 11,none⟩ (.int .i64 op)).setCell ⟨g7,n * 11+1,none⟩ (.int .i64 pc)).setCell ⟨g7,n * 11+2,none⟩ (.int .i64 r0)).setCell ⟨g7,n * 11+3,none⟩ (.int .i64 r1)).setCell ⟨g7,n * 11+4,none⟩ (.int .i64 r2)).setCell ⟨g7,n * 11+5,none⟩ (.int .i64 r3)).setCell ⟨g7,n * 11+6,none⟩ (.int .i64 r4)).setCell ⟨g7,n * 11+7,none⟩ (.int .i64 r5)).setCell ⟨g7,n * 11+8,none⟩ (.int .i64 r6)).setCell ⟨g7,n * 11+9,none⟩ (.int .i64 r7)).setCell ⟨g7,n * 11+10,none⟩ (.slice AS xs.length cS)):=(by repeat (first | (with_reducible exact Turn.refl _ _) | (with_reducible refine Turn.set ?_ (by simp) _ _)))
 have t78:Turn (fun b=>b = g7 ∨ b = w4.heap.size) w7 ((((((((((((w7.setCell ⟨g7,n * 11,none⟩ (.int .i64 op)).setCell ⟨g7,n * 11+1,none⟩ (.int .i64 pc)).setCell ⟨g7,n * 11+2,none⟩ (.int .i64 r0)).setCell ⟨g7,n * 11+3,none⟩ (.int .i64 r1)).setCell ⟨g7,n * 11+4,none⟩ (.int .i64 r2)).setCell ⟨g7,n * 11+5,none⟩ (.int .i64 r3)).setCell ⟨g7,n * 11+6,none⟩ (.int .i64 r4)).setCell ⟨g7,n * 11+7,none⟩ (.int .i64 r5)).setCell ⟨g7,n * 11+8,none⟩ (.int .i64 r6)).setCell ⟨g7,n * 11+9,none⟩ (.int .i64 r7)).setCell ⟨g7,n * 11+10,none⟩ (.slice AS xs.length cS)).setCell ⟨w4.heap.size,0,none⟩ (.slice (some ⟨g7,0,none⟩) x.F.length cap7)):=(t11.mono (fun b _ h=>.inl h)).trans (t8.mono (fun b _ h=>.inr h))
 have hb7:Below w.heap.size w w7:=(bstep hb (boxed _ _)).trans (j7.mono (by omega))
 have hb5:Below w.heap.size w ((((((((((((w7.setCell ⟨g7,n * 11,none⟩ (.int .i64 op)).setCell ⟨g7,n * 11+1,none⟩ (.int .i64 pc)).setCell ⟨g7,n * 11+2,none⟩ (.int .i64 r0)).setCell ⟨g7,n * 11+3,none⟩ (.int .i64 r1)).setCell ⟨g7,n * 11+4,none⟩ (.int .i64 r2)).setCell ⟨g7,n * 11+5,none⟩ (.int .i64 r3)).setCell ⟨g7,n * 11+6,none⟩ (.int .i64 r4)).setCell ⟨g7,n * 11+7,none⟩ (.int .i64 r5)).setCell ⟨g7,n * 11+8,none⟩ (.int .i64 r6)).setCell ⟨g7,n * 11+9,none⟩ (.int .i64 r7)).setCell ⟨g7,n * 11+10,none⟩ (.slice AS xs.length cS)).setCell ⟨w4.heap.size,0,none⟩ (.slice (some ⟨g7,0,none⟩) x.F.length cap7)):=hb7.trans (t78.to_below hb7.size (fun g hg=>by omega))
 have b28:=(t78.block (w.heap.size+1+1) (by have:=j7.size;simp at this;omega) (by omega)).trans b27
 have s8:w.heap.size+1+1 < ((((((((((((w7.setCell ⟨g7,n * 11,none⟩ (.int .i64 op)).setCell ⟨g7,n * 11+1,none⟩ (.int .i64 pc)).setCell ⟨g7,n * 11+2,none⟩ (.int .i64 r0)).setCell ⟨g7,n * 11+3,none⟩ (.int .i64 r1)).setCell ⟨g7,n * 11+4,none⟩ (.int .i64 r2)).setCell ⟨g7,n * 11+5,none⟩ (.int .i64 r3)).setCell ⟨g7,n * 11+6,none⟩ (.int .i64 r4)).setCell ⟨g7,n * 11+7,none⟩ (.int .i64 r5)).setCell ⟨g7,n * 11+8,none⟩ (.int .i64 r6)).setCell ⟨g7,n * 11+9,none⟩ (.int .i64 r7)).setCell ⟨g7,n * 11+10,none⟩ (.slice AS xs.length cS)).setCell ⟨w4.heap.size,0,none⟩ (.slice (some ⟨g7,0,none⟩) x.F.length cap7)).heap.size:=Nat.lt_of_lt_of_le (by have:=j7.size;simp at this;omega) t78.size
 have rN:=setF_row ho7 H8.out HP.out hnl HSr.out (hS) t8 (by omega) hb5
 clear t8 t11 t78 hb7 by7 b27 hn2 a0 a1 a2 a3 a4 f0 f1 f2 f3 f4 f5 f6 f7 f8 f9 f10 y0 yf0 y1 yf1 y2 yf2 y3 yf3 y4 yf4 y5 yf5 y6 yf6 ht0 tz0 ht1 tz1 ht2 tz2 ht3 tz3 ht4 tz4 ht5 tz5 ht6 tz6 ht7 tz7 ht8 tz8 ht9 tz9 ht10 tz10 u0 u1 u2 u3 u4 u5 u6 p0 p1 p2 p3 p4
 generalize ((((((((((((w7.setCell ⟨g7,n * 11,none⟩ (.int .i64 op)).setCell ⟨g7,n * 11+1,none⟩ (.int .i64 pc)).setCell ⟨g7,n * 11+2,none⟩ (.int .i64 r0)).setCell ⟨g7,n * 11+3,none⟩ (.int .i64 r1)).setCell ⟨g7,n * 11+4,none⟩ (.int .i64 r2)).setCell ⟨g7,n * 11+5,none⟩ (.int .i64 r3)).setCell ⟨g7,n * 11+6,none⟩ (.int .i64 r4)).setCell ⟨g7,n * 11+7,none⟩ (.int .i64 r5)).setCell ⟨g7,n * 11+8,none⟩ (.int .i64 r6)).setCell ⟨g7,n * 11+9,none⟩ (.int .i64 r7)).setCell ⟨g7,n * 11+10,none⟩ (.slice AS xs.length cS)).setCell ⟨w4.heap.size,0,none⟩ (.slice (some ⟨g7,0,none⟩) x.F.length cap7)) = w8 at *
 skip
 have hlen:(coSet x n ⟨op,pc,[r0,r1,r2,r3,r4,r5,r6,r7],xs⟩).F.length = x.F.length:=by simp [coSet]
 have RW:=rwith_any A B (some ⟨b0,o0,none⟩) AL c d cC cL s k (some ⟨g7,0,none⟩) AR cap7 cR (coSet x n ⟨op,pc,[r0,r1,r2,r3,r4,r5,r6,r7],xs⟩) w8 (hW.step hb5) (hG.step hb5) (hC.step hb5) (hL.step hb5) h2 (rN) (rR.step hb5) hkl ⟨by simpa [coSet] using own_cap ho7,by simpa [coSet] using hcR⟩
 rw [hlen,← HS'.out] at RW
 refine RW.mono ?_
 rintro e w6 ⟨A1,B1,C1,L1,c1,d1,cc1,cl1,rfl,rW,rG,rC,rL,hk6⟩
 have b6:=(hk6.block (w.heap.size+1+1) (by exact s8)).trans b28
 have hb6:=bstep hb5 hk6
 clear RW hk6
 obtain ⟨q0,q1,q2,q3,q4,qf0,qf1,qf2,qf3,qf4⟩:=cf5 b6
 have NI:=noInt_sys b6
 go_wp2
 refine bodyPost_ret (v:=.agg (uS A1 B1 C1 L1 c1 d1 cc1 cl1 s')) (by simp [uS,results,Tryz.results63,go_sem,q0,q1,q2,q3,q4]) rfl ?_
 exact ret_store rW rG rC rL (turn5 _ _ _ _ _ _ _) NI (hb6.trans ((turn5 _ _ _ _ _ _ _).to_below hb6.size (fun g hg=>by omega)))
theorem callF_row {w w':World} {base T:Nat} {fs:List Fr} {ps:List (Option Addr × Nat)} {A8:Option Addr} {c8:Nat} {f:Fr} (ho:w'.ownsRow base T 11 (.slice A8 (fs.length+1) c8) (fs.length+1) ((fsCells fs ps).flatten++frCells f (none,0))) (h8:∀ f ∈ fs,f.R.length = 8) (hp:ps.length = fs.length) (hf8:f.R.length = 8) (hfS:f.S = [])
  (hr:∀ (j:Nat) (f:Fr) (p:Option Addr × Nat),fs[j]? = some f→ps[j]? = some p→Row w p.1 f.S) (hb:Below w.heap.size w w'):RowF w' A8 (fs++[f]):=by
 have e:(fsCells fs ps).flatten++frCells f (none,0) = (fsCells (fs++[f]) (ps++[(none,0)])).flatten:=by
  unfold fsCells
  rw [List.zipWith_append hp.symm]
  simp
 rw [e] at ho
 have hpl:(ps++[(none,0)]).length = (fs++[f]).length:=by simp [hp]
 have h9:∀ g ∈ fs++[f],g.R.length = 8:=fun g hg=>by
  rcases List.mem_append.1 hg with h' | h'
  ·exact h8 g h'
  ·simp at h';rw [h'];exact hf8
 obtain ⟨A2,c2,e2,hs⟩:=own_src ho (fsCells_each h9) (by rw [fsCells_len hpl];simp) (fsCells_one _ _)
 obtain ⟨rfl,rfl⟩:A8 = A2∧c8 = c2:=by simpa using e2
 refine Src.rowF hpl h9 hs (fun j g p hg hpj=>?_)
 by_cases hj:j < fs.length
 ·rw [List.getElem?_append_left hj] at hg
  rw [List.getElem?_append_left (by omega)] at hpj
  exact (hr j g p hg hpj).step hb
 ·rw [List.getElem?_append_right (by omega)] at hg
  have hj0:j - fs.length = 0:=by
   have:=(List.getElem?_eq_some_iff.1 hg).1
   simp at this;omega
  rw [hj0] at hg
  simp at hg
  subst hg
  rw [hfS]
  exact Row.nil _ _
theorem rcall_out (A B AC AL:Option Addr) (c d cC cL:Nat) (s:Sy) (i:Int) (op e1 e2 e3:Int) (hi:i < 0 ∨ (s.C.length:Int)≤i) (w:World) (hW:Row w A s.M.W) (hG:Row w B s.M.G) (hC:RowC w AC s.C) (hL:RowE w AL s.L) (h2:s.C.length≤1000000) :
  Calls Tryz.prog 8 #[.agg (uS A B AC AL c d cC cL s),.int .i64 i,.int .i64 op,.int .i64 e1,.int .i64 e2,.int .i64 e3] w (RetSys w s):=by
 rcases hi with hi | hi
 ·obtain ⟨b1,b2,bs⟩:=heap2 w (.cells (uS A B AC AL c d cC cL s) 30) (.cells uZ 30)
  have hb:Below w.heap.size w ((w.alloc (.cells (uS A B AC AL c d cC cL s) 30)).alloc (.cells uZ 30)):=bstep (boxed _ _) (boxed _ _)
  go_enter Tryz.func8,Tryz.ntmps8
  go_upto_region 1 with (fail)
  generalize ((w.alloc (.cells (uS A B AC AL c d cC cL s) 30)).alloc (.cells uZ 30)) = w2 at *
  have Hbs:=hid bs
  clear bs
  obtain ⟨p0,p1,p2,p3,p4⟩:=cells5 b1
  obtain ⟨q0,q1,q2,q3,q4,qf0,qf1,qf2,qf3,qf4⟩:=cf5 b2
  clear b1 b2
  go_wp2
  refine bodyPost_ret (v:=.agg (uS A B AC AL c d cC cL s)) (by simp [uS,results,Tryz.results8,go_sem,q0,q1,q2,q3,q4]) rfl ?_
  have key:∀ w',Turn (fun b=>b = w.heap.size+1) w2 w'→RetSys w s (.returned (.agg (uS A B AC AL c d cC cL s))) w':=fun w' hT=>by
   have hb':Below w.heap.size w w':=hb.trans (hT.to_below hb.size (fun g hg=>by omega))
   exact ⟨_,_,_,_,c,d,cC,cL,rfl,hW.step hb',hG.step hb',hC.step hb',hL.step hb',hb'⟩
  exact key _ (turn5 _ _ _ _ _ _ _)
 ·have hi0:¬ i < 0:=by omega
  obtain ⟨b1,b2,bs⟩:=heap2 w (.cells (uS A B AC AL c d cC cL s) 30) (.cells uZ 30)
  have hb:Below w.heap.size w ((w.alloc (.cells (uS A B AC AL c d cC cL s) 30)).alloc (.cells uZ 30)):=bstep (boxed _ _) (boxed _ _)
  go_enter Tryz.func8,Tryz.ntmps8
  go_upto_region 1 with (fail)
  generalize ((w.alloc (.cells (uS A B AC AL c d cC cL s) 30)).alloc (.cells uZ 30)) = w2 at *
  have Hbs:=hid bs
  clear bs
  obtain ⟨p0,p1,p2,p3,p4⟩:=cells5 b1
  obtain ⟨q0,q1,q2,q3,q4,qf0,qf1,qf2,qf3,qf4⟩:=cf5 b2
  clear b1 b2
  go_wp2
  refine bodyPost_ret (v:=.agg (uS A B AC AL c d cC cL s)) (by simp [uS,results,Tryz.results8,go_sem,q0,q1,q2,q3,q4]) rfl ?_
  have key:∀ w',Turn (fun b=>b = w.heap.size+1) w2 w'→RetSys w s (.returned (.agg (uS A B AC AL c d cC cL s))) w':=fun w' hT=>by
   have hb':Below w.heap.size w w':=hb.trans (hT.to_below hb.size (fun g hg=>by omega))
   exact ⟨_,_,_,_,c,d,cC,cL,rfl,hW.step hb',hG.step hb',hC.step hb',hL.step hb',hb'⟩
  exact key _ (turn5 _ _ _ _ _ _ _)
theorem rcall_full (A B AC AL:Option Addr) (c d cC cL:Nat) (s:Sy) (k:Nat) (x:Co) (op e1 e2 e3:Int) (hx:s.C[k]? = some x) (hF:40≤x.F.length) (hF2:x.F.length≤1000000) (w:World) (hW:Row w A s.M.W) (hG:Row w B s.M.G) (hC:RowC w AC s.C) (hL:RowE w AL s.L) (h2:s.C.length≤1000000) :
  Calls Tryz.prog 8 #[.agg (uS A B AC AL c d cC cL s),.int .i64 k,.int .i64 op,.int .i64 e1,.int .i64 e2,.int .i64 e3] w (RetSys w s):=by
 have hkl:k < s.C.length:=(List.getElem?_eq_some_iff.1 hx).1
 obtain ⟨b0,o0,eA,hbl0,hat0⟩:=hC (by omega)
 obtain ⟨AF,AR,cF,cR,hc0,rF,rR,hcF,hcR⟩:=(hat0 k x hx).cs4
 subst eA
 have kl:(k:Int) < (s.C.length:Int):=by omega
 have HX:=hid hx
 clear hx
 obtain ⟨b1,b2,bs⟩:=heap2 w (.cells (uS A B (some ⟨b0,o0,none⟩) AL c d cC cL s) 30) (.cells uZ 30)
 have hb:Below w.heap.size w ((w.alloc (.cells (uS A B (some ⟨b0,o0,none⟩) AL c d cC cL s) 30)).alloc (.cells uZ 30)):=bstep (boxed _ _) (boxed _ _)
 go_enter Tryz.func8,Tryz.ntmps8
 go_upto_region 1 with (fail)
 generalize ((w.alloc (.cells (uS A B (some ⟨b0,o0,none⟩) AL c d cC cL s) 30)).alloc (.cells uZ 30)) = w2 at *
 have Hbs:=hid bs
 clear bs
 have kk:=(hb.cell hbl0).trans (hc0 0 _ rfl)
 have kk0:w2.cell? ⟨b0,o0+k * 7,none⟩ = some (.slice AF x.F.length cF):=kk
 clear kk
 obtain ⟨p0,p1,p2,p3,p4⟩:=cells5 b1
 obtain ⟨q0,q1,q2,q3,q4,qf0,qf1,qf2,qf3,qf4⟩:=cf5 b2
 clear b1 b2
 go_wp2
 refine bodyPost_ret (v:=.agg (uS A B (some ⟨b0,o0,none⟩) AL c d cC cL s)) (by simp [uS,results,Tryz.results8,go_sem,q0,q1,q2,q3,q4]) rfl ?_
 have key:∀ w',Turn (fun b=>b = w.heap.size+1) w2 w'→RetSys w s (.returned (.agg (uS A B (some ⟨b0,o0,none⟩) AL c d cC cL s))) w':=fun w' hT=>by
  have hb':Below w.heap.size w w':=hb.trans (hT.to_below hb.size (fun g hg=>by omega))
  exact ⟨_,_,_,_,c,d,cC,cL,rfl,hW.step hb',hG.step hb',hC.step hb',hL.step hb',hb'⟩
 exact key _ (turn5 _ _ _ _ _ _ _)
theorem rcall_yes (A B AC AL:Option Addr) (c d cC cL:Nat) (s:Sy) (k:Nat) (x:Co) (op e1 e2 e3:Int) (hx:s.C[k]? = some x) (hF:x.F.length < 40) (w:World) (hW:Row w A s.M.W) (hG:Row w B s.M.G) (hC:RowC w AC s.C) (hL:RowE w AL s.L) (h2:s.C.length≤1000000) :
  Calls Tryz.prog 8 #[.agg (uS A B AC AL c d cC cL s),.int .i64 k,.int .i64 op,.int .i64 e1,.int .i64 e2,.int .i64 e3] w (RetSys w (syWith s k (coCall x ⟨op,0,[e1,e2,e3,0,0,0,0,0],[]⟩))):=by
 obtain ⟨s',hs'⟩:∃ s',s' = syWith s k (coCall x ⟨op,0,[e1,e2,e3,0,0,0,0,0],[]⟩):=⟨_,rfl⟩
 rw [← hs']
 have HS':=hid hs'
 clear hs'
 have hkl:k < s.C.length:=(List.getElem?_eq_some_iff.1 hx).1
 obtain ⟨b0,o0,eA,hbl0,hat0⟩:=hC (by omega)
 obtain ⟨AF,AR,cF,cR,hc0,rF,rR,hcF,hcR⟩:=(hat0 k x hx).cs4
 subst eA
 have kl:(k:Int) < (s.C.length:Int):=by omega
 have HX:=hid hx
 clear hx
 obtain ⟨b1,b2,bs⟩:=heap2 w (.cells (uS A B (some ⟨b0,o0,none⟩) AL c d cC cL s) 30) (.cells uZ 30)
 have hb:Below w.heap.size w ((w.alloc (.cells (uS A B (some ⟨b0,o0,none⟩) AL c d cC cL s) 30)).alloc (.cells uZ 30)):=bstep (boxed _ _) (boxed _ _)
 go_enter Tryz.func8,Tryz.ntmps8
 go_upto_region 1 with (fail)
 generalize ((w.alloc (.cells (uS A B (some ⟨b0,o0,none⟩) AL c d cC cL s) 30)).alloc (.cells uZ 30)) = w2 at *
 have Hbs:=hid bs
 clear bs
 have u0:w2.cell? ⟨b0,o0+k * 7,none⟩ = some (.slice AF x.F.length cF):=(hb.cell hbl0).trans (hc0 0 _ rfl)
 have u1:w2.cell? ⟨b0,o0+k * 7+1,none⟩ = some (.int .i64 x.v):=(hb.cell hbl0).trans (hc0 1 _ rfl)
 have u2:w2.cell? ⟨b0,o0+k * 7+2,none⟩ = some (.int .i64 x.e):=(hb.cell hbl0).trans (hc0 2 _ rfl)
 have u3:w2.cell? ⟨b0,o0+k * 7+3,none⟩ = some (.int .i64 x.x0):=(hb.cell hbl0).trans (hc0 3 _ rfl)
 have u4:w2.cell? ⟨b0,o0+k * 7+4,none⟩ = some (.int .i64 x.x1):=(hb.cell hbl0).trans (hc0 4 _ rfl)
 have u5:w2.cell? ⟨b0,o0+k * 7+5,none⟩ = some (.int .i64 x.x2):=(hb.cell hbl0).trans (hc0 5 _ rfl)
 have u6:w2.cell? ⟨b0,o0+k * 7+6,none⟩ = some (.slice AR x.ret.length cR):=(hb.cell hbl0).trans (hc0 6 _ rfl)
 obtain ⟨p0,p1,p2,p3,p4⟩:=cells5 b1
 have hs2:=Hbs.out
 have z2:w.heap.size+1 < w2.heap.size:=by omega
 have z20:w.heap.size < w2.heap.size:=by omega
 clear hs2
 obtain ⟨ps,hp,hsF,h8,hSr⟩:=rF.src
 have H8:=hid h8
 have HP:=hid hp
 have HSr:=hid hSr
 clear h8 hp hSr
 have ne4:w.heap.size ≠ w2.heap.size:=by omega
 go_wp2_with (first
  | (at_builtin;(refine wpList_append_any rfl _ _ _ rfl 60 _ 11 104 Tryz.underlying35 infoFr rfl (by omega) (w2.heap.size+1) rfl (by rw [show w2.heap.size+1 = (w2.alloc (.cells #[.slice AF x.F.length cF,.int .i64 x.v,.int .i64 x.e,.int .i64 x.x0,.int .i64 x.x1,.int .i64 x.x2,.slice AR x.ret.length cR] 39)).heap.size by simp];exact heap_alloc_new _ _) AF cF (fsCells x.F ps) x.F.length (fsCells_len HP.out) rfl (hsF.step (bstep (bstep hb (boxed _ _)) (boxed _ _))) (by omega) (by omega) ?_);intro v7 w7 ho7 hk7;obtain ⟨A7,c7,rfl⟩:=own_val ho7;have j7:Below (w2.heap.size+1) (w2.alloc (.cells #[.slice AF x.F.length cF,.int .i64 x.v,.int .i64 x.e,.int .i64 x.x0,.int .i64 x.x1,.int .i64 x.x2,.slice AR x.ret.length cR] 39)) w7:=(((boxed _ _).mono (by simp)).trans hk7);have by7:=(j7.block w2.heap.size (by omega)).trans (heap_alloc_new w2 _);have b17:=(j7.block w.heap.size (by omega)).trans ((Below.heap_alloc w2 _ _ z20).trans b1);have b27:=(j7.block (w.heap.size+1) (by omega)).trans ((Below.heap_alloc w2 _ _ z2).trans b2);have s7:w2.heap.size < w7.heap.size:=(by have:=j7.size;simp at this;omega))
  | (at_builtin;(refine wpList_append_onto rfl _ _ _ rfl (w2.heap.size+1) 60 _ 11 104 Tryz.underlying35 infoFr rfl (by omega) (.slice A7 x.F.length c7) x.F.length (fsCells x.F ps).flatten rfl (own_step ho7 (boxed _ _)) ⟨w7.heap.size,0,none⟩ 1 1 [.int .i64 op,.int .i64 0,.int .i64 e1,.int .i64 e2,.int .i64 e3,.int .i64 0,.int .i64 0,.int .i64 0,.int .i64 0,.int .i64 0,.slice none 0 0] rfl rfl (World.news_of_block (heap_alloc_new w7 _)) (frCells_one ⟨op,0,[e1,e2,e3,0,0,0,0,0],[]⟩ (none,0)) (by omega) (by omega) (by simp;omega) ?_);intro v8 w8 ho8 hg8 hat8;obtain ⟨A8,c8,rfl⟩:=own_val ho8;have far:∀ b,b < w2.heap.size+1→w8.heap[b]? = w7.heap[b]?:=(fun b hbl=>(hg8.block b (by simp;omega) (fun e=>by have h6:=(ho7.lt _ e.symm).1;omega)).trans (Below.heap_alloc w7 _ _ (by omega)));have by8:=(far w2.heap.size (by omega)).trans by7;have b18:=(far w.heap.size (by omega)).trans b17;have b28:=(far (w.heap.size+1) (by omega)).trans b27;obtain ⟨a0,a1,a2,a3,a4⟩:=cells5 b18;obtain ⟨y0,y1,y2,y3,y4,y5,y6⟩:=cells7 by8;obtain ⟨yf0,yf1,yf2,yf3,yf4,yf5,yf6⟩:=frz7 by8;clear by8 b18 far))
 have t9:Turn (fun b=>b = w2.heap.size) w8 (w8.setCell ⟨w2.heap.size,0,none⟩ (.slice A8 (x.F.length+1) c8)):=(Turn.refl _ _).set (p:=fun b=>b = w2.heap.size) rfl _ _
 have hb7:Below w.heap.size w w7:=(bstep hb (boxed _ _)).trans (j7.mono (by omega))
 have hb8:Below w.heap.size w w8:=(bstep hb7 (boxed w7 _)).trans (below_grow hg8 (by have:=hb7.size;simp;omega) (fun q e=>by have h6:=(ho7.lt _ e).1;omega))
 have hb5:Below w.heap.size w (w8.setCell ⟨w2.heap.size,0,none⟩ (.slice A8 (x.F.length+1) c8)):=hb8.trans (t9.to_below hb8.size (fun g hg=>by omega))
 have z8:w.heap.size+1 < w8.heap.size:=World.block_lt_of_cell? w8 ⟨w.heap.size+1,0,none⟩ (cell_of_row w8 _ 0 _ _ _ b28)
 have b29:=(t9.block (w.heap.size+1) z8 (by omega)).trans b28
 have s9:w.heap.size+1 < (w8.setCell ⟨w2.heap.size,0,none⟩ (.slice A8 (x.F.length+1) c8)).heap.size:=Nat.lt_of_lt_of_le z8 t9.size
 have h8cap:=own_cap ho8
 have rN:=callF_row (w:=w) (f:=⟨op,0,[e1,e2,e3,0,0,0,0,0],[]⟩) (own_turn ho8 t9 (fun q hq e=>by have h6:=(ho8.lt _ hq).1;omega)) H8.out HP.out rfl rfl HSr.out hb5
 clear t9 hb7 hb8 by7 b17 b27 b28 a0 a1 a2 a3 a4 y0 yf0 y1 yf1 y2 yf2 y3 yf3 y4 yf4 y5 yf5 y6 yf6 u0 u1 u2 u3 u4 u5 u6 p0 p1 p2 p3 p4
 generalize (w8.setCell ⟨w2.heap.size,0,none⟩ (.slice A8 (x.F.length+1) c8)) = w9 at *
 skip
 have hlen:(coCall x ⟨op,0,[e1,e2,e3,0,0,0,0,0],[]⟩).F.length = x.F.length+1:=by simp [coCall]
 have RW:=rwith_any A B (some ⟨b0,o0,none⟩) AL c d cC cL s k A8 AR c8 cR (coCall x ⟨op,0,[e1,e2,e3,0,0,0,0,0],[]⟩) w9 (hW.step hb5) (hG.step hb5) (hC.step hb5) (hL.step hb5) h2 (rN) (rR.step hb5) hkl ⟨by simpa [coCall] using h8cap,by simpa [coCall] using hcR⟩
 rw [hlen,← HS'.out] at RW
 refine RW.mono ?_
 rintro e w6 ⟨A1,B1,C1,L1,c1,d1,cc1,cl1,rfl,rW,rG,rC,rL,hk6⟩
 have b6:=(hk6.block (w.heap.size+1) (by exact s9)).trans b29
 have hb6:=bstep hb5 hk6
 clear RW hk6
 obtain ⟨q0,q1,q2,q3,q4,qf0,qf1,qf2,qf3,qf4⟩:=cf5 b6
 have NI:=noInt_sys b6
 go_wp2
 refine bodyPost_ret (v:=.agg (uS A1 B1 C1 L1 c1 d1 cc1 cl1 s')) (by simp [uS,results,Tryz.results8,go_sem,q0,q1,q2,q3,q4]) rfl ?_
 exact ret_store rW rG rC rL (turn5 _ _ _ _ _ _ _) NI (hb6.trans ((turn5 _ _ _ _ _ _ _).to_below hb6.size (fun g hg=>by omega)))
end Go.Proofs.YtfipcdhodojodaaGreat
