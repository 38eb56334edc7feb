/- Contracts: a frame is laid over the others. -/
import Derived.Test.YtfipcdhodojodaaGreatKCoT
import Derived.Test.YtfipcdhodojodaaGreatKBas
import Derived.Deep.DrawnRows
import Derived.Deep.RegionLaw
import Derived.Test.YtfipcdhodojodaaGreatKRef
import Derived.Test.YtfipcdhodojodaaGreatKCpy
namespace Go.Proofs.YtfipcdhodojodaaGreat
open Go.RowKit
set_option maxRecDepth 100000
set_option maxHeartbeats 16000000
set_option linter.unusedVariables false
set_option linter.unusedSimpArgs false
attribute [local go_sem ↓] Go.wp_at_zero Go.wp_at_succ
def pad8 (us:List Int):List Int:=us++List.replicate (8 - us.length) 0
theorem CoI.callF {T:Nat} {ok q:Nat→Prop} {w w':World} {x:Co} {ps:List (Option Addr × Nat)} {vF vR v8:Value} {base:Nat} (h:CoI T ok w x ps vF vR) {f:Fr} (h8:f.R.length = 8) (hS:f.S = [])
  (ho:w'.ownsRow base T 11 v8 (x.F.length+1) ((fsCells x.F ps).flatten++frCells f (none,0))) (t:Turn (fun b=>vF.ownBlock = some b ∨ q b) w w') (hq:∀ b,ok b→¬ q b):ToldCo w' (coCall x f) v8 vR:=by
 have e:(fsCells x.F ps).flatten++frCells f (none,0) = (fsCells (x.F++[f]) (ps++[(none,0)])).flatten:=by
  unfold fsCells
  rw [List.zipWith_append h.pl.symm]
  simp
 rw [e] at ho
 have hpl:(ps++[(none,0)]).length = (x.F++[f]).length:=by simp [h.pl]
 have h9:∀ g ∈ x.F++[f],g.R.length = 8:=fun g hg=>by
  rcases List.mem_append.1 hg with h' | h'
  ·exact h.r8 g h'
  ·simp at h';rw [h'];exact h8
 obtain ⟨A2,c2,e2,hs⟩:=own_src ho (fsCells_each h9) (by rw [fsCells_len hpl];simp) (fsCells_one _ _)
 obtain ⟨AR,cR,eR,rR⟩:=h.rr
 subst e2
 refine ⟨A2,c2,AR,cR,?_,eR,Src.rowF hpl h9 hs (fun j g p hg hp=>?_),(rR.turn t (fun b _ hb e=>?_)).row,by simpa [coCall] using own_cap ho,by simpa [coCall] using h.rc _ _ _ eR⟩
 ·simp [coCall]
 ·have hg:(x.F++[f])[j]? = some g:=hg
  by_cases hj:j < x.F.length
  ·rw [List.getElem?_append_left hj] at hg
   rw [List.getElem?_append_left (by rw [h.pl];exact hj)] at hp
   refine ((h.sr j g p hg hp).turn t (fun b _ hb e=>?_)).row
   rcases e with e | e
   ·exact hb.2 e
   ·exact hq b hb.1 e
  ·rw [List.getElem?_append_right (by omega)] at hg
   have hj0:j - x.F.length = 0:=by
    have:=(List.getElem?_eq_some_iff.1 hg).1
    simp at this;omega
   rw [hj0] at hg
   simp at hg
   subst hg
   rw [hS]
   exact Row.nil _ _
 ·rcases e with e | e
  ·exact hb.2 e
  ·exact hq b hb.1 e
theorem wpList_copy_args {P:Program} {w:World} {ops:Array Oper} {rest:List Oper} {o:Oper} {a:Act} {Q:Exit→Act→World→Prop} (hgd:o.guard = none) (d s:Operand) (dT sT:TypeId)
  (ho:o.op = .call { callee:=.builtin .copy,args:=#[d,s],argTypes:=#[dT,sT] }) (elem:TypeId) (hu:P.underlying dT = some (.slice elem)) (hsz:(P.info? elem).map (·.size) = some 1)
  (y T:Nat) (A:Option Addr) (us:List Int) (c:Nat) (op:Int) (hd:a.eval d = .slice (some ⟨y,2,none⟩) 8 8) (hs:a.eval s = .slice A us.length c) (hl:us.length≤8) (hr:Row w A us)
  (hy:w.heap[y]? = some (.cells #[.int .i64 op,.int .i64 0,.int .i64 0,.int .i64 0,.int .i64 0,.int .i64 0,.int .i64 0,.int .i64 0,.int .i64 0,.int .i64 0,.slice none 0 0] T (0,0))) (r0 r1 r2 r3 r4 r5 r6 r7:Int) (hp:pad8 us = [r0,r1,r2,r3,r4,r5,r6,r7])
  (h:∀ w',w'.heap[y]? = some (.cells #[.int .i64 op,.int .i64 0,.int .i64 r0,.int .i64 r1,.int .i64 r2,.int .i64 r3,.int .i64 r4,.int .i64 r5,.int .i64 r6,.int .i64 r7,.slice none 0 0] T (0,0))→Turn (fun b=>b = y) w w'→wpList P ops Q rest (a.put o.dst (goInt (us.length:Int))) w'):wpList P ops Q (o :: rest) a w:=by
 by_cases h0:us.length = 0
 ·obtain rfl:us = []:=List.eq_nil_of_length_eq_zero h0
  simp [pad8,List.replicate] at hp
  obtain ⟨rfl,rfl,rfl,rfl,rfl,rfl,rfl,rfl⟩:=hp
  exact wpList_copy_nothing hgd d s dT sT ho elem hu hsz _ _ _ _ _ _ hd hs (by simp) (h w hy (Turn.refl _ _))
 ·obtain ⟨b,off,rfl,_,hc⟩:=hr (by omega)
  have hm:(us.map (Value.int .i64)).length = us.length:=by simp
  refine wpList_copy_own hgd d s dT sT ho elem hu hsz y 2 8 8 ⟨b,off,none⟩ us.length c hd hs _ _ hy (us.map (Value.int .i64)) (by rw [hm];exact (Nat.min_eq_left hl).symm) ?_ (by rw [hm];simp;omega) ?_ ?_
  ·intro j v hv
   simp only [List.getElem?_map,Option.map_eq_some_iff] at hv
   obtain ⟨z,hz,rfl⟩:=hv
   rw [Addr.add_lit]
   exact hc j z hz
  ·intro v hv
   simp only [List.mem_map] at hv
   obtain ⟨z,_,rfl⟩:=hv
   rfl
  ·rw [hm]
   refine h _ ?_ ⟨rfl,rfl,rfl,by simp [World.setRow],fun k _ hk=>setRow_other w y k _ hk⟩
   have e:((#[.int .i64 op,.int .i64 0,.int .i64 0,.int .i64 0,.int .i64 0,.int .i64 0,.int .i64 0,.int .i64 0,.int .i64 0,.int .i64 0,.slice none 0 0]:Array Value).toList.take 2++(us.map (Value.int .i64)++(#[.int .i64 op,.int .i64 0,.int .i64 0,.int .i64 0,.int .i64 0,.int .i64 0,.int .i64 0,.int .i64 0,.int .i64 0,.int .i64 0,.slice none 0 0]:Array Value).toList.drop (2+us.length))) = [.int .i64 op,.int .i64 0,.int .i64 r0,.int .i64 r1,.int .i64 r2,.int .i64 r3,.int .i64 r4,.int .i64 r5,.int .i64 r6,.int .i64 r7,.slice none 0 0]:=by
    have e1:([.int .i64 op,.int .i64 0,.int .i64 0,.int .i64 0,.int .i64 0,.int .i64 0,.int .i64 0,.int .i64 0,.int .i64 0,.int .i64 0,.slice none 0 0]:List Value) = .int .i64 op :: .int .i64 0 :: (List.replicate 8 (.int .i64 0)++[.slice none 0 0]):=rfl
    have e2:([.int .i64 op,.int .i64 0,.int .i64 r0,.int .i64 r1,.int .i64 r2,.int .i64 r3,.int .i64 r4,.int .i64 r5,.int .i64 r6,.int .i64 r7,.slice none 0 0]:List Value) = .int .i64 op :: .int .i64 0 :: ([r0,r1,r2,r3,r4,r5,r6,r7].map (Value.int .i64)++[.slice none 0 0]):=rfl
    simp only [e1,e2,← hp,pad8,List.map_append,List.map_replicate]
    rw [show 2+us.length = us.length+2 by omega,List.drop_succ_cons,List.drop_succ_cons,List.drop_append_of_le_length (by simp;omega),List.drop_replicate]
    simp
   rw [e]
   exact setRow_heap w y _ _ _ _ hy
theorem at_ok {v:Value} {r:Option Nat} {m n:Nat} (h:v.ownBlock = r ∨ v.ownBlock = some n) (hn:m≤n):v.ownBlock = r ∨ ∀ g,v.ownBlock = some g→m≤g:=by
 rcases h with h | h
 ·exact .inl h
 ·exact .inr (fun g hg=>by rw [h] at hg;injection hg with hg;omega)
structure App (vF v8:Value) (m:Nat) (cs:List Value) (w6 w8:World):Prop where
 ho:w8.ownsRow 0 60 11 v8 m cs
 t:Turn (fun b=>vF.ownBlock = some b) w6 w8
 at_:v8.ownBlock = vF.ownBlock ∨ ∀ g,v8.ownBlock = some g→w6.heap.size≤g
theorem call_outN (A B AC AL:Option Addr) (c d cC cL:Nat) (s:Sy) (i:Int) (op:Int) (us:List Int) (A9:Option Addr) (c9:Nat) (hi:syHas s i = false) (w:World) (hW:Row w A s.M.W) (hG:Row w B s.M.G) (hC:RowC w AC s.C) (hL:RowE w AL s.L) (h0:s.M.W.length≤1000000) (h1:s.M.G.length≤1000000) (h2:s.C.length≤1000000) (h3:s.L.length≤1000000) (h4:∀ x ∈ s.C,x.ret.length≤1000000∧x.F.length≤1000000∧∀ f ∈ x.F,f.S.length≤1000000) :
  Calls Tryz.prog 66 #[.agg (uS A B AC AL c d cC cL s),.int .i64 i,.int .i64 op,.slice A9 us.length c9] w (RetSysN w s):=by
 obtain ⟨b1,b2,bs⟩:=heap2 w (.cells (uS A B AC AL c d cC cL s) 30) (.cells uZ 30)
 have hw2:Below w.heap.size w ((w.alloc (.cells (uS A B AC AL c d cC cL s) 30)).alloc (.cells uZ 30)):=bstep (boxed _ _) (boxed _ _)
 have H4:=hid h4
 clear h4
 go_enter Tryz.func66,Tryz.ntmps66
 go_wp2_with fail
 generalize ((w.alloc (.cells (uS A B AC AL c d cC cL s) 30)).alloc (.cells uZ 30)) = w2 at *
 refine (copied_any A B AC AL c d cC cL s w2 (hW.step hw2) (hG.step hw2) (hC.step hw2) (hL.step hw2) h0 h1 h2 h3 H4.out).mono ?_
 rintro e w3 ⟨lo,hm,own,vs,AW,AG,cW,cG,vC,vL,rfl,hlo,SI,hk⟩
 have hmv:hm≤w3.heap.size:=SI.hw
 have SI:=SI.seal
 have hside:∀ b,w3.heap.size≤b→Side s lo hm (fun b=>if b < w3.heap.size then own b else s.C.length) b:=fun b hb=>.inr ⟨by omega,if_neg (by omega)⟩
 generalize (fun b=>if b < w3.heap.size then own b else s.C.length) = own2 at *
 obtain ⟨AC',cC',rfl⟩:=own_val SI.co
 obtain ⟨AL',cL',rfl⟩:=own_val SI.ev
 replace b1:=(hk.block w.heap.size (by omega)).trans b1
 replace b2:=(hk.block (w.heap.size+1) (by omega)).trans b2
 have hb:=bstep hw2 hk
 have hz:w.heap.size+1 < w3.heap.size:=by have:=hk.size;omega
 have hz0:w.heap.size < w3.heap.size:=by omega
 have hlo2:w.heap.size+1 < lo:=by omega
 clear hk hw2 bs hlo hW hG hL h0 h1
 obtain ⟨p0,p1,p2,p3,p4⟩:=cells5 b1
 go_wp2_with fail
 have bv:=heap_alloc_new w3 (.cells (uS AW AG AC' AL' cW cG cC' cL' s) 30)
 have t4:Turn (fun _=>False) w3 (w3.alloc (.cells (uS AW AG AC' AL' cW cG cC' cL' s) 30)):=(Turn.refl _ _).alloc _
 replace SI:=SI.turn t4 (fun _ _ h=>h)
 replace b1:=(t4.block w.heap.size hz0 id).trans b1
 replace b2:=(t4.block (w.heap.size+1) hz id).trans b2
 skip
 replace hb:=bstep hb (boxed w3 (.cells (uS AW AG AC' AL' cW cG cC' cL' s) 30))
 have vx:w3.heap.size < (w3.alloc (.cells (uS AW AG AC' AL' cW cG cC' cL' s) 30)).heap.size:=by simp
 clear t4 p0 p1 p2 p3 p4
 obtain ⟨v,hv⟩:∃ v,w3.heap.size = v:=⟨_,rfl⟩
 generalize (w3.alloc (.cells (uS AW AG AC' AL' cW cG cC' cL' s) 30)) = w4 at *
 rw [hv] at bv vx hz hz0 hmv hside ⊢
 have HSD:=hid hside
 clear hside
 clear hv
 refine (hasCore_any _ _ _ _ _ _ _ _ s i _ h2).mono ?_
 rintro e w5 ⟨rfl,hk⟩
 rw [hi]
 replace b1:=(hk.block w.heap.size (by omega)).trans b1
 replace b2:=(hk.block (w.heap.size+1) (by omega)).trans b2
 replace bv:=(hk.block v vx).trans bv
 replace SI:=SI.turn (Turn.below (Turn.refl (fun _=>False) _) hk) (fun _ _ h=>h)
 replace hb:=bstep hb hk
 replace vx:=Nat.lt_of_lt_of_le vx hk.size
 clear hk
 obtain ⟨m0,m1,m2,m3,m4,mf0,mf1,mf2,mf3,mf4⟩:=cf5 bv
 obtain ⟨q0,q1,q2,q3,q4,qf0,qf1,qf2,qf3,qf4⟩:=cf5 b2
 clear b1 b2 bv
 go_wp2
 refine bodyPost_ret (v:=.agg (uS AW AG AC' AL' cW cG cC' cL' s)) (by simp [uS,results,Tryz.results66,go_sem,q0,q1,q2,q3,q4]) rfl ?_
 have key:∀ w',Turn (fun b=>(b = w.heap.size+1) ∨ b < w.heap.size) w5 w'→RetSys w' s (.returned (.agg (uS AW AG AC' AL' cW cG cC' cL' s))) w':=fun w' hT=>(SI.turn hT (fun b hb e=>by omega)).told cW cG (Below.refl _ _)
 exact retN (p:=fun b=>b = w.heap.size+1) key (turn5 _ _ _ _ _ _ _) (hb.trans ((turn5 _ _ _ _ _ _ _).to_below hb.size (fun g hg=>by omega)))
theorem call_fullN (A B AC AL:Option Addr) (c d cC cL:Nat) (s:Sy) (k:Nat) (x:Co) (op:Int) (us:List Int) (A9:Option Addr) (c9:Nat) (hx:s.C[k]? = some x) (hF:40≤x.F.length) (w:World) (hW:Row w A s.M.W) (hG:Row w B s.M.G) (hC:RowC w AC s.C) (hL:RowE w AL s.L) (h0:s.M.W.length≤1000000) (h1:s.M.G.length≤1000000) (h2:s.C.length≤1000000) (h3:s.L.length≤1000000) (h4:∀ x ∈ s.C,x.ret.length≤1000000∧x.F.length≤1000000∧∀ f ∈ x.F,f.S.length≤1000000) :
  Calls Tryz.prog 66 #[.agg (uS A B AC AL c d cC cL s),.int .i64 k,.int .i64 op,.slice A9 us.length c9] w (RetSysN w s):=by
 have hkl:k < s.C.length:=(List.getElem?_eq_some_iff.1 hx).1
 have HX:=hid hx
 clear hx
 obtain ⟨b0,o0,rfl,hbl0,hat0⟩:=hC (by omega)
 obtain ⟨⟨AF0,cF0,k0,_,_⟩,_⟩:=hat0 k x HX.out
 clear hat0
 have hi:syHas s (k:Int) = true:=by simp [syHas];omega
 have kl:(k:Int) < (s.C.length:Int):=by omega
 have hFl:x.F.length≤1000000:=(h4 x (List.mem_of_getElem? HX.out)).2.1
 obtain ⟨b1,b2,bs⟩:=heap2 w (.cells (uS A B (some ⟨b0,o0,none⟩) AL c d cC cL s) 30) (.cells uZ 30)
 have hw2:Below w.heap.size w ((w.alloc (.cells (uS A B (some ⟨b0,o0,none⟩) AL c d cC cL s) 30)).alloc (.cells uZ 30)):=bstep (boxed _ _) (boxed _ _)
 have H4:=hid h4
 clear h4
 go_enter Tryz.func66,Tryz.ntmps66
 go_wp2_with fail
 generalize ((w.alloc (.cells (uS A B (some ⟨b0,o0,none⟩) AL c d cC cL s) 30)).alloc (.cells uZ 30)) = w2 at *
 refine (copied_any A B (some ⟨b0,o0,none⟩) AL c d cC cL s w2 (hW.step hw2) (hG.step hw2) (hC.step hw2) (hL.step hw2) h0 h1 h2 h3 H4.out).mono ?_
 rintro e w3 ⟨lo,hm,own,vs,AW,AG,cW,cG,vC,vL,rfl,hlo,SI,hk⟩
 have hmv:hm≤w3.heap.size:=SI.hw
 have SI:=SI.seal
 have hside:∀ b,w3.heap.size≤b→Side s lo hm (fun b=>if b < w3.heap.size then own b else s.C.length) b:=fun b hb=>.inr ⟨by omega,if_neg (by omega)⟩
 generalize (fun b=>if b < w3.heap.size then own b else s.C.length) = own2 at *
 obtain ⟨AC',cC',rfl⟩:=own_val SI.co
 obtain ⟨AL',cL',rfl⟩:=own_val SI.ev
 replace b1:=(hk.block w.heap.size (by omega)).trans b1
 replace b2:=(hk.block (w.heap.size+1) (by omega)).trans b2
 have hb:=bstep hw2 hk
 have hz:w.heap.size+1 < w3.heap.size:=by have:=hk.size;omega
 have hz0:w.heap.size < w3.heap.size:=by omega
 have hlo2:w.heap.size+1 < lo:=by omega
 clear hk hw2 bs hlo hW hG hL h0 h1
 obtain ⟨p0,p1,p2,p3,p4⟩:=cells5 b1
 go_wp2_with fail
 have bv:=heap_alloc_new w3 (.cells (uS AW AG AC' AL' cW cG cC' cL' s) 30)
 have t4:Turn (fun _=>False) w3 (w3.alloc (.cells (uS AW AG AC' AL' cW cG cC' cL' s) 30)):=(Turn.refl _ _).alloc _
 replace SI:=SI.turn t4 (fun _ _ h=>h)
 replace b1:=(t4.block w.heap.size hz0 id).trans b1
 replace b2:=(t4.block (w.heap.size+1) hz id).trans b2
 skip
 replace hb:=bstep hb (boxed w3 (.cells (uS AW AG AC' AL' cW cG cC' cL' s) 30))
 have vx:w3.heap.size < (w3.alloc (.cells (uS AW AG AC' AL' cW cG cC' cL' s) 30)).heap.size:=by simp
 clear t4 p0 p1 p2 p3 p4
 obtain ⟨v,hv⟩:∃ v,w3.heap.size = v:=⟨_,rfl⟩
 generalize (w3.alloc (.cells (uS AW AG AC' AL' cW cG cC' cL' s) 30)) = w4 at *
 rw [hv] at bv vx hz hz0 hmv hside ⊢
 have HSD:=hid hside
 clear hside
 clear hv
 refine (hasCore_any _ _ _ _ _ _ _ _ s k _ h2).mono ?_
 rintro e w5 ⟨rfl,hk⟩
 rw [hi]
 replace b1:=(hk.block w.heap.size (by omega)).trans b1
 replace b2:=(hk.block (w.heap.size+1) (by omega)).trans b2
 replace bv:=(hk.block v vx).trans bv
 replace SI:=SI.turn (Turn.below (Turn.refl (fun _=>False) _) hk) (fun _ _ h=>h)
 replace hb:=bstep hb hk
 replace vx:=Nat.lt_of_lt_of_le vx hk.size
 clear hk
 have kk:=(hb.cell hbl0).trans k0
 obtain ⟨p0,p1,p2,p3,p4⟩:=cells5 b1
 obtain ⟨m0,m1,m2,m3,m4,mf0,mf1,mf2,mf3,mf4⟩:=cf5 bv
 obtain ⟨q0,q1,q2,q3,q4,qf0,qf1,qf2,qf3,qf4⟩:=cf5 b2
 clear b1 b2 bv
 go_wp2
 refine bodyPost_ret (v:=.agg (uS AW AG AC' AL' cW cG cC' cL' s)) (by simp [uS,results,Tryz.results66,go_sem,q0,q1,q2,q3,q4]) rfl ?_
 have key:∀ w',Turn (fun b=>(b = w.heap.size+1) ∨ b < w.heap.size) w5 w'→RetSys w' s (.returned (.agg (uS AW AG AC' AL' cW cG cC' cL' s))) w':=fun w' hT=>(SI.turn hT (fun b hb e=>by omega)).told cW cG (Below.refl _ _)
 exact retN (p:=fun b=>b = w.heap.size+1) key (turn5 _ _ _ _ _ _ _) (hb.trans ((turn5 _ _ _ _ _ _ _).to_below hb.size (fun g hg=>by omega)))
theorem call_yesN (A B AC AL:Option Addr) (c d cC cL:Nat) (s:Sy) (k:Nat) (x:Co) (op:Int) (us:List Int) (A9:Option Addr) (c9:Nat) (hx:s.C[k]? = some x) (hF:x.F.length < 40) (hul:us.length≤8) (r0 r1 r2 r3 r4 r5 r6 r7:Int) (hp:pad8 us = [r0,r1,r2,r3,r4,r5,r6,r7]) (w:World) (hU:Row w A9 us) (hW:Row w A s.M.W) (hG:Row w B s.M.G) (hC:RowC w AC s.C) (hL:RowE w AL s.L) (h0:s.M.W.length≤1000000) (h1:s.M.G.length≤1000000) (h2:s.C.length≤1000000) (h3:s.L.length≤1000000) (h4:∀ x ∈ s.C,x.ret.length≤1000000∧x.F.length≤1000000∧∀ f ∈ x.F,f.S.length≤1000000) :
  Calls Tryz.prog 66 #[.agg (uS A B AC AL c d cC cL s),.int .i64 k,.int .i64 op,.slice A9 us.length c9] w (RetSysN w (syWith s k (coCall x ⟨op,0,[r0,r1,r2,r3,r4,r5,r6,r7],[]⟩))):=by
 have hkl:k < s.C.length:=(List.getElem?_eq_some_iff.1 hx).1
 have HX:=hid hx
 clear hx
 obtain ⟨b0,o0,rfl,hbl0,hat0⟩:=hC (by omega)
 obtain ⟨⟨AF0,cF0,k0,_,_⟩,_⟩:=hat0 k x HX.out
 clear hat0
 have hi:syHas s (k:Int) = true:=by simp [syHas];omega
 have kl:(k:Int) < (s.C.length:Int):=by omega
 have hFl:x.F.length≤1000000:=(h4 x (List.mem_of_getElem? HX.out)).2.1
 obtain ⟨b1,b2,bs⟩:=heap2 w (.cells (uS A B (some ⟨b0,o0,none⟩) AL c d cC cL s) 30) (.cells uZ 30)
 have hw2:Below w.heap.size w ((w.alloc (.cells (uS A B (some ⟨b0,o0,none⟩) AL c d cC cL s) 30)).alloc (.cells uZ 30)):=bstep (boxed _ _) (boxed _ _)
 have H4:=hid h4
 clear h4
 go_enter Tryz.func66,Tryz.ntmps66
 go_wp2_with fail
 generalize ((w.alloc (.cells (uS A B (some ⟨b0,o0,none⟩) AL c d cC cL s) 30)).alloc (.cells uZ 30)) = w2 at *
 refine (copied_any A B (some ⟨b0,o0,none⟩) AL c d cC cL s w2 (hW.step hw2) (hG.step hw2) (hC.step hw2) (hL.step hw2) h0 h1 h2 h3 H4.out).mono ?_
 rintro e w3 ⟨lo,hm,own,vs,AW,AG,cW,cG,vC,vL,rfl,hlo,SI,hk⟩
 have hmv:hm≤w3.heap.size:=SI.hw
 have SI:=SI.seal
 have hside:∀ b,w3.heap.size≤b→Side s lo hm (fun b=>if b < w3.heap.size then own b else s.C.length) b:=fun b hb=>.inr ⟨by omega,if_neg (by omega)⟩
 generalize (fun b=>if b < w3.heap.size then own b else s.C.length) = own2 at *
 obtain ⟨AC',cC',rfl⟩:=own_val SI.co
 obtain ⟨AL',cL',rfl⟩:=own_val SI.ev
 replace b1:=(hk.block w.heap.size (by omega)).trans b1
 replace b2:=(hk.block (w.heap.size+1) (by omega)).trans b2
 have hb:=bstep hw2 hk
 have hz:w.heap.size+1 < w3.heap.size:=by have:=hk.size;omega
 have hz0:w.heap.size < w3.heap.size:=by omega
 have hlo2:w.heap.size+1 < lo:=by omega
 clear hk hw2 bs hlo hW hG hL h0 h1
 obtain ⟨p0,p1,p2,p3,p4⟩:=cells5 b1
 go_wp2_with fail
 have bv:=heap_alloc_new w3 (.cells (uS AW AG AC' AL' cW cG cC' cL' s) 30)
 have t4:Turn (fun _=>False) w3 (w3.alloc (.cells (uS AW AG AC' AL' cW cG cC' cL' s) 30)):=(Turn.refl _ _).alloc _
 replace SI:=SI.turn t4 (fun _ _ h=>h)
 replace b1:=(t4.block w.heap.size hz0 id).trans b1
 replace b2:=(t4.block (w.heap.size+1) hz id).trans b2
 skip
 replace hb:=bstep hb (boxed w3 (.cells (uS AW AG AC' AL' cW cG cC' cL' s) 30))
 have vx:w3.heap.size < (w3.alloc (.cells (uS AW AG AC' AL' cW cG cC' cL' s) 30)).heap.size:=by simp
 clear t4 p0 p1 p2 p3 p4
 obtain ⟨v,hv⟩:∃ v,w3.heap.size = v:=⟨_,rfl⟩
 generalize (w3.alloc (.cells (uS AW AG AC' AL' cW cG cC' cL' s) 30)) = w4 at *
 rw [hv] at bv vx hz hz0 hmv hside ⊢
 have HSD:=hid hside
 clear hside
 clear hv
 refine (hasCore_any _ _ _ _ _ _ _ _ s k _ h2).mono ?_
 rintro e w5 ⟨rfl,hk⟩
 rw [hi]
 replace b1:=(hk.block w.heap.size (by omega)).trans b1
 replace b2:=(hk.block (w.heap.size+1) (by omega)).trans b2
 replace bv:=(hk.block v vx).trans bv
 replace SI:=SI.turn (Turn.below (Turn.refl (fun _=>False) _) hk) (fun _ _ h=>h)
 replace hb:=bstep hb hk
 replace vx:=Nat.lt_of_lt_of_le vx hk.size
 clear hk
 have kk:=(hb.cell hbl0).trans k0
 obtain ⟨p0,p1,p2,p3,p4⟩:=cells5 b1
 obtain ⟨g,cap,AF,AR,cF,cR,ps,eC,hvk,hg1,hg2,CI,hcell,hfz⟩:=SI.look HX.out
 obtain ⟨rfl,rfl⟩:AC' = some ⟨g,0,none⟩∧cC' = cap:=by simpa using eC
 have gFh:∀ q,Value.ownBlock (.slice AF x.F.length cF) = some q→hm≤q∧q ≠ v:=by
  intro q hq
  have h8:=SI.lh
  obtain ⟨h6,h7⟩:=CI.okF q hq
  refine ⟨h6,fun e=>?_⟩
  rw [e] at h7
  rcases HSD.out v (Nat.le_refl _) with h9 | h9
  ·omega
  ·omega
 have u0:w5.cell? ⟨g,k * 7,none⟩ = some (.slice AF x.F.length cF):=hcell 0 _ rfl
 obtain ⟨-,-,-,m3⟩:=cells4 bv
 have gl5:g < w5.heap.size:=World.block_lt_of_cell? w5 _ u0
 have HU:=hid (hU.step hb)
 have HFZ:=hid hfz
 have GFH:=hid gFh
 have HBV:=hid bv
 have HB2:=hid b2
 clear hcell hfz gFh b1 b2 bv eC
 go_wp2_with ((with_reducible refine wpList_copy_args rfl (.tmp 31) (.tmp 32) 24 24 rfl 3 Tryz.underlying24 (by kernel_rfl) w5.heap.size 60 A9 us c9 op rfl rfl hul (HU.out.step (boxed _ _)) (heap_alloc_new _ _) r0 r1 r2 r3 r4 r5 r6 r7 hp ?_);intro w6 hy6 t6)
 have j6:Below w5.heap.size w5 w6:=(boxed _ _).trans (t6.to_below (by simp) (fun b h=>by omega))
 have s6:w5.heap.size < w6.heap.size:=by have:=t6.size;simp at this;omega
 clear t6
 have SI6:=SI.turn (Turn.below (Turn.refl (fun _=>False) _) j6) (fun _ _ h=>h)
 have CI6:=CI.keep j6.size (fun b hl _=>j6.block b hl)
 have v6x:v < w6.heap.size:=by omega
 have gl6:g < w6.heap.size:=by omega
 have m36:=(j6.cell vx).trans m3
 have u06:=(j6.cell gl5).trans u0
 obtain ⟨y0,y1,y2,y3,y4,y5,y6,y7,y8,y9,y10⟩:=cells11 hy6
 have hgg:∀ q,Value.ownBlock (.slice AF x.F.length cF) = some q→q ≠ g:=fun q hq e=>by have:=(GFH.out q hq).1;omega
 have HGG:=hid hgg
 have HZ8:∀ w8,Turn (fun b=>Value.ownBlock (.slice AF x.F.length cF) = some b) w6 w8→w8.frozen? ⟨g,k * 7,none⟩ = false:=fun w8 t8=>(t8.frozen gl6 (fun e=>hgg _ e rfl)).trans ((j6.frozen gl5).trans (HFZ.out (k * 7)))
 clear hgg u0 m3
 go_upto_region 6 with (fail)
 simp only [Act.put,List.setIfInBounds_toArray,List.set_cons_zero,List.set_cons_succ]
 go_cut [9] from 10 (fun s0 wx=>s0 = .pointer (some ⟨v,0,none⟩)∧∃ w8 A8 c8,App (.slice AF x.F.length cF) (.slice A8 (x.F.length+1) c8) (x.F.length+1) ((fsCells x.F ps).flatten++[.int .i64 op,.int .i64 0,.int .i64 r0,.int .i64 r1,.int .i64 r2,.int .i64 r3,.int .i64 r4,.int .i64 r5,.int .i64 r6,.int .i64 r7,.slice none 0 0]) w6 w8∧wx = w8.setCell ⟨g,k * 7,none⟩ (.slice A8 (x.F.length+1) c8))
 case first =>
  have HCI:=hid CI6.fr
  clear SI SI6 CI CI6 HBV HB2 hvk hb hy6 j6 HU kk
  go_region_law (first
   | (refine step_append_onto (by rfl) _ _ _ (by rfl) 0 60 _ 11 104 Tryz.underlying35 infoFr rfl (by omega) (.slice AF x.F.length cF) x.F.length (fsCells x.F ps).flatten (by rfl) (own_step HCI.out (by repeat (first | (with_reducible exact Below.refl _ _) | (with_reducible refine Below.drew ?_) | (with_reducible refine bstep ?_ (boxed _ _))))) ⟨w6.heap.size,0,none⟩ 1 1 [.int .i64 op,.int .i64 0,.int .i64 r0,.int .i64 r1,.int .i64 r2,.int .i64 r3,.int .i64 r4,.int .i64 r5,.int .i64 r6,.int .i64 r7,.slice none 0 0] (by rfl) (by rfl) (World.news_of_block (heap_alloc_new w6 _)) (frCells_one ⟨op,0,[r0,r1,r2,r3,r4,r5,r6,r7],[]⟩ (none,0)) (by omega) (by omega) (by omega) ?_;intro v8 w8 ho8 hg8 hat8;obtain ⟨A8,c8,rfl⟩:=own_val ho8;have t8:Turn (fun b=>Value.ownBlock (.slice AF x.F.length cF) = some b) w6 w8:=Turn.grown (Turn.below (Turn.refl _ _) (by repeat (first | (with_reducible exact Below.refl _ _) | (with_reducible refine Below.drew ?_) | (with_reducible refine bstep ?_ (boxed _ _))))) hg8 (fun g hg=>hg);have m38:=(t8.cell (o:=3) v6x (fun e=>(GFH.out _ e).2 rfl)).trans m36;have u08:=(t8.cell (o:=k * 7) gl6 (fun e=>HGG.out _ e rfl)).trans u06;have z08:w8.frozen? ⟨g,k * 7,none⟩ = false:=HZ8 w8 t8;have ap8:App (.slice AF x.F.length cF) (.slice A8 (x.F.length+1) c8) (x.F.length+1) ((fsCells x.F ps).flatten++[.int .i64 op,.int .i64 0,.int .i64 r0,.int .i64 r1,.int .i64 r2,.int .i64 r3,.int .i64 r4,.int .i64 r5,.int .i64 r6,.int .i64 r7,.slice none 0 0]) w6 w8:=⟨ho8,t8,at_ok hat8 (by simp)⟩))
  all_goals go_wp2_with fail
  all_goals go_meet
  all_goals exact ⟨rfl,_,_,_,ap8,rfl⟩
 case rest =>
  obtain ⟨rfl,w8,A8,c8,AP,rfl⟩:=hcut
  have hlh:=SI6.lh
  have b2:=(AP.t.block (w.heap.size+1) (by omega) (fun e=>by have:=(GFH.out _ e).1;omega)).trans ((j6.block (w.heap.size+1) (by omega)).trans HB2.out)
  have bv:=(AP.t.block v v6x (fun e=>(GFH.out _ e).2 rfl)).trans ((j6.block v vx).trans HBV.out)
  have t9:Turn (fun b=>b = g) w8 (w8.setCell ⟨g,k * 7,none⟩ (.slice A8 (x.F.length+1) c8)):=(Turn.refl _ _).set (p:=fun b=>b = g) rfl _ _
  have s8:=AP.t.size
  replace b2:=(t9.block (w.heap.size+1) (by omega) (by omega)).trans b2
  replace bv:=(t9.block v (by omega) (by omega)).trans bv
  have g8:∀ q,Value.ownBlock (.slice A8 (x.F.length+1) c8) = some q→hm≤q:=fun q hq=>by
   rcases AP.at_ with h | h
   ·rw [hq] at h;exact (GFH.out q h.symm).1
   ·have:=h q hq;omega
  have h1:=((own_turn SI6.co AP.t (fun q hq e=>by simp [Value.ownBlock] at hq;have:=(GFH.out q e).1;omega)).stored (k * 7) (.slice A8 (x.F.length+1) c8)).1
  rw [csV_set1 SI6.len HX.out hvk] at h1
  have ho9:=own_turn AP.ho t9 (fun q hq e=>by have:=g8 q hq;omega)
  have t69:Turn (fun b=>Value.ownBlock (.slice AF x.F.length cF) = some b ∨ b = g) w6 (w8.setCell ⟨g,k * 7,none⟩ (.slice A8 (x.F.length+1) c8)):=(AP.t.mono (fun b _ h=>.inl h)).trans (t9.mono (fun b _ h=>.inr h))
  have s9:=t9.size
  clear t9
  generalize (w8.setCell ⟨g,k * 7,none⟩ (.slice A8 (x.F.length+1) c8)) = w9 at *
  obtain ⟨m0,m1,m2,m3,m4,mf0,mf1,mf2,mf3,mf4⟩:=cf5 bv
  obtain ⟨q0,q1,q2,q3,q4,qf0,qf1,qf2,qf3,qf4⟩:=cf5 b2
  replace hb:=bstep hb j6
  clear b2 bv AP HBV HB2 SI CI j6 u06 m36 kk HZ8 hy6 p0 p1 p2 p3 p4 y0 y1 y2 y3 y4 y5 y6 y7 y8 y9 y10
  go_wp2
  refine bodyPost_ret (v:=.agg (uS AW AG (some ⟨g,0,none⟩) AL' cW cG cC' cL' s)) (by simp [uS,results,Tryz.results66,go_sem,q0,q1,q2,q3,q4]) rfl ?_
  have key:∀ w',Turn (fun b=>(b = w.heap.size+1) ∨ b < w.heap.size) w9 w'→RetSys w' (syWith s k (coCall x ⟨op,0,[r0,r1,r2,r3,r4,r5,r6,r7],[]⟩)) (.returned (.agg (uS AW AG (some ⟨g,0,none⟩) AL' cW cG cC' cL' s))) w':=fun w' hT=>by
   have tt:Turn (fun b=>Value.ownBlock (.slice AF x.F.length cF) = some b ∨ (b = g ∨ b = w.heap.size+1 ∨ b < w.heap.size)) w6 w':=(t69.mono (fun b _ h=>h.elim .inl (fun h=>.inr (.inl h)))).trans (hT.mono (fun b _ h=>.inr (.inr h)))
   refine SI6.put (x':=coCall x ⟨op,0,[r0,r1,r2,r3,r4,r5,r6,r7],[]⟩) (vF':=(.slice A8 (x.F.length+1) c8)) (vR':=.slice AR x.ret.length cR) HX.out hvk (tt.mono (fun b _ h=>?_)) (own_turn h1 hT (fun b hb h=>?_)) ?_ cW cG (Below.refl _ _)
   ·rcases h with h | rfl | rfl | h
    ·exact .inr (.inl h)
    ·exact .inl rfl
    ·exact .inr (.inr (.inl hlo2))
    ·exact .inr (.inr (.inl (by omega)))
   ·simp [Value.ownBlock] at hb;omega
   ·refine CI6.callF rfl rfl (own_turn ho9 hT (fun q hq e=>?_)) tt (fun b hb e=>?_)
    ·have:=g8 q hq;omega
    ·omega
  exact retN (p:=fun b=>b = w.heap.size+1) key (turn5 _ _ _ _ _ _ _) (hb.trans (((t69.mono (q:=fun b=>Value.ownBlock (.slice AF x.F.length cF) = some b ∨ (b = g ∨ b = w.heap.size+1)) (fun _ _ h=>h.elim .inl (fun h=>.inr (.inl h)))).trans ((turn5 _ _ _ _ _ _ _).mono (fun _ _ h=>.inr (.inr h)))).to_below hb.size (fun b h=>by
   rcases h with h | h | h
   ·have:=(GFH.out b h).1;omega
   ·omega
   ·omega)))
end Go.Proofs.YtfipcdhodojodaaGreat
