/- Contracts of the document's answers for layer 3: what is small. -/
import Derived.Test.YthpflcknommpdaaGreatChecked
import Derived.Test.YthpflcknommpdaaGreatKBas
import Derived.Test.YthpflcknommpdaaGreatKRef
namespace Go.Proofs.YthpflcknommpdaaGreat
open Go.RowKit
set_option maxHeartbeats 4000000
set_option linter.unusedVariables false
set_option linter.unusedSimpArgs false
def frSmall (f:Fr):Bool:=decide (f.S.length≤30)
def coSmall (x:Co):Bool:=decide (x.F.length≤45) && decide (x.ret.length≤210) && x.F.all frSmall
def sySmall (s:Sy):Bool:=mSmall s.M && decide (s.C.length≤9) && decide (s.L.length≤200) && s.C.all coSmall
theorem all_more {α:Type} {l:List α} {p:α→Bool} {k:Nat} {x:α} (hx:l[k]? = some x) (h:(l.take k).all p = true) (hp:p x = true):(l.take (k+1)).all p = true:=by
 rw [List.take_add_one,hx,List.all_append,h]
 simp [hp]
theorem all_bad {α:Type} {l:List α} {p:α→Bool} {k:Nat} {x:α} (hx:l[k]? = some x) (hp:p x = false):l.all p = false:=by
 rw [List.all_eq_false]
 exact ⟨x,List.mem_of_getElem? hx,by simp [hp]⟩
theorem all_full {α:Type} {l:List α} {p:α→Bool} {k:Nat} (hk:l.length≤k) (h:(l.take k).all p = true):l.all p = true:=by
 rw [List.take_of_length_le hk] at h
 exact h
theorem rsmall_any (A B AC AL:Option Addr) (c d cC cL:Nat) (s:Sy) (w:World) (hC:RowC w AC s.C) (h0:s.M.G.length≤maxLen) (h1:s.M.W.length≤maxLen) (h2:s.C.length≤maxLen) (h3:s.L.length≤maxLen) :
  Calls Tryz.prog 62 #[.agg (uS A B AC AL c d cC cL s),.int .i64 60] w fun e w'=>e = .returned (.bool (sySmall s))∧Below w.heap.size w w':=by
 have hS:sySmall s = (mSmall s.M && decide (s.C.length≤9) && decide (s.L.length≤200) && s.C.all coSmall):=rfl
 have HS:=hid hS
 clear hS
 by_cases q:mSmall s.M = true∧s.C.length≤9∧s.L.length≤200
 ·obtain ⟨q1,q2,q3⟩:=q
  go_enter Tryz.func62,Tryz.ntmps62
  go_wp2_with (go_at_call 110;refine (small_any _ _ _ _ s.M _ h0 h1).mono ?_;rintro e wk ⟨rfl,hk⟩;obtain ⟨gc,gf⟩:=bcell hk;have hz:w.heap.size < wk.heap.size:=(by have:=hk.size;simp at this;omega))
  have hCk:=(hC.step (boxed w _)).step hk
  have b0:wk.cell? ⟨w.heap.size,3,none⟩ = some (.slice AC s.C.length cC):=by rw [gc _ _ (by simp)];simp [go_sem]
  have hb:Below w.heap.size w wk:=bstep (boxed _ _) hk
  clear gc gf hk
  go_loop [6] (fun i=>∃ k:Nat,k≤s.C.length∧i = .int .i64 k∧Hid ((s.C.take k).all coSmall = true)) (fun i=>s.C.length - (intOf i).toNat)
  case atStart=>exact ⟨0,Nat.zero_le _,rfl,hid rfl⟩
  case round =>
   obtain ⟨k,hkk,rfl,HT⟩:=hrel
   by_cases hlt:k < s.C.length
   ·obtain ⟨b,o,rfl,hbl,hat⟩:=hCk (by omega)
    obtain ⟨x,hx⟩:∃ x,s.C[k]? = some x:=⟨_,List.getElem?_eq_getElem hlt⟩
    obtain ⟨⟨AF,cF,c0,rF,_⟩,_,_,_,_,_,AR,cR,c6,rR⟩:=hat k x hx
    have HX:=hid hx
    clear hat hx
    have fin:coSmall x = false→sySmall s = false:=fun h=>by rw [HS.out,all_bad HX.out h];simp
    have Fin:=hid fin
    clear fin
    by_cases r1:x.F.length≤45
    ·by_cases r2:x.ret.length≤210
     ·go_wp2
      go_loop [7] (fun i=>∃ j:Nat,j≤x.F.length∧i = .int .i64 j∧Hid ((x.F.take j).all frSmall = true)) (fun i=>x.F.length - (intOf i).toNat)
      case atStart=>exact ⟨0,Nat.zero_le _,rfl,hid rfl⟩
      case round =>
       obtain ⟨j,hjj,rfl,HJ⟩:=hrel
       by_cases hjt:j < x.F.length
       ·obtain ⟨b',o',rfl,hbl',hat⟩:=rF (by omega)
        obtain ⟨f,hf⟩:∃ f,x.F[j]? = some f:=⟨_,List.getElem?_eq_getElem hjt⟩
        obtain ⟨_,_,_,_,AS,cS,c10,rS⟩:=hat j f hf
        have HF:=hid hf
        clear hat hf
        by_cases r3:f.S.length≤30
        ·go_wp2
         go_round
         case rel=>exact ⟨j+1,by omega,by go_num,hid (all_more HF.out HJ.out (by simp [frSmall];omega))⟩
         case measure=>simp [intOf];omega
        ·go_wp2
         go_ret
         exact ⟨ret_bool (Fin.out (by unfold coSmall;rw [all_bad HF.out (by simp [frSmall];omega)];simp)).symm,hb⟩
       ·go_wp2
        go_round
        case rel=>exact ⟨k+1,by omega,by go_num,hid (all_more HX.out HT.out (by unfold coSmall;rw [decide_eq_true r1,decide_eq_true r2,all_full (by omega) HJ.out];rfl))⟩
        case measure=>simp [intOf];omega
     ·go_wp2
      go_ret
      exact ⟨ret_bool (Fin.out (by unfold coSmall;rw [decide_eq_false r2];simp)).symm,hb⟩
    ·go_wp2
     go_ret
     exact ⟨ret_bool (Fin.out (by unfold coSmall;rw [decide_eq_false r1];simp)).symm,hb⟩
   ·go_wp2
    go_ret
    exact ⟨ret_bool (by rw [HS.out,q1,decide_eq_true q2,decide_eq_true q3,all_full (by omega) HT.out];rfl),hb⟩
 ·have q':mSmall s.M = false ∨ (mSmall s.M = true∧9 < s.C.length) ∨ (mSmall s.M = true∧s.C.length≤9∧200 < s.L.length):=by
   by_cases t:mSmall s.M = true
   ·right
    by_cases t1:9 < s.C.length
    ·exact .inl ⟨t,t1⟩
    ·right
     by_cases t2:200 < s.L.length
     ·exact ⟨t,by omega,t2⟩
     ·exact absurd ⟨t,by omega,by omega⟩ q
   ·exact .inl (by simpa using t)
  clear q
  unfold maxLen at h2 h3
  rcases q' with q1 | ⟨q1,q2⟩ | ⟨q1,q2,q3⟩
  all_goals
   go_enter Tryz.func62,Tryz.ntmps62
   go_wp2_with (go_at_call 110;refine (small_any _ _ _ _ s.M _ h0 h1).mono ?_;rintro e wk ⟨rfl,hk⟩;obtain ⟨gc,gf⟩:=bcell hk;have hz:w.heap.size < wk.heap.size:=(by have:=hk.size;simp at this;omega))
   go_ret
   exact ⟨ret_bool (by rw [HS.out,q1];first | rfl | (rw [decide_eq_false (show ¬ s.C.length≤9 by omega)];simp) | (rw [decide_eq_false (show ¬ s.L.length≤200 by omega)];simp)),bstep (boxed _ _) hk⟩
def near (n:Int):Bool:=decide (-2305843009213693952≤n) && decide (n≤2305843009213693952)
def frNear (f:Fr):Bool:=f.R.all near
def coNear (x:Co):Bool:=near x.v && near x.x0 && near x.x1 && near x.x2 && x.F.all frNear
theorem near_any (n:Int) (w:World):Calls Tryz.prog 172 #[.int .i64 n] w fun e w'=>e = .returned (.bool (near n))∧w = w':=by
 go_enter Tryz.func172,Tryz.ntmps172
 go_wp2
 all_goals
  go_ret
  exact ⟨ret_bool (by rw [Bool.eq_iff_iff];simp [near];omega),rfl⟩
theorem rcore_any (AF AR:Option Addr) (cF cR:Nat) (x:Co) (w:World) (hF:RowF w AF x.F) (h0:x.F.length≤1000000) :
  Calls Tryz.prog 112 #[.agg #[.slice AF x.F.length cF,.int .i64 x.v,.int .i64 x.e,.int .i64 x.x0,.int .i64 x.x1,.int .i64 x.x2,.slice AR x.ret.length cR]] w fun e w'=>e = .returned (.bool (coNear x))∧Below w.heap.size w w':=by
 have HC:=hid (show coNear x = (near x.v && near x.x0 && near x.x1 && near x.x2 && x.F.all frNear) from rfl)
 cases q0:near x.v
 ·go_enter Tryz.func112,Tryz.ntmps112
  go_wp2_with (go_at_call 172;refine (near_any _ _).mono ?_;rintro e w' ⟨rfl,rfl⟩)
  go_ret
  exact ⟨ret_bool (by rw [HC.out,q0];rfl),boxed _ _⟩
 ·cases q1:near x.x0
  ·go_enter Tryz.func112,Tryz.ntmps112
   go_wp2_with (go_at_call 172;refine (near_any _ _).mono ?_;rintro e w' ⟨rfl,rfl⟩)
   go_ret
   exact ⟨ret_bool (by rw [HC.out,q0,q1];rfl),boxed _ _⟩
  ·cases q2:near x.x1
   ·go_enter Tryz.func112,Tryz.ntmps112
    go_wp2_with (go_at_call 172;refine (near_any _ _).mono ?_;rintro e w' ⟨rfl,rfl⟩)
    go_ret
    exact ⟨ret_bool (by rw [HC.out,q0,q1,q2];rfl),boxed _ _⟩
   ·cases q3:near x.x2
    ·go_enter Tryz.func112,Tryz.ntmps112
     go_wp2_with (go_at_call 172;refine (near_any _ _).mono ?_;rintro e w' ⟨rfl,rfl⟩)
     go_ret
     exact ⟨ret_bool (by rw [HC.out,q0,q1,q2,q3];rfl),boxed _ _⟩
    ·have HC2:Hid (coNear x = x.F.all frNear):=by show _ = _;rw [HC.out,q0,q1,q2,q3];rfl
     go_enter Tryz.func112,Tryz.ntmps112
     go_wp2_with (go_at_call 172;refine (near_any _ _).mono ?_;rintro e w' ⟨rfl,rfl⟩)
     go_loop [3] (fun i=>∃ k:Nat,k≤x.F.length∧i = .int .i64 k∧Hid ((x.F.take k).all frNear = true)) (fun i=>x.F.length - (intOf i).toNat)
     case atStart=>exact ⟨0,Nat.zero_le _,rfl,hid rfl⟩
     case round =>
      obtain ⟨k,hk,rfl,HT⟩:=hrel
      by_cases hlt:k < x.F.length
      ·obtain ⟨b,o,rfl,hbl,hat⟩:=hF (by omega)
       obtain ⟨f,hf⟩:∃ f,x.F[k]? = some f:=⟨_,List.getElem?_eq_getElem hlt⟩
       obtain ⟨r8,_,_,cr,AS,cS,c10,rS⟩:=hat k f hf
       have HF:=hid hf
       have R8:=hid r8
       have CR:=hid cr
       clear hat hf r8 cr
       go_wp2
       go_loop [4,5] (fun i _=>∃ j:Nat,j≤8∧i = .int .i64 j∧Hid ((f.R.take j).all near = true)) (fun i _=>8 - (intOf i).toNat)
       case atStart=>exact ⟨0,Nat.zero_le _,rfl,hid rfl⟩
       case round =>
        obtain ⟨j,hj,rfl,HJ⟩:=hrel
        by_cases hjt:j < 8
        ·have hc:=CR.out j hjt
         obtain ⟨z,hz⟩:∃ z,f.R.getD j 0 = z:=⟨_,rfl⟩
         rw [hz] at hc
         have hz2:f.R[j]? = some z:=by rw [List.getD_eq_getElem?_getD,List.getElem?_eq_getElem (by rw [R8.out];exact hjt)] at hz;rw [List.getElem?_eq_getElem (by rw [R8.out];exact hjt)];simpa using hz
         have HZ:=hid hz2
         clear hz hz2
         cases t:near z
         ·go_wp2_with (go_at_call 172;refine (near_any _ _).mono ?_;rintro e w' ⟨rfl,rfl⟩)
          go_ret
          exact ⟨ret_bool (by rw [HC2.out,all_bad HF.out (all_bad HZ.out t)]),boxed _ _⟩
         ·go_wp2_with (go_at_call 172;refine (near_any _ _).mono ?_;rintro e w' ⟨rfl,rfl⟩)
          go_round
          case rel=>exact ⟨j+1,by omega,by go_num,hid (all_more HZ.out HJ.out t)⟩
          case measure=>simp [intOf];omega
        ·go_wp2
         go_round
         case rel=>exact ⟨k+1,by omega,by go_num,hid (all_more HF.out HT.out (all_full (by rw [R8.out];omega) HJ.out))⟩
         case measure=>simp [intOf];omega
      ·go_wp2
       go_ret
       exact ⟨ret_bool (by rw [HC2.out,all_full (by omega) HT.out]),boxed _ _⟩
def frFew (f:Fr):Bool:=decide (f.S.length≤24)
def coRight (x:Co):Bool:=coNear x && decide (x.F.length≤40) && decide (x.ret.length≤200) && x.F.all frFew
def syRight (s:Sy):Bool:=mRight s.M && decide (1≤s.C.length) && decide (s.C.length≤8) && s.C.all coRight
theorem rright3_any (A B AC AL:Option Addr) (c d cC cL:Nat) (s:Sy) (w:World) (hG:Row w B s.M.G) (hC:RowC w AC s.C) (h0:s.M.G.length≤1000000000) (h1:s.M.W.length≤1000000000) (h2:s.C.length≤1000000) (h3:∀ x ∈ s.C,x.F.length≤1000000) :
  Calls Tryz.prog 63 #[.agg (uS A B AC AL c d cC cL s)] w fun e w'=>e = .returned (.bool (syRight s))∧Below w.heap.size w w':=by
 have HS:=hid (show syRight s = (mRight s.M && decide (1≤s.C.length) && decide (s.C.length≤8) && s.C.all coRight) from rfl)
 have H3:=hid h3
 clear h3
 by_cases q:mRight s.M = true∧1≤s.C.length∧s.C.length≤8
 ·obtain ⟨q1,q2,q3⟩:=q
  go_enter Tryz.func63,Tryz.ntmps63
  go_wp2_with (go_at_call 111;refine (rright_any _ _ _ _ s.M _ (hG.alloc _) h0 h1).mono ?_;rintro e wk ⟨rfl,hk⟩;obtain ⟨gc,gf⟩:=bcell hk;have hz:w.heap.size < wk.heap.size:=(by have:=hk.size;simp at this;omega))
  have hCk:=(hC.step (boxed w _)).step hk
  have b0:wk.cell? ⟨w.heap.size,3,none⟩ = some (.slice AC s.C.length cC):=by rw [gc _ _ (by simp)];simp [go_sem]
  have hb:Below w.heap.size w wk:=bstep (boxed _ _) hk
  clear gc gf hk
  go_loopw [4] (fun i wr=>∃ k:Nat,k≤s.C.length∧i = .int .i64 k∧Hid ((s.C.take k).all coRight = true)∧Below wk.heap.size wk wr) (fun i _=>s.C.length - (intOf i).toNat)
  case atStart=>exact ⟨0,Nat.zero_le _,rfl,hid rfl,Below.refl _ _⟩
  case round =>
   obtain ⟨k,hkk,rfl,HT,hbr⟩:=hrel
   have b1:wr.cell? ⟨w.heap.size,3,none⟩ = some (.slice AC s.C.length cC):=(hbr.cell hz).trans b0
   by_cases hlt:k < s.C.length
   ·obtain ⟨b,o,rfl,hbl,hat⟩:=hCk (by omega)
    obtain ⟨x,hx⟩:∃ x,s.C[k]? = some x:=⟨_,List.getElem?_eq_getElem hlt⟩
    have hxF:=H3.out x (List.mem_of_getElem? hx)
    have hblr:b < wr.heap.size:=Nat.lt_of_lt_of_le hbl hbr.size
    have X:=(hat k x hx).step hbl hbr
    obtain ⟨⟨AF,cF,c0,rF,_⟩,c1,c2,c3,c4,c5,AR,cR,c6,rR⟩:=X
    have HX:=hid hx
    clear hat hx
    have fin:coRight x = false→syRight s = false:=fun h=>by rw [HS.out,all_bad HX.out h];simp
    have Fin:=hid fin
    have HC:=hid (show coRight x = (coNear x && decide (x.F.length≤40) && decide (x.ret.length≤200) && x.F.all frFew) from rfl)
    clear fin
    have m1l:w.heap.size < wr.heap.size:=Nat.lt_of_lt_of_le hz hbr.size
    cases t:coNear x
    ·go_wp2_with fail
     refine (rcore_any _ _ _ _ x _ rF hxF).mono ?_
     rintro e wl ⟨rfl,hl⟩
     go_wp2
     go_ret
     exact ⟨ret_bool (Fin.out (by rw [HC.out,t];rfl)).symm,bstep hb (bstep hbr hl)⟩
    ·by_cases r1:x.F.length≤40
     ·by_cases r2:x.ret.length≤200
      ·go_wp2_with fail
       refine (rcore_any _ _ _ _ x _ rF hxF).mono ?_
       rintro e wl ⟨rfl,hl⟩
       have d0:=(hl.cell hblr).trans c0
       have d6:=(hl.cell hblr).trans c6
       have e1:wl.cell? ⟨w.heap.size,3,none⟩ = some (.slice (some ⟨b,o,none⟩) s.C.length cC):=(hl.cell m1l).trans b1
       have rF2:=rF.step hl
       go_wp2
       go_loop [6] (fun i=>∃ j:Nat,j≤x.F.length∧i = .int .i64 j∧Hid ((x.F.take j).all frFew = true)) (fun i=>x.F.length - (intOf i).toNat)
       case atStart=>exact ⟨0,Nat.zero_le _,rfl,hid rfl⟩
       case round =>
        obtain ⟨j,hjj,rfl,HJ⟩:=hrel
        by_cases hjt:j < x.F.length
        ·obtain ⟨b',o',rfl,hbl',hat⟩:=rF2 (by omega)
         obtain ⟨f,hf⟩:∃ f,x.F[j]? = some f:=⟨_,List.getElem?_eq_getElem hjt⟩
         obtain ⟨_,_,_,_,AS,cS,c10,rS⟩:=hat j f hf
         have HF:=hid hf
         clear hat hf
         by_cases r3:f.S.length≤24
         ·go_wp2
          go_round
          case rel=>exact ⟨j+1,by omega,by go_num,hid (all_more HF.out HJ.out (by simp [frFew];omega))⟩
          case measure=>simp [intOf];omega
         ·go_wp2
          go_ret
          exact ⟨ret_bool (Fin.out (by rw [HC.out,all_bad HF.out (by simp [frFew];omega)];simp)).symm,bstep hb (bstep hbr hl)⟩
        ·go_wp2
         go_roundw
         case rel=>exact ⟨k+1,by omega,by go_num,hid (all_more HX.out HT.out (by rw [HC.out,t,decide_eq_true r1,decide_eq_true r2,all_full (by omega) HJ.out];rfl)),bstep hbr hl⟩
         case measure=>simp [intOf];omega
      ·go_wp2_with fail
       refine (rcore_any _ _ _ _ x _ rF hxF).mono ?_
       rintro e wl ⟨rfl,hl⟩
       have d0:=(hl.cell hblr).trans c0
       have d6:=(hl.cell hblr).trans c6
       have e1:wl.cell? ⟨w.heap.size,3,none⟩ = some (.slice (some ⟨b,o,none⟩) s.C.length cC):=(hl.cell m1l).trans b1
       go_wp2
       go_ret
       exact ⟨ret_bool (Fin.out (by rw [HC.out,decide_eq_false r2];simp)).symm,bstep hb (bstep hbr hl)⟩
     ·go_wp2_with fail
      refine (rcore_any _ _ _ _ x _ rF hxF).mono ?_
      rintro e wl ⟨rfl,hl⟩
      have d0:=(hl.cell hblr).trans c0
      have e1:wl.cell? ⟨w.heap.size,3,none⟩ = some (.slice (some ⟨b,o,none⟩) s.C.length cC):=(hl.cell m1l).trans b1
      go_wp2
      go_ret
      exact ⟨ret_bool (Fin.out (by rw [HC.out,decide_eq_false r1];simp)).symm,bstep hb (bstep hbr hl)⟩
   ·go_wp2
    go_ret
    exact ⟨ret_bool (by rw [HS.out,q1,decide_eq_true q2,decide_eq_true q3,all_full (by omega) HT.out];rfl),bstep hb hbr⟩
 ·have q':mRight s.M = false ∨ (mRight s.M = true∧s.C.length < 1) ∨ (mRight s.M = true∧1≤s.C.length∧8 < s.C.length):=by
   by_cases t:mRight s.M = true
   ·right
    by_cases t1:s.C.length < 1
    ·exact .inl ⟨t,t1⟩
    ·right
     by_cases t2:8 < s.C.length
     ·exact ⟨t,by omega,t2⟩
     ·exact absurd ⟨t,by omega,by omega⟩ q
   ·exact .inl (by simpa using t)
  clear q
  rcases q' with q1 | ⟨q1,q2⟩ | ⟨q1,q2,q3⟩
  all_goals
   go_enter Tryz.func63,Tryz.ntmps63
   go_wp2_with (go_at_call 111;refine (rright_any _ _ _ _ s.M _ (hG.alloc _) h0 h1).mono ?_;rintro e wk ⟨rfl,hk⟩;obtain ⟨gc,gf⟩:=bcell hk;have hz:w.heap.size < wk.heap.size:=(by have:=hk.size;simp at this;omega))
   go_ret
   exact ⟨ret_bool (by rw [HS.out,q1];first | rfl | (rw [decide_eq_false (show ¬ 1≤s.C.length by omega)];simp) | (rw [decide_eq_false (show ¬ s.C.length≤8 by omega)];simp)),bstep (boxed _ _) hk⟩
end Go.Proofs.YthpflcknommpdaaGreat
