/- Contracts of the document's answers for layer 3: frames that are the same. -/
import Derived.Test.YthpflcknommpdaaGreatKCoA
import Derived.Test.YthpflcknommpdaaGreatKBas
import Derived.Deep.RegionHeld3
import Derived.Deep.CutRange
namespace Go.Proofs.YthpflcknommpdaaGreat
open Go.RowKit
set_option maxRecDepth 100000
set_option maxHeartbeats 4000000
set_option linter.unusedVariables false
set_option linter.unusedSimpArgs false
def frSame (a b:Fr):Bool:=mInts a.S b.S && (a.op == b.op) && (a.pc == b.pc) && decide (a.R = b.R)
theorem int_info3:∃ i,Tryz.prog.info? 3 = some i:=by
 have h:(Tryz.prog.info? 3).isSome = true:=by kernel_rfl
 exact Option.isSome_iff_exists.1 h
theorem eql8 (r0 r1 r2 r3 r4 r5 r6 r7 s0 s1 s2 s3 s4 s5 s6 s7:Int) (w:World):(binOp .eql 67 (.agg #[.int .i64 r0,.int .i64 r1,.int .i64 r2,.int .i64 r3,.int .i64 r4,.int .i64 r5,.int .i64 r6,.int .i64 r7]) (.agg #[.int .i64 s0,.int .i64 s1,.int .i64 s2,.int .i64 s3,.int .i64 s4,.int .i64 s5,.int .i64 s6,.int .i64 s7])).run Tryz.prog w = .ok (.bool (decide ([r0,r1,r2,r3,r4,r5,r6,r7] = [s0,s1,s2,s3,s4,s5,s6,s7]))) w:=by
 obtain ⟨i,hi⟩:=int_info3
 exact run_eql_ints w Tryz.underlying67 Tryz.underlying3 hi (by kernel_rfl) [r0,r1,r2,r3,r4,r5,r6,r7] [s0,s1,s2,s3,s4,s5,s6,s7] rfl rfl
theorem rframe_any (A B:Option Addr) (c d:Nat) (op pc op2 pc2 r0 r1 r2 r3 r4 r5 r6 r7 s0 s1 s2 s3 s4 s5 s6 s7:Int) (xs ys:List Int) (w:World) (hA:Row w A xs) (hB:Row w B ys) (h0:xs.length≤1000000) :
  Calls Tryz.prog 114 #[.agg (uF op pc r0 r1 r2 r3 r4 r5 r6 r7 A xs c),.agg (uF op2 pc2 s0 s1 s2 s3 s4 s5 s6 s7 B ys d)] w fun e w'=>e = .returned (.bool (frSame ⟨op,pc,[r0,r1,r2,r3,r4,r5,r6,r7],xs⟩ ⟨op2,pc2,[s0,s1,s2,s3,s4,s5,s6,s7],ys⟩))∧Below w.heap.size w w':=by
 have hq:=eql8 r0 r1 r2 r3 r4 r5 r6 r7 s0 s1 s2 s3 s4 s5 s6 s7
 have HF:=hid (show frSame ⟨op,pc,[r0,r1,r2,r3,r4,r5,r6,r7],xs⟩ ⟨op2,pc2,[s0,s1,s2,s3,s4,s5,s6,s7],ys⟩ = (mInts xs ys && (op == op2) && (pc == pc2) && decide ([r0,r1,r2,r3,r4,r5,r6,r7] = [s0,s1,s2,s3,s4,s5,s6,s7])) from rfl)
 obtain ⟨v,hv⟩:∃ v,frSame ⟨op,pc,[r0,r1,r2,r3,r4,r5,r6,r7],xs⟩ ⟨op2,pc2,[s0,s1,s2,s3,s4,s5,s6,s7],ys⟩ = v:=⟨_,rfl⟩
 rw [hv] at HF ⊢
 clear hv
 obtain ⟨z,hz⟩:∃ z,decide ([r0,r1,r2,r3,r4,r5,r6,r7] = [s0,s1,s2,s3,s4,s5,s6,s7]) = z:=⟨_,rfl⟩
 rw [hz] at HF
 have hq2:∀ w,(binOp .eql 67 (.agg #[.int .i64 r0,.int .i64 r1,.int .i64 r2,.int .i64 r3,.int .i64 r4,.int .i64 r5,.int .i64 r6,.int .i64 r7]) (.agg #[.int .i64 s0,.int .i64 s1,.int .i64 s2,.int .i64 s3,.int .i64 s4,.int .i64 s5,.int .i64 s6,.int .i64 s7])).run Tryz.prog w = .ok (.bool z) w:=fun w=>by rw [hq w,hz]
 clear hq hz
 cases t0:mInts xs ys
 all_goals cases t1:(op == op2)
 all_goals cases t2:(pc == pc2)
 all_goals
  rw [t0,t1,t2] at HF
  go_enter Tryz.func114,Tryz.ntmps114
  go_wp2_with (go_at_call 19;refine (rints_any _ _ _ _ xs ys _ ((hA.alloc _).alloc _) ((hB.alloc _).alloc _) (by omega)).mono ?_;rintro e wk ⟨rfl,hk⟩;obtain ⟨gc,gf⟩:=bcell hk;have hz1:w.heap.size+1 < wk.heap.size:=(by have:=hk.size;simp at this;omega);have hz0:w.heap.size < wk.heap.size:=(by omega))
  go_ret
  exact ⟨ret_bool (by rw [HF.out];cases z <;> rfl),bstep (bstep (boxed _ _) (boxed _ _)) hk⟩
set_option linter.unusedSectionVars false
section
variable {α:Type} [DecidableEq α]
def lSame (a b:List α):Bool:=decide (a = b)
theorem lSame_len {a b:List α} (h:a.length ≠ b.length):lSame a b = false:=by
 unfold lSame
 simp
 intro e
 exact h (by rw [e])
theorem lSame_at {a b:List α} {k:Nat} {x y:α} (hx:a[k]? = some x) (hy:b[k]? = some y) (h:x ≠ y):lSame a b = false:=by
 unfold lSame
 simp
 rintro rfl
 rw [hx] at hy
 exact h (by injection hy)
theorem lSame_more {a b:List α} {k:Nat} {x:α} (hx:a[k]? = some x) (hy:b[k]? = some x) (ht:a.take k = b.take k):a.take (k+1) = b.take (k+1):=by
 rw [List.take_add_one,List.take_add_one,hx,hy,ht]
theorem lSame_all {a b:List α} (hl:a.length = b.length) (ht:a.take a.length = b.take a.length):lSame a b = true:=by
 unfold lSame
 simp only [decide_eq_true_eq]
 rw [List.take_length] at ht
 rw [ht,hl,List.take_length]
end
theorem neqEv (a b:Evt) (w:World):(binOp .neq 87 (.agg #[.int .i64 a.core,.int .i64 a.kind,.int .i64 a.a,.int .i64 a.b,.int .i64 a.v]) (.agg #[.int .i64 b.core,.int .i64 b.kind,.int .i64 b.a,.int .i64 b.b,.int .i64 b.v])).run Tryz.prog w = .ok (.bool (!decide (a = b))) w:=by
 have e:decide (a = b) = (a.core == b.core && (a.kind == b.kind && (a.a == b.a && (a.b == b.b && a.v == b.v)))):=by
  obtain ⟨a0,a1,a2,a3,a4⟩:=a
  obtain ⟨b0,b1,b2,b3,b4⟩:=b
  rw [Bool.eq_iff_iff]
  simp
 rw [e]
 simp [go_sem]
 by_cases h0:a.core = b.core <;> by_cases h1:a.kind = b.kind <;> by_cases h2:a.a = b.a <;> by_cases h3:a.b = b.b <;> by_cases h4:a.v = b.v <;> simp [h0,h1,h2,h3,h4]
theorem revs_any (A B:Option Addr) (c d:Nat) (xs ys:List Evt) (w:World) (ha:RowE w A xs) (hb:RowE w B ys) (h0:xs.length≤1000000000) :
  Calls Tryz.prog 65 #[.slice A xs.length c,.slice B ys.length d] w fun e w'=>e = .returned (.bool (lSame xs ys))∧Below w.heap.size w w':=by
 by_cases hl:xs.length = ys.length
 ·have HL:=hid hl
  have hl1:xs.length≤ys.length:=by omega
  have hl2:ys.length≤xs.length:=by omega
  have hl3:((xs.length:Int) != (ys.length:Int)) = false:=by simp [hl]
  clear hl
  go_enter Tryz.func65,Tryz.ntmps65
  go_wp2
  go_loopw [5] (fun i wr=>∃ (k nq:Nat),k≤xs.length∧i = .int .i64 k∧Hid (xs.take k = ys.take k)∧wr = w.drewN nq) (fun i _=>xs.length - (intOf i).toNat)
  case atStart=>exact ⟨0,0,Nat.zero_le _,rfl,hid rfl,rfl⟩
  case round =>
   obtain ⟨k,nq,hk,rfl,HT,rfl⟩:=hrel
   by_cases hlt:k < xs.length
   ·have hlt2:k < ys.length:=by omega
    obtain ⟨b1,o1,rfl,hb1,hat1⟩:=ha (by omega)
    obtain ⟨b2,o2,rfl,hb2,hat2⟩:=hb (by omega)
    obtain ⟨x,hx⟩:∃ x,xs[k]? = some x:=⟨_,List.getElem?_eq_getElem hlt⟩
    obtain ⟨y,hy⟩:∃ y,ys[k]? = some y:=⟨_,List.getElem?_eq_getElem hlt2⟩
    obtain ⟨c0,c1,c2,c3,c4⟩:=hat1 k x hx
    obtain ⟨d0,d1,d2,d3,d4⟩:=hat2 k y hy
    have HX:=hid hx
    have HY:=hid hy
    have hq:=neqEv x y
    clear hat1 hat2 hx hy
    by_cases t:x = y
    ·subst t
     have hq2:∀ w,(binOp .neq 87 (.agg #[.int .i64 x.core,.int .i64 x.kind,.int .i64 x.a,.int .i64 x.b,.int .i64 x.v]) (.agg #[.int .i64 x.core,.int .i64 x.kind,.int .i64 x.a,.int .i64 x.b,.int .i64 x.v])).run Tryz.prog w = .ok (.bool false) w:=fun w=>by rw [hq w];simp
     clear hq
     have HT2:=hid (lSame_more HX.out HY.out HT.out)
     go_wp2_with fail
     go_quiet (fail)
     go_wp2
     go_roundw
     case rel=>exact ⟨k+1,_,by omega,by go_num,HT2,rfl⟩
     case measure=>simp [intOf];omega
    ·have hq2:∀ w,(binOp .neq 87 (.agg #[.int .i64 x.core,.int .i64 x.kind,.int .i64 x.a,.int .i64 x.b,.int .i64 x.v]) (.agg #[.int .i64 y.core,.int .i64 y.kind,.int .i64 y.a,.int .i64 y.b,.int .i64 y.v])).run Tryz.prog w = .ok (.bool true) w:=fun w=>by rw [hq w];simp [t]
     have HN:=hid t
     clear hq t
     go_wp2_with fail
     go_quiet (fail)
     go_wp2
     go_ret
     exact ⟨ret_bool (lSame_at HX.out HY.out HN.out).symm,bdrewN (bdrewN (Below.refl _ _) _) _⟩
   ·go_wp2
    go_ret
    obtain rfl:k = xs.length:=by omega
    exact ⟨ret_bool (lSame_all HL.out HT.out).symm,bdrewN (Below.refl _ _) _⟩
 ·have HL:=hid hl
  have hl3:((xs.length:Int) != (ys.length:Int)) = true:=by simp;omega
  clear hl
  go_enter Tryz.func65,Tryz.ntmps65
  go_wp2
  go_ret
  exact ⟨ret_bool (lSame_len HL.out).symm,Below.refl _ _⟩
def coSame (x y:Co):Bool:=mInts x.ret y.ret && (x.v == y.v) && (x.e == y.e) && decide ([x.x0,x.x1,x.x2] = [y.x0,y.x1,y.x2]) && lSame x.F y.F
theorem frSame_eq (f g:Fr):frSame f g = decide (f = g):=by
 obtain ⟨a,b,c,d⟩:=f
 obtain ⟨a',b',c',d'⟩:=g
 unfold frSame mInts
 rw [Bool.eq_iff_iff]
 simp
 constructor
 ·rintro ⟨⟨⟨h1,h2⟩,h3⟩,h4⟩;exact ⟨h2,h3,h4,h1⟩
 ·rintro ⟨h1,h2,h3,h4⟩;exact ⟨⟨⟨h4,h1⟩,h2⟩,h3⟩
theorem list8 {l:List Int} (h:l.length = 8):∃ r0 r1 r2 r3 r4 r5 r6 r7:Int,l = [r0,r1,r2,r3,r4,r5,r6,r7]:=by
 match l,h with
 | [r0,r1,r2,r3,r4,r5,r6,r7],_=>exact ⟨r0,r1,r2,r3,r4,r5,r6,r7,rfl⟩
theorem neq3 (a b c a' b' c':Int) (w:World):(binOp .neq 54 (.agg #[.int .i64 a,.int .i64 b,.int .i64 c]) (.agg #[.int .i64 a',.int .i64 b',.int .i64 c'])).run Tryz.prog w = .ok (.bool (!decide ([a,b,c] = [a',b',c']))) w:=by
 obtain ⟨i,hi⟩:=int_info3
 exact run_neq_ints w Tryz.underlying54 Tryz.underlying3 hi (by kernel_rfl) [a,b,c] [a',b',c'] rfl rfl
theorem rone_any (AF AR BF BR:Option Addr) (cF cR dF dR:Nat) (x y:Co) (w:World) (hF:RowF w AF x.F) (hR:Row w AR x.ret) (kF:RowF w BF y.F) (kR:Row w BR y.ret) (h0:x.ret.length≤1000000) (h1:x.F.length≤1000000) (h2:∀ f ∈ x.F,f.S.length≤1000000) :
  Calls Tryz.prog 66 #[.agg #[.slice AF x.F.length cF,.int .i64 x.v,.int .i64 x.e,.int .i64 x.x0,.int .i64 x.x1,.int .i64 x.x2,.slice AR x.ret.length cR],.agg #[.slice BF y.F.length dF,.int .i64 y.v,.int .i64 y.e,.int .i64 y.x0,.int .i64 y.x1,.int .i64 y.x2,.slice BR y.ret.length dR]] w fun e w'=>e = .returned (.bool (coSame x y))∧Below w.heap.size w w':=by
 have HC:=hid (show coSame x y = (mInts x.ret y.ret && (x.v == y.v) && (x.e == y.e) && decide ([x.x0,x.x1,x.x2] = [y.x0,y.x1,y.x2]) && lSame x.F y.F) from rfl)
 have H2:=hid h2
 clear h2
 have hq:=neq3 x.x0 x.x1 x.x2 y.x0 y.x1 y.x2
 obtain ⟨z,hz⟩:∃ z,decide ([x.x0,x.x1,x.x2] = [y.x0,y.x1,y.x2]) = z:=⟨_,rfl⟩
 rw [hz] at HC
 have hq2:∀ w,(binOp .neq 54 (.agg #[.int .i64 x.x0,.int .i64 x.x1,.int .i64 x.x2]) (.agg #[.int .i64 y.x0,.int .i64 y.x1,.int .i64 y.x2])).run Tryz.prog w = .ok (.bool !z) w:=fun w=>by rw [hq w,hz]
 clear hq hz
 by_cases hall:mInts x.ret y.ret = true∧(x.v != y.v) = false∧(x.e != y.e) = false∧z = true∧x.F.length = y.F.length
 ·obtain ⟨t0,t1,t2,rfl,t4⟩:=hall
  have T4:=hid t4
  have l1:x.F.length≤y.F.length:=by omega
  have l2:y.F.length≤x.F.length:=by omega
  have t5:((x.F.length:Int) != (y.F.length:Int)) = false:=by simp [t4]
  clear t4
  have HC2:Hid (coSame x y = lSame x.F y.F):=by
   show _ = _
   rw [HC.out,t0,show (x.v == y.v) = true by simpa using t1,show (x.e == y.e) = true by simpa using t2]
   rfl
  simp only [Bool.not_true] at hq2
  go_enter Tryz.func66,Tryz.ntmps66
  go_wp2_with (go_at_call 19;refine (rints_any _ _ _ _ x.ret y.ret _ ((hR.alloc _).alloc _) ((kR.alloc _).alloc _) (by omega)).mono ?_;rintro e wk ⟨rfl,hk⟩;obtain ⟨gc,gf⟩:=bcell hk;have hz1:w.heap.size+1 < wk.heap.size:=(by have:=hk.size;simp at this;omega);have hz0:w.heap.size < wk.heap.size:=(by omega))
  have p0:wk.cell? ⟨w.heap.size,0,none⟩ = some (.slice AF x.F.length cF):=by rw [gc _ _ (by simp;omega)];simp [go_sem]
  have p1:wk.cell? ⟨w.heap.size+1,0,none⟩ = some (.slice BF y.F.length dF):=by rw [gc _ _ (by simp)];simp [go_sem]
  have hb:Below w.heap.size w wk:=bstep (bstep (boxed _ _) (boxed _ _)) hk
  have rF:=((hF.step (boxed w _)).step (boxed _ _)).step hk
  have sF:=((kF.step (boxed w _)).step (boxed _ _)).step hk
  clear gc gf hk hq2
  go_loopw [6] (fun i wr=>∃ k:Nat,k≤x.F.length∧i = .int .i64 k∧Hid (x.F.take k = y.F.take k)∧Below wk.heap.size wk wr) (fun i _=>x.F.length - (intOf i).toNat)
  case atStart=>exact ⟨0,Nat.zero_le _,rfl,hid rfl,Below.refl _ _⟩
  case round =>
   obtain ⟨k,hkk,rfl,HT,hbr⟩:=hrel
   have c0:=(hbr.cell hz0).trans p0
   have c1:=(hbr.cell hz1).trans p1
   by_cases hlt:k < x.F.length
   ·obtain ⟨b1,o1,rfl,hb1,hat1⟩:=rF (by omega)
    obtain ⟨b2,o2,rfl,hb2,hat2⟩:=sF (by omega)
    obtain ⟨f,hf⟩:∃ f,x.F[k]? = some f:=⟨_,List.getElem?_eq_getElem hlt⟩
    obtain ⟨g,hg⟩:∃ g,y.F[k]? = some g:=⟨_,List.getElem?_eq_getElem (by omega)⟩
    have hb1r:b1 < wr.heap.size:=Nat.lt_of_lt_of_le hb1 hbr.size
    have hb2r:b2 < wr.heap.size:=Nat.lt_of_lt_of_le hb2 hbr.size
    have U:=(hat1 k f hf).step hb1 hbr
    have T:=(hat2 k g hg).step hb2 hbr
    have hfS:=H2.out f (List.mem_of_getElem? hf)
    obtain ⟨op,pc,rs,xs⟩:=f
    obtain ⟨op2,pc2,ss,ys⟩:=g
    obtain ⟨e1,u0,u1,ur,AS,cS,u10,rS⟩:=U
    obtain ⟨e2,t0',t1',tr,BS,dS,t10,sS⟩:=T
    obtain ⟨r0,r1,r2,r3,r4,r5,r6,r7,rfl⟩:=list8 e1
    obtain ⟨s0,s1,s2,s3,s4,s5,s6,s7,rfl⟩:=list8 e2
    have HF:=hid hf
    have HG:=hid hg
    dsimp only at u0 u1 ur u10 rS t0' t1' tr t10 sS hfS
    have u2:wr.cell? ⟨b1,o1+k * 11+2,none⟩ = some (.int .i64 r0):=ur 0 (by omega)
    have t2:wr.cell? ⟨b2,o2+k * 11+2,none⟩ = some (.int .i64 s0):=tr 0 (by omega)
    have u3:wr.cell? ⟨b1,o1+k * 11+3,none⟩ = some (.int .i64 r1):=ur 1 (by omega)
    have t3:wr.cell? ⟨b2,o2+k * 11+3,none⟩ = some (.int .i64 s1):=tr 1 (by omega)
    have u4:wr.cell? ⟨b1,o1+k * 11+4,none⟩ = some (.int .i64 r2):=ur 2 (by omega)
    have t4:wr.cell? ⟨b2,o2+k * 11+4,none⟩ = some (.int .i64 s2):=tr 2 (by omega)
    have u5:wr.cell? ⟨b1,o1+k * 11+5,none⟩ = some (.int .i64 r3):=ur 3 (by omega)
    have t5:wr.cell? ⟨b2,o2+k * 11+5,none⟩ = some (.int .i64 s3):=tr 3 (by omega)
    have u6:wr.cell? ⟨b1,o1+k * 11+6,none⟩ = some (.int .i64 r4):=ur 4 (by omega)
    have t6:wr.cell? ⟨b2,o2+k * 11+6,none⟩ = some (.int .i64 s4):=tr 4 (by omega)
    have u7:wr.cell? ⟨b1,o1+k * 11+7,none⟩ = some (.int .i64 r5):=ur 5 (by omega)
    have t7:wr.cell? ⟨b2,o2+k * 11+7,none⟩ = some (.int .i64 s5):=tr 5 (by omega)
    have u8:wr.cell? ⟨b1,o1+k * 11+8,none⟩ = some (.int .i64 r6):=ur 6 (by omega)
    have t8:wr.cell? ⟨b2,o2+k * 11+8,none⟩ = some (.int .i64 s6):=tr 6 (by omega)
    have u9:wr.cell? ⟨b1,o1+k * 11+9,none⟩ = some (.int .i64 r7):=ur 7 (by omega)
    have t9:wr.cell? ⟨b2,o2+k * 11+9,none⟩ = some (.int .i64 s7):=tr 7 (by omega)
    clear hat1 hat2 hf hg e1 e2 ur tr
    have z0:w.heap.size < wr.heap.size:=Nat.lt_of_lt_of_le hz0 hbr.size
    have z1:w.heap.size+1 < wr.heap.size:=Nat.lt_of_lt_of_le hz1 hbr.size
    have kl:(k:Int) < (y.F.length:Int):=by omega
    have kl2:k < y.F.length:=by omega
    go_upto_region 7 with (fail)
    go_cut [7] from 45 to 64 (fun s wx=>s = .bool (frSame ⟨op,pc,[r0,r1,r2,r3,r4,r5,r6,r7],xs⟩ ⟨op2,pc2,[s0,s1,s2,s3,s4,s5,s6,s7],ys⟩)∧Below wr.heap.size wr wx)
    case first =>
     have hS:∀ w',Below wr.heap.size wr w'→(Below wr.heap.size wr w'∧w'.cell? ⟨w.heap.size,0,none⟩ = some (.slice (some ⟨b1,o1,none⟩) x.F.length cF)∧w'.cell? ⟨w.heap.size+1,0,none⟩ = some (.slice (some ⟨b2,o2,none⟩) y.F.length dF)∧w'.cell? ⟨b1,o1+k * 11,none⟩ = some (.int .i64 op)∧w'.cell? ⟨b1,o1+k * 11+1,none⟩ = some (.int .i64 pc)∧w'.cell? ⟨b1,o1+k * 11+2,none⟩ = some (.int .i64 r0)∧w'.cell? ⟨b1,o1+k * 11+3,none⟩ = some (.int .i64 r1)∧w'.cell? ⟨b1,o1+k * 11+4,none⟩ = some (.int .i64 r2)∧w'.cell? ⟨b1,o1+k * 11+5,none⟩ = some (.int .i64 r3)∧w'.cell? ⟨b1,o1+k * 11+6,none⟩ = some (.int .i64 r4)∧w'.cell? ⟨b1,o1+k * 11+7,none⟩ = some (.int .i64 r5)∧w'.cell? ⟨b1,o1+k * 11+8,none⟩ = some (.int .i64 r6)∧w'.cell? ⟨b1,o1+k * 11+9,none⟩ = some (.int .i64 r7)∧w'.cell? ⟨b1,o1+k * 11+10,none⟩ = some (.slice AS xs.length cS)∧w'.cell? ⟨b2,o2+k * 11,none⟩ = some (.int .i64 op2)∧w'.cell? ⟨b2,o2+k * 11+1,none⟩ = some (.int .i64 pc2)∧w'.cell? ⟨b2,o2+k * 11+2,none⟩ = some (.int .i64 s0)∧w'.cell? ⟨b2,o2+k * 11+3,none⟩ = some (.int .i64 s1)∧w'.cell? ⟨b2,o2+k * 11+4,none⟩ = some (.int .i64 s2)∧w'.cell? ⟨b2,o2+k * 11+5,none⟩ = some (.int .i64 s3)∧w'.cell? ⟨b2,o2+k * 11+6,none⟩ = some (.int .i64 s4)∧w'.cell? ⟨b2,o2+k * 11+7,none⟩ = some (.int .i64 s5)∧w'.cell? ⟨b2,o2+k * 11+8,none⟩ = some (.int .i64 s6)∧w'.cell? ⟨b2,o2+k * 11+9,none⟩ = some (.int .i64 s7)∧w'.cell? ⟨b2,o2+k * 11+10,none⟩ = some (.slice BS ys.length dS)):=fun w' h=>⟨h,(h.cell z0).trans c0,(h.cell z1).trans c1,(h.cell hb1r).trans u0,(h.cell hb1r).trans u1,(h.cell hb1r).trans u2,(h.cell hb1r).trans u3,(h.cell hb1r).trans u4,(h.cell hb1r).trans u5,(h.cell hb1r).trans u6,(h.cell hb1r).trans u7,(h.cell hb1r).trans u8,(h.cell hb1r).trans u9,(h.cell hb1r).trans u10,(h.cell hb2r).trans t0',(h.cell hb2r).trans t1',(h.cell hb2r).trans t2,(h.cell hb2r).trans t3,(h.cell hb2r).trans t4,(h.cell hb2r).trans t5,(h.cell hb2r).trans t6,(h.cell hb2r).trans t7,(h.cell hb2r).trans t8,(h.cell hb2r).trans t9,(h.cell hb2r).trans t10⟩
     go_region_held3 (fun w'=>Below wr.heap.size wr w'∧w'.cell? ⟨w.heap.size,0,none⟩ = some (.slice (some ⟨b1,o1,none⟩) x.F.length cF)∧w'.cell? ⟨w.heap.size+1,0,none⟩ = some (.slice (some ⟨b2,o2,none⟩) y.F.length dF)∧w'.cell? ⟨b1,o1+k * 11,none⟩ = some (.int .i64 op)∧w'.cell? ⟨b1,o1+k * 11+1,none⟩ = some (.int .i64 pc)∧w'.cell? ⟨b1,o1+k * 11+2,none⟩ = some (.int .i64 r0)∧w'.cell? ⟨b1,o1+k * 11+3,none⟩ = some (.int .i64 r1)∧w'.cell? ⟨b1,o1+k * 11+4,none⟩ = some (.int .i64 r2)∧w'.cell? ⟨b1,o1+k * 11+5,none⟩ = some (.int .i64 r3)∧w'.cell? ⟨b1,o1+k * 11+6,none⟩ = some (.int .i64 r4)∧w'.cell? ⟨b1,o1+k * 11+7,none⟩ = some (.int .i64 r5)∧w'.cell? ⟨b1,o1+k * 11+8,none⟩ = some (.int .i64 r6)∧w'.cell? ⟨b1,o1+k * 11+9,none⟩ = some (.int .i64 r7)∧w'.cell? ⟨b1,o1+k * 11+10,none⟩ = some (.slice AS xs.length cS)∧w'.cell? ⟨b2,o2+k * 11,none⟩ = some (.int .i64 op2)∧w'.cell? ⟨b2,o2+k * 11+1,none⟩ = some (.int .i64 pc2)∧w'.cell? ⟨b2,o2+k * 11+2,none⟩ = some (.int .i64 s0)∧w'.cell? ⟨b2,o2+k * 11+3,none⟩ = some (.int .i64 s1)∧w'.cell? ⟨b2,o2+k * 11+4,none⟩ = some (.int .i64 s2)∧w'.cell? ⟨b2,o2+k * 11+5,none⟩ = some (.int .i64 s3)∧w'.cell? ⟨b2,o2+k * 11+6,none⟩ = some (.int .i64 s4)∧w'.cell? ⟨b2,o2+k * 11+7,none⟩ = some (.int .i64 s5)∧w'.cell? ⟨b2,o2+k * 11+8,none⟩ = some (.int .i64 s6)∧w'.cell? ⟨b2,o2+k * 11+9,none⟩ = some (.int .i64 s7)∧w'.cell? ⟨b2,o2+k * 11+10,none⟩ = some (.slice BS ys.length dS)) (first | exact hS _ ((Below.refl _ _).drew) | exact hS _ (bstep ((Below.refl _ _).drew) hk1))
      (first
       | (go_at_call 114;(with_reducible refine (rframe_any _ _ _ _ op pc op2 pc2 r0 r1 r2 r3 r4 r5 r6 r7 s0 s1 s2 s3 s4 s5 s6 s7 xs ys _ (rS.step ((Below.refl _ _).drew)) (sS.step ((Below.refl _ _).drew)) hfS).mono ?_);rintro e wk1 ⟨rfl,hk1⟩))
     all_goals go_wp2_with fail
     all_goals go_meet
     all_goals exact ⟨rfl,bstep ((Below.refl _ _).drew) hk1⟩
    case rest =>
     obtain ⟨rfl,hk⟩:=hcut
     have hfs:=frSame_eq ⟨op,pc,[r0,r1,r2,r3,r4,r5,r6,r7],xs⟩ ⟨op2,pc2,[s0,s1,s2,s3,s4,s5,s6,s7],ys⟩
     by_cases heq:(⟨op,pc,[r0,r1,r2,r3,r4,r5,r6,r7],xs⟩:Fr) = ⟨op2,pc2,[s0,s1,s2,s3,s4,s5,s6,s7],ys⟩
     ·rw [decide_eq_true heq] at hfs
      have HT2:=hid (lSame_more HF.out (by rw [heq];exact HG.out) HT.out)
      clear heq
      go_wp2
      go_roundw
      case rel=>exact ⟨k+1,by omega,by go_num,HT2,bstep hbr hk⟩
      case measure=>simp [intOf];omega
     ·rw [decide_eq_false heq] at hfs
      have HNE:=hid heq
      clear heq
      go_wp2
      go_ret
      exact ⟨ret_bool (by rw [HC2.out,lSame_at HF.out HG.out HNE.out]),bstep hb (bstep hbr hk)⟩
   ·go_wp2
    go_ret
    obtain rfl:k = x.F.length:=by omega
    exact ⟨ret_bool (by rw [HC2.out,lSame_all T4.out HT.out]),bstep hb hbr⟩
 ·have q':mInts x.ret y.ret = false ∨ (mInts x.ret y.ret = true∧(x.v != y.v) = true) ∨ (mInts x.ret y.ret = true∧(x.v != y.v) = false∧(x.e != y.e) = true) ∨ (mInts x.ret y.ret = true∧(x.v != y.v) = false∧(x.e != y.e) = false∧z = false) ∨ (mInts x.ret y.ret = true∧(x.v != y.v) = false∧(x.e != y.e) = false∧z = true∧((x.F.length:Int) != (y.F.length:Int)) = true):=by
   cases t0:mInts x.ret y.ret
   ·exact .inl rfl
   ·cases t1:(x.v != y.v)
    ·cases t2:(x.e != y.e)
     ·cases z
      ·simp
      ·right;right;right;right
       refine ⟨rfl,rfl,rfl,rfl,?_⟩
       have:¬ x.F.length = y.F.length:=fun h=>hall ⟨t0,t1,t2,rfl,h⟩
       simp
       omega
     ·simp
    ·simp
  clear hall
  have fin:(mInts x.ret y.ret && (x.v == y.v) && (x.e == y.e) && z && lSame x.F y.F) = false→coSame x y = false:=fun h=>HC.out.trans h
  have Fin:=hid fin
  clear fin HC
  rcases q' with t0 | ⟨t0,t1⟩ | ⟨t0,t1,t2⟩ | ⟨t0,t1,t2,t3⟩ | ⟨t0,t1,t2,t3,t4⟩
  all_goals
   go_enter Tryz.func66,Tryz.ntmps66
   go_wp2_with (go_at_call 19;refine (rints_any _ _ _ _ x.ret y.ret _ ((hR.alloc _).alloc _) ((kR.alloc _).alloc _) (by omega)).mono ?_;rintro e wk ⟨rfl,hk⟩;obtain ⟨gc,gf⟩:=bcell hk;have hz1:w.heap.size+1 < wk.heap.size:=(by have:=hk.size;simp at this;omega);have hz0:w.heap.size < wk.heap.size:=(by omega))
   go_ret
   refine ⟨ret_bool (Fin.out ?_).symm,bstep (bstep (boxed _ _) (boxed _ _)) hk⟩
   first
    | (rw [t0];rfl;done)
    | (rw [show (x.v == y.v) = false by simpa using t1];simp;done)
    | (rw [show (x.e == y.e) = false by simpa using t2];simp;done)
    | (rw [t3];simp;done)
    | (subst t3;simp;done)
    | (rw [lSame_len (by have:=t4;simp at this;omega)];simp;done)
def syMays (s:Sy):Bool:=sySmall s && syRight s
theorem sySmall_few {s:Sy} (h:sySmall s = true):s.M.G.length≤61∧s.M.W.length≤368∧s.C.length≤9∧s.L.length≤200∧(∀ x ∈ s.C,x.F.length≤45∧x.ret.length≤210∧∀ f ∈ x.F,f.S.length≤30):=by
 simp only [sySmall,mSmall,coSmall,frSmall,Bool.and_eq_true,decide_eq_true_eq,List.all_eq_true] at h
 obtain ⟨⟨⟨h1,h2⟩,h3⟩,h4⟩:=h
 exact ⟨by omega,by omega,h2,h3,fun x hx=>⟨(h4 x hx).1.1,(h4 x hx).1.2,(h4 x hx).2⟩⟩
theorem rmay3_any (A B AC AL:Option Addr) (c d cC cL:Nat) (s:Sy) (w:World) (hG:Row w B s.M.G) (hC:RowC w AC s.C) (h0:s.M.G.length≤maxLen) (h1:s.M.W.length≤maxLen) (h2:s.C.length≤maxLen) (h3:s.L.length≤maxLen) :
  Calls Tryz.prog 14 #[.agg (uS A B AC AL c d cC cL s),.int .i64 60] w fun e w'=>e = .returned (.bool (syMays s))∧Below w.heap.size w w':=by
 have hm:syMays s = (sySmall s && syRight s):=rfl
 cases q:sySmall s
 ·rw [q] at hm
  have HM:=hid hm
  clear hm
  go_enter Tryz.func14,Tryz.ntmps14
  go_wp2_with (go_at_call 62;refine (rsmall_any _ _ _ _ _ _ _ _ s _ (hC.step (boxed w _)) h0 h1 h2 h3).mono ?_;rintro e wk ⟨rfl,hk⟩)
  go_ret
  exact ⟨ret_bool HM.out.symm,bstep (boxed _ _) hk⟩
 ·obtain ⟨q1,q2,q3,q4,q5⟩:=sySmall_few q
  have Q5:=hid (fun x hx=>Nat.le_trans (q5 x hx).1 (by decide):∀ x ∈ s.C,x.F.length≤1000000)
  rw [q] at hm
  have HM:=hid hm
  clear hm q5
  go_enter Tryz.func14,Tryz.ntmps14
  go_wp2_with (first
   | (go_at_call 62;refine (rsmall_any _ _ _ _ _ _ _ _ s _ (hC.step (boxed w _)) h0 h1 h2 h3).mono ?_;rintro e wk ⟨rfl,hk⟩;obtain ⟨gc,gf⟩:=bcell hk;have hz:w.heap.size < wk.heap.size:=(by have:=hk.size;simp at this;omega))
   | (go_at_call 63;refine (rright3_any _ _ _ _ _ _ _ _ s _ ((hG.alloc _).step hk) ((hC.step (boxed w _)).step hk) (by omega) (by omega) (by omega) Q5.out).mono ?_;rintro e wl ⟨rfl,hl⟩))
  go_ret
  exact ⟨ret_bool (by rw [HM.out];rfl),bstep (boxed _ _) (bstep hk hl)⟩
theorem coSame_eq (x y:Co):coSame x y = decide (x = y):=by
 obtain ⟨a,b,c,d,e,f,g⟩:=x
 obtain ⟨a',b',c',d',e',f',g'⟩:=y
 unfold coSame mInts lSame
 rw [Bool.eq_iff_iff]
 simp
 constructor
 ·rintro ⟨⟨⟨⟨h1,h2⟩,h3⟩,h4,h5,h6⟩,h7⟩;exact ⟨h7,h2,h3,h4,h5,h6,h1⟩
 ·rintro ⟨h7,h2,h3,h4,h5,h6,h1⟩;exact ⟨⟨⟨⟨h1,h2⟩,h3⟩,h4,h5,h6⟩,h7⟩
def sySame (a b:Sy):Bool:=mSame a.M b.M && lSame a.L b.L && lSame a.C b.C
theorem rsame3_any (A A' AC AL B B' BC BL:Option Addr) (c c' cC cL d d' dC dL:Nat) (x y:Sy) (w:World)
  (hW:Row w A x.M.W) (hG:Row w A' x.M.G) (hC:RowC w AC x.C) (hL:RowE w AL x.L) (kW:Row w B y.M.W) (kG:Row w B' y.M.G) (kC:RowC w BC y.C) (kL:RowE w BL y.L)
  (h0:x.M.W.length≤1000000) (h1:x.M.G.length≤1000000) (h2:x.C.length≤1000000) (h3:x.L.length≤1000000) (h4:∀ o ∈ x.C,o.ret.length≤1000000∧o.F.length≤1000000∧∀ f ∈ o.F,f.S.length≤1000000) :
  Calls Tryz.prog 22 #[.agg (uS A A' AC AL c c' cC cL x),.agg (uS B B' BC BL d d' dC dL y)] w fun e w'=>e = .returned (.bool (sySame x y))∧Below w.heap.size w w':=by
 have HC:=hid (show sySame x y = (mSame x.M y.M && lSame x.L y.L && lSame x.C y.C) from rfl)
 have H4:=hid h4
 clear h4
 by_cases hall:mSame x.M y.M = true∧lSame x.L y.L = true∧x.C.length = y.C.length
 ·obtain ⟨t0,t1,t4⟩:=hall
  have T4:=hid t4
  have l1:x.C.length≤y.C.length:=by omega
  have l2:y.C.length≤x.C.length:=by omega
  have t5:((x.C.length:Int) != (y.C.length:Int)) = false:=by simp [t4]
  clear t4
  have HC2:Hid (sySame x y = lSame x.C y.C):=by
   show _ = _
   rw [HC.out,t0,t1]
   rfl
  go_enter Tryz.func22,Tryz.ntmps22
  go_wp2_with (first
   | (go_at_call 44;refine (rsame_any _ _ _ _ _ _ _ _ x.M y.M _ ((hW.alloc _).alloc _) ((hG.alloc _).alloc _) ((kW.alloc _).alloc _) ((kG.alloc _).alloc _) (by omega) (by omega)).mono ?_;rintro e wk ⟨rfl,hk⟩;obtain ⟨gc,gf⟩:=bcell hk;have hz1:w.heap.size+1 < wk.heap.size:=(by have:=hk.size;simp at this;omega);have hz0:w.heap.size < wk.heap.size:=(by omega))
   | (go_at_call 65;refine (revs_any _ _ _ _ x.L y.L _ (((hL.step (boxed w _)).step (boxed _ _)).step hk) (((kL.step (boxed w _)).step (boxed _ _)).step hk) (by omega)).mono ?_;rintro e wl ⟨rfl,hl⟩;obtain ⟨gc2,gf2⟩:=bcell hl))
  have p0:wl.cell? ⟨w.heap.size,3,none⟩ = some (.slice AC x.C.length cC):=by rw [gc2 _ _ hz0,gc _ _ (by simp;omega)];simp [go_sem]
  have p1:wl.cell? ⟨w.heap.size+1,3,none⟩ = some (.slice BC y.C.length dC):=by rw [gc2 _ _ hz1,gc _ _ (by simp)];simp [go_sem]
  have hkl:=bstep hk hl
  have hb:Below w.heap.size w wl:=bstep (bstep (boxed _ _) (boxed _ _)) hkl
  have rC:=((hC.step (boxed w _)).step (boxed _ _)).step hkl
  have sC:=((kC.step (boxed w _)).step (boxed _ _)).step hkl
  have hz1:w.heap.size+1 < wl.heap.size:=Nat.lt_of_lt_of_le hz1 hl.size
  have hz0:w.heap.size < wl.heap.size:=by omega
  clear gc gf hk gc2 gf2 hl hkl
  go_loopw [7] (fun i wr=>∃ k:Nat,k≤x.C.length∧i = .int .i64 k∧Hid (x.C.take k = y.C.take k)∧Below wl.heap.size wl wr) (fun i _=>x.C.length - (intOf i).toNat)
  case atStart=>exact ⟨0,Nat.zero_le _,rfl,hid rfl,Below.refl _ _⟩
  case round =>
   obtain ⟨k,hkk,rfl,HT,hbr⟩:=hrel
   have c0:=(hbr.cell hz0).trans p0
   have c1:=(hbr.cell hz1).trans p1
   by_cases hlt:k < x.C.length
   ·obtain ⟨b1,o1,rfl,hb1,hat1⟩:=rC (by omega)
    obtain ⟨b2,o2,rfl,hb2,hat2⟩:=sC (by omega)
    obtain ⟨f,hf⟩:∃ f,x.C[k]? = some f:=⟨_,List.getElem?_eq_getElem hlt⟩
    obtain ⟨g,hg⟩:∃ g,y.C[k]? = some g:=⟨_,List.getElem?_eq_getElem (by omega)⟩
    have hb1r:b1 < wr.heap.size:=Nat.lt_of_lt_of_le hb1 hbr.size
    have hb2r:b2 < wr.heap.size:=Nat.lt_of_lt_of_le hb2 hbr.size
    have U:=(hat1 k f hf).step hb1 hbr
    have T:=(hat2 k g hg).step hb2 hbr
    obtain ⟨hf1,hf2,hf3⟩:=H4.out f (List.mem_of_getElem? hf)
    have HF3:=hid hf3
    obtain ⟨⟨AF,cF,u0,rF,_⟩,u1,u2,u3,u4,u5,AR,cR,u6,rR⟩:=U
    obtain ⟨⟨BF,dF,t0',sF,_⟩,t1',t2,t3,t4,t5',BR,dR,t6,sR⟩:=T
    have HF:=hid hf
    have HG:=hid hg
    clear hat1 hat2 hf hg hf3
    have z0:w.heap.size < wr.heap.size:=Nat.lt_of_lt_of_le hz0 hbr.size
    have z1:w.heap.size+1 < wr.heap.size:=Nat.lt_of_lt_of_le hz1 hbr.size
    have kl:(k:Int) < (y.C.length:Int):=by omega
    have kl2:k < y.C.length:=by omega
    go_upto_region 8 with (fail)
    go_cut [8] from 45 to 64 (fun s wx=>s = .bool (coSame f g)∧Below wr.heap.size wr wx)
    case first =>
     have hS:∀ w',Below wr.heap.size wr w'→(Below wr.heap.size wr w'∧w'.cell? ⟨w.heap.size,3,none⟩ = some (.slice (some ⟨b1,o1,none⟩) x.C.length cC)∧w'.cell? ⟨w.heap.size+1,3,none⟩ = some (.slice (some ⟨b2,o2,none⟩) y.C.length dC)∧w'.cell? ⟨b1,o1+k * 7,none⟩ = some (.slice AF f.F.length cF)∧w'.cell? ⟨b1,o1+k * 7+1,none⟩ = some (.int .i64 f.v)∧w'.cell? ⟨b1,o1+k * 7+2,none⟩ = some (.int .i64 f.e)∧w'.cell? ⟨b1,o1+k * 7+3,none⟩ = some (.int .i64 f.x0)∧w'.cell? ⟨b1,o1+k * 7+4,none⟩ = some (.int .i64 f.x1)∧w'.cell? ⟨b1,o1+k * 7+5,none⟩ = some (.int .i64 f.x2)∧w'.cell? ⟨b1,o1+k * 7+6,none⟩ = some (.slice AR f.ret.length cR)∧w'.cell? ⟨b2,o2+k * 7,none⟩ = some (.slice BF g.F.length dF)∧w'.cell? ⟨b2,o2+k * 7+1,none⟩ = some (.int .i64 g.v)∧w'.cell? ⟨b2,o2+k * 7+2,none⟩ = some (.int .i64 g.e)∧w'.cell? ⟨b2,o2+k * 7+3,none⟩ = some (.int .i64 g.x0)∧w'.cell? ⟨b2,o2+k * 7+4,none⟩ = some (.int .i64 g.x1)∧w'.cell? ⟨b2,o2+k * 7+5,none⟩ = some (.int .i64 g.x2)∧w'.cell? ⟨b2,o2+k * 7+6,none⟩ = some (.slice BR g.ret.length dR)):=fun w' h=>⟨h,(h.cell z0).trans c0,(h.cell z1).trans c1,(h.cell hb1r).trans u0,(h.cell hb1r).trans u1,(h.cell hb1r).trans u2,(h.cell hb1r).trans u3,(h.cell hb1r).trans u4,(h.cell hb1r).trans u5,(h.cell hb1r).trans u6,(h.cell hb2r).trans t0',(h.cell hb2r).trans t1',(h.cell hb2r).trans t2,(h.cell hb2r).trans t3,(h.cell hb2r).trans t4,(h.cell hb2r).trans t5',(h.cell hb2r).trans t6⟩
     go_region_held3 (fun w'=>Below wr.heap.size wr w'∧w'.cell? ⟨w.heap.size,3,none⟩ = some (.slice (some ⟨b1,o1,none⟩) x.C.length cC)∧w'.cell? ⟨w.heap.size+1,3,none⟩ = some (.slice (some ⟨b2,o2,none⟩) y.C.length dC)∧w'.cell? ⟨b1,o1+k * 7,none⟩ = some (.slice AF f.F.length cF)∧w'.cell? ⟨b1,o1+k * 7+1,none⟩ = some (.int .i64 f.v)∧w'.cell? ⟨b1,o1+k * 7+2,none⟩ = some (.int .i64 f.e)∧w'.cell? ⟨b1,o1+k * 7+3,none⟩ = some (.int .i64 f.x0)∧w'.cell? ⟨b1,o1+k * 7+4,none⟩ = some (.int .i64 f.x1)∧w'.cell? ⟨b1,o1+k * 7+5,none⟩ = some (.int .i64 f.x2)∧w'.cell? ⟨b1,o1+k * 7+6,none⟩ = some (.slice AR f.ret.length cR)∧w'.cell? ⟨b2,o2+k * 7,none⟩ = some (.slice BF g.F.length dF)∧w'.cell? ⟨b2,o2+k * 7+1,none⟩ = some (.int .i64 g.v)∧w'.cell? ⟨b2,o2+k * 7+2,none⟩ = some (.int .i64 g.e)∧w'.cell? ⟨b2,o2+k * 7+3,none⟩ = some (.int .i64 g.x0)∧w'.cell? ⟨b2,o2+k * 7+4,none⟩ = some (.int .i64 g.x1)∧w'.cell? ⟨b2,o2+k * 7+5,none⟩ = some (.int .i64 g.x2)∧w'.cell? ⟨b2,o2+k * 7+6,none⟩ = some (.slice BR g.ret.length dR)) (first | exact hS _ ((Below.refl _ _).drew) | exact hS _ (bstep ((Below.refl _ _).drew) hk1))
      (first
       | (go_at_call 66;(with_reducible refine (rone_any _ _ _ _ _ _ _ _ f g _ (rF.step ((Below.refl _ _).drew)) (rR.step ((Below.refl _ _).drew)) (sF.step ((Below.refl _ _).drew)) (sR.step ((Below.refl _ _).drew)) hf1 hf2 HF3.out).mono ?_);rintro e wk1 ⟨rfl,hk1⟩))
     all_goals go_wp2_with fail
     all_goals go_meet
     all_goals exact ⟨rfl,bstep ((Below.refl _ _).drew) hk1⟩
    case rest =>
     obtain ⟨rfl,hk⟩:=hcut
     have hfs:=coSame_eq f g
     by_cases heq:f = g
     ·rw [decide_eq_true heq] at hfs
      have HT2:=hid (lSame_more HF.out (by rw [heq];exact HG.out) HT.out)
      clear heq
      go_wp2
      go_roundw
      case rel=>exact ⟨k+1,by omega,by go_num,HT2,bstep hbr hk⟩
      case measure=>simp [intOf];omega
     ·rw [decide_eq_false heq] at hfs
      have HNE:=hid heq
      clear heq
      go_wp2
      go_ret
      exact ⟨ret_bool (by rw [HC2.out,lSame_at HF.out HG.out HNE.out]),bstep hb (bstep hbr hk)⟩
   ·go_wp2
    go_ret
    obtain rfl:k = x.C.length:=by omega
    exact ⟨ret_bool (by rw [HC2.out,lSame_all T4.out HT.out]),bstep hb hbr⟩
 ·have q':mSame x.M y.M = false ∨ (mSame x.M y.M = true∧lSame x.L y.L = false) ∨ (mSame x.M y.M = true∧lSame x.L y.L = true∧((x.C.length:Int) != (y.C.length:Int)) = true):=by
   cases t0:mSame x.M y.M
   ·exact .inl rfl
   ·cases t1:lSame x.L y.L
    ·exact .inr (.inl ⟨rfl,rfl⟩)
    ·refine .inr (.inr ⟨rfl,rfl,?_⟩)
     have:¬ x.C.length = y.C.length:=fun h=>hall ⟨t0,t1,h⟩
     simp
     omega
  clear hall
  have fin:(mSame x.M y.M && lSame x.L y.L && lSame x.C y.C) = false→sySame x y = false:=fun h=>HC.out.trans h
  have Fin:=hid fin
  clear fin HC
  rcases q' with t0 | ⟨t0,t1⟩ | ⟨t0,t1,t2⟩
  all_goals
   go_enter Tryz.func22,Tryz.ntmps22
   go_wp2_with (first
    | (go_at_call 44;refine (rsame_any _ _ _ _ _ _ _ _ x.M y.M _ ((hW.alloc _).alloc _) ((hG.alloc _).alloc _) ((kW.alloc _).alloc _) ((kG.alloc _).alloc _) (by omega) (by omega)).mono ?_;rintro e wk ⟨rfl,hk⟩;obtain ⟨gc,gf⟩:=bcell hk;have hz1:w.heap.size+1 < wk.heap.size:=(by have:=hk.size;simp at this;omega);have hz0:w.heap.size < wk.heap.size:=(by omega))
    | (go_at_call 65;refine (revs_any _ _ _ _ x.L y.L _ (((hL.step (boxed w _)).step (boxed _ _)).step hk) (((kL.step (boxed w _)).step (boxed _ _)).step hk) (by omega)).mono ?_;rintro e wl ⟨rfl,hl⟩;obtain ⟨gc2,gf2⟩:=bcell hl))
   go_ret
   refine ⟨ret_bool (Fin.out ?_).symm,bstep (bstep (boxed _ _) (boxed _ _)) (bstep hk hl)⟩
   first
    | (rw [t0];rfl;done)
    | (rw [t1];simp;done)
    | (rw [lSame_len (a:=x.C) (b:=y.C) (by have:=t2;simp at this;omega)];simp;done)
theorem rtop_out (A B AC AL:Option Addr) (c d cC cL:Nat) (s:Sy) (i:Int) (w:World) (h2:s.C.length≤1000000) (hi:i < 0 ∨ (s.C.length:Int)≤i) :
  Calls Tryz.prog 43 #[.agg (uS A B AC AL c d cC cL s),.int .i64 i] w fun e w'=>e = .returned (.tuple #[.agg #[.int .i64 0,.int .i64 0,.int .i64 0,.int .i64 0,.int .i64 0,.int .i64 0,.int .i64 0,.int .i64 0,.int .i64 0,.int .i64 0,.slice none 0 0],.bool false])∧Below w.heap.size w w':=by
 rcases hi with hi | hi
 ·go_enter Tryz.func43,Tryz.ntmps43
  go_wp2
  refine bodyPost_ret (v:=.tuple #[.agg #[.int .i64 0,.int .i64 0,.int .i64 0,.int .i64 0,.int .i64 0,.int .i64 0,.int .i64 0,.int .i64 0,.int .i64 0,.int .i64 0,.slice none 0 0],.bool false]) (by simp [results,Tryz.results43,go_sem]) rfl ?_
  refine ⟨rfl,?_⟩
  exact bstep (boxed _ _) (boxed _ _)
 ·have hp:¬ i < 0:=by omega
  go_enter Tryz.func43,Tryz.ntmps43
  go_wp2
  refine bodyPost_ret (v:=.tuple #[.agg #[.int .i64 0,.int .i64 0,.int .i64 0,.int .i64 0,.int .i64 0,.int .i64 0,.int .i64 0,.int .i64 0,.int .i64 0,.int .i64 0,.slice none 0 0],.bool false]) (by simp [results,Tryz.results43,go_sem]) rfl ?_
  refine ⟨rfl,?_⟩
  exact bstep (boxed _ _) (boxed _ _)
theorem rtop_none (A B AC AL:Option Addr) (c d cC cL:Nat) (s:Sy) (k:Nat) (x:Co) (w:World) (hC:RowC w AC s.C) (h2:s.C.length≤1000000) (hx:s.C[k]? = some x) (hF:x.F.length = 0) :
  Calls Tryz.prog 43 #[.agg (uS A B AC AL c d cC cL s),.int .i64 k] w fun e w'=>e = .returned (.tuple #[.agg #[.int .i64 0,.int .i64 0,.int .i64 0,.int .i64 0,.int .i64 0,.int .i64 0,.int .i64 0,.int .i64 0,.int .i64 0,.int .i64 0,.slice none 0 0],.bool false])∧Below w.heap.size w w':=by
 have hlt:k < s.C.length:=(List.getElem?_eq_some_iff.1 hx).1
 obtain ⟨b,o,rfl,hbl,hat⟩:=hC (by omega)
 obtain ⟨⟨AF,cF,c0,rF,_⟩,c1,c2,c3,c4,c5,AR,cR,c6,rR⟩:=hat k x hx
 rw [hF] at c0
 have hbn:b ≠ w.heap.size:=by omega
 clear hat hx hF
 go_enter Tryz.func43,Tryz.ntmps43
 go_wp2
 refine bodyPost_ret (v:=.tuple #[.agg #[.int .i64 0,.int .i64 0,.int .i64 0,.int .i64 0,.int .i64 0,.int .i64 0,.int .i64 0,.int .i64 0,.int .i64 0,.int .i64 0,.slice none 0 0],.bool false]) (by simp [results,Tryz.results43,go_sem]) rfl ?_
 refine ⟨rfl,?_⟩
 exact bstep (boxed _ _) (boxed _ _)
theorem rtop_yes (A B AC AL:Option Addr) (c d cC cL:Nat) (s:Sy) (k n:Nat) (x:Co) (op pc r0 r1 r2 r3 r4 r5 r6 r7:Int) (xs:List Int) (w:World) (hC:RowC w AC s.C) (h2:s.C.length≤1000000) (hx:s.C[k]? = some x) (hn:x.F.length = n+1) (h3:n≤1000000) (hf:x.F[n]? = some ⟨op,pc,[r0,r1,r2,r3,r4,r5,r6,r7],xs⟩) :
  Calls Tryz.prog 43 #[.agg (uS A B AC AL c d cC cL s),.int .i64 k] w fun e w'=>∃ AS cS,e = .returned (.tuple #[.agg (uF op pc r0 r1 r2 r3 r4 r5 r6 r7 AS xs cS),.bool true])∧Row w AS xs∧Below w.heap.size w w':=by
 have hlt:k < s.C.length:=(List.getElem?_eq_some_iff.1 hx).1
 obtain ⟨b,o,rfl,hbl,hat⟩:=hC (by omega)
 obtain ⟨⟨AF,cF,c0,rF,_⟩,c1,c2,c3,c4,c5,AR,cR,c6,rR⟩:=hat k x hx
 obtain ⟨b1,o1,rfl,hb1,hat1⟩:=rF (by omega)
 obtain ⟨e1,u0,u1,ur,AS,cS,u10,rS⟩:=hat1 n _ hf
 dsimp only at u0 u1 ur u10 rS
 have u2:w.cell? ⟨b1,o1+n * 11+2,none⟩ = some (.int .i64 r0):=ur 0 (by omega)
 have u3:w.cell? ⟨b1,o1+n * 11+3,none⟩ = some (.int .i64 r1):=ur 1 (by omega)
 have u4:w.cell? ⟨b1,o1+n * 11+4,none⟩ = some (.int .i64 r2):=ur 2 (by omega)
 have u5:w.cell? ⟨b1,o1+n * 11+5,none⟩ = some (.int .i64 r3):=ur 3 (by omega)
 have u6:w.cell? ⟨b1,o1+n * 11+6,none⟩ = some (.int .i64 r4):=ur 4 (by omega)
 have u7:w.cell? ⟨b1,o1+n * 11+7,none⟩ = some (.int .i64 r5):=ur 5 (by omega)
 have u8:w.cell? ⟨b1,o1+n * 11+8,none⟩ = some (.int .i64 r6):=ur 6 (by omega)
 have u9:w.cell? ⟨b1,o1+n * 11+9,none⟩ = some (.int .i64 r7):=ur 7 (by omega)
 rw [hn] at c0
 have hbn:b ≠ w.heap.size:=by omega
 have hbn1:b1 ≠ w.heap.size:=by omega
 have hne:((n:Int)+1 == 0) = false:=by simp;omega
 clear hat hat1 hx hf ur e1 rF hn
 go_enter Tryz.func43,Tryz.ntmps43
 go_wp2
 go_region
 all_goals go_wp2
 refine bodyPost_ret (v:=.tuple #[.agg (uF op pc r0 r1 r2 r3 r4 r5 r6 r7 AS xs cS),.bool true]) (by simp [results,Tryz.results43,go_sem]) rfl ?_
 refine ⟨AS,cS,rfl,rS,?_⟩
 first
  | exact (bstep (boxed _ _) (boxed _ _)).drew
  | exact bdrewN (bstep (boxed _ _) (boxed _ _)) _
end Go.Proofs.YthpflcknommpdaaGreat
