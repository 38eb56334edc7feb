/- Arguments that hold arenas, opened. -/
import Derived.Test.YthpflcknommpdaaGreatKBas
import Derived.Test.YthpflcknommpdaaGreatChecked
import Derived.OpenShut
import Derived.ChangeSlices
import Derived.Deep.Fields
import Derived.Deep.Slices
import Derived.Test.YthpflcknommpdaaGreatKCoB
import Derived.Test.YthpflcknommpdaaGreatKUni
import Derived.Test.YthpflcknommpdaaGreatKHzA
namespace Go.Proofs.YthpflcknommpdaaGreat
set_option maxRecDepth 100000
open Go.RowKit Go.ChangeShapes Go.WideShapes Go.Deep
section
variable {H:Type} {enc:TypeId × Value→H} {w:World} {base:Nat} {spare:Nat→Bool} {held:Bool}
theorem open_cap {fuel:Nat} {cs:List Value} {y:DataW H × List MemPlace} (h:DataW.trod enc Tryz.prog w base spare held fuel 22 cs = some y) (A:Option Addr) (n c:Nat) (e:cs = [.slice A n c]):n≤c:=by
 rcases open_ints Tryz.underlying22 Tryz.underlying3 (by kernel_rfl) h with ⟨rfl,_⟩ | ⟨a,len,cap,zs,rfl,_,hl,hm,hz,_,hc,_⟩
 ·injection e with e;injection e with _ e1 e2;omega
 ·injection e with e;injection e with _ e1 e2;omega
theorem open_row {fuel:Nat} {cs:List Value} {y:DataW H × List MemPlace} (h:DataW.trod enc Tryz.prog w base spare held fuel 22 cs = some y) :
  ∃ (A:Option Addr) (xs:List Int) (c:Nat),cs = [.slice A xs.length c]∧Row w A xs∧xs.length≤maxLen:=by
 rcases open_ints Tryz.underlying22 Tryz.underlying3 (by kernel_rfl) h with ⟨rfl,_⟩ | ⟨a,len,cap,zs,rfl,_,hl,hm,hz,_,hc,_⟩
 ·exact ⟨none,[],0,rfl,Row.nil _ _,by simp⟩
 ·have hlz:len≤zs.length:=by rw [hz];split <;> omega
  have e:(zs.take len).length = len:=by simp;omega
  refine ⟨some a,zs.take len,cap,by rw [e],fun hn=>?_,by rw [e];omega⟩
  rw [e] at hn
  obtain ⟨b,o,s⟩:=a
  have h0:=hc 0 (by omega)
  have hs:s = none:=by simpa [Addr.add] using World.cell?_spot h0
  subst hs
  refine ⟨b,o,rfl,World.block_lt_of_cell? w _ h0,fun j x hx=>?_⟩
  have hj:j < len:=by have:=(List.getElem?_eq_some_iff.1 hx).1;omega
  have hcj:=hc j (by omega)
  rw [Addr.add_lit] at hcj
  rw [hcj,List.getD_eq_getElem?_getD]
  rw [List.getElem?_take_of_lt hj] at hx
  rw [hx]
  rfl
end
end Go.Proofs.YthpflcknommpdaaGreat
namespace Go.Proofs.YthpflcknommpdaaGreat
set_option maxRecDepth 100000
open Go.RowKit Go.ChangeShapes Go.WideShapes Go.Deep
section
variable {H:Type} {enc:TypeId × Value→H} {w:World} {base:Nat} {spare:Nat→Bool} {held:Bool}
theorem open_rows {α:Type} {T E:TypeId} {k fuel:Nat} {cs:List Value} {y:DataW H × List MemPlace} (hT:Tryz.prog.underlying T = some (.slice E)) (hk:Tryz.prog.cellsOf E = k) (hk0:0 < k) (Pp:List Value→α→Prop)
  (hp:∀ (n:Nat) (es:List Value) (z:DataW H × List MemPlace),es.length = k→DataW.trod enc Tryz.prog w base spare held n E es = some z→∃ x,Pp es x) (h:DataW.trod enc Tryz.prog w base spare held fuel T cs = some y) :
  ∃ (A:Option Addr) (c:Nat) (xs:List α),cs = [.slice A xs.length c]∧xs.length≤c∧xs.length≤maxLen∧(0 < xs.length→∃ b o,A = some ⟨b,o,none⟩∧b < w.heap.size∧∀ j x,xs[j]? = some x→∃ es,Cs w b (o+j * k) es∧Pp es x):=by
 rcases open_slice hT h with ⟨rfl,_⟩ | ⟨a,len,cap,m,n,D,Pl,rfl,_,hl,hm,hmm,_,hi⟩
 ·exact ⟨none,0,[],rfl,Nat.le_refl _,by simp,fun h=>absurd h (by simp)⟩
 ·have hlm:len≤m:=by rw [hmm];split <;> omega
  obtain ⟨b,o,s⟩:=a
  obtain ⟨xs,hxl,hxs⟩:=list_of (n:=len) (p:=fun j x=>∃ es,es.length = k∧(∀ r v,es[r]? = some v→w.cell? ((⟨b,o,s⟩:Addr).add (j * k+r)) = some v)∧Pp es x) (fun j hj=>by
   obtain ⟨es,hc,ht⟩:=hi j (by omega)
   rw [hk] at hc
   obtain ⟨_,hel,hat⟩:=World.cells?_some hc
   obtain ⟨x,hx⟩:=hp n es _ hel ht
   refine ⟨x,es,hel,fun r v hv=>?_,hx⟩
   have hr:r < k:=by have:=(List.getElem?_eq_some_iff.1 hv).1;omega
   have h1:=hat r hr
   rw [Go.Deep.add_add] at h1
   rw [h1,hv])
  refine ⟨some ⟨b,o,s⟩,cap,xs,by rw [hxl],by omega,by omega,fun hpos=>?_⟩
  obtain ⟨es,hel,hat,_⟩:=hxs 0 _ (List.getElem?_eq_getElem hpos)
  have h0:=hat 0 _ (List.getElem?_eq_getElem (by omega))
  have hs:s = none:=by simpa [Addr.add] using World.cell?_spot h0
  subst hs
  refine ⟨b,o,rfl,by rw [Addr.add_lit] at h0;exact World.block_lt_of_cell? w _ h0,fun j x hx=>?_⟩
  obtain ⟨es,_,hat,hP⟩:=hxs j x hx
  refine ⟨es,fun r v hv=>?_,hP⟩
  have:=hat r v hv
  rw [Addr.add_lit] at this
  rw [show o+j * k+r = o+(j * k+r) by omega]
  exact this
theorem open_int {T:TypeId} {k:IntKind} {fuel:Nat} {cs:List Value} {y:DataW H × List MemPlace} (hT:Tryz.prog.underlying T = some (.int k)) (h:DataW.trod enc Tryz.prog w base spare held fuel T cs = some y):∃ n,cs = [.int k n]:=by
 obtain ⟨n,e,_,_⟩:=DataW.trod_int hT h
 exact ⟨n,e⟩
theorem open_ev {fuel:Nat} {cs:List Value} {y:DataW H × List MemPlace} (h:DataW.trod enc Tryz.prog w base spare held fuel 87 cs = some y):∃ e:Evt,cs = evCells e:=by
 obtain ⟨xs,n,_,_,hlen,hxl,hf⟩:=DataW.trod_struct Tryz.underlying87 h
 have k1:Tryz.prog.cellsOf 87 = 5:=by kernel_rfl
 have k3:Tryz.prog.cellsOf 3 = 1:=by kernel_rfl
 rw [k1] at hlen
 match cs,hlen with
 | [c0,c1,c2,c3,c4],_ =>
  match xs,hxl with
  | [y0,y1,y2,y3,y4],_ =>
   have f0:=hf 0 _ rfl
   have f1:=hf 1 _ rfl
   have f2:=hf 2 _ rfl
   have f3:=hf 3 _ rfl
   have f4:=hf 4 _ rfl
   simp [k3] at f0 f1 f2 f3 f4
   obtain ⟨a0,e0⟩:=open_int Tryz.underlying3 f0
   obtain ⟨a1,e1⟩:=open_int Tryz.underlying3 f1
   obtain ⟨a2,e2⟩:=open_int Tryz.underlying3 f2
   obtain ⟨a3,e3⟩:=open_int Tryz.underlying3 f3
   obtain ⟨a4,e4⟩:=open_int Tryz.underlying3 f4
   simp only [List.cons.injEq,and_true] at e0 e1 e2 e3 e4
   subst e0 e1 e2 e3 e4
   exact ⟨⟨a0,a1,a2,a3,a4⟩,rfl⟩
theorem open_rowE {fuel:Nat} {cs:List Value} {y:DataW H × List MemPlace} (h:DataW.trod enc Tryz.prog w base spare held fuel 26 cs = some y) :
  ∃ (A:Option Addr) (c:Nat) (es:List Evt),cs = [.slice A es.length c]∧es.length≤maxLen∧RowE w A es:=by
 obtain ⟨A,c,xs,e,_,h2,h3⟩:=open_rows (α:=Evt) Tryz.underlying26 (by kernel_rfl:Tryz.prog.cellsOf 87 = 5) (by omega) (fun es x=>es = evCells x) (fun n es z _ hz=>open_ev hz) h
 refine ⟨A,c,xs,e,h2,fun hp=>?_⟩
 obtain ⟨b,o,e1,hl,hc⟩:=h3 hp
 refine ⟨b,o,e1,hl,fun j x hx=>?_⟩
 obtain ⟨es,hcs,rfl⟩:=hc j x hx
 exact EvAt.mk hcs
end
end Go.Proofs.YthpflcknommpdaaGreat
namespace Go.Proofs.YthpflcknommpdaaGreat
set_option maxRecDepth 100000
set_option linter.unusedSimpArgs false
open Go.RowKit Go.ChangeShapes Go.WideShapes Go.Deep
section
variable {H:Type} {enc:TypeId × Value→H} {w:World} {base:Nat} {spare:Nat→Bool} {held:Bool}
theorem bounds_i64 {n:Int} (h:(Lit.int .i64 n).wf = true):-9223372036854775808≤n∧n≤9223372036854775807:=by
 simp [Lit.wf,IntKind.min,IntKind.max,IntKind.signed,IntKind.bits] at h
 omega
theorem open_rowW {fuel:Nat} {cs:List Value} {y:DataW H × List MemPlace} (h:DataW.trod enc Tryz.prog w base spare held fuel 22 cs = some y) :
  ∃ (A:Option Addr) (xs:List Int) (c:Nat),cs = [.slice A xs.length c]∧Row w A xs∧xs.length≤maxLen∧(∀ x ∈ xs,-9223372036854775808≤x∧x≤9223372036854775807):=by
 rcases open_ints Tryz.underlying22 Tryz.underlying3 (by kernel_rfl) h with ⟨rfl,_⟩ | ⟨a,len,cap,zs,rfl,_,hl,hm,hz,_,hc,hwf⟩
 ·exact ⟨none,[],0,rfl,Row.nil _ _,by simp,by simp⟩
 ·have hlz:len≤zs.length:=by rw [hz];split <;> omega
  have e:(zs.take len).length = len:=by simp;omega
  refine ⟨some a,zs.take len,cap,by rw [e],fun hn=>?_,by rw [e];omega,fun x hx=>bounds_i64 (hwf x (List.mem_of_mem_take hx))⟩
  rw [e] at hn
  obtain ⟨b,o,s⟩:=a
  have h0:=hc 0 (by omega)
  have hs:s = none:=by simpa [Addr.add] using World.cell?_spot h0
  subst hs
  refine ⟨b,o,rfl,World.block_lt_of_cell? w _ h0,fun j x hx=>?_⟩
  have hj:j < len:=by have:=(List.getElem?_eq_some_iff.1 hx).1;omega
  have hcj:=hc j (by omega)
  rw [Addr.add_lit] at hcj
  rw [hcj,List.getD_eq_getElem?_getD]
  rw [List.getElem?_take_of_lt hj] at hx
  rw [hx]
  rfl
theorem open_memW {fuel:Nat} {cs:List Value} {y:DataW H × List MemPlace} (h:DataW.trod enc Tryz.prog w base spare held fuel 24 cs = some y) :
  ∃ (A A':Option Addr) (c c':Nat) (m:Ar),cs = [.slice A m.W.length c,.slice A' m.G.length c',.bool m.bad]∧Row w A m.W∧Row w A' m.G∧m.W.length≤maxLen∧m.G.length≤maxLen∧(∀ x ∈ m.W,-9223372036854775808≤x∧x≤9223372036854775807):=by
 obtain ⟨xs,n,_,_,hlen,hxl,hf⟩:=DataW.trod_struct Tryz.underlying24 h
 have k1:Tryz.prog.cellsOf 24 = 3:=by kernel_rfl
 have k2:Tryz.prog.cellsOf 22 = 1:=by kernel_rfl
 have k3:Tryz.prog.cellsOf 4 = 1:=by kernel_rfl
 rw [k1] at hlen
 match cs,hlen with
 | [c0,c1,c2],_ =>
  match xs,hxl with
  | [y0,y1,y2],_ =>
   have f0:=hf 0 _ rfl
   have f1:=hf 1 _ rfl
   have f2:=hf 2 _ rfl
   simp [k2,k3] at f0 f1 f2
   obtain ⟨A,xs,c,e0,r0,l0,n0⟩:=open_rowW f0
   obtain ⟨A',ys,c',e1,r1,l1⟩:=open_row f1
   obtain ⟨b,e2,_⟩:=DataW.trod_bool Tryz.underlying4 f2
   simp only [List.cons.injEq,and_true] at e0 e1 e2
   subst e0 e1 e2
   exact ⟨A,A',c,c',⟨xs,ys,b⟩,rfl,r0,r1,l0,l1,n0⟩
end
end Go.Proofs.YthpflcknommpdaaGreat
namespace Go.Proofs.YthpflcknommpdaaGreat
set_option maxRecDepth 100000
set_option linter.unusedSimpArgs false
open Go.RowKit Go.ChangeShapes Go.WideShapes Go.Deep
section
variable {H:Type} {enc:TypeId × Value→H} {w:World} {base:Nat} {spare:Nat→Bool} {held:Bool}
end
open Go.RowKit
set_option linter.unusedVariables false
set_option linter.unusedSimpArgs false
end Go.Proofs.YthpflcknommpdaaGreat
namespace Go.Proofs.YthpflcknommpdaaGreat
set_option maxRecDepth 100000
set_option linter.unusedSimpArgs false
open Go.RowKit Go.ChangeShapes Go.WideShapes Go.Deep
def FrW (f:Fr):Prop:=W64 f.op∧W64 f.pc∧(∀ r ∈ f.R,W64 r)∧∀ r ∈ f.S,W64 r
def CoW (x:Co):Prop:=(∀ f ∈ x.F,FrW f)∧W64 x.v∧W64 x.e∧W64 x.x0∧W64 x.x1∧W64 x.x2∧∀ r ∈ x.ret,W64 r
def SyW (s:Sy):Prop:=(∀ x ∈ s.M.W,W64 x)∧∀ x ∈ s.C,CoW x
section
variable {H:Type} {enc:TypeId × Value→H} {w:World} {base:Nat} {spare:Nat→Bool} {held:Bool}
theorem open_intB {T:TypeId} {fuel:Nat} {cs:List Value} {y:DataW H × List MemPlace} (hT:Tryz.prog.underlying T = some (.int .i64)) (h:DataW.trod enc Tryz.prog w base spare held fuel T cs = some y):∃ n,cs = [.int .i64 n]∧W64 n:=by
 obtain ⟨n,e,_,u⟩:=DataW.trod_int hT h
 exact ⟨n,e,bounds_i64 u⟩
theorem open_frame8 {fuel:Nat} {cs:List Value} {y:DataW H × List MemPlace} (h:DataW.trod enc Tryz.prog w base spare held fuel 69 cs = some y) :
  ∃ (f:Fr) (p:Option Addr × Nat),cs = frCells f p∧f.R.length = 8∧Row w p.1 f.S∧f.S.length≤maxLen∧FrW f:=by
 obtain ⟨xs,n,_,_,hlen,hxl,hf⟩:=DataW.trod_struct Tryz.underlying69 h
 have k1:Tryz.prog.cellsOf 69 = 11:=by kernel_rfl
 have k2:Tryz.prog.cellsOf 22 = 1:=by kernel_rfl
 have k3:Tryz.prog.cellsOf 3 = 1:=by kernel_rfl
 have k4:Tryz.prog.cellsOf 67 = 8:=by kernel_rfl
 rw [k1] at hlen
 match cs,hlen with
 | [c0,c1,c2,c3,c4,c5,c6,c7,c8,c9,c10],_ =>
  match xs,hxl with
  | [y0,y1,y2,y3],_ =>
   have f0:=hf 0 _ rfl
   have f1:=hf 1 _ rfl
   have f2:=hf 2 _ rfl
   have f3:=hf 3 _ rfl
   simp [k2,k3,k4] at f0 f1 f2 f3
   obtain ⟨a0,e0,ue0⟩:=open_intB Tryz.underlying3 f0
   obtain ⟨a1,e1,ue1⟩:=open_intB Tryz.underlying3 f1
   obtain ⟨A,zs,c,e3,r3,l3,n3⟩:=open_rowW f3
   obtain ⟨ys,m,_,_,_,hyl,hall⟩:=DataW.trod_array Tryz.underlying67 f2
   have g:∀ i,i < 8→∃ z,ys[i]? = some z:=fun i hi=>⟨_,List.getElem?_eq_getElem (by omega)⟩
   obtain ⟨z0,h0⟩:=g 0 (by omega);obtain ⟨z1,h1⟩:=g 1 (by omega);obtain ⟨z2,h2⟩:=g 2 (by omega);obtain ⟨z3,h3⟩:=g 3 (by omega)
   obtain ⟨z4,h4⟩:=g 4 (by omega);obtain ⟨z5,h5⟩:=g 5 (by omega);obtain ⟨z6,h6⟩:=g 6 (by omega);obtain ⟨z7,h7⟩:=g 7 (by omega)
   have q0:=(hall 0 (by omega)).trans h0;have q1:=(hall 1 (by omega)).trans h1;have q2:=(hall 2 (by omega)).trans h2;have q3:=(hall 3 (by omega)).trans h3
   have q4:=(hall 4 (by omega)).trans h4;have q5:=(hall 5 (by omega)).trans h5;have q6:=(hall 6 (by omega)).trans h6;have q7:=(hall 7 (by omega)).trans h7
   simp [k3] at q0 q1 q2 q3 q4 q5 q6 q7
   obtain ⟨r0,t0,ut0⟩:=open_intB Tryz.underlying3 q0
   obtain ⟨r1,t1,ut1⟩:=open_intB Tryz.underlying3 q1
   obtain ⟨r2,t2,ut2⟩:=open_intB Tryz.underlying3 q2
   obtain ⟨r3',t3,ut3⟩:=open_intB Tryz.underlying3 q3
   obtain ⟨r4,t4,ut4⟩:=open_intB Tryz.underlying3 q4
   obtain ⟨r5,t5,ut5⟩:=open_intB Tryz.underlying3 q5
   obtain ⟨r6,t6,ut6⟩:=open_intB Tryz.underlying3 q6
   obtain ⟨r7,t7,ut7⟩:=open_intB Tryz.underlying3 q7
   simp only [List.cons.injEq,and_true] at e0 e1 e3 t0 t1 t2 t3 t4 t5 t6 t7
   subst e0 e1 e3 t0 t1 t2 t3 t4 t5 t6 t7
   exact ⟨⟨a0,a1,[r0,r1,r2,r3',r4,r5,r6,r7],zs⟩,(A,c),rfl,rfl,r3,l3,ue0,ue1,(by intro r hr;simp only [List.mem_cons,List.not_mem_nil,or_false] at hr;rcases hr with rfl | rfl | rfl | rfl | rfl | rfl | rfl | rfl <;> assumption),n3⟩
theorem open_rowF8 {fuel:Nat} {cs:List Value} {y:DataW H × List MemPlace} (h:DataW.trod enc Tryz.prog w base spare held fuel 53 cs = some y) :
  ∃ (A:Option Addr) (c:Nat) (fs:List Fr),cs = [.slice A fs.length c]∧fs.length≤c∧fs.length≤maxLen∧RowF w A fs∧∀ f ∈ fs,FrW f:=by
 obtain ⟨A,c,fs,e,h1,h2,h3⟩:=open_rows (α:=Fr) Tryz.underlying53 (by kernel_rfl:Tryz.prog.cellsOf 69 = 11) (by omega) (fun es f=>∃ p,es = frCells f p∧f.R.length = 8∧Row w p.1 f.S∧FrW f) (fun n es z _ hz=>by
  obtain ⟨f,p,e1,e2,e3,_,e4⟩:=open_frame8 hz
  exact ⟨f,p,e1,e2,e3,e4⟩) h
 refine ⟨A,c,fs,e,h1,h2,fun hp=>?_,fun f hf=>?_⟩
 rotate_left
 ·obtain ⟨j,hj⟩:=List.mem_iff_getElem?.1 hf
  obtain ⟨b,o,_,_,hc⟩:=h3 (by have:=(List.getElem?_eq_some_iff.1 hj).1;omega)
  obtain ⟨es,_,p,_,_,_,hw⟩:=hc j f hj
  exact hw
 obtain ⟨b,o,e1,hl,hc⟩:=h3 hp
 refine ⟨b,o,e1,hl,fun j f hf=>?_⟩
 obtain ⟨es,hcs,p,rfl,h8,hr,_⟩:=hc j f hf
 exact FrAt.mk h8 hcs hr
theorem open_core8 {fuel:Nat} {cs:List Value} {y:DataW H × List MemPlace} (h:DataW.trod enc Tryz.prog w base spare held fuel 56 cs = some y) :
  ∃ (x:Co) (q:Pq),cs = coC x q∧RowF w q.AF x.F∧Row w q.AR x.ret∧(x.F.length≤q.cF∧x.ret.length≤q.cR)∧CoW x:=by
 obtain ⟨xs,n,_,_,hlen,hxl,hf⟩:=DataW.trod_struct Tryz.underlying56 h
 have k1:Tryz.prog.cellsOf 56 = 7:=by kernel_rfl
 have k2:Tryz.prog.cellsOf 22 = 1:=by kernel_rfl
 have k3:Tryz.prog.cellsOf 3 = 1:=by kernel_rfl
 have k4:Tryz.prog.cellsOf 54 = 3:=by kernel_rfl
 have k5:Tryz.prog.cellsOf 53 = 1:=by kernel_rfl
 have k6:Tryz.prog.cellsOf 44 = 1:=by kernel_rfl
 rw [k1] at hlen
 match cs,hlen with
 | [c0,c1,c2,c3,c4,c5,c6],_ =>
  match xs,hxl with
  | [y0,y1,y2,y3,y4],_ =>
   have f0:=hf 0 _ rfl
   have f1:=hf 1 _ rfl
   have f2:=hf 2 _ rfl
   have f3:=hf 3 _ rfl
   have f4:=hf 4 _ rfl
   simp [k2,k3,k4,k5,k6] at f0 f1 f2 f3 f4
   obtain ⟨AF,cF,fs,e0,h1,_,rF,nF⟩:=open_rowF8 f0
   obtain ⟨a1,e1,ue1⟩:=open_intB Tryz.underlying3 f1
   obtain ⟨a2,e2,ue2⟩:=open_intB Tryz.underlying44 f2
   obtain ⟨AR,zs,cR,e4,r4,_,n4⟩:=open_rowW f4
   have hcR:=open_cap f4 _ _ _ e4
   obtain ⟨ys,m,_,_,_,hyl,hall⟩:=DataW.trod_array Tryz.underlying54 f3
   have g:∀ i,i < 3→∃ z,ys[i]? = some z:=fun i hi=>⟨_,List.getElem?_eq_getElem (by omega)⟩
   obtain ⟨z0,h0⟩:=g 0 (by omega);obtain ⟨z1,h1'⟩:=g 1 (by omega);obtain ⟨z2,h2⟩:=g 2 (by omega)
   have q0:=(hall 0 (by omega)).trans h0;have q1:=(hall 1 (by omega)).trans h1';have q2:=(hall 2 (by omega)).trans h2
   simp [k3] at q0 q1 q2
   obtain ⟨r0,t0,ut0⟩:=open_intB Tryz.underlying3 q0
   obtain ⟨r1,t1,ut1⟩:=open_intB Tryz.underlying3 q1
   obtain ⟨r2,t2,ut2⟩:=open_intB Tryz.underlying3 q2
   simp only [List.cons.injEq,and_true] at e0 e1 e2 e4 t0 t1 t2
   subst e0 e1 e2 e4 t0 t1 t2
   exact ⟨⟨fs,a1,a2,r0,r1,r2,zs⟩,⟨AF,cF,AR,cR⟩,rfl,rF,r4,⟨h1,hcR⟩,nF,ue1,ue2,ut0,ut1,ut2,n4⟩
theorem open_rowC8 {fuel:Nat} {cs:List Value} {y:DataW H × List MemPlace} (h:DataW.trod enc Tryz.prog w base spare held fuel 25 cs = some y) :
  ∃ (A:Option Addr) (c:Nat) (xs:List Co),cs = [.slice A xs.length c]∧xs.length≤maxLen∧RowC w A xs∧∀ x ∈ xs,CoW x:=by
 obtain ⟨A,c,xs,e,_,h2,h3⟩:=open_rows (α:=Co) Tryz.underlying25 (by kernel_rfl:Tryz.prog.cellsOf 56 = 7) (by omega) (fun es x=>∃ q:Pq,es = coC x q∧RowF w q.AF x.F∧Row w q.AR x.ret∧(x.F.length≤q.cF∧x.ret.length≤q.cR)∧CoW x) (fun n es z _ hz=>open_core8 hz) h
 refine ⟨A,c,xs,e,h2,fun hp=>?_,fun x hx=>?_⟩
 rotate_left
 ·obtain ⟨j,hj⟩:=List.mem_iff_getElem?.1 hx
  obtain ⟨b,o,_,_,hc⟩:=h3 (by have:=(List.getElem?_eq_some_iff.1 hj).1;omega)
  obtain ⟨es,_,q,_,_,_,_,hw⟩:=hc j x hj
  exact hw
 obtain ⟨b,o,e1,hl,hc⟩:=h3 hp
 refine ⟨b,o,e1,hl,fun j x hx=>?_⟩
 obtain ⟨es,hcs,q,rfl,r1,r2,r3,_⟩:=hc j x hx
 exact CoAt.mk hcs r1 r2 r3
theorem open_sys8 {fuel:Nat} {cs:List Value} {y:DataW H × List MemPlace} (h:DataW.trod enc Tryz.prog w base spare held fuel 28 cs = some y) :
  ∃ (A B C L:Option Addr) (a b c d:Nat) (s:Sy),cs = [.slice A s.M.W.length a,.slice B s.M.G.length b,.bool s.M.bad,.slice C s.C.length c,.slice L s.L.length d]∧Row w A s.M.W∧Row w B s.M.G∧RowC w C s.C∧RowE w L s.L ∧
   s.M.W.length≤maxLen∧s.M.G.length≤maxLen∧s.C.length≤maxLen∧s.L.length≤maxLen∧SyW s:=by
 obtain ⟨xs,n,_,_,hlen,hxl,hf⟩:=DataW.trod_struct Tryz.underlying28 h
 have k1:Tryz.prog.cellsOf 28 = 5:=by kernel_rfl
 have k2:Tryz.prog.cellsOf 24 = 3:=by kernel_rfl
 have k3:Tryz.prog.cellsOf 25 = 1:=by kernel_rfl
 have k4:Tryz.prog.cellsOf 26 = 1:=by kernel_rfl
 rw [k1] at hlen
 match cs,hlen with
 | [c0,c1,c2,c3,c4],_ =>
  match xs,hxl with
  | [y0,y1,y2],_ =>
   have f0:=hf 0 _ rfl
   have f1:=hf 1 _ rfl
   have f2:=hf 2 _ rfl
   simp [k2,k3,k4] at f0 f1 f2
   obtain ⟨A,B,a,b,m,e0,r1,r2,l1,l2,n1⟩:=open_memW f0
   obtain ⟨C,c,cs',e1,l3,r3,n3⟩:=open_rowC8 f1
   obtain ⟨L,d,es',e2,l4,r4⟩:=open_rowE f2
   simp only [List.cons.injEq,and_true] at e0 e1 e2
   obtain ⟨e00,e01,e02⟩:=e0
   subst e00 e01 e02 e1 e2
   exact ⟨A,B,C,L,a,b,c,d,⟨m,cs',es'⟩,rfl,r1,r2,r3,r4,l1,l2,l3,l4,n1,n3⟩
theorem open_system8 {r:Reach} {b0:Nat} {v:Value} {d:DataW H} {p:List MemPlace} (hv:Value.okWide Tryz.prog w r b0 28 v) (h:DataW.Trod enc Tryz.prog w base spare held 28 v d p) :
  ∃ (A B C L:Option Addr) (a b c d:Nat) (s:Sy),v = .agg (uS A B C L a b c d s)∧Row w A s.M.W∧Row w B s.M.G∧RowC w C s.C∧RowE w L s.L ∧
   s.M.W.length≤maxLen∧s.M.G.length≤maxLen∧s.C.length≤maxLen∧s.L.length≤maxLen∧SyW s:=by
 obtain ⟨cs,rfl,_⟩:=okWide_struct Tryz.underlying28 hv
 obtain ⟨fuel,hf⟩:=h
 obtain ⟨A,B,C,L,a,b,c,d,s,e,rest⟩:=open_sys8 hf
 refine ⟨A,B,C,L,a,b,c,d,s,?_,rest⟩
 have:cs = (uS A B C L a b c d s):=by
  apply Array.toList_inj.1
  simpa [Value.cells] using e
 rw [this]
end
end Go.Proofs.YthpflcknommpdaaGreat
