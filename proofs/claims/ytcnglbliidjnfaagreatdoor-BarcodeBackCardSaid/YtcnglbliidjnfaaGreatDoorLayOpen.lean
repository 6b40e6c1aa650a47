import Derived.Test.YtcnglbliidjnfaaGreatDoorRgBox
import Derived.Test.YtcnglbliidjnfaaGreatDoorMem
import Derived.Test.YtcnglbliidjnfaaGreatDoorBarConst
import Derived.Test.YtcnglbliidjnfaaGreatDoorBarCoded
import Derived.Deep.Slices
import Derived.Deep.Fields
import Derived.Lib.SmallJoins
namespace Go.Proofs.YtcnglbliidjnfaaGreatDoor
set_option maxRecDepth 100000
set_option linter.unusedVariables false
open Go.ChangeShapes Go.WideShapes Go.ChangeAt Go.RowKit Go.Deep
section
variable {H:Type} {enc:TypeId × Value→H}
theorem cell_int13 {W:World} {fuel:Nat} {v:Value} {y:DataW H × List MemPlace} (h:DataW.trod enc Tryz.prog W 0 (fun _=>true) true fuel 3 [v]=some y): ∃z:Int,v= .int .i64 z∧In64 z:=by
 obtain⟨z,e1,_,wz⟩:=DataW.trod_int Tryz.underlying3 h
 simp at e1
 exact⟨z,e1,wf_i64 z wz⟩
theorem ints_of_struct {W:World} {t:TypeId} {fs:Array Field} {cs:List Value} {fuel:Nat} {y:DataW H × List MemPlace} (hs: Tryz.prog.underlying t=some (.struct fs)) (hone:oneCellFields Tryz.prog fs=true)
  (hty:fs.all (fun f:Field=>f.type== 3)=true) (hC: Tryz.prog.cellsOf t=fs.size) (h:DataW.trod enc Tryz.prog W 0 (fun _=>true) true fuel t cs=some y):
  cs.length=fs.size∧ ∀i,i<cs.length→ ∃z:Int,cs[i]?=some (.int .i64 z)∧In64 z:=by
 obtain⟨xs,n,_,_,hl,hlen,hg⟩:=DataW.trod_struct hs h
 refine⟨hl.trans hC,fun i hi=> ?_⟩
 have hif:i<fs.size:=by rw[←hC, ←hl];exact hi
 have hfi:fs[i]?=some fs[i]:=Array.getElem?_eq_getElem hif
 obtain⟨o,k⟩:=hone_of hone i _ hfi
 have ht:fs[i].type= 3 :=of_decide_eq_true (by simpa using Array.all_eq_true.1 hty i hif)
 have h1:=hg i _ hfi
 rw[ht]at k
 rw[ht,o,k]at h1
 obtain⟨y,hy⟩: ∃y,xs[i]?=some y:=⟨_,List.getElem?_eq_getElem (by omega)⟩
 have e:(cs.drop i).take 1=[cs[i]]:=by rw[List.drop_eq_getElem_cons hi];rfl
 rw[hy,e]at h1
 obtain⟨z,hz,zl⟩:=cell_int13 h1
 exact⟨z,by rw[List.getElem?_eq_getElem hi,hz],zl⟩
theorem list15 {α:Type} {l:List α} (h:l.length=15): ∃c0 c1 c2 c3 c4 c5 c6 c7 c8 c9 c10 c11 c12 c13 c14,l=[c0,c1,c2,c3,c4,c5,c6,c7,c8,c9,c10,c11,c12,c13,c14]:=by
 match l,h with
 |[c0,c1,c2,c3,c4,c5,c6,c7,c8,c9,c10,c11,c12,c13,c14],_=>exact⟨c0,c1,c2,c3,c4,c5,c6,c7,c8,c9,c10,c11,c12,c13,c14,rfl⟩
theorem open_read {W:World} {r:Reach} {b0:Nat} {v:Value} {d:DataW H} {ps:List MemPlace} (hval:Value.okWide Tryz.prog W r b0 28 v) (hd:DataW.Trod enc Tryz.prog W 0 (fun _=>true) true 28 v d ps):
  ∃q:Rg,v= .agg #[.int .i64 q.t.ser, .int .i64 q.t.kind, .int .i64 q.t.frm, .int .i64 q.t.till, .int .i64 q.t.cls, .int .i64 q.t.card, .int .i64 q.t.seat, .int .i64 q.t.day, .int .i64 q.t.days, .int .i64 q.t.uses, .int .i64 q.t.epoch, .int .i64 q.key, .int .i64 q.left, .int .i64 q.inn, .int .i64 q.ver]∧InR q:=by
 obtain⟨cs,rfl,hsz⟩:=okWide_struct Tryz.underlying28 hval
 obtain⟨fuel,hf⟩:=hd
 obtain⟨xs,n,_,_,hl,hlen,hg⟩:=DataW.trod_struct Tryz.underlying28 hf
 obtain⟨l⟩:=cs
 have hl':l.length=15:=hl
 obtain⟨c0,c1,c2,c3,c4,c5,c6,c7,c8,c9,c10,c11,c12,c13,c14,rfl⟩:=list15 hl'
 have g0:=hg 0 _ rfl
 have g1:=hg 1 _ rfl
 have g2:=hg 2 _ rfl
 have g3:=hg 3 _ rfl
 have hx:xs.length=4:=hlen
 match xs,hx with
 |[y0,y1,y2,y3],_=>
  have k0:DataW.trod enc Tryz.prog W 0 (fun _=>true) true n 24 [c0,c1,c2,c3,c4,c5,c6,c7,c8,c9,c10]=some y0:=g0
  have k1:DataW.trod enc Tryz.prog W 0 (fun _=>true) true n 3 [c11]=some y1:=g1
  have k2:DataW.trod enc Tryz.prog W 0 (fun _=>true) true n 26 [c12,c13]=some y2:=g2
  have k3:DataW.trod enc Tryz.prog W 0 (fun _=>true) true n 3 [c14]=some y3:=g3
  obtain⟨_,m0⟩:=ints_of_struct Tryz.underlying24 (by kernel_rfl) (by kernel_rfl) (by kernel_rfl) k0
  obtain⟨_,m2⟩:=ints_of_struct Tryz.underlying26 (by kernel_rfl) (by kernel_rfl) (by kernel_rfl) k2
  obtain⟨z0,e0,j0⟩:=m0 0 (by show 0<11;omega)
  obtain rfl:c0= .int .i64 z0:=Option.some.inj e0
  obtain⟨z1,e1,j1⟩:=m0 1 (by show 1<11;omega)
  obtain rfl:c1= .int .i64 z1:=Option.some.inj e1
  obtain⟨z2,e2,j2⟩:=m0 2 (by show 2<11;omega)
  obtain rfl:c2= .int .i64 z2:=Option.some.inj e2
  obtain⟨z3,e3,j3⟩:=m0 3 (by show 3<11;omega)
  obtain rfl:c3= .int .i64 z3:=Option.some.inj e3
  obtain⟨z4,e4,j4⟩:=m0 4 (by show 4<11;omega)
  obtain rfl:c4= .int .i64 z4:=Option.some.inj e4
  obtain⟨z5,e5,j5⟩:=m0 5 (by show 5<11;omega)
  obtain rfl:c5= .int .i64 z5:=Option.some.inj e5
  obtain⟨z6,e6,j6⟩:=m0 6 (by show 6<11;omega)
  obtain rfl:c6= .int .i64 z6:=Option.some.inj e6
  obtain⟨z7,e7,j7⟩:=m0 7 (by show 7<11;omega)
  obtain rfl:c7= .int .i64 z7:=Option.some.inj e7
  obtain⟨z8,e8,j8⟩:=m0 8 (by show 8<11;omega)
  obtain rfl:c8= .int .i64 z8:=Option.some.inj e8
  obtain⟨z9,e9,j9⟩:=m0 9 (by show 9<11;omega)
  obtain rfl:c9= .int .i64 z9:=Option.some.inj e9
  obtain⟨z10,e10,j10⟩:=m0 10 (by show 10<11;omega)
  obtain rfl:c10= .int .i64 z10:=Option.some.inj e10
  obtain⟨z11,e11,j11⟩:=cell_int13 k1
  subst e11
  obtain⟨z12,e12,j12⟩:=m2 0 (by show 0<2;omega)
  obtain rfl:c12= .int .i64 z12:=Option.some.inj e12
  obtain⟨z13,e13,j13⟩:=m2 1 (by show 1<2;omega)
  obtain rfl:c13= .int .i64 z13:=Option.some.inj e13
  obtain⟨z14,e14,j14⟩:=cell_int13 k3
  subst e14
  refine⟨⟨⟨z0,z1,z2,z3,z4,z5,z6,z7,z8,z9,z10⟩,z11,z12,z13,z14⟩,rfl, ?_⟩
  intro x hx
  unfold rgL at hx
  simp only[List.mem_cons,List.not_mem_nil,or_false]at hx
  rcases hx with rfl|rfl|rfl|rfl|rfl|rfl|rfl|rfl|rfl|rfl|rfl|rfl|rfl|rfl|rfl<;>assumption
end
end Go.Proofs.YtcnglbliidjnfaaGreatDoor
