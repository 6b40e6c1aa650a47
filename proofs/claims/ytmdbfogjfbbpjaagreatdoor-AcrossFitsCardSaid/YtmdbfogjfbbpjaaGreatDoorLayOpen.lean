import Derived.Test.YtmdbfogjfbbpjaaGreatDoorLayPFields
import Derived.Test.YtmdbfogjfbbpjaaGreatDoorMem
import Derived.Test.YtmdbfogjfbbpjaaGreatDoorEqualBytes
import Derived.Deep.Slices
import Derived.Deep.Fields
import Derived.Lib.SmallJoins
set_option linter.unusedVariables false
namespace Go.Proofs.YtmdbfogjfbbpjaaGreatDoor
set_option maxRecDepth 100000
open Go.ChangeShapes Go.WideShapes Go.ChangeAt Go.RowKit Go.Deep
section
variable {H:Type} {enc:TypeId × Value→H}
theorem qR {W:World} {fuel:Nat} {v:Value} {y:DataW H × List MemPlace} (h:DataW.trod enc Tryz.prog W 0 (fun _=>true) true fuel 3 [v]=some y): ∃z:Int,v= .int .i64 z∧Cl z:=by
 obtain⟨z,e1,_,wz⟩:=DataW.trod_int Tryz.underlying3 h
 simp at e1
 exact⟨z,e1,Lm z wz⟩
theorem Yk {W:World} {t:TypeId} {fs:Array Field} {cs:List Value} {fuel:Nat} {y:DataW H × List MemPlace} (hs: Tryz.prog.underlying t=some (.struct fs)) (hone:oneCellFields Tryz.prog fs=true)
  (hty:fs.all (fun f:Field=>f.type== 3)=true) (hC: Tryz.prog.cellsOf t=fs.size) (h:DataW.trod enc Tryz.prog W 0 (fun _=>true) true fuel t cs=some y):
  cs.length=fs.size∧ ∀i,i<cs.length→ ∃z:Int,cs[i]?=some (.int .i64 z)∧Cl z:=by
 obtain⟨xs,n,_,_,hl,hlen,hg⟩:=DataW.trod_struct hs h
 refine⟨hl.trans hC,fun i hi=> ?_⟩
 have hif:i<fs.size:=by rw[←hC, ←hl];exact hi
 have hfi:fs[i]?=some fs[i]:=Array.getElem?_eq_getElem hif
 obtain⟨o,k⟩:=hone_of hone i _ hfi
 have ht:fs[i].type= 3 :=of_decide_eq_true (by simpa using Array.all_eq_true.1 hty i hif)
 have h1:=hg i _ hfi
 rw[ht]at k
 rw[ht,o,k]at h1
 obtain⟨y,hy⟩: ∃y,xs[i]?=some y:=⟨_,List.getElem?_eq_getElem (by omega)⟩
 have e:(cs.drop i).take 1=[cs[i]]:=by rw[List.drop_eq_getElem_cons hi];rfl
 rw[hy,e]at h1
 obtain⟨z,hz,zl⟩:=qR h1
 exact⟨z,by rw[List.getElem?_eq_getElem hi,hz],zl⟩
theorem Md {W:World} {r:Reach} {b0:Nat} {v:Value} {d:DataW H} {ps:List MemPlace} (hval:Value.okWide Tryz.prog W r b0 26 v) (hd:DataW.Trod enc Tryz.prog W 0 (fun _=>true) true 26 v d ps):
  ∃a b:Int,v= .agg #[.int .i64 a, .int .i64 b]∧Cl a∧Cl b:=by
 obtain⟨cs,rfl,hsz⟩:=okWide_struct Tryz.underlying26 hval
 obtain⟨fuel,hf⟩:=hd
 obtain⟨h1,h2⟩:=Yk Tryz.underlying26 (by kernel_rfl) (by kernel_rfl) (by kernel_rfl) hf
 obtain⟨l⟩:=cs
 have h1':l.length=2:=h1
 match l,h1' with
 |[c0,c1],_=>
  obtain⟨z0,e0,j0⟩:=h2 0 (by show 0<2;omega)
  obtain⟨z1,e1,j1⟩:=h2 1 (by show 1<2;omega)
  obtain rfl:c0= .int .i64 z0:=Option.some.inj e0
  obtain rfl:c1= .int .i64 z1:=Option.some.inj e1
  exact⟨z0,z1,rfl,j0,j1⟩
end
end Go.Proofs.YtmdbfogjfbbpjaaGreatDoor
