/-
  Proved: whatever comes in, the law BarcodeBack answers true, and leaves what came in as it was; sha's two tables are tied to the program's text. Conditions: none beyond the statement's own.
-/
import Derived.Test.YtcnglbliidjnfaaGreatDoorBarcodeBackLaw
import Derived.Test.YtcnglbliidjnfaaGreatDoorOpenCells
import Derived.Test.YtcnglbliidjnfaaGreatDoorLayOpen
import Derived.Test.YtcnglbliidjnfaaGreatDoorBarCoded
import Derived.Test.YtcnglbliidjnfaaGreatDoorBarConst
namespace Go.Proofs.YtcnglbliidjnfaaGreatDoor
set_option linter.unusedVariables false
open Go.ChangeShapes Go.WideShapes Go.ChangeAt Go.RowKit
set_option maxRecDepth 100000 in
theorem back19_lifted (os:Os) (started:os.Started) (H:Type) (enc:TypeId × Value→H):
  ReturnsInHanded {} Tryz.checked os 6 .any (fun w args=>(Rows.barcodeBackSpec.pre enc Tryz.prog Tryz.f6 [] false w args∧laidMetH Tryz.prog laidL w)∧sizedMet enc Tryz.prog Tryz.f6 (OpenSpec.ofChange Rows.barcodeBackSpec) false w args)
   (Rows.barcodeBackSpec.post enc Tryz.prog Tryz.f6 false true false false):=by
 refine returnsInHanded_of_change_and (C:= Tryz.checked) (X:=fun w _=>laidMetH Tryz.prog laidL w) (fun _ _ _ hh h=>h.of_heap hh) Tryz.own started (by kernel_rfl) Tryz.func6
  (ChangeSpec.witness_shaped (enc:=enc) (C:= Tryz.checked) (os:=os) (X:=fun w _=>laidMetH Tryz.prog laidL w) false (World.doorLaid Tryz.prog 400 os) #[.slice none 0 0, .agg #[.int .i64 0, .int .i64 0, .int .i64 0, .int .i64 0, .int .i64 0, .int .i64 0, .int .i64 0, .int .i64 0, .int .i64 0, .int .i64 0, .int .i64 0, .int .i64 0, .int .i64 0, .int .i64 0, .int .i64 0]] 8 rfl (World.shaped_of_RefB (by kernel_rfl) (by kernel_rfl)) (by kernel_rfl) (by kernel_rfl) (by kernel_rfl) (door_met os _)) ?_
 intro W base args ds gs before hval0 hW _ hsz hL _
 have hval: ∀(j:Nat) t v, Tryz.f6.params[j]?=some t→args[j]?=some v→Value.okWide Tryz.prog W .any base t v:=hval0
 have hW':=hW
 obtain⟨p,q,hA0,hV,rfl,_,_⟩:=hW'
 have hA:DataW.TrodAll enc Tryz.prog W 0 (fun _=>true) true Tryz.f6.params.toList args.toList ds p:=hA0
 rw[Tryz.params6]at hA hval
 obtain⟨v0,vs0,d0,ds0,p0,q0,hargs0,rfl,rfl,h0,r0⟩:=trodAll_cons hA
 obtain⟨v1,vs1,d1,ds1,p1,q1,hargs1,rfl,rfl,h1,r1⟩:=trodAll_cons r0
 obtain⟨rfl,rfl,rfl⟩:=trodAll_nil r1
 obtain rfl:args= #[v0,v1]:=by cases args;simp_all
 obtain⟨A0,l0,c0,rfl,hk0,hm0,hc0,hn0⟩:=open_keys (hval 0 22 v0 rfl rfl) h0
 obtain⟨q1,rfl,n1⟩:=open_read (hval 1 28 v1 rfl rfl) h1
 have hlaw:Calls Tryz.prog 6 #[.slice A0 l0.length c0, .agg #[.int .i64 q1.t.ser, .int .i64 q1.t.kind, .int .i64 q1.t.frm, .int .i64 q1.t.till, .int .i64 q1.t.cls, .int .i64 q1.t.card, .int .i64 q1.t.seat, .int .i64 q1.t.day, .int .i64 q1.t.days, .int .i64 q1.t.uses, .int .i64 q1.t.epoch, .int .i64 q1.key, .int .i64 q1.left, .int .i64 q1.inn, .int .i64 q1.ver]] W fun e W'=>e= .returned (.bool true)∧Below W.heap.size W W':=back19_any l0 _ rfl (by omega) A0 c0 q1 W (tabs_of_laid hL) hk0
 refine hlaw.mono fun e W' ⟨he,hb⟩=> ?_
 subst he
 exact⟨_,rfl,law_post Tryz.laidOut Tryz.underlying4 hW rfl (by kernel_rfl) (by kernel_rfl) rfl hb⟩
theorem barcodeBack_holds:Rows.BarcodeBackSaid:=
 OpenClaim.holds_of_wide 6 Tryz.f6 rfl rfl rfl rfl rfl rfl rfl ⟨rfl,rfl,rfl,rfl,rfl⟩ rfl rfl rfl rfl rfl (by kernel_rfl) Tryz.func6 (by kernel_rfl)
  (of_decide_eq_true (by kernel_rfl)) (by unfold Func.isWrapper;first|(rw[if_pos (by decide+kernel)];kernel_rfl)|(rw[if_neg (by decide+kernel)];exact⟨rfl,rfl⟩))
  (fun os started H enc _=>back19_lifted os started H enc)
theorem back19_plain (f:FuncId) (fn:Func) (hf: Tryz.pinned.checked.prog.funcNamed "gateline/gatelinelaw19.BarcodeBack" =some f) (hfn: Tryz.pinned.checked.prog.funcs[f]?=some fn):
  false= Tryz.pinned.checked.prog.looks []∧ ∀(j:Nat) t,fn.params[j]?=some t→ Tryz.pinned.checked.prog.wantsStandIn t=false:=by
 obtain rfl:f= 6 :=Option.some.inj ((show Tryz.prog.funcNamed "gateline/gatelinelaw19.BarcodeBack" =some 6 by kernel_rfl).symm.trans hf)|>.symm
 obtain rfl:fn= Tryz.f6 :=(Option.some.inj (Tryz.func6.symm.trans hfn)).symm
 refine⟨by kernel_rfl,fun j t ht=> ?_⟩
 rw[Tryz.params6]at ht
 have hm:t∈ [22, 28]:=by simpa using Array.mem_of_getElem? ht
 have hall:([22, 28].all fun u=> !Tryz.prog.wantsStandIn u)=true:=by kernel_rfl
 exact(show Tryz.prog.wantsStandIn t=false by simpa using List.all_eq_true.1 hall t hm)
theorem barcodeBack_card:Rows.BarcodeBackCardSaid:=
 Claim7.holds_tied_plain_at .later [] _ _ _ _ barcodeBack_holds (fun _ h=>by cases h) (by kernel_rfl) (fun _ h=>by cases h) barcodeBack_row_tie rfl ⟨rfl,rfl⟩ (by kernel_rfl) rfl back19_plain (by kernel_rfl)
end Go.Proofs.YtcnglbliidjnfaaGreatDoor
