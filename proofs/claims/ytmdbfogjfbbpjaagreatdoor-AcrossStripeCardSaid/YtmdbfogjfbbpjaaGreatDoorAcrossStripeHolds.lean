/-
  Proved: whatever comes in, the law AcrossStripe answers true, and leaves what came in as it was; sha's two tables are tied to the program's text. Conditions: none beyond the statement's own.
-/
import Derived.Test.YtmdbfogjfbbpjaaGreatDoorBarRefDec
import Derived.Test.YtmdbfogjfbbpjaaGreatDoorOpenBs
import Derived.Test.YtmdbfogjfbbpjaaGreatDoorLayOpen
import Derived.Test.YtmdbfogjfbbpjaaGreatDoorAcrossP
import Derived.Test.YtmdbfogjfbbpjaaGreatDoorAcrossCrossed
import Derived.Test.YtmdbfogjfbbpjaaGreatDoorMem
import Derived.Test.YtmdbfogjfbbpjaaGreatDoorEqualBytes
import Derived.Test.YtmdbfogjfbbpjaaGreatDoorRingAddMath
set_option maxRecDepth 100000
set_option linter.unusedVariables false
namespace Go.Proofs.YtmdbfogjfbbpjaaGreatDoor
open Go.ChangeShapes Go.WideShapes Go.ChangeAt Go.RowKit
theorem stripe21_lifted (os:Os) (started:os.Started) (H:Type) (enc:TypeId × Value→H):
  ReturnsInHanded {} Tryz.checked os 4 .any (fun w args=>(Rows.acrossStripeSpec.pre enc Tryz.prog Tryz.f4 [] false w args∧laidMetH Tryz.prog Hh w)∧sizedMet enc Tryz.prog Tryz.f4 (OpenSpec.ofChange Rows.acrossStripeSpec) false w args)
   (Rows.acrossStripeSpec.post enc Tryz.prog Tryz.f4 false true false false):=by
 refine returnsInHanded_of_change_and (C:= Tryz.checked) (X:=fun w _=>laidMetH Tryz.prog Hh w) (fun _ _ _ hh h=>h.of_heap hh) Tryz.own started (by kernel_rfl) Tryz.func4
  (ChangeSpec.witness_shaped (enc:=enc) (C:= Tryz.checked) (os:=os) (X:=fun w _=>laidMetH Tryz.prog Hh w) false (World.doorLaid Tryz.prog 400 os) #[.slice none 0 0, .slice none 0 0, .agg #[.int .i64 0, .int .i64 0], .int .i64 0] 8 rfl (World.shaped_of_RefB (by kernel_rfl) (by kernel_rfl)) (by kernel_rfl) (by kernel_rfl) (by kernel_rfl) (Mz os _)) ?_
 intro W base args ds gs before hval0 hW _ hsz hL _
 have hval: ∀(j:Nat) t v, Tryz.f4.params[j]?=some t→args[j]?=some v→Value.okWide Tryz.prog W .any base t v:=hval0
 have hW':=hW
 obtain⟨p,q,hA0,hV,rfl,_,_⟩:=hW'
 have hA:DataW.TrodAll enc Tryz.prog W 0 (fun _=>true) true Tryz.f4.params.toList args.toList ds p:=hA0
 rw[Tryz.params4]at hA hval
 obtain⟨v0,vs0,d0,ds0,p0,q0,hargs0,rfl,rfl,h0,r0⟩:=trodAll_cons hA
 obtain⟨v1,vs1,d1,ds1,p1,q1,hargs1,rfl,rfl,h1,r1⟩:=trodAll_cons r0
 obtain⟨v2,vs2,d2,ds2,p2,q2,hargs2,rfl,rfl,h2,r2⟩:=trodAll_cons r1
 obtain⟨v3,vs3,d3,ds3,p3,q3,hargs3,rfl,rfl,h3,r3⟩:=trodAll_cons r2
 obtain⟨rfl,rfl,rfl⟩:=trodAll_nil r3
 obtain rfl:args= #[v0,v1,v2,v3]:=by cases args;simp_all
 obtain⟨A0,l0,c0,rfl,hk0,hm0,hc0,hn0⟩:=Kk (hval 0 22 v0 rfl rfl) h0
 obtain⟨A1,l1,k1,rfl,s1⟩:=gS (hval 1 23 v1 rfl rfl) h1
 obtain⟨a2,b2,rfl,ja2,jb2⟩:=Md (hval 2 26 v2 rfl rfl) h2
 obtain⟨x3,rfl,rfl,rfl,wx3⟩:=open_int Tryz.underlying3 (hval 3 3 v3 rfl rfl) h3
 have hlaw:Calls Tryz.prog 4 #[.slice A0 l0.length c0, .slice A1 l1.length k1, .agg #[.int .i64 a2, .int .i64 b2], .int .i64 x3] W fun e W'=>e= .returned (.bool true)∧Below W.heap.size W W':=gK Nf l0 _ rfl (by omega) A0 c0 l1 _ rfl A1 k1 a2 b2 x3 ja2 jb2 (Lm x3 wx3) W (Gw hL) hk0 s1
 refine hlaw.mono fun e W' ⟨he,hb⟩=> ?_
 subst he
 exact⟨_,rfl,Mv Tryz.laidOut Tryz.underlying4 hW rfl (by kernel_rfl) (by kernel_rfl) rfl hb⟩
theorem acrossStripe_holds:Rows.AcrossStripeSaid:=
 OpenClaim.holds_of_wide 4 Tryz.f4 rfl rfl rfl rfl rfl rfl rfl ⟨rfl,rfl,rfl,rfl,rfl⟩ rfl rfl rfl rfl rfl (by kernel_rfl) Tryz.func4 (by kernel_rfl)
  (of_decide_eq_true (by kernel_rfl)) (by unfold Func.isWrapper;first|(rw[if_pos (by decide+kernel)];kernel_rfl)|(rw[if_neg (by decide+kernel)];exact⟨rfl,rfl⟩))
  (fun os started H enc _=>stripe21_lifted os started H enc)
theorem stripe21_plain (f:FuncId) (fn:Func) (hf: Tryz.pinned.checked.prog.funcNamed "gateline/gatelinelaw21.AcrossStripe" =some f) (hfn: Tryz.pinned.checked.prog.funcs[f]?=some fn):
  true= Tryz.pinned.checked.prog.looks []∧ ∀(j:Nat) t,fn.params[j]?=some t→ Tryz.pinned.checked.prog.wantsStandIn t=false:=by
 obtain rfl:f= 4 :=Option.some.inj ((show Tryz.prog.funcNamed "gateline/gatelinelaw21.AcrossStripe" =some 4 by kernel_rfl).symm.trans hf)|>.symm
 obtain rfl:fn= Tryz.f4 :=(Option.some.inj (Tryz.func4.symm.trans hfn)).symm
 refine⟨by kernel_rfl,fun j t ht=> ?_⟩
 rw[Tryz.params4]at ht
 have hm:t∈ [22, 23, 26, 3]:=by simpa using Array.mem_of_getElem? ht
 have hall:([22, 23, 26, 3].all fun u=> !Tryz.prog.wantsStandIn u)=true:=by kernel_rfl
 exact(show Tryz.prog.wantsStandIn t=false by simpa using List.all_eq_true.1 hall t hm)
theorem acrossStripe_card:Rows.AcrossStripeCardSaid:=
 Claim7.holds_tied_plain_at .later [] _ _ _ _ acrossStripe_holds (fun _ h=>by cases h) (by kernel_rfl) (fun _ h=>by cases h) acrossStripe_row_tie rfl ⟨rfl,rfl⟩ (by kernel_rfl) rfl stripe21_plain (by kernel_rfl)
end Go.Proofs.YtmdbfogjfbbpjaaGreatDoor
