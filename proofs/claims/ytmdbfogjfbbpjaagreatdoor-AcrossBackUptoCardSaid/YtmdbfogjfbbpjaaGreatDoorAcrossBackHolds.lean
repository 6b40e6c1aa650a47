/-
  Proved: whatever comes in of bulk at most 1048576, the law AcrossBack answers true, and leaves what came in as it was; sha's two tables are tied to the program's text. Conditions: none beyond the statement's own.
-/
import Derived.Test.YtmdbfogjfbbpjaaGreatDoorAcrossBackLaw
import Derived.Test.YtmdbfogjfbbpjaaGreatDoorAcrossP
import Derived.Test.YtmdbfogjfbbpjaaGreatDoorAcrossCrossed
import Derived.Test.YtmdbfogjfbbpjaaGreatDoorMem
import Derived.Test.YtmdbfogjfbbpjaaGreatDoorEqualBytes
import Derived.Test.YtmdbfogjfbbpjaaGreatDoorRingAddMath
set_option maxRecDepth 100000
set_option linter.unusedVariables false
namespace Go.Proofs.YtmdbfogjfbbpjaaGreatDoor
open Go.ChangeShapes Go.WideShapes Go.ChangeAt Go.RowKit
theorem back21_contract (H:Type) (enc:TypeId × Value→H) (W:World) (base:Nat) (args:Array Value) (ds gs:List (DataW H)) (before:List MemPlace)
  (hval0: ∀(j:Nat) t v, Tryz.f5.params[j]?=some t→args[j]?=some v→Value.okWide Tryz.prog W .any base t v)
  (hW:DataW.Whole enc Tryz.prog Tryz.f5.params.toList Rows.acrossBackSpec.vars false W args.toList ds gs before) (hk:Rows.uptoSmall H (ds++gs)=true) (hL:laidMetH Tryz.prog Hh W):
  Calls Tryz.prog 5 args W fun e W'=> ∃v,e= .returned v∧Rows.acrossBackSpec.post enc Tryz.prog Tryz.f5 false true false false W args v W':=by
 have hval:=hval0
 have hb:=rH hk
 have hW':=hW
 obtain⟨p,q,hA0,hV,rfl,_,_⟩:=hW'
 have hA:DataW.TrodAll enc Tryz.prog W 0 (fun _=>true) true Tryz.f5.params.toList args.toList ds p:=hA0
 rw[Tryz.params5]at hA hval
 obtain⟨v0,vs0,d0,ds0,p0,pq0,hargs0,rfl,rfl,h0,r0⟩:=trodAll_cons hA
 obtain⟨v1,vs1,d1,ds1,p1,pq1,hargs1,rfl,rfl,h1,r1⟩:=trodAll_cons r0
 obtain⟨v2,vs2,d2,ds2,p2,pq2,hargs2,rfl,rfl,h2,r2⟩:=trodAll_cons r1
 obtain⟨v3,vs3,d3,ds3,p3,pq3,hargs3,rfl,rfl,h3,r3⟩:=trodAll_cons r2
 obtain⟨rfl,rfl,rfl⟩:=trodAll_nil r3
 obtain rfl:args= #[v0,v1,v2,v3]:=by cases args;simp_all
 obtain⟨A0,l0,c0,rfl,hk0,hm0,hc0,hn0⟩:=Kk (hval 0 22 v0 rfl rfl) h0
 obtain⟨A1,l1,k1,rfl,s1,u1⟩:=gV (hval 1 23 v1 rfl rfl) h1
 have g1:Rows.uptoBulk d1≤1048576:=Nat.le_trans (dL (by simp)) hb
 obtain⟨x2,rfl,rfl,rfl,wx2⟩:=open_int Tryz.underlying3 (hval 2 3 v2 rfl rfl) h2
 obtain⟨x3,rfl,rfl,rfl,wx3⟩:=open_int Tryz.underlying3 (hval 3 3 v3 rfl rfl) h3
 have hlaw:Calls Tryz.prog 5 #[.slice A0 l0.length c0, .slice A1 l1.length k1, .int .i64 x2, .int .i64 x3] W fun e W'=>e= .returned (.bool true)∧Below W.heap.size W W':=rG Nf l0 _ rfl (by omega) A0 c0 l1 _ rfl A1 k1 x2 x3 (Lm x2 wx2) (Lm x3 wx3) (by omega) W (Gw hL) hk0 s1
 refine hlaw.mono fun e W' ⟨he,hb⟩=> ?_
 subst he
 exact⟨_,rfl,Mv Tryz.laidOut Tryz.underlying4 hW rfl (by kernel_rfl) (by kernel_rfl) rfl hb⟩
theorem back21_door (os:Os) (H:Type) (enc:TypeId × Value→H): ∃(w:World) (tape:Tape) (i:Input),w.os=os∧(w.forCall tape i).Shaped Tryz.prog∧i.vars=[]∧Input.okWide Tryz.prog (w.forCall tape i) .any w.heap.size 5 i∧
  (((Rows.OpenSpec.upto Rows.acrossBackSpec).pre enc Tryz.prog Tryz.f5 [] false (w.forCall tape i).memory i.args∧laidMetH Tryz.prog Hh (w.forCall tape i).memory)∧sizedMet enc Tryz.prog Tryz.f5 (Rows.OpenSpec.upto Rows.acrossBackSpec) false (w.forCall tape i).memory i.args)∧({} :Assume).holds Tryz.prog (lone (Frame.enter Tryz.prog 5 i.args .normal) [] (w.forCall tape i)):=by
 have hok:Input.okWideB Tryz.prog ((World.doorLaid Tryz.prog 400 os).forCall (fun _ _=>0) ⟨#[], #[.slice none 0 0, .slice none 0 0, .int .i64 0, .int .i64 0],[]⟩) 5 ⟨#[], #[.slice none 0 0, .slice none 0 0, .int .i64 0, .int .i64 0],[]⟩=true:=by kernel_rfl
 have hx:DataW.whole enc Tryz.prog ((World.doorLaid Tryz.prog 400 os).forCall (fun _ _=>0) ⟨#[], #[.slice none 0 0, .slice none 0 0, .int .i64 0, .int .i64 0],[]⟩).memory Tryz.f5.params.toList Rows.acrossBackSpec.vars false #[.slice none 0 0, .slice none 0 0, .int .i64 0, .int .i64 0].toList 8=some ([.nil, .nil, .lit (.int .i64 0), .lit (.int .i64 0)],[],[]):=by kernel_rfl
 refine⟨World.doorLaid Tryz.prog 400 os,fun _ _=>0,⟨#[], #[.slice none 0 0, .slice none 0 0, .int .i64 0, .int .i64 0],[]⟩,rfl,World.shaped_of_RefB (by kernel_rfl) (by kernel_rfl),(Input.okWide_of_okWideB (base:=0) hok).1,(Input.okWide_of_okWideB hok).2,
  ⟨⟨(OpenSpec.pre_some (s:=(Rows.OpenSpec.upto Rows.acrossBackSpec)) (k:=Rows.uptoSmall) rfl [] false _ _).2 ⟨_,_,_,DataW.Whole_of_whole hx,rfl,by kernel_rfl⟩,Mz os _⟩,sizedMet_of_sizedB (fuel:=8) (s:=Rows.acrossBackSpec) (by kernel_rfl)⟩, ?_⟩
 simp only[Assume.holds]
 exact⟨by simp,by simp,fun _=>Modest.zero,by simp,by simp⟩
theorem back21_lifted (os:Os) (started:os.Started) (H:Type) (enc:TypeId × Value→H) (F:Stop.Interp):
  ReturnsInHanded {} Tryz.checked os 5 .any (fun w args=>((Rows.OpenSpec.upto Rows.acrossBackSpec).pre enc Tryz.prog Tryz.f5 [] false w args∧laidMetH Tryz.prog Hh w)∧sizedMet enc Tryz.prog Tryz.f5 (Rows.OpenSpec.upto Rows.acrossBackSpec) false w args) (((Rows.OpenSpec.upto Rows.acrossBackSpec).at F).post enc Tryz.prog Tryz.f5 false true false false):=by
 refine returnsInHanded_of_calls Tryz.own started (by kernel_rfl) (back21_door os H enc) ?_
 intro w tape i _ _ _ hok hpre _
 obtain⟨_,_,_,fn',hfn',_,_,_,_,hval⟩:=hok
 obtain rfl:fn'= Tryz.f5 :=Option.some.inj (hfn'.symm.trans Tryz.func5)
 obtain⟨⟨hp,hl⟩,_⟩:=hpre
 obtain⟨ds,gs,before,hw,_,hk⟩:=(OpenSpec.pre_some (s:=(Rows.OpenSpec.upto Rows.acrossBackSpec)) (k:=Rows.uptoSmall) rfl [] false _ _).1 hp
 refine(back21_contract H enc (w.forCall tape i) w.heap.size i.args ds gs before hval (DataW.Whole.of_heap (w':=w.forCall tape i) (by rfl) hw) hk (laidMetH.of_heap (by rfl) hl)).mono fun e W' ⟨v,he,hq⟩=> ?_
 subst he
 exact ChangeSpec.post_blind hq
theorem acrossBack_holds:Rows.AcrossBackUptoSaid:=
 OpenClaim.holds_of_cond 5 Tryz.f5 rfl rfl rfl rfl rfl rfl rfl ⟨rfl,rfl,rfl,rfl,rfl⟩ rfl rfl rfl rfl rfl (by kernel_rfl) Tryz.func5 (by kernel_rfl)
  (of_decide_eq_true (by kernel_rfl)) (by unfold Func.isWrapper;first|(rw[if_pos (by decide+kernel)];kernel_rfl)|(rw[if_neg (by decide+kernel)];exact⟨rfl,rfl⟩))
  (fun os started H enc _ F=>back21_lifted os started H enc F)
theorem back21_plain (f:FuncId) (fn:Func) (hf: Tryz.pinned.checked.prog.funcNamed "gateline/gatelinelaw21.AcrossBack" =some f) (hfn: Tryz.pinned.checked.prog.funcs[f]?=some fn):
  true= Tryz.pinned.checked.prog.looks []∧ ∀(j:Nat) t,fn.params[j]?=some t→ Tryz.pinned.checked.prog.wantsStandIn t=false:=by
 obtain rfl:f= 5 :=Option.some.inj ((show Tryz.prog.funcNamed "gateline/gatelinelaw21.AcrossBack" =some 5 by kernel_rfl).symm.trans hf)|>.symm
 obtain rfl:fn= Tryz.f5 :=(Option.some.inj (Tryz.func5.symm.trans hfn)).symm
 refine⟨by kernel_rfl,fun j t ht=> ?_⟩
 rw[Tryz.params5]at ht
 have hm:t∈ [22, 23, 3, 3]:=by simpa using Array.mem_of_getElem? ht
 have hall:([22, 23, 3, 3].all fun u=> !Tryz.prog.wantsStandIn u)=true:=by kernel_rfl
 exact(show Tryz.prog.wantsStandIn t=false by simpa using List.all_eq_true.1 hall t hm)
theorem acrossBack_card:Rows.AcrossBackUptoCardSaid:=
 Claim7.holds_tied_plain_at .later [] _ _ _ _ acrossBack_holds (fun _ h=>by cases h) (by kernel_rfl) (fun _ h=>by cases h) acrossBackUpto_row_tie rfl ⟨rfl,rfl⟩ (by kernel_rfl) rfl back21_plain (by kernel_rfl)
end Go.Proofs.YtmdbfogjfbbpjaaGreatDoor
