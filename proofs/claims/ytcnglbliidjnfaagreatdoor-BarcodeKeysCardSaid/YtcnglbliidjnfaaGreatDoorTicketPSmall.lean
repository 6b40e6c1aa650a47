import Derived.Test.YtcnglbliidjnfaaGreatDoorTlvNum
import Derived.RangeFuncNested
import Derived.RangeFuncBound
import Derived.RangeFuncLeaves
import Derived.RangeFuncBox
import Derived.WalkKit
import Derived.OwnWalkIn
import Derived.TacticsInMore
import Derived.RegionIn
import Derived.Maps.OwnIn
import Derived.Maps.AppendAt
import Derived.Shelf.Abstract
import Derived.LoopNIn
import Derived.LoopIn
import Derived.Maps.Views
import Derived.Test.YtcnglbliidjnfaaGreatDoorMem
section
namespace Go.Proofs.YtcnglbliidjnfaaGreatDoor
set_option linter.unusedVariables false
open Go.ChangeShapes Go.WideShapes Go.ChangeAt Go.RowKit
theorem pwithin_any (n a b:Int) (v:Bool) (hv:(decide (a≤n)&&decide (n≤b))=v) (w:World):Calls Tryz.prog 124 #[.int .i64 n, .int .i64 a, .int .i64 b] w fun e w'=>e= .returned (.bool v)∧w'=w:=by
 have HB:=Lib.hid hv
 clear hv
 cases h0:decide (a≤n)<;>cases h1:decide (n≤b)
 all_goals
  have H0:=Lib.hid h0
  have H1:=Lib.hid h1
  go_enter Tryz.func124, Tryz.ntmps124
  go_wp2
  go_ret
  refine⟨congrArg Ending.returned (congrArg Value.bool ?_),rfl⟩
  rw[←HB.out,H0.out,H1.out]
  rfl
def wayB (t:Tk):Bool:=isN t.frm&&(isN t.till&&(t.frm !=t.till))
def zonesB (t:Tk):Bool:=decide (1≤t.frm)&&(decide (t.frm≤t.till)&&decide (t.till≤6))
set_option maxHeartbeats 1600000 in
theorem phasway_any (t:Tk) (b:Bool) (hb:wayB t=b) (w:World):Calls Tryz.prog 140 #[.agg #[.int .i64 t.ser, .int .i64 t.kind, .int .i64 t.frm, .int .i64 t.till, .int .i64 t.cls, .int .i64 t.card, .int .i64 t.seat, .int .i64 t.day, .int .i64 t.days, .int .i64 t.uses, .int .i64 t.epoch]] w fun e w'=>e= .returned (.bool b)∧Below w.heap.size w w':=by
 have HV:=Lib.hid hb
 clear hb
 obtain⟨w0,hw0⟩: ∃w0,w0=w.alloc (.cells #[.int .i64 t.ser, .int .i64 t.kind, .int .i64 t.frm, .int .i64 t.till, .int .i64 t.cls, .int .i64 t.card, .int .i64 t.seat, .int .i64 t.day, .int .i64 t.days, .int .i64 t.uses, .int .i64 t.epoch] 150):=⟨_,rfl⟩
 have HX:Hid (WBox w0 w.heap.size t):=Lib.hid (by rw[hw0];exact WBox.new w t)
 have HB:Hid (Below w.heap.size w w0):=Lib.hid (by rw[hw0];exact below_lit w _ _)
 have HW:=Lib.hid hw0
 clear hw0
 obtain⟨c0,c1,c2,c3,c4,c5,c6,c7,c8,c9,c10⟩:=HX.out.cells
 cases q1:isN t.frm<;>cases q2:isN t.till<;>cases q3:(t.frm !=t.till)
 all_goals
  have hb:(isN t.frm&&(isN t.till&&(t.frm !=t.till)))=b:=HV.out
  rw[q1,q2,q3]at hb
  subst hb
  have HI:=Lib.hid q1
  have HJ:=Lib.hid q2
  clear q1 q2
  go_enter Tryz.func140, Tryz.ntmps140
  go_wp2_with (go_at_call 155;refine(pisn_any _ _ (by first|exact HI.out|exact HJ.out) _).mono ?_;rintro e w1 ⟨rfl,rfl⟩)
  go_ret
  refine⟨rfl, ?_⟩
  rw[←HW.out]
  exact HB.out
set_option maxHeartbeats 1600000 in
theorem phaszones_any (t:Tk) (b:Bool) (hb:zonesB t=b) (w:World):Calls Tryz.prog 144 #[.agg #[.int .i64 t.ser, .int .i64 t.kind, .int .i64 t.frm, .int .i64 t.till, .int .i64 t.cls, .int .i64 t.card, .int .i64 t.seat, .int .i64 t.day, .int .i64 t.days, .int .i64 t.uses, .int .i64 t.epoch]] w fun e w'=>e= .returned (.bool b)∧Below w.heap.size w w':=by
 have HV:=Lib.hid hb
 clear hb
 obtain⟨w0,hw0⟩: ∃w0,w0=w.alloc (.cells #[.int .i64 t.ser, .int .i64 t.kind, .int .i64 t.frm, .int .i64 t.till, .int .i64 t.cls, .int .i64 t.card, .int .i64 t.seat, .int .i64 t.day, .int .i64 t.days, .int .i64 t.uses, .int .i64 t.epoch] 150):=⟨_,rfl⟩
 have HX:Hid (WBox w0 w.heap.size t):=Lib.hid (by rw[hw0];exact WBox.new w t)
 have HB:Hid (Below w.heap.size w w0):=Lib.hid (by rw[hw0];exact below_lit w _ _)
 have HW:=Lib.hid hw0
 clear hw0
 obtain⟨c0,c1,c2,c3,c4,c5,c6,c7,c8,c9,c10⟩:=HX.out.cells
 obtain⟨x,hx⟩: ∃x,(decide (1≤t.frm)&&decide (t.frm≤t.till))=x:=⟨_,rfl⟩
 have hb:(x&&decide (t.till≤6))=b:=by rw[←hx, ←HV.out,zonesB,Bool.and_assoc]
 have HX2:=Lib.hid hx
 have HV2:=Lib.hid hb
 clear hx hb
 cases x<;>cases q3:decide (t.till≤6)
 all_goals
  have hb:=HV2.out
  rw[q3]at hb
  subst hb
  go_enter Tryz.func144, Tryz.ntmps144
  go_wp2_with (go_at_call 124;refine(pwithin_any _ _ _ _ HX2.out _).mono ?_;rintro e w1 ⟨rfl,rfl⟩)
  go_ret
  refine⟨rfl, ?_⟩
  rw[←HW.out]
  exact HB.out
end Go.Proofs.YtcnglbliidjnfaaGreatDoor
end
section
namespace Go.Proofs.YtcnglbliidjnfaaGreatDoor
set_option linter.unusedVariables false
open Go.ChangeShapes Go.WideShapes Go.ChangeAt Go.RowKit
def inB (n a b:Int):Bool:=decide (a≤n)&&decide (n≤b)
theorem inB_iff {n a b:Int} :inB n a b=true↔a≤n∧n≤b:=by simp[inB]
def hbB (t:Tk):Bool:=inB t.ser 1 1099511627776&&(inB t.cls 1 2&&(inB t.card 0 3&&(inB t.seat 0 999&&(inB t.day 0 99999&&(inB t.days 1 999&&(decide (t.day+t.days - 1≤99999)&&(inB t.epoch 0 9)))))))
set_option maxRecDepth 20000 in
set_option maxHeartbeats 3200000 in
theorem pbounds_any (t:Tk) (b:Bool) (hb:hbB t=b) (w:World):Calls Tryz.prog 123 #[.agg #[.int .i64 t.ser, .int .i64 t.kind, .int .i64 t.frm, .int .i64 t.till, .int .i64 t.cls, .int .i64 t.card, .int .i64 t.seat, .int .i64 t.day, .int .i64 t.days, .int .i64 t.uses, .int .i64 t.epoch]] w fun e w'=>e= .returned (.bool b)∧Below w.heap.size w w':=by
 have HV:=Lib.hid hb
 clear hb
 obtain⟨w0,hw0⟩: ∃w0,w0=w.alloc (.cells #[.int .i64 t.ser, .int .i64 t.kind, .int .i64 t.frm, .int .i64 t.till, .int .i64 t.cls, .int .i64 t.card, .int .i64 t.seat, .int .i64 t.day, .int .i64 t.days, .int .i64 t.uses, .int .i64 t.epoch] 150):=⟨_,rfl⟩
 have HX:Hid (WBox w0 w.heap.size t):=Lib.hid (by rw[hw0];exact WBox.new w t)
 have HB:Hid (Below w.heap.size w w0):=Lib.hid (by rw[hw0];exact below_lit w _ _)
 have HW:=Lib.hid hw0
 clear hw0
 obtain⟨c0,c1,c2,c3,c4,c5,c6,c7,c8,c9,c10⟩:=HX.out.cells
 cases q0:inB t.ser 1 1099511627776
 case false=>
  have Q0:=Lib.hid q0
  clear q0
  have hb:b=false:=by rw[←HV.out,hbB,Q0.out];try rfl
  subst hb
  go_enter Tryz.func123, Tryz.ntmps123
  go_wp2_with (go_at_call 124;refine(pwithin_any _ _ _ _ (by first|exact Q0.out) _).mono ?_;rintro e w1 ⟨rfl,rfl⟩)
  go_ret
  refine⟨rfl, ?_⟩
  rw[←HW.out]
  exact HB.out
 case true=>
  have Q0:=Lib.hid q0
  clear q0
  cases q1:inB t.cls 1 2
  case false=>
   have Q1:=Lib.hid q1
   clear q1
   have hb:b=false:=by rw[←HV.out,hbB,Q0.out,Q1.out];try rfl
   subst hb
   go_enter Tryz.func123, Tryz.ntmps123
   go_wp2_with (go_at_call 124;refine(pwithin_any _ _ _ _ (by first|exact Q0.out|exact Q1.out) _).mono ?_;rintro e w1 ⟨rfl,rfl⟩)
   go_ret
   refine⟨rfl, ?_⟩
   rw[←HW.out]
   exact HB.out
  case true=>
   have Q1:=Lib.hid q1
   clear q1
   cases q2:inB t.card 0 3
   case false=>
    have Q2:=Lib.hid q2
    clear q2
    have hb:b=false:=by rw[←HV.out,hbB,Q0.out,Q1.out,Q2.out];try rfl
    subst hb
    go_enter Tryz.func123, Tryz.ntmps123
    go_wp2_with (go_at_call 124;refine(pwithin_any _ _ _ _ (by first|exact Q0.out|exact Q1.out|exact Q2.out) _).mono ?_;rintro e w1 ⟨rfl,rfl⟩)
    go_ret
    refine⟨rfl, ?_⟩
    rw[←HW.out]
    exact HB.out
   case true=>
    have Q2:=Lib.hid q2
    clear q2
    cases q3:inB t.seat 0 999
    case false=>
     have Q3:=Lib.hid q3
     clear q3
     have hb:b=false:=by rw[←HV.out,hbB,Q0.out,Q1.out,Q2.out,Q3.out];try rfl
     subst hb
     go_enter Tryz.func123, Tryz.ntmps123
     go_wp2_with (go_at_call 124;refine(pwithin_any _ _ _ _ (by first|exact Q0.out|exact Q1.out|exact Q2.out|exact Q3.out) _).mono ?_;rintro e w1 ⟨rfl,rfl⟩)
     go_ret
     refine⟨rfl, ?_⟩
     rw[←HW.out]
     exact HB.out
    case true=>
     have Q3:=Lib.hid q3
     clear q3
     cases q4:inB t.day 0 99999
     case false=>
      have Q4:=Lib.hid q4
      clear q4
      have hb:b=false:=by rw[←HV.out,hbB,Q0.out,Q1.out,Q2.out,Q3.out,Q4.out];try rfl
      subst hb
      go_enter Tryz.func123, Tryz.ntmps123
      go_wp2_with (go_at_call 124;refine(pwithin_any _ _ _ _ (by first|exact Q0.out|exact Q1.out|exact Q2.out|exact Q3.out|exact Q4.out) _).mono ?_;rintro e w1 ⟨rfl,rfl⟩)
      go_ret
      refine⟨rfl, ?_⟩
      rw[←HW.out]
      exact HB.out
     case true=>
      have Q4:=Lib.hid q4
      clear q4
      cases q5:inB t.days 1 999
      case false=>
       have Q5:=Lib.hid q5
       clear q5
       have hb:b=false:=by rw[←HV.out,hbB,Q0.out,Q1.out,Q2.out,Q3.out,Q4.out,Q5.out];try rfl
       subst hb
       go_enter Tryz.func123, Tryz.ntmps123
       go_wp2_with (go_at_call 124;refine(pwithin_any _ _ _ _ (by first|exact Q0.out|exact Q1.out|exact Q2.out|exact Q3.out|exact Q4.out|exact Q5.out) _).mono ?_;rintro e w1 ⟨rfl,rfl⟩)
       go_ret
       refine⟨rfl, ?_⟩
       rw[←HW.out]
       exact HB.out
      case true=>
       have Q5:=Lib.hid q5
       clear q5
       have h4:=inB_iff.1 Q4.out
       have h5:=inB_iff.1 Q5.out
       have v1:IntKind.i64.wrap (t.day+t.days)=t.day+t.days:=IntWalk.i64_in _ (by omega)
       have v2:IntKind.i64.wrap (t.day+t.days - 1)=t.day+t.days - 1:=IntWalk.i64_in _ (by omega)
       clear h4 h5
       cases q6:decide (t.day+t.days - 1≤99999)
       case false=>
        have Q6:=Lib.hid q6
        have hb:b=false:=by rw[←HV.out,hbB,Q0.out,Q1.out,Q2.out,Q3.out,Q4.out,Q5.out,Q6.out];try rfl
        subst hb
        go_enter Tryz.func123, Tryz.ntmps123
        go_wp2_with (go_at_call 124;refine(pwithin_any _ _ _ _ (by first|exact Q0.out|exact Q1.out|exact Q2.out|exact Q3.out|exact Q4.out|exact Q5.out) _).mono ?_;rintro e w1 ⟨rfl,rfl⟩)
        go_ret
        refine⟨rfl, ?_⟩
        rw[←HW.out]
        exact HB.out
       case true=>
        have Q6:=Lib.hid q6
        cases q7:inB t.epoch 0 9
        case false=>
         have Q7:=Lib.hid q7
         clear q7
         have hb:b=false:=by rw[←HV.out,hbB,Q0.out,Q1.out,Q2.out,Q3.out,Q4.out,Q5.out,Q6.out,Q7.out];try rfl
         subst hb
         go_enter Tryz.func123, Tryz.ntmps123
         go_wp2_with (go_at_call 124;refine(pwithin_any _ _ _ _ (by first|exact Q0.out|exact Q1.out|exact Q2.out|exact Q3.out|exact Q4.out|exact Q5.out|exact Q7.out) _).mono ?_;rintro e w1 ⟨rfl,rfl⟩)
         go_ret
         refine⟨rfl, ?_⟩
         rw[←HW.out]
         exact HB.out
        case true=>
         have Q7:=Lib.hid q7
         clear q7
         have hb:b=true:=by rw[←HV.out,hbB,Q0.out,Q1.out,Q2.out,Q3.out,Q4.out,Q5.out,Q6.out,Q7.out];try rfl
         subst hb
         go_enter Tryz.func123, Tryz.ntmps123
         go_wp2_with (go_at_call 124;refine(pwithin_any _ _ _ _ (by first|exact Q0.out|exact Q1.out|exact Q2.out|exact Q3.out|exact Q4.out|exact Q5.out|exact Q7.out) _).mono ?_;rintro e w1 ⟨rfl,rfl⟩)
         go_ret
         refine⟨rfl, ?_⟩
         rw[←HW.out]
         exact HB.out
end Go.Proofs.YtcnglbliidjnfaaGreatDoor
end
section
namespace Go.Proofs.YtcnglbliidjnfaaGreatDoor
set_option linter.unusedVariables false
open Go.ChangeShapes Go.WideShapes Go.ChangeAt Go.RowKit
theorem bcell {W w1:World} (hb:Below W.heap.size W w1):(∀b o,b<W.heap.size→w1.cell? ⟨b,o,none⟩=W.cell? ⟨b,o,none⟩)∧(∀b o,b<W.heap.size→w1.frozen? ⟨b,o,none⟩=W.frozen? ⟨b,o,none⟩):=
 ⟨fun b o h=>hb.cell (p:=⟨b,o,none⟩) h,fun b o h=>hb.frozen (p:=⟨b,o,none⟩) h⟩
theorem okT_bounds (t:Tk):okT t=(hbB t&&(inB t.kind 1 4&&(placeB t&&usesB t))):=by
 rw[Bool.eq_iff_iff,okT_iff,numsB_iff,daysB_iff]
 simp only[hbB,Bool.and_eq_true,inB_iff,decide_eq_true_eq]
 constructor
 ·rintro⟨h1,h2,h3,h4⟩;exact⟨by omega,by omega,h3,h4⟩
 ·rintro⟨h1,h2,h3,h4⟩;exact⟨by omega,by omega,h3,h4⟩
theorem no_of {a b c o:Bool} {P:Prop} (e:o=(a&&(b&&c))) (h:o=false) (h1:a=false→P) (h2:a=true→b=false→P) (h3:a=true→b=true→c=false→P):P:=by
 cases a
 ·exact h1 rfl
 ·cases b
  ·exact h2 rfl rfl
  ·cases c
   ·exact h3 rfl rfl rfl
   ·rw[h]at e;cases e
theorem infoKd:(Tryz.prog.info? 124).map (·.size)=some 5:=by kernel_rfl
theorem kd_one (x y:Int) (a b c:Value) (ha:a.oneCell'=true) (hb:b.oneCell'=true) (hc:c.oneCell'=true):(#[Value.int .i64 x,Value.int .i64 y,a,b,c]:Array Value).all (·.oneCell')=true:=by
 rw[Array.all_eq_true_iff_forall_mem]
 intro u hu
 simp at hu
 rcases hu with rfl|rfl|rfl|rfl|rfl
 ·rfl
 ·rfl
 ·exact ha
 ·exact hb
 ·exact hc
theorem okT_1 {t:Tk} (hk:t.kind=1):okT t=(hbB t&&(inB t.uses 1 1&&wayB t)):=by
 have e1:inB t.kind 1 4=true:=by rw[inB_iff];omega
 have e2:placeB t=wayB t:=by rw[placeB,if_neg (by omega)];rfl
 have e3:usesB t=inB t.uses 1 1:=by
  rw[Bool.eq_iff_iff,inB_iff,usesB]
  rw[hk]
  simp
  try omega
 rw[okT_bounds,e1,e2,e3,Bool.true_and,Bool.and_comm (wayB t)]
theorem okT_2 {t:Tk} (hk:t.kind=2):okT t=(hbB t&&(inB t.uses 2 2&&wayB t)):=by
 have e1:inB t.kind 1 4=true:=by rw[inB_iff];omega
 have e2:placeB t=wayB t:=by rw[placeB,if_neg (by omega)];rfl
 have e3:usesB t=inB t.uses 2 2:=by
  rw[Bool.eq_iff_iff,inB_iff,usesB]
  rw[hk]
  simp
  try omega
 rw[okT_bounds,e1,e2,e3,Bool.true_and,Bool.and_comm (wayB t)]
theorem okT_3 {t:Tk} (hk:t.kind=3):okT t=(hbB t&&(inB t.uses 0 0&&zonesB t)):=by
 have e1:inB t.kind 1 4=true:=by rw[inB_iff];omega
 have e2:placeB t=zonesB t:=by rw[placeB,if_pos hk];rfl
 have e3:usesB t=inB t.uses 0 0:=by
  rw[Bool.eq_iff_iff,inB_iff,usesB]
  rw[hk]
  simp
  try omega
 rw[okT_bounds,e1,e2,e3,Bool.true_and,Bool.and_comm (zonesB t)]
theorem okT_4 {t:Tk} (hk:t.kind=4):okT t=(hbB t&&(inB t.uses 2 20&&wayB t)):=by
 have e1:inB t.kind 1 4=true:=by rw[inB_iff];omega
 have e2:placeB t=wayB t:=by rw[placeB,if_neg (by omega)];rfl
 have e3:usesB t=inB t.uses 2 20:=by
  rw[Bool.eq_iff_iff,inB_iff,usesB]
  rw[hk]
  simp
  try omega
 rw[okT_bounds,e1,e2,e3,Bool.true_and,Bool.and_comm (wayB t)]
end Go.Proofs.YtcnglbliidjnfaaGreatDoor
end
section
namespace Go.Proofs.YtcnglbliidjnfaaGreatDoor
set_option linter.unusedVariables false
open Go.ChangeShapes Go.WideShapes Go.ChangeAt Go.RowKit
theorem oper_inRound {F:Fence} {n:Nat} {P:Program} {Q:Exit→Act→World→Prop} (l:Nat) (hro:F.round=none) {o:Oper} (hd: ∀c,o.op≠ .defer c) {a:Act} {w:World} {K:Act→World→Prop} (h:o.wpIn F n P a w K Q):o.wpIn (F.inRound l) n P a w K Q:=by
 unfold Oper.wpIn at h⊢
 obtain⟨h1,h2⟩:=h
 refine⟨h1, ?_⟩
 rw[hro,Oper.semAt_none]at h2
 rw[Fence.inRound_round,Oper.semAt_some l _ _ hd]
 generalize (execOp a.eval o).run P w=r at*
 cases r with
 |ok x w'=>cases x<;>exact h2
 |halt x w'=>cases x<;>exact h2
theorem any_inRound {F:Fence} {n:Nat} {P:Program} {ops:Array Oper} {Q:Exit→Act→World→Prop} {md:Region.Mode} (l:Nat) (hro:F.round=none) (hd: ∀(i:Nat) (o:Oper),ops[i]?=some o→ ∀c,o.op≠ .defer c):
  ∀(fuel:Nat) (listed:Array Bool) (a:Act) (w:World),wpAnyIn F n P md ops Q fuel listed a w→wpAnyIn (F.inRound l) n P md ops Q fuel listed a w
 |0,listed,a,w,h=>h
 |fuel+1,listed,a,w,h=>by
  refine⟨h.1,fun i hi=> ?_⟩
  have h2:=wpOpIn_mono (fun a w=>any_inRound l hro hd fuel (listed.setIfInBounds i true) a w) (h.2 i hi)
  unfold wpOpIn at h2⊢
  split
  ·rename_i e;rw[e]at h2;exact h2
  ·rename_i o e
   rw[e]at h2
   simp only at h2
   split
   ·rename_i hw
    rw[if_pos hw]at h2
    exact oper_inRound l hro (hd i o e) h2
   ·rename_i hw
    rw[if_neg hw]at h2
    exact h2
def noDefer (ops:Array Oper):Bool:=ops.all (fun o=>match o.op with| .defer _=>false|_=>true)
theorem noDefer_spec {ops:Array Oper} (h:noDefer ops=true): ∀(i:Nat) (o:Oper),ops[i]?=some o→ ∀c,o.op≠ .defer c:=by
 intro i o ho c hc
 obtain⟨hi,he⟩:=Array.getElem?_eq_some_iff.1 ho
 have:=Array.all_eq_true.1 h i hi
 rw[he,hc]at this
 cases this
theorem step_append_in {F:Fence} {nF:Nat} {P:Program} (w:World) {ops:Array Oper} {o:Oper} {a:Act} {K:Act→World→Prop} {Q:Exit→Act→World→Prop} {E:Prop} (hw:Region.wanted o (yielded ops a.tmps)=true) (s x:Operand) (t:TypeId)
  (ho:o.op= .call { callee:= .builtin .append,args:= #[s,x],argTypes:= #[t,t] })
  (base:Nat) (e:TypeId) (i:TypeInfo) (z:Value) (bytes:Nat) (ht:P.underlying t=some (.slice e)) (hi:P.info? e=some i) (hz:i.zero=some z) (hsize:i.size=1) (hby:i.bytes=bytes) (hzs:z.cells.size=1)
  (v:Value) (n:Nat) (xs:List Value) (hs:a.eval s=v) (hown:w.ownsRow base e 1 v n xs)
  (ad:Addr) (m c:Nat) (news:List Value) (hx:a.eval x= .slice (some ad) m c) (hl:news.length=m) (hnews: ∀j u,news[j]?=some u→w.cell? (ad.add j)=some u)
  (h1: ∀u∈news,u.oneCell'=true) (h63:n+m≤maxLen) (hbytes:(n+m)*bytes≤140737488355328) (hbase:base≤w.heap.size)
  (h: ∀v' w',w'.ownsRow base e 1 v' (n+m) (xs++news)→w.grownBy w' v.ownBlock→K (a.put o.dst v') w'):
  if Region.wanted o (yielded ops a.tmps)=true then Oper.wpIn F nF P o a w K Q else E:=by
 rw[if_pos hw]
 obtain⟨v',w',hrun,h2,h3,_⟩:=run_append_own (P:=P) w base t o.type e i z 1 bytes ht hi hz hsize hby hzs (by omega) v n xs hown ad m c news (by omega) hnews h1 h63 hbytes hbase
 unfold Oper.wpIn
 refine⟨by simp[Oper.about,ho,resolve,Target.leads,Sem.run_pure], ?_⟩
 rw[Oper.semAt_plain F _ _ (by rw[ho];intro c hc';cases hc')]
 simp[execOp,ho,resolve,invoke,builtin,hs,hx,hrun,Result.andThen]
 exact h v' w' h2 h3
theorem u8_app (a b:List Nat):U8 (a++b)=U8 a++U8 b:=by simp[U8]
theorem keeps_below {B:Nat} {W W':World} (hb:Below W.heap.size W W'):KeepsFrom B W W':=⟨hb.size,fun k o _ hk _=>(hb.block k (Array.getElem?_eq_some_iff.1 hk).1).trans hk⟩
theorem boxed_belowD {W W':World} {B:Nat} {t:TypeId} {v:Value} (h:Boxed W B t v) (hb:Below W.heap.size W W'):Boxed W' B t v:=(hb.block B h.lt).trans h
theorem boxed_grown {W Wc w1:World} {n₀ B:Nat} {t e:TypeId} {v v':Value} {k m:Nat} {xs ys:List Value} (K:Nat)
  (hv:Boxed W B t v) (hte:t≠e) (hrow:W.ownsRow n₀ e 1 v k xs) (hn₀:n₀≤W.heap.size) (hB:n₀≤B) (hb:Below W.heap.size W Wc)
  (hown':w1.ownsRow n₀ e 1 v' m ys) (hgrow:Wc.grownBy w1 v.ownBlock):
  Boxed w1 B t v∧Boxed (w1.setCell ⟨B,0,none⟩ v') B t v'∧(w1.setCell ⟨B,0,none⟩ v').ownsRow n₀ e 1 v' m ys∧KeepsFrom K W (w1.setCell ⟨B,0,none⟩ v')∧Below n₀ W (w1.setCell ⟨B,0,none⟩ v'):=by
 have hrow':=own_below hrow hb
 have hv1:Boxed w1 B t v:=(boxed_belowD hv hb).kept hgrow (hv.not_row hte hrow)
 refine⟨hv1,hv1.set v',hown'.kept (grownBy_setCell' w1 B v') (.inr (hv1.not_row hte hown').symm), ?_, ?_⟩
 ·refine((keeps_below hb).trans ((KeepsOthers.of_grownBy hgrow fun j o ej hj=> ?_).from _)).trans ((KeepsOthers.setCell _ _ _).from _)
  rcases hrow'.2 with⟨rfl,_⟩|⟨g,cap,cur,rfl,_,hgb,_⟩
  ·simp[Value.ownBlock]at ej
  ·obtain rfl:g=j:=by simpa[Value.ownBlock]using ej
   rw[hgb]at hj;cases hj;rfl
 ·exact((hb.mono hn₀).grown hgrow (Nat.le_trans hn₀ hb.size) fun j ej=>own_ge hrow ej).setCell (p:=⟨B,0,none⟩) hB v'
theorem boxed_beside {W Wc w1:World} {n₀ B B':Nat} {t e:TypeId} {u v v':Value} {k:Nat} {xs:List Value}
  (hu:Boxed W B' t u) (hte:t≠e) (hrow:W.ownsRow n₀ e 1 v k xs) (hb:Below W.heap.size W Wc) (hgrow:Wc.grownBy w1 v.ownBlock) (hne:B'≠B):Boxed (w1.setCell ⟨B,0,none⟩ v') B' t u:=
 ((boxed_belowD hu hb).kept hgrow (hu.not_row hte hrow)).other hne _
end Go.Proofs.YtcnglbliidjnfaaGreatDoor
end
