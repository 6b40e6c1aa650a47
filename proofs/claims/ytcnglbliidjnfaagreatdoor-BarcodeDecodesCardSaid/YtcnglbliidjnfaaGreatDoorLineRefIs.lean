import Derived.Test.YtcnglbliidjnfaaGreatDoorMem
import Derived.Test.YtcnglbliidjnfaaGreatDoorMath
import Derived.Test.YtcnglbliidjnfaaGreatDoorRingLast
import Derived.Test.YtcnglbliidjnfaaGreatDoorRgBox
import Derived.IntWalk
section
namespace Go.Proofs.YtcnglbliidjnfaaGreatDoor
set_option linter.unusedVariables false
open Go.ChangeShapes Go.WideShapes Go.ChangeAt Go.RowKit
theorem refisn_any (s:Int) (b:Bool) (hb:isN s=b) (w:World):Calls Tryz.prog 127 #[.int .i64 s] w fun e w'=>e= .returned (.bool b)∧w'=w:=by
 have HB:=Lib.hid hb
 clear hb
 cases h0:decide (0≤s)<;>cases h1:decide (s≤39)
 all_goals
  have H0:=Lib.hid h0
  have H1:=Lib.hid h1
  go_enter Tryz.func127, Tryz.ntmps127
  go_wp2
  go_ret
  refine⟨congrArg Ending.returned (congrArg Value.bool ?_),rfl⟩
  rw[←HB.out,isN,H0.out,H1.out]
  rfl
end Go.Proofs.YtcnglbliidjnfaaGreatDoor
end
section
namespace Go.Proofs.YtcnglbliidjnfaaGreatDoor
set_option linter.unusedVariables false
open Go.ChangeShapes Go.WideShapes Go.ChangeAt Go.RowKit
set_option maxRecDepth 100000 in
set_option maxHeartbeats 3200000 in
theorem refplace_any (t:Tk) (b:Bool) (hb:placeB t=b) (w:World):Calls Tryz.prog 102 #[.agg #[.int .i64 t.ser, .int .i64 t.kind, .int .i64 t.frm, .int .i64 t.till, .int .i64 t.cls, .int .i64 t.card, .int .i64 t.seat, .int .i64 t.day, .int .i64 t.days, .int .i64 t.uses, .int .i64 t.epoch]] w fun e w'=>e= .returned (.bool b)∧Below w.heap.size w w':=by
 have HV:=Lib.hid hb
 clear hb
 obtain⟨w0,hw0⟩: ∃w0,w0=w.alloc (.cells #[.int .i64 t.ser, .int .i64 t.kind, .int .i64 t.frm, .int .i64 t.till, .int .i64 t.cls, .int .i64 t.card, .int .i64 t.seat, .int .i64 t.day, .int .i64 t.days, .int .i64 t.uses, .int .i64 t.epoch] 24):=⟨_,rfl⟩
 have HX:Hid (TBox w0 w.heap.size t):=Lib.hid (by rw[hw0];exact TBox.new w t)
 have HB:Hid (Below w.heap.size w w0):=Lib.hid (by rw[hw0];exact below_lit w _ _)
 have HW:=Lib.hid hw0
 clear hw0
 obtain⟨c0,c1,c2,c3,c4,c5,c6,c7,c8,c9,c10⟩:=HX.out.cells
 by_cases hk:t.kind=3
 ·have qk:(t.kind==3)=true:=by rw[beq_iff_eq];exact hk
  have hb:(decide (1≤t.frm)&&(decide (t.frm≤t.till)&&decide (t.till≤6)))=b:=by rw[←HV.out,placeB,if_pos hk]
  have HV2:=Lib.hid hb
  clear hb hk
  cases q1:decide (1≤t.frm)<;>cases q2:decide (t.frm≤t.till)<;>cases q3:decide (t.till≤6)
  all_goals
   have hb:=HV2.out
   rw[q1,q2,q3]at hb
   subst hb
   go_enter Tryz.func102, Tryz.ntmps102
   go_wp2
   rw[←HW.out]
   go_wp2
   go_ret
   exact⟨rfl,HB.out⟩
 ·have qk:(t.kind==3)=false:=by rw[beq_eq_false_iff_ne];exact hk
  have hb:(isN t.frm&&(isN t.till&&(t.frm !=t.till)))=b:=by rw[←HV.out,placeB,if_neg hk]
  have HV2:=Lib.hid hb
  clear hb hk
  cases q1:isN t.frm<;>cases q2:isN t.till<;>cases q3:(t.frm !=t.till)
  all_goals
   have hb:=HV2.out
   rw[q1,q2,q3]at hb
   subst hb
   have HI:=Lib.hid q1
   have HJ:=Lib.hid q2
   clear q1 q2
   go_enter Tryz.func102, Tryz.ntmps102
   go_wp2_with (go_at_call 127;refine(refisn_any _ _ (by first|exact HI.out|exact HJ.out) _).mono ?_;rintro e w1 ⟨rfl,rfl⟩)
   go_ret
   refine⟨rfl, ?_⟩
   rw[←HW.out]
   exact HB.out
end Go.Proofs.YtcnglbliidjnfaaGreatDoor
end
section
namespace Go.Proofs.YtcnglbliidjnfaaGreatDoor
set_option linter.unusedVariables false
open Go.ChangeShapes Go.WideShapes Go.ChangeAt Go.RowKit
set_option maxRecDepth 100000 in
set_option maxHeartbeats 3200000 in
theorem refuses_any (t:Tk) (b:Bool) (hb:usesB t=b) (w:World):Calls Tryz.prog 103 #[.agg #[.int .i64 t.ser, .int .i64 t.kind, .int .i64 t.frm, .int .i64 t.till, .int .i64 t.cls, .int .i64 t.card, .int .i64 t.seat, .int .i64 t.day, .int .i64 t.days, .int .i64 t.uses, .int .i64 t.epoch]] w fun e w'=>e= .returned (.bool b)∧Below w.heap.size w w':=by
 have HV:=Lib.hid hb
 clear hb
 obtain⟨w0,hw0⟩: ∃w0,w0=w.alloc (.cells #[.int .i64 t.ser, .int .i64 t.kind, .int .i64 t.frm, .int .i64 t.till, .int .i64 t.cls, .int .i64 t.card, .int .i64 t.seat, .int .i64 t.day, .int .i64 t.days, .int .i64 t.uses, .int .i64 t.epoch] 24):=⟨_,rfl⟩
 have HX:Hid (TBox w0 w.heap.size t):=Lib.hid (by rw[hw0];exact TBox.new w t)
 have HB:Hid (Below w.heap.size w w0):=Lib.hid (by rw[hw0];exact below_lit w _ _)
 have HW:=Lib.hid hw0
 clear hw0
 obtain⟨c0,c1,c2,c3,c4,c5,c6,c7,c8,c9,c10⟩:=HX.out.cells
 by_cases hk:t.kind=4
 ·have qk:(t.kind==4)=true:=by rw[beq_iff_eq];exact hk
  have hb:(decide (2≤t.uses)&&decide (t.uses≤20))=b:=by rw[←HV.out,usesB,if_pos hk]
  have HV2:=Lib.hid hb
  clear hb hk
  cases q1:decide (2≤t.uses)<;>cases q2:decide (t.uses≤20)
  all_goals
   have hb:=HV2.out
   rw[q1,q2]at hb
   subst hb
   go_enter Tryz.func103, Tryz.ntmps103
   go_wp2
   rw[←HW.out]
   go_wp2
   go_ret
   exact⟨rfl,HB.out⟩
 ·have qk:(t.kind==4)=false:=by rw[beq_eq_false_iff_ne];exact hk
  have hb:(t.uses==t.kind.tmod 3)=b:=by rw[←HV.out,usesB,if_neg hk]
  have HV2:=Lib.hid hb
  clear hb hk
  go_enter Tryz.func103, Tryz.ntmps103
  go_wp2
  rw[←HW.out]
  go_wp2
  go_ret
  exact⟨by rw[HV2.out];rfl,HB.out⟩
end Go.Proofs.YtcnglbliidjnfaaGreatDoor
end
section
namespace Go.Proofs.YtcnglbliidjnfaaGreatDoor
set_option linter.unusedVariables false
open Go.ChangeShapes Go.WideShapes Go.ChangeAt Go.RowKit
set_option maxRecDepth 100000 in
set_option maxHeartbeats 3200000 in
theorem refis9_any (t:Tk) (b:Bool) (hb:okT t=b) (w:World):Calls Tryz.prog 74 #[.agg #[.int .i64 t.ser, .int .i64 t.kind, .int .i64 t.frm, .int .i64 t.till, .int .i64 t.cls, .int .i64 t.card, .int .i64 t.seat, .int .i64 t.day, .int .i64 t.days, .int .i64 t.uses, .int .i64 t.epoch]] w fun e w'=>e= .returned (.bool b)∧Below w.heap.size w w':=by
 have HV:=Lib.hid hb
 clear hb
 obtain⟨w0,hw0⟩: ∃w0,w0=w.alloc (.cells #[.int .i64 t.ser, .int .i64 t.kind, .int .i64 t.frm, .int .i64 t.till, .int .i64 t.cls, .int .i64 t.card, .int .i64 t.seat, .int .i64 t.day, .int .i64 t.days, .int .i64 t.uses, .int .i64 t.epoch] 24):=⟨_,rfl⟩
 have HX:Hid (TBox w0 w.heap.size t):=Lib.hid (by rw[hw0];exact TBox.new w t)
 have HB:Hid (Below w.heap.size w w0):=Lib.hid (by rw[hw0];exact below_lit w _ _)
 have HW:=Lib.hid hw0
 clear hw0
 obtain⟨c0,c1,c2,c3,c4,c5,c6,c7,c8,c9,c10⟩:=HX.out.cells
 cases q0:decide (t.ser<1)
 case true=>
  have hb:b=false:=by
   rw[←HV.out]
   cases ho:okT t with
   |false=>rfl
   |true=>
    exfalso
    have h1:=(numsB_iff t).1 ((okT_iff t).1 ho).1
    have h2:=(daysB_iff t).1 ((okT_iff t).1 ho).2.1
    have h3:=of_decide_eq_true q0
    omega
  subst hb
  go_enter Tryz.func74, Tryz.ntmps74
  go_wp2
  try(rw[←HW.out];go_wp2)
  go_ret
  exact⟨rfl,(by first|exact HB.out|(rw[←HW.out];exact HB.out))⟩
 case false=>
  cases q1:decide (1099511627776<t.ser)
  case true=>
   have hb:b=false:=by
    rw[←HV.out]
    cases ho:okT t with
    |false=>rfl
    |true=>
     exfalso
     have h1:=(numsB_iff t).1 ((okT_iff t).1 ho).1
     have h2:=(daysB_iff t).1 ((okT_iff t).1 ho).2.1
     have h3:=of_decide_eq_true q1
     omega
   subst hb
   go_enter Tryz.func74, Tryz.ntmps74
   go_wp2
   try(rw[←HW.out];go_wp2)
   go_ret
   exact⟨rfl,(by first|exact HB.out|(rw[←HW.out];exact HB.out))⟩
  case false=>
   cases q2:decide (t.kind<1)
   case true=>
    have hb:b=false:=by
     rw[←HV.out]
     cases ho:okT t with
     |false=>rfl
     |true=>
      exfalso
      have h1:=(numsB_iff t).1 ((okT_iff t).1 ho).1
      have h2:=(daysB_iff t).1 ((okT_iff t).1 ho).2.1
      have h3:=of_decide_eq_true q2
      omega
    subst hb
    go_enter Tryz.func74, Tryz.ntmps74
    go_wp2
    try(rw[←HW.out];go_wp2)
    go_ret
    exact⟨rfl,(by first|exact HB.out|(rw[←HW.out];exact HB.out))⟩
   case false=>
    cases q3:decide (4<t.kind)
    case true=>
     have hb:b=false:=by
      rw[←HV.out]
      cases ho:okT t with
      |false=>rfl
      |true=>
       exfalso
       have h1:=(numsB_iff t).1 ((okT_iff t).1 ho).1
       have h2:=(daysB_iff t).1 ((okT_iff t).1 ho).2.1
       have h3:=of_decide_eq_true q3
       omega
     subst hb
     go_enter Tryz.func74, Tryz.ntmps74
     go_wp2
     try(rw[←HW.out];go_wp2)
     go_ret
     exact⟨rfl,(by first|exact HB.out|(rw[←HW.out];exact HB.out))⟩
    case false=>
     cases q4:decide (t.cls<1)
     case true=>
      have hb:b=false:=by
       rw[←HV.out]
       cases ho:okT t with
       |false=>rfl
       |true=>
        exfalso
        have h1:=(numsB_iff t).1 ((okT_iff t).1 ho).1
        have h2:=(daysB_iff t).1 ((okT_iff t).1 ho).2.1
        have h3:=of_decide_eq_true q4
        omega
      subst hb
      go_enter Tryz.func74, Tryz.ntmps74
      go_wp2
      try(rw[←HW.out];go_wp2)
      go_ret
      exact⟨rfl,(by first|exact HB.out|(rw[←HW.out];exact HB.out))⟩
     case false=>
      cases q5:decide (2<t.cls)
      case true=>
       have hb:b=false:=by
        rw[←HV.out]
        cases ho:okT t with
        |false=>rfl
        |true=>
         exfalso
         have h1:=(numsB_iff t).1 ((okT_iff t).1 ho).1
         have h2:=(daysB_iff t).1 ((okT_iff t).1 ho).2.1
         have h3:=of_decide_eq_true q5
         omega
       subst hb
       go_enter Tryz.func74, Tryz.ntmps74
       go_wp2
       try(rw[←HW.out];go_wp2)
       go_ret
       exact⟨rfl,(by first|exact HB.out|(rw[←HW.out];exact HB.out))⟩
      case false=>
       cases q6:decide (t.card<0)
       case true=>
        have hb:b=false:=by
         rw[←HV.out]
         cases ho:okT t with
         |false=>rfl
         |true=>
          exfalso
          have h1:=(numsB_iff t).1 ((okT_iff t).1 ho).1
          have h2:=(daysB_iff t).1 ((okT_iff t).1 ho).2.1
          have h3:=of_decide_eq_true q6
          omega
        subst hb
        go_enter Tryz.func74, Tryz.ntmps74
        go_wp2
        try(rw[←HW.out];go_wp2)
        go_ret
        exact⟨rfl,(by first|exact HB.out|(rw[←HW.out];exact HB.out))⟩
       case false=>
        cases q7:decide (3<t.card)
        case true=>
         have hb:b=false:=by
          rw[←HV.out]
          cases ho:okT t with
          |false=>rfl
          |true=>
           exfalso
           have h1:=(numsB_iff t).1 ((okT_iff t).1 ho).1
           have h2:=(daysB_iff t).1 ((okT_iff t).1 ho).2.1
           have h3:=of_decide_eq_true q7
           omega
         subst hb
         go_enter Tryz.func74, Tryz.ntmps74
         go_wp2
         try(rw[←HW.out];go_wp2)
         go_ret
         exact⟨rfl,(by first|exact HB.out|(rw[←HW.out];exact HB.out))⟩
        case false=>
         cases q8:decide (t.seat<0)
         case true=>
          have hb:b=false:=by
           rw[←HV.out]
           cases ho:okT t with
           |false=>rfl
           |true=>
            exfalso
            have h1:=(numsB_iff t).1 ((okT_iff t).1 ho).1
            have h2:=(daysB_iff t).1 ((okT_iff t).1 ho).2.1
            have h3:=of_decide_eq_true q8
            omega
          subst hb
          go_enter Tryz.func74, Tryz.ntmps74
          go_wp2
          try(rw[←HW.out];go_wp2)
          go_ret
          exact⟨rfl,(by first|exact HB.out|(rw[←HW.out];exact HB.out))⟩
         case false=>
          cases q9:decide (999<t.seat)
          case true=>
           have hb:b=false:=by
            rw[←HV.out]
            cases ho:okT t with
            |false=>rfl
            |true=>
             exfalso
             have h1:=(numsB_iff t).1 ((okT_iff t).1 ho).1
             have h2:=(daysB_iff t).1 ((okT_iff t).1 ho).2.1
             have h3:=of_decide_eq_true q9
             omega
           subst hb
           go_enter Tryz.func74, Tryz.ntmps74
           go_wp2
           try(rw[←HW.out];go_wp2)
           go_ret
           exact⟨rfl,(by first|exact HB.out|(rw[←HW.out];exact HB.out))⟩
          case false=>
           cases q10:decide (t.day<0)
           case true=>
            have hb:b=false:=by
             rw[←HV.out]
             cases ho:okT t with
             |false=>rfl
             |true=>
              exfalso
              have h1:=(numsB_iff t).1 ((okT_iff t).1 ho).1
              have h2:=(daysB_iff t).1 ((okT_iff t).1 ho).2.1
              have h3:=of_decide_eq_true q10
              omega
            subst hb
            go_enter Tryz.func74, Tryz.ntmps74
            go_wp2
            try(rw[←HW.out];go_wp2)
            go_ret
            exact⟨rfl,(by first|exact HB.out|(rw[←HW.out];exact HB.out))⟩
           case false=>
            cases q11:decide (99999<t.day)
            case true=>
             have hb:b=false:=by
              rw[←HV.out]
              cases ho:okT t with
              |false=>rfl
              |true=>
               exfalso
               have h1:=(numsB_iff t).1 ((okT_iff t).1 ho).1
               have h2:=(daysB_iff t).1 ((okT_iff t).1 ho).2.1
               have h3:=of_decide_eq_true q11
               omega
             subst hb
             go_enter Tryz.func74, Tryz.ntmps74
             go_wp2
             try(rw[←HW.out];go_wp2)
             go_ret
             exact⟨rfl,(by first|exact HB.out|(rw[←HW.out];exact HB.out))⟩
            case false=>
             cases q12:decide (t.days<1)
             case true=>
              have hb:b=false:=by
               rw[←HV.out]
               cases ho:okT t with
               |false=>rfl
               |true=>
                exfalso
                have h1:=(numsB_iff t).1 ((okT_iff t).1 ho).1
                have h2:=(daysB_iff t).1 ((okT_iff t).1 ho).2.1
                have h3:=of_decide_eq_true q12
                omega
              subst hb
              go_enter Tryz.func74, Tryz.ntmps74
              go_wp2
              try(rw[←HW.out];go_wp2)
              go_ret
              exact⟨rfl,(by first|exact HB.out|(rw[←HW.out];exact HB.out))⟩
             case false=>
              cases q13:decide (999<t.days)
              case true=>
               have hb:b=false:=by
                rw[←HV.out]
                cases ho:okT t with
                |false=>rfl
                |true=>
                 exfalso
                 have h1:=(numsB_iff t).1 ((okT_iff t).1 ho).1
                 have h2:=(daysB_iff t).1 ((okT_iff t).1 ho).2.1
                 have h3:=of_decide_eq_true q13
                 omega
               subst hb
               go_enter Tryz.func74, Tryz.ntmps74
               go_wp2
               try(rw[←HW.out];go_wp2)
               go_ret
               exact⟨rfl,(by first|exact HB.out|(rw[←HW.out];exact HB.out))⟩
              case false=>
               have wd:IntKind.i64.wrap (t.day+t.days)=t.day+t.days:=IntWalk.i64_in _ (by have:=of_decide_eq_false q10;have:=of_decide_eq_false q11;have:=of_decide_eq_false q12;have:=of_decide_eq_false q13;omega)
               cases q14:decide (100000<t.day+t.days)
               case true=>
                have hb:b=false:=by
                 rw[←HV.out]
                 cases ho:okT t with
                 |false=>rfl
                 |true=>
                  exfalso
                  have h1:=(numsB_iff t).1 ((okT_iff t).1 ho).1
                  have h2:=(daysB_iff t).1 ((okT_iff t).1 ho).2.1
                  have h3:=of_decide_eq_true q14
                  omega
                subst hb
                go_enter Tryz.func74, Tryz.ntmps74
                go_wp2
                try(rw[←HW.out];go_wp2)
                go_ret
                exact⟨rfl,(by first|exact HB.out|(rw[←HW.out];exact HB.out))⟩
               case false=>
                cases q15:decide (t.epoch<0)
                case true=>
                 have hb:b=false:=by
                  rw[←HV.out]
                  cases ho:okT t with
                  |false=>rfl
                  |true=>
                   exfalso
                   have h1:=(numsB_iff t).1 ((okT_iff t).1 ho).1
                   have h2:=(daysB_iff t).1 ((okT_iff t).1 ho).2.1
                   have h3:=of_decide_eq_true q15
                   omega
                 subst hb
                 go_enter Tryz.func74, Tryz.ntmps74
                 go_wp2
                 try(rw[←HW.out];go_wp2)
                 go_ret
                 exact⟨rfl,(by first|exact HB.out|(rw[←HW.out];exact HB.out))⟩
                case false=>
                 cases q16:decide (9<t.epoch)
                 case true=>
                  have hb:b=false:=by
                   rw[←HV.out]
                   cases ho:okT t with
                   |false=>rfl
                   |true=>
                    exfalso
                    have h1:=(numsB_iff t).1 ((okT_iff t).1 ho).1
                    have h2:=(daysB_iff t).1 ((okT_iff t).1 ho).2.1
                    have h3:=of_decide_eq_true q16
                    omega
                  subst hb
                  go_enter Tryz.func74, Tryz.ntmps74
                  go_wp2
                  try(rw[←HW.out];go_wp2)
                  go_ret
                  exact⟨rfl,(by first|exact HB.out|(rw[←HW.out];exact HB.out))⟩
                 case false=>
                  have hn:numsB t=true:=by
                   rw[numsB_iff]
                   simp only[decide_eq_false_iff_not]at q0 q1 q2 q3 q4 q5 q6 q7 q8 q9
                   omega
                  have hd:daysB t=true:=by
                   rw[daysB_iff]
                   simp only[decide_eq_false_iff_not]at q10 q11 q12 q13 q14 q15 q16
                   omega
                  have hv:(placeB t&&usesB t)=b:=by rw[←HV.out,okT,hn,hd];rfl
                  have HV2:=Lib.hid hv
                  clear hn hd hv
                  cases hp:placeB t
                  case false=>
                   have hb:=HV2.out
                   rw[hp]at hb
                   subst hb
                   have HP:=Lib.hid hp
                   clear hp
                   go_enter Tryz.func74, Tryz.ntmps74
                   go_wp2_with fail
                   rw[←HW.out]
                   refine(refplace_any t false HP.out w0).mono ?_
                   rintro e w1 ⟨rfl,hb⟩
                   have HB1:=Lib.hid (HB.out.trans (hb.mono HB.out.size))
                   clear hb
                   go_wp2
                   go_ret
                   exact⟨rfl,HB1.out⟩
                  case true=>
                   have hb:usesB t=b:=by rw[←HV2.out,hp];rfl
                   have HU:=Lib.hid hb
                   have HP:=Lib.hid hp
                   clear hp hb
                   go_enter Tryz.func74, Tryz.ntmps74
                   go_wp2_with fail
                   rw[←HW.out]
                   refine(refplace_any t true HP.out w0).mono ?_
                   rintro e w1 ⟨rfl,hb⟩
                   have HB1:=Lib.hid (HB.out.trans (hb.mono HB.out.size))
                   obtain⟨e0,e1,e2,e3,e4,e5,e6,e7,e8,e9,e10⟩:=(HX.out.next hb).cells
                   clear hb
                   go_wp2_with fail
                   refine(refuses_any t b HU.out w1).mono ?_
                   rintro e w2 ⟨rfl,hb⟩
                   have HB2:=Lib.hid (HB1.out.trans (hb.mono HB1.out.size))
                   clear hb
                   go_wp2
                   go_ret
                   exact⟨rfl,HB2.out⟩
end Go.Proofs.YtcnglbliidjnfaaGreatDoor
end
section
namespace Go.Proofs.YtcnglbliidjnfaaGreatDoor
set_option linter.unusedVariables false
open Go.ChangeShapes Go.WideShapes Go.ChangeAt Go.RowKit
set_option maxRecDepth 100000 in
set_option maxHeartbeats 1600000 in
theorem refis_tlv (l:List Tf) (n:Nat) (hn:n=l.length) (b:Bool) (hb:isT 0 l=b) (A:Option Addr) (c:Nat) (w:World) (hA:Ts w w.heap.size l A c):
  Calls Tryz.prog 78 #[.slice A n c] w fun e w'=>e= .returned (.bool b)∧Below w.heap.size w w':=by
 have h1:n≤9223372036854775807:=by have h1:=hA.len;have h2:=hA.cap;omega
 have HN:=Lib.hid hn
 have HB:=Lib.hid hb
 have HA:=Lib.hid hA
 clear hn hb hA
 go_enter Tryz.func78, Tryz.ntmps78
 go_wp2
 go_loopw [3] (fun i wr=> ∃k:Nat,k≤n∧i= .int .i64 k∧isT 0 (l.take k)=true∧Below w.heap.size w wr) (fun i _=>n - (intOf i).toNat)
 case atStart=>exact⟨0,Nat.zero_le _,rfl,rfl,Below.refl _ _⟩
 case round=>
  obtain⟨k,hk,rfl,hall,hbel⟩:=hrel
  have HH:=Lib.hid hall
  have HBL:=Lib.hid hbel
  clear hall hbel
  by_cases hlt:k<n
  ·have HTA:=Lib.hid (HA.out.below HBL.out)
   obtain⟨ad,S,cc,hsome,had,hk4⟩:=HTA.out.rd k (by rw[←HN.out];exact hlt)
   have hc0:=hk4.c0
   have hc1:=hk4.c1
   have hcap:=hk4.bs.len
   have hcap2:=hk4.bs.cap
   have HKL:=Lib.hid (show k<l.length by rw[←HN.out];exact hlt)
   have b1:(0:Int)≤(k:Int):=by omega
   have b2:(k:Int)<(n:Int):=by omega
   have HBAD:=Lib.hid (fun h=>HB.out.symm.trans (isT_bad l k HKL.out h))
   have HOK:=Lib.hid (fun h=>(isT_step l k HKL.out HH.out h).1)
   have HD:=Lib.hid (HBL.out.drew)
   have ha0:=(isT_last HH.out).1
   have hprev: ∀j,j+1=k→wr.cell? (ad.add (j*2))=some (.int .i64 (lastT 0 (l.take k))):=fun j hj=>by
    subst hj
    obtain⟨ad',S',cc',hsome',_,hk5⟩:=HTA.out.rd j (by have:=HKL.out;omega)
    rw[hsome]at hsome'
    cases hsome'
    rw[lastT_at l j (by have:=HKL.out;omega)]
    exact hk5.c0
   have hzero:k=0→lastT 0 (l.take k)=0:=fun h=>by subst h;rfl
   have HPV:=Lib.hid hprev
   have HZ:=Lib.hid hzero
   clear hprev hzero
   subst hsome
   obtain⟨x,hx⟩: ∃x,x=l.getD k TF0:=⟨_,rfl⟩
   obtain⟨a,ha⟩: ∃a,a=lastT 0 (l.take k):=⟨_,rfl⟩
   rw[←hx]at hc0 hc1 hcap HBAD HOK
   rw[←ha]at HBAD HOK HPV HZ ha0
   clear hx ha hk4
   by_cases q1:x.tag<1
   ·have e:=HBAD.out (by rw[←Bool.not_eq_true,okTf_iff];omega)
    have d1:decide (x.tag<1)=true:=decide_eq_true q1
    have HE:=Lib.hid e
    clear e
    go_wp2
    go_quiet (fail)
    go_wp2
    go_ret
    exact⟨by rw[HE.out];rfl,below_drewN HBL.out _⟩
   have d1:decide (x.tag<1)=false:=decide_eq_false q1
   by_cases q2:255<x.tag
   ·have e:=HBAD.out (by rw[←Bool.not_eq_true,okTf_iff];omega)
    have d2:decide (255<x.tag)=true:=decide_eq_true q2
    have HE:=Lib.hid e
    clear e
    go_wp2
    go_quiet (fail)
    go_wp2
    go_ret
    exact⟨by rw[HE.out];rfl,below_drewN HBL.out _⟩
   have d2:decide (255<x.tag)=false:=decide_eq_false q2
   by_cases q3:255<x.val.length
   ·have e:=HBAD.out (by rw[←Bool.not_eq_true,okTf_iff];omega)
    have q4:(255:Int)<(x.val.length:Int):=by omega
    have d3:decide ((255:Int)<(x.val.length:Int))=true:=decide_eq_true q4
    have HE:=Lib.hid e
    clear e
    go_wp2
    go_quiet (fail)
    go_wp2
    go_ret
    exact⟨by rw[HE.out];rfl,below_drewN HBL.out _⟩
   have q4: ¬(255:Int)<(x.val.length:Int):=by omega
   have d3:decide ((255:Int)<(x.val.length:Int))=false:=decide_eq_false q4
   by_cases h0:k=0
   ·have ha:=HZ.out h0
    have HO:=Lib.hid (HOK.out ((okTf_iff _ _ _).2 ⟨by omega,by omega,by omega⟩))
    have b3: ¬(0:Int)<(k:Int):=by omega
    have d4:decide (0<k)=false:=decide_eq_false (by omega)
    clear ha h0
    go_wp2
    go_quiet (fail)
    go_wp2
    go_roundw
    case rel=>exact⟨k+1,by omega,by go_num,HO.out,below_drewN HBL.out _⟩
    case measure=>simp[intOf];omega
   ·obtain⟨j,hj⟩: ∃j,j+1=k:=⟨k - 1,by omega⟩
    have hp:=HPV.out j hj
    have b3:(0:Int)<(k:Int):=by omega
    have d4:decide (0<k)=true:=decide_eq_true (by omega)
    have j1:IntKind.i64.wrap ((k:Int) - 1)=(j:Int):=by rw[IntWalk.i64_in _ (by omega)];omega
    have j2:(0:Int)≤(j:Int):=by omega
    have j3:(j:Int)<(n:Int):=by omega
    clear hj h0
    by_cases q5:x.tag≤a
    ·have e:=HBAD.out (by rw[←Bool.not_eq_true,okTf_iff];omega)
     have d5:decide (x.tag≤a)=true:=decide_eq_true q5
     have HE:=Lib.hid e
     clear e
     go_wp2
     go_quiet (fail)
     go_wp2
     go_ret
     exact⟨by rw[HE.out];rfl,below_drewN HBL.out _⟩
    ·have d5:decide (x.tag≤a)=false:=decide_eq_false q5
     have HO:=Lib.hid (HOK.out ((okTf_iff _ _ _).2 ⟨by omega,by omega,by omega⟩))
     go_wp2
     go_quiet (fail)
     go_wp2
     go_roundw
     case rel=>exact⟨k+1,by omega,by go_num,HO.out,below_drewN HBL.out _⟩
     case measure=>simp[intOf];omega
  ·have e:k=n:=by omega
   have e2:l.take k=l:=List.take_of_length_le (by rw[←HN.out];omega)
   have HE:=Lib.hid (show b=true by rw[←HB.out, ←e2];exact HH.out)
   clear e2
   go_wp2
   go_ret
   exact⟨by rw[HE.out];rfl,HBL.out⟩
end Go.Proofs.YtcnglbliidjnfaaGreatDoor
end
