import Derived.Test.YtcnglbliidjnfaaGreatDoorBarCoded
import Derived.Test.YtcnglbliidjnfaaGreatDoorMacRefBlock
import Derived.Test.YtcnglbliidjnfaaGreatDoorBarPVer0
namespace Go.Proofs.YtcnglbliidjnfaaGreatDoor
set_option linter.unusedVariables false
open Go.ChangeShapes Go.WideShapes Go.ChangeAt Go.RowKit
set_option maxRecDepth 100000 in
set_option maxHeartbeats 1600000 in
theorem tags19_any (s:List Nat) (n:Nat) (hn:n=s.length) (A:Option Addr) (c:Nat) (t:List Nat) (m:Nat) (hm:m=t.length) (B:Option Addr) (d:Nat) (w:World) (hT:Tabs w) (hA:Bs w w.heap.size s A c) (hB:Bs w w.heap.size t B d):Calls Tryz.prog 5 #[.slice A n c, .slice B m d] w fun e w'=>e= .returned (.bool true)∧Below w.heap.size w w':=by
 have h1:=hA.len
 have h2:=hA.cap
 have h3:=hB.len
 have h4:=hB.cap
 have hn3:n≤9223372036854775807:=by omega
 have hm3:m≤9223372036854775807:=by omega
 clear h1 h2 h3 h4
 obtain⟨F,hF⟩: ∃F:Array Value,F=(U8 (tagB s t)).toArray:=⟨_,rfl⟩
 have HEQ:=Lib.hid (eq_arr32 hF (tagB_len s t))
 have HN:=Lib.hid hn
 have HM:=Lib.hid hm
 have HT:=Lib.hid hT
 have HA:=Lib.hid hA
 have HB:=Lib.hid hB
 have HF:=Lib.hid hF
 clear hn hm hT hA hB hF
 have HBL:=Lib.hid (Below.refl w.heap.size w)
 by_cases qn:1000<n
 ·have pn:(1000:Int)<(n:Int):=by omega
  go_enter Tryz.func5, Tryz.ntmps5
  go_wp2
  go_ret
  exact⟨rfl,HBL.out⟩
 have pn: ¬((1000:Int)<(n:Int)):=by omega
 by_cases qm:1000<m
 ·have pm:(1000:Int)<(m:Int):=by omega
  go_enter Tryz.func5, Tryz.ntmps5
  go_wp2
  go_ret
  exact⟨rfl,HBL.out⟩
 have pm: ¬((1000:Int)<(m:Int)):=by omega
 go_enter Tryz.func5, Tryz.ntmps5
 go_wp2_with fail
 refine(coded19_any w HT.out).mono ?_
 rintro e w1 ⟨rfl,hb⟩
 replace HT:=Lib.hid (HT.out.next hb)
 replace HA:=Lib.hid (HA.out.next hb)
 replace HB:=Lib.hid (HB.out.next hb)
 replace HBL:=Lib.hid (HBL.out.trans (hb.mono HBL.out.size))
 clear hb
 go_wp2_with fail
 refine(btag_any s t n m HN.out HM.out A B c d w1 HT.out HA.out HB.out (by omega) (by omega) F HF.out).mono ?_
 rintro e w2 ⟨rfl,hb⟩
 replace HT:=Lib.hid (HT.out.next hb)
 replace HA:=Lib.hid (HA.out.next hb)
 replace HB:=Lib.hid (HB.out.next hb)
 replace HBL:=Lib.hid (HBL.out.trans (hb.mono HBL.out.size))
 clear hb
 go_wp2_with fail
 refine(rbtag_any s t n m HN.out HM.out A B c d w2 HA.out HB.out (by omega) (by omega) F HF.out).mono ?_
 rintro e w3 ⟨rfl,hb⟩
 replace HT:=Lib.hid (HT.out.next hb)
 replace HA:=Lib.hid (HA.out.next hb)
 replace HB:=Lib.hid (HB.out.next hb)
 replace HBL:=Lib.hid (HBL.out.trans (hb.mono HBL.out.size))
 clear hb
 have heq:=HEQ.out
 go_wp2
 go_ret
 exact⟨rfl,HBL.out⟩
end Go.Proofs.YtcnglbliidjnfaaGreatDoor
