import Derived.Test.YtcnglbliidjnfaaGreatDoorBarCoded
import Derived.Test.YtcnglbliidjnfaaGreatDoorRingLast
import Derived.Test.YtcnglbliidjnfaaGreatDoorBarPVer0
import Derived.Test.YtcnglbliidjnfaaGreatDoorMem
section
namespace Go.Proofs.YtcnglbliidjnfaaGreatDoor
set_option linter.unusedVariables false
open Go.ChangeShapes Go.WideShapes Go.ChangeAt Go.RowKit
set_option maxRecDepth 100000 in
set_option maxHeartbeats 1600000 in
theorem one19_a (l:List K) (n:Nat) (hn:n=l.length) (hn3:n≤9223372036854775807) (A:Option Addr) (c:Nat) (b:List Nat) (m:Nat) (hm:m=b.length) (hm2:m≤140737488355328) (B:Option Addr) (d:Nat) (E:Nat) (r:Rg) (hE:decB l b=(E,r)) (hbig:bigR l=true) (w:World) (hT:Tabs w) (hA:Ks w w.heap.size A l) (hB:Bs w w.heap.size b B d):Calls Tryz.prog 7 #[.slice A n c, .slice B m d] w fun e w'=>e= .returned (.bool true)∧Below w.heap.size w w':=by
 have HE:=Lib.hid hE
 have HBIG:=Lib.hid hbig
 clear hE hbig
 have HN:=Lib.hid hn
 have HM:=Lib.hid hm
 have HT:=Lib.hid hT
 have HA:=Lib.hid hA
 have HB:=Lib.hid hB
 clear hn hm hT hA hB
 have HBL:=Lib.hid (Below.refl w.heap.size w)
 go_enter Tryz.func7, Tryz.ntmps7
 go_wp2_with fail
 refine(bdec_any l n HN.out hn3 b m HM.out hm2 A c B d E r HE.out w HT.out HA.out HB.out).mono ?_
 rintro e w1 ⟨rfl,hb⟩
 replace HT:=Lib.hid (HT.out.next hb)
 replace HA:=Lib.hid (HA.out.next hb)
 replace HB:=Lib.hid (HB.out.next hb)
 replace HBL:=Lib.hid (HBL.out.trans (hb.mono HBL.out.size))
 clear hb
 go_wp2_with fail
 obtain⟨w2,hw⟩: ∃w2,w2=w1.alloc (.cells #[.int .i64 r.t.ser, .int .i64 r.t.kind, .int .i64 r.t.frm, .int .i64 r.t.till, .int .i64 r.t.cls, .int .i64 r.t.card, .int .i64 r.t.seat, .int .i64 r.t.day, .int .i64 r.t.days, .int .i64 r.t.uses, .int .i64 r.t.epoch, .int .i64 r.key, .int .i64 r.left, .int .i64 r.inn, .int .i64 r.ver] 28):=⟨_,rfl⟩
 rw[←hw]
 have hx:RBox w2 w1.heap.size r:=by rw[hw];exact RBox.new w1 r
 have hb:Below w1.heap.size w1 w2:=by rw[hw];exact below_lit w1 _ _
 replace HT:=Lib.hid (HT.out.next hb)
 replace HA:=Lib.hid (HA.out.next hb)
 replace HB:=Lib.hid (HB.out.next hb)
 replace HBL:=Lib.hid (HBL.out.trans (hb.mono HBL.out.size))
 have X1:=Lib.hid hx
 clear hx hb hw
 obtain⟨B1,hB⟩: ∃B,B=w1.heap.size:=⟨_,rfl⟩
 rw[←hB]at X1⊢
 clear hB
 refine(refbig_named l n HN.out true HBIG.out A c w2 HA.out hn3).mono ?_
 rintro e w3 ⟨rfl,hb⟩
 replace HT:=Lib.hid (HT.out.next hb)
 replace HA:=Lib.hid (HA.out.next hb)
 replace HB:=Lib.hid (HB.out.next hb)
 replace X1:=Lib.hid (X1.out.next hb)
 replace HBL:=Lib.hid (HBL.out.trans (hb.mono HBL.out.size))
 clear hb
 go_wp2_with fail
 refine(coded19_any w3 HT.out).mono ?_
 rintro e w4 ⟨rfl,hb⟩
 replace HT:=Lib.hid (HT.out.next hb)
 replace HA:=Lib.hid (HA.out.next hb)
 replace HB:=Lib.hid (HB.out.next hb)
 replace X1:=Lib.hid (X1.out.next hb)
 replace HBL:=Lib.hid (HBL.out.trans (hb.mono HBL.out.size))
 clear hb
 go_wp2
 go_ret
 exact⟨rfl,HBL.out⟩
set_option maxRecDepth 100000 in
set_option maxHeartbeats 1600000 in
theorem one19_b (l:List K) (n:Nat) (hn:n=l.length) (hn3:n≤9223372036854775807) (A:Option Addr) (c:Nat) (b:List Nat) (m:Nat) (hm:m=b.length) (hm2:m≤140737488355328) (B:Option Addr) (d:Nat) (E:Nat) (r:Rg) (hE:decB l b=(E,r)) (hbig:bigR l=false) (q0:2000<m) (w:World) (hT:Tabs w) (hA:Ks w w.heap.size A l) (hB:Bs w w.heap.size b B d):Calls Tryz.prog 7 #[.slice A n c, .slice B m d] w fun e w'=>e= .returned (.bool true)∧Below w.heap.size w w':=by
 have p0:(2000:Int)<(m:Int):=by omega
 have HE:=Lib.hid hE
 have HBIG:=Lib.hid hbig
 clear hE hbig
 have HN:=Lib.hid hn
 have HM:=Lib.hid hm
 have HT:=Lib.hid hT
 have HA:=Lib.hid hA
 have HB:=Lib.hid hB
 clear hn hm hT hA hB
 have HBL:=Lib.hid (Below.refl w.heap.size w)
 go_enter Tryz.func7, Tryz.ntmps7
 go_wp2_with fail
 refine(bdec_any l n HN.out hn3 b m HM.out hm2 A c B d E r HE.out w HT.out HA.out HB.out).mono ?_
 rintro e w1 ⟨rfl,hb⟩
 replace HT:=Lib.hid (HT.out.next hb)
 replace HA:=Lib.hid (HA.out.next hb)
 replace HB:=Lib.hid (HB.out.next hb)
 replace HBL:=Lib.hid (HBL.out.trans (hb.mono HBL.out.size))
 clear hb
 go_wp2_with fail
 obtain⟨w2,hw⟩: ∃w2,w2=w1.alloc (.cells #[.int .i64 r.t.ser, .int .i64 r.t.kind, .int .i64 r.t.frm, .int .i64 r.t.till, .int .i64 r.t.cls, .int .i64 r.t.card, .int .i64 r.t.seat, .int .i64 r.t.day, .int .i64 r.t.days, .int .i64 r.t.uses, .int .i64 r.t.epoch, .int .i64 r.key, .int .i64 r.left, .int .i64 r.inn, .int .i64 r.ver] 28):=⟨_,rfl⟩
 rw[←hw]
 have hx:RBox w2 w1.heap.size r:=by rw[hw];exact RBox.new w1 r
 have hb:Below w1.heap.size w1 w2:=by rw[hw];exact below_lit w1 _ _
 replace HT:=Lib.hid (HT.out.next hb)
 replace HA:=Lib.hid (HA.out.next hb)
 replace HB:=Lib.hid (HB.out.next hb)
 replace HBL:=Lib.hid (HBL.out.trans (hb.mono HBL.out.size))
 have X1:=Lib.hid hx
 clear hx hb hw
 obtain⟨B1,hB⟩: ∃B,B=w1.heap.size:=⟨_,rfl⟩
 rw[←hB]at X1⊢
 clear hB
 refine(refbig_named l n HN.out false HBIG.out A c w2 HA.out hn3).mono ?_
 rintro e w3 ⟨rfl,hb⟩
 replace HT:=Lib.hid (HT.out.next hb)
 replace HA:=Lib.hid (HA.out.next hb)
 replace HB:=Lib.hid (HB.out.next hb)
 replace X1:=Lib.hid (X1.out.next hb)
 replace HBL:=Lib.hid (HBL.out.trans (hb.mono HBL.out.size))
 clear hb
 go_wp2_with fail
 refine(coded19_any w3 HT.out).mono ?_
 rintro e w4 ⟨rfl,hb⟩
 replace HT:=Lib.hid (HT.out.next hb)
 replace HA:=Lib.hid (HA.out.next hb)
 replace HB:=Lib.hid (HB.out.next hb)
 replace X1:=Lib.hid (X1.out.next hb)
 replace HBL:=Lib.hid (HBL.out.trans (hb.mono HBL.out.size))
 clear hb
 go_wp2
 go_ret
 exact⟨rfl,HBL.out⟩
set_option maxRecDepth 100000 in
set_option maxHeartbeats 1600000 in
theorem one19_c (l:List K) (n:Nat) (hn:n=l.length) (hn3:n≤9223372036854775807) (A:Option Addr) (c:Nat) (b:List Nat) (m:Nat) (hm:m=b.length) (hm2:m≤140737488355328) (B:Option Addr) (d:Nat) (E:Nat) (r:Rg) (hE:decB l b=(E,r)) (hbig:bigR l=false) (q0: ¬2000<m) (h0:E≠0) (w:World) (hT:Tabs w) (hA:Ks w w.heap.size A l) (hB:Bs w w.heap.size b B d):Calls Tryz.prog 7 #[.slice A n c, .slice B m d] w fun e w'=>e= .returned (.bool true)∧Below w.heap.size w w':=by
 have p0: ¬((2000:Int)<(m:Int)):=by omega
 have s1:((E:Int)==0)=false:=by rw[beq_eq_false_iff_ne];omega
 have s2:((E:Int) !=0)=true:=by rw[bne_iff_ne];omega
 have s3:(E==0)=false:=by rw[beq_eq_false_iff_ne];exact h0
 have s4:(E !=0)=true:=by rw[bne_iff_ne];exact h0
 clear h0
 have HE:=Lib.hid hE
 have HBIG:=Lib.hid hbig
 clear hE hbig
 have HN:=Lib.hid hn
 have HM:=Lib.hid hm
 have HT:=Lib.hid hT
 have HA:=Lib.hid hA
 have HB:=Lib.hid hB
 clear hn hm hT hA hB
 have HBL:=Lib.hid (Below.refl w.heap.size w)
 go_enter Tryz.func7, Tryz.ntmps7
 go_wp2_with fail
 refine(bdec_any l n HN.out hn3 b m HM.out hm2 A c B d E r HE.out w HT.out HA.out HB.out).mono ?_
 rintro e w1 ⟨rfl,hb⟩
 replace HT:=Lib.hid (HT.out.next hb)
 replace HA:=Lib.hid (HA.out.next hb)
 replace HB:=Lib.hid (HB.out.next hb)
 replace HBL:=Lib.hid (HBL.out.trans (hb.mono HBL.out.size))
 clear hb
 go_wp2_with fail
 obtain⟨w2,hw⟩: ∃w2,w2=w1.alloc (.cells #[.int .i64 r.t.ser, .int .i64 r.t.kind, .int .i64 r.t.frm, .int .i64 r.t.till, .int .i64 r.t.cls, .int .i64 r.t.card, .int .i64 r.t.seat, .int .i64 r.t.day, .int .i64 r.t.days, .int .i64 r.t.uses, .int .i64 r.t.epoch, .int .i64 r.key, .int .i64 r.left, .int .i64 r.inn, .int .i64 r.ver] 28):=⟨_,rfl⟩
 rw[←hw]
 have hx:RBox w2 w1.heap.size r:=by rw[hw];exact RBox.new w1 r
 have hb:Below w1.heap.size w1 w2:=by rw[hw];exact below_lit w1 _ _
 replace HT:=Lib.hid (HT.out.next hb)
 replace HA:=Lib.hid (HA.out.next hb)
 replace HB:=Lib.hid (HB.out.next hb)
 replace HBL:=Lib.hid (HBL.out.trans (hb.mono HBL.out.size))
 have X1:=Lib.hid hx
 clear hx hb hw
 obtain⟨B1,hB⟩: ∃B,B=w1.heap.size:=⟨_,rfl⟩
 rw[←hB]at X1⊢
 clear hB
 refine(refbig_named l n HN.out false HBIG.out A c w2 HA.out hn3).mono ?_
 rintro e w3 ⟨rfl,hb⟩
 replace HT:=Lib.hid (HT.out.next hb)
 replace HA:=Lib.hid (HA.out.next hb)
 replace HB:=Lib.hid (HB.out.next hb)
 replace X1:=Lib.hid (X1.out.next hb)
 replace HBL:=Lib.hid (HBL.out.trans (hb.mono HBL.out.size))
 clear hb
 go_wp2_with fail
 refine(coded19_any w3 HT.out).mono ?_
 rintro e w4 ⟨rfl,hb⟩
 replace HT:=Lib.hid (HT.out.next hb)
 replace HA:=Lib.hid (HA.out.next hb)
 replace HB:=Lib.hid (HB.out.next hb)
 replace X1:=Lib.hid (X1.out.next hb)
 replace HBL:=Lib.hid (HBL.out.trans (hb.mono HBL.out.size))
 clear hb
 go_wp2
 go_ret
 exact⟨rfl,HBL.out⟩
set_option maxRecDepth 100000 in
set_option maxHeartbeats 1600000 in
theorem one19_d (l:List K) (n:Nat) (hn:n=l.length) (hn3:n≤9223372036854775807) (A:Option Addr) (c:Nat) (b:List Nat) (m:Nat) (hm:m=b.length) (hm2:m≤140737488355328) (B:Option Addr) (d:Nat) (r:Rg) (hE:decB l b=(0,r)) (hbig:bigR l=false) (q0: ¬2000<m) (w:World) (hT:Tabs w) (hA:Ks w w.heap.size A l) (hB:Bs w w.heap.size b B d):Calls Tryz.prog 7 #[.slice A n c, .slice B m d] w fun e w'=>e= .returned (.bool true)∧Below w.heap.size w w':=by
 obtain⟨hX,hV,hv⟩:=decB_enc hE
 have HVV:=Lib.hid (show((r.ver.toNat:Nat):Int)=r.ver by omega)
 have p0: ¬((2000:Int)<(m:Int)):=by omega
 have HE:=Lib.hid hE
 have HBIG:=Lib.hid hbig
 have HX:=Lib.hid hX
 have HV:=Lib.hid hV
 clear hE hbig hX hV
 clear hv
 have HN:=Lib.hid hn
 have HM:=Lib.hid hm
 have HT:=Lib.hid hT
 have HA:=Lib.hid hA
 have HB:=Lib.hid hB
 clear hn hm hT hA hB
 have HBL:=Lib.hid (Below.refl w.heap.size w)
 go_enter Tryz.func7, Tryz.ntmps7
 go_wp2_with fail
 refine(bdec_any l n HN.out hn3 b m HM.out hm2 A c B d 0 r HE.out w HT.out HA.out HB.out).mono ?_
 rintro e w1 ⟨rfl,hb⟩
 replace HT:=Lib.hid (HT.out.next hb)
 replace HA:=Lib.hid (HA.out.next hb)
 replace HB:=Lib.hid (HB.out.next hb)
 replace HBL:=Lib.hid (HBL.out.trans (hb.mono HBL.out.size))
 clear hb
 go_wp2_with fail
 obtain⟨w2,hw⟩: ∃w2,w2=w1.alloc (.cells #[.int .i64 r.t.ser, .int .i64 r.t.kind, .int .i64 r.t.frm, .int .i64 r.t.till, .int .i64 r.t.cls, .int .i64 r.t.card, .int .i64 r.t.seat, .int .i64 r.t.day, .int .i64 r.t.days, .int .i64 r.t.uses, .int .i64 r.t.epoch, .int .i64 r.key, .int .i64 r.left, .int .i64 r.inn, .int .i64 r.ver] 28):=⟨_,rfl⟩
 rw[←hw]
 have hx:RBox w2 w1.heap.size r:=by rw[hw];exact RBox.new w1 r
 have hb:Below w1.heap.size w1 w2:=by rw[hw];exact below_lit w1 _ _
 replace HT:=Lib.hid (HT.out.next hb)
 replace HA:=Lib.hid (HA.out.next hb)
 replace HB:=Lib.hid (HB.out.next hb)
 replace HBL:=Lib.hid (HBL.out.trans (hb.mono HBL.out.size))
 have X1:=Lib.hid hx
 clear hx hb hw
 obtain⟨B1,hB⟩: ∃B,B=w1.heap.size:=⟨_,rfl⟩
 rw[←hB]at X1⊢
 clear hB
 refine(refbig_named l n HN.out false HBIG.out A c w2 HA.out hn3).mono ?_
 rintro e w3 ⟨rfl,hb⟩
 replace HT:=Lib.hid (HT.out.next hb)
 replace HA:=Lib.hid (HA.out.next hb)
 replace HB:=Lib.hid (HB.out.next hb)
 replace X1:=Lib.hid (X1.out.next hb)
 replace HBL:=Lib.hid (HBL.out.trans (hb.mono HBL.out.size))
 clear hb
 obtain⟨c0,c1,c2,c3,c4,c5,c6,c7,c8,c9,c10,c11,c12,c13,c14⟩:=X1.out.cells
 go_wp2_with fail
 refine(benc_any l n HN.out hn3 A c r 0 b HX.out w3 HT.out HA.out).mono ?_
 rintro e w4 ⟨AP1,cP1,rfl,hs,hb⟩
 clear c0 c1 c2 c3 c4 c5 c6 c7 c8 c9 c10 c11 c12 c13 c14
 replace HT:=Lib.hid (HT.out.next hb)
 replace HA:=Lib.hid (HA.out.next hb)
 replace HB:=Lib.hid (HB.out.next hb)
 replace X1:=Lib.hid (X1.out.next hb)
 replace HBL:=Lib.hid (HBL.out.trans (hb.mono HBL.out.size))
 have P1:=Lib.hid hs
 clear hb hs
 go_wp2_with fail
 refine(bver_any b m HM.out hm2 B d 0 r.ver.toNat HV.out w4 HB.out).mono ?_
 rintro e w5 ⟨rfl,hb⟩
 replace HT:=Lib.hid (HT.out.next hb)
 replace HA:=Lib.hid (HA.out.next hb)
 replace HB:=Lib.hid (HB.out.next hb)
 replace X1:=Lib.hid (X1.out.next hb)
 replace P1:=Lib.hid (P1.out.next hb)
 replace HBL:=Lib.hid (HBL.out.trans (hb.mono HBL.out.size))
 clear hb
 rw[HVV.out]
 go_wp2_with fail
 refine(coded19_any w5 HT.out).mono ?_
 rintro e w6 ⟨rfl,hb⟩
 replace HT:=Lib.hid (HT.out.next hb)
 replace HA:=Lib.hid (HA.out.next hb)
 replace HB:=Lib.hid (HB.out.next hb)
 replace X1:=Lib.hid (X1.out.next hb)
 replace P1:=Lib.hid (P1.out.next hb)
 replace HBL:=Lib.hid (HBL.out.trans (hb.mono HBL.out.size))
 clear hb
 go_wp2_with fail
 refine(same_true b m b.length HM.out rfl B AP1 d cP1 w6 HB.out P1.out).mono ?_
 rintro e w7 ⟨rfl,hb⟩
 replace HT:=Lib.hid (HT.out.next hb)
 replace HA:=Lib.hid (HA.out.next hb)
 replace HB:=Lib.hid (HB.out.next hb)
 replace X1:=Lib.hid (X1.out.next hb)
 replace P1:=Lib.hid (P1.out.next hb)
 replace HBL:=Lib.hid (HBL.out.trans (hb.mono HBL.out.size))
 clear hb
 obtain⟨c0,c1,c2,c3,c4,c5,c6,c7,c8,c9,c10,c11,c12,c13,c14⟩:=X1.out.cells
 go_wp2
 go_ret
 exact⟨rfl,HBL.out⟩
set_option maxRecDepth 100000 in
set_option maxHeartbeats 1600000 in
theorem one19_any (l:List K) (n:Nat) (hn:n=l.length) (hn3:n≤9223372036854775807) (A:Option Addr) (c:Nat) (b:List Nat) (m:Nat) (hm:m=b.length) (hm2:m≤140737488355328) (B:Option Addr) (d:Nat) (w:World) (hT:Tabs w) (hA:Ks w w.heap.size A l) (hB:Bs w w.heap.size b B d):Calls Tryz.prog 7 #[.slice A n c, .slice B m d] w fun e w'=>e= .returned (.bool true)∧Below w.heap.size w w':=by
 cases hbig:bigR l
 ·by_cases q0:2000<m
  ·exact one19_b l n hn hn3 A c b m hm hm2 B d _ _ rfl hbig q0 w hT hA hB
  ·by_cases h0:(decB l b).1=0
   ·have hE:decB l b=(0,(decB l b).2):=by rw[←h0]
    exact one19_d l n hn hn3 A c b m hm hm2 B d _ hE hbig q0 w hT hA hB
   ·exact one19_c l n hn hn3 A c b m hm hm2 B d _ _ rfl hbig q0 h0 w hT hA hB
 ·exact one19_a l n hn hn3 A c b m hm hm2 B d _ _ rfl hbig w hT hA hB
end Go.Proofs.YtcnglbliidjnfaaGreatDoor
end
section
namespace Go.Proofs.YtcnglbliidjnfaaGreatDoor
set_option linter.unusedVariables false
open Go.ChangeShapes Go.WideShapes Go.ChangeAt Go.RowKit
theorem bytesU8: Tryz.prog.bytesOf 5 =1:=by kernel_rfl
end Go.Proofs.YtcnglbliidjnfaaGreatDoor
end
