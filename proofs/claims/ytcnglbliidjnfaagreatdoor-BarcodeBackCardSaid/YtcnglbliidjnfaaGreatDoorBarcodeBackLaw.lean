import Derived.Test.YtcnglbliidjnfaaGreatDoorBarCoded
import Derived.Test.YtcnglbliidjnfaaGreatDoorRingLast
namespace Go.Proofs.YtcnglbliidjnfaaGreatDoor
set_option linter.unusedVariables false
open Go.ChangeShapes Go.WideShapes Go.ChangeAt Go.RowKit
set_option maxRecDepth 100000 in
set_option maxHeartbeats 1600000 in
theorem back19_a (l:List K) (n:Nat) (hn:n=l.length) (hn3:n≤9223372036854775807) (A:Option Addr) (c:Nat) (r:Rg) (E:Nat) (p:List Nat) (hE:ecB l r=(E,p)) (h0:E≠0) (hbig:bigR l=true) (w:World) (hT:Tabs w) (hA:Ks w w.heap.size A l):Calls Tryz.prog 6 #[.slice A n c, .agg #[.int .i64 r.t.ser, .int .i64 r.t.kind, .int .i64 r.t.frm, .int .i64 r.t.till, .int .i64 r.t.cls, .int .i64 r.t.card, .int .i64 r.t.seat, .int .i64 r.t.day, .int .i64 r.t.days, .int .i64 r.t.uses, .int .i64 r.t.epoch, .int .i64 r.key, .int .i64 r.left, .int .i64 r.inn, .int .i64 r.ver]] w fun e w'=>e= .returned (.bool true)∧Below w.heap.size w w':=by
 have s1:((E:Int)==0)=false:=by rw[beq_eq_false_iff_ne];omega
 have s2:((E:Int) !=0)=true:=by rw[bne_iff_ne];omega
 have s3:(E==0)=false:=by rw[beq_eq_false_iff_ne];exact h0
 have s4:(E !=0)=true:=by rw[bne_iff_ne];exact h0
 clear h0
 have HE:=Lib.hid hE
 have HBIG:=Lib.hid hbig
 clear hE hbig
 have HN:=Lib.hid hn
 have HT:=Lib.hid hT
 have HA:=Lib.hid hA
 clear hn hT hA
 have HBL:=Lib.hid (Below.refl w.heap.size w)
 go_enter Tryz.func6, Tryz.ntmps6
 go_wp2_with fail
 obtain⟨w1,hw⟩: ∃w1,w1=w.alloc (.cells #[.int .i64 r.t.ser, .int .i64 r.t.kind, .int .i64 r.t.frm, .int .i64 r.t.till, .int .i64 r.t.cls, .int .i64 r.t.card, .int .i64 r.t.seat, .int .i64 r.t.day, .int .i64 r.t.days, .int .i64 r.t.uses, .int .i64 r.t.epoch, .int .i64 r.key, .int .i64 r.left, .int .i64 r.inn, .int .i64 r.ver] 28):=⟨_,rfl⟩
 rw[←hw]
 have hx:RBox w1 w.heap.size r:=by rw[hw];exact RBox.new w r
 have hb:Below w.heap.size w w1:=by rw[hw];exact below_lit w _ _
 replace HT:=Lib.hid (HT.out.next hb)
 replace HA:=Lib.hid (HA.out.next hb)
 replace HBL:=Lib.hid (HBL.out.trans (hb.mono HBL.out.size))
 have X1:=Lib.hid hx
 clear hx hb hw
 obtain⟨B1,hB⟩: ∃B,B=w.heap.size:=⟨_,rfl⟩
 rw[←hB]at X1⊢
 clear hB
 refine(benc_any l n HN.out hn3 A c r E p HE.out w1 HT.out HA.out).mono ?_
 rintro e w2 ⟨AP1,cP1,rfl,hs,hb⟩
 replace HT:=Lib.hid (HT.out.next hb)
 replace HA:=Lib.hid (HA.out.next hb)
 replace X1:=Lib.hid (X1.out.next hb)
 replace HBL:=Lib.hid (HBL.out.trans (hb.mono HBL.out.size))
 have P1:=Lib.hid hs
 clear hb hs
 go_wp2_with fail
 refine(refbig_named l n HN.out true HBIG.out A c w2 HA.out hn3).mono ?_
 rintro e w3 ⟨rfl,hb⟩
 replace HT:=Lib.hid (HT.out.next hb)
 replace HA:=Lib.hid (HA.out.next hb)
 replace X1:=Lib.hid (X1.out.next hb)
 replace P1:=Lib.hid (P1.out.next hb)
 replace HBL:=Lib.hid (HBL.out.trans (hb.mono HBL.out.size))
 clear hb
 go_wp2_with fail
 refine(coded19_any w3 HT.out).mono ?_
 rintro e w4 ⟨rfl,hb⟩
 replace HT:=Lib.hid (HT.out.next hb)
 replace HA:=Lib.hid (HA.out.next hb)
 replace X1:=Lib.hid (X1.out.next hb)
 replace P1:=Lib.hid (P1.out.next hb)
 replace HBL:=Lib.hid (HBL.out.trans (hb.mono HBL.out.size))
 clear hb
 go_wp2
 go_ret
 exact⟨rfl,HBL.out⟩
set_option maxRecDepth 100000 in
set_option maxHeartbeats 1600000 in
theorem back19_b (l:List K) (n:Nat) (hn:n=l.length) (hn3:n≤9223372036854775807) (A:Option Addr) (c:Nat) (r:Rg) (E:Nat) (p:List Nat) (hE:ecB l r=(E,p)) (h0:E≠0) (hbig:bigR l=false) (w:World) (hT:Tabs w) (hA:Ks w w.heap.size A l):Calls Tryz.prog 6 #[.slice A n c, .agg #[.int .i64 r.t.ser, .int .i64 r.t.kind, .int .i64 r.t.frm, .int .i64 r.t.till, .int .i64 r.t.cls, .int .i64 r.t.card, .int .i64 r.t.seat, .int .i64 r.t.day, .int .i64 r.t.days, .int .i64 r.t.uses, .int .i64 r.t.epoch, .int .i64 r.key, .int .i64 r.left, .int .i64 r.inn, .int .i64 r.ver]] w fun e w'=>e= .returned (.bool true)∧Below w.heap.size w w':=by
 have s1:((E:Int)==0)=false:=by rw[beq_eq_false_iff_ne];omega
 have s2:((E:Int) !=0)=true:=by rw[bne_iff_ne];omega
 have s3:(E==0)=false:=by rw[beq_eq_false_iff_ne];exact h0
 have s4:(E !=0)=true:=by rw[bne_iff_ne];exact h0
 clear h0
 have HE:=Lib.hid hE
 have HBIG:=Lib.hid hbig
 clear hE hbig
 have HN:=Lib.hid hn
 have HT:=Lib.hid hT
 have HA:=Lib.hid hA
 clear hn hT hA
 have HBL:=Lib.hid (Below.refl w.heap.size w)
 go_enter Tryz.func6, Tryz.ntmps6
 go_wp2_with fail
 obtain⟨w1,hw⟩: ∃w1,w1=w.alloc (.cells #[.int .i64 r.t.ser, .int .i64 r.t.kind, .int .i64 r.t.frm, .int .i64 r.t.till, .int .i64 r.t.cls, .int .i64 r.t.card, .int .i64 r.t.seat, .int .i64 r.t.day, .int .i64 r.t.days, .int .i64 r.t.uses, .int .i64 r.t.epoch, .int .i64 r.key, .int .i64 r.left, .int .i64 r.inn, .int .i64 r.ver] 28):=⟨_,rfl⟩
 rw[←hw]
 have hx:RBox w1 w.heap.size r:=by rw[hw];exact RBox.new w r
 have hb:Below w.heap.size w w1:=by rw[hw];exact below_lit w _ _
 replace HT:=Lib.hid (HT.out.next hb)
 replace HA:=Lib.hid (HA.out.next hb)
 replace HBL:=Lib.hid (HBL.out.trans (hb.mono HBL.out.size))
 have X1:=Lib.hid hx
 clear hx hb hw
 obtain⟨B1,hB⟩: ∃B,B=w.heap.size:=⟨_,rfl⟩
 rw[←hB]at X1⊢
 clear hB
 refine(benc_any l n HN.out hn3 A c r E p HE.out w1 HT.out HA.out).mono ?_
 rintro e w2 ⟨AP1,cP1,rfl,hs,hb⟩
 replace HT:=Lib.hid (HT.out.next hb)
 replace HA:=Lib.hid (HA.out.next hb)
 replace X1:=Lib.hid (X1.out.next hb)
 replace HBL:=Lib.hid (HBL.out.trans (hb.mono HBL.out.size))
 have P1:=Lib.hid hs
 clear hb hs
 go_wp2_with fail
 refine(refbig_named l n HN.out false HBIG.out A c w2 HA.out hn3).mono ?_
 rintro e w3 ⟨rfl,hb⟩
 replace HT:=Lib.hid (HT.out.next hb)
 replace HA:=Lib.hid (HA.out.next hb)
 replace X1:=Lib.hid (X1.out.next hb)
 replace P1:=Lib.hid (P1.out.next hb)
 replace HBL:=Lib.hid (HBL.out.trans (hb.mono HBL.out.size))
 clear hb
 go_wp2_with fail
 refine(coded19_any w3 HT.out).mono ?_
 rintro e w4 ⟨rfl,hb⟩
 replace HT:=Lib.hid (HT.out.next hb)
 replace HA:=Lib.hid (HA.out.next hb)
 replace X1:=Lib.hid (X1.out.next hb)
 replace P1:=Lib.hid (P1.out.next hb)
 replace HBL:=Lib.hid (HBL.out.trans (hb.mono HBL.out.size))
 clear hb
 go_wp2
 go_ret
 exact⟨rfl,HBL.out⟩
set_option maxRecDepth 100000 in
set_option maxHeartbeats 1600000 in
theorem back19_c (l:List K) (n:Nat) (hn:n=l.length) (hn3:n≤9223372036854775807) (A:Option Addr) (c:Nat) (r:Rg) (p:List Nat) (hE:ecB l r=(0,p)) (hbig:bigR l=true) (w:World) (hT:Tabs w) (hA:Ks w w.heap.size A l):Calls Tryz.prog 6 #[.slice A n c, .agg #[.int .i64 r.t.ser, .int .i64 r.t.kind, .int .i64 r.t.frm, .int .i64 r.t.till, .int .i64 r.t.cls, .int .i64 r.t.card, .int .i64 r.t.seat, .int .i64 r.t.day, .int .i64 r.t.days, .int .i64 r.t.uses, .int .i64 r.t.epoch, .int .i64 r.key, .int .i64 r.left, .int .i64 r.inn, .int .i64 r.ver]] w fun e w'=>e= .returned (.bool true)∧Below w.heap.size w w':=by
 have HE:=Lib.hid hE
 have HBIG:=Lib.hid hbig
 clear hE hbig
 have HN:=Lib.hid hn
 have HT:=Lib.hid hT
 have HA:=Lib.hid hA
 clear hn hT hA
 have HBL:=Lib.hid (Below.refl w.heap.size w)
 go_enter Tryz.func6, Tryz.ntmps6
 go_wp2_with fail
 obtain⟨w1,hw⟩: ∃w1,w1=w.alloc (.cells #[.int .i64 r.t.ser, .int .i64 r.t.kind, .int .i64 r.t.frm, .int .i64 r.t.till, .int .i64 r.t.cls, .int .i64 r.t.card, .int .i64 r.t.seat, .int .i64 r.t.day, .int .i64 r.t.days, .int .i64 r.t.uses, .int .i64 r.t.epoch, .int .i64 r.key, .int .i64 r.left, .int .i64 r.inn, .int .i64 r.ver] 28):=⟨_,rfl⟩
 rw[←hw]
 have hx:RBox w1 w.heap.size r:=by rw[hw];exact RBox.new w r
 have hb:Below w.heap.size w w1:=by rw[hw];exact below_lit w _ _
 replace HT:=Lib.hid (HT.out.next hb)
 replace HA:=Lib.hid (HA.out.next hb)
 replace HBL:=Lib.hid (HBL.out.trans (hb.mono HBL.out.size))
 have X1:=Lib.hid hx
 clear hx hb hw
 obtain⟨B1,hB⟩: ∃B,B=w.heap.size:=⟨_,rfl⟩
 rw[←hB]at X1⊢
 clear hB
 refine(benc_any l n HN.out hn3 A c r 0 p HE.out w1 HT.out HA.out).mono ?_
 rintro e w2 ⟨AP1,cP1,rfl,hs,hb⟩
 replace HT:=Lib.hid (HT.out.next hb)
 replace HA:=Lib.hid (HA.out.next hb)
 replace X1:=Lib.hid (X1.out.next hb)
 replace HBL:=Lib.hid (HBL.out.trans (hb.mono HBL.out.size))
 have P1:=Lib.hid hs
 clear hb hs
 go_wp2_with fail
 refine(refbig_named l n HN.out true HBIG.out A c w2 HA.out hn3).mono ?_
 rintro e w3 ⟨rfl,hb⟩
 replace HT:=Lib.hid (HT.out.next hb)
 replace HA:=Lib.hid (HA.out.next hb)
 replace X1:=Lib.hid (X1.out.next hb)
 replace P1:=Lib.hid (P1.out.next hb)
 replace HBL:=Lib.hid (HBL.out.trans (hb.mono HBL.out.size))
 clear hb
 go_wp2_with fail
 refine(coded19_any w3 HT.out).mono ?_
 rintro e w4 ⟨rfl,hb⟩
 replace HT:=Lib.hid (HT.out.next hb)
 replace HA:=Lib.hid (HA.out.next hb)
 replace X1:=Lib.hid (X1.out.next hb)
 replace P1:=Lib.hid (P1.out.next hb)
 replace HBL:=Lib.hid (HBL.out.trans (hb.mono HBL.out.size))
 clear hb
 go_wp2
 go_ret
 exact⟨rfl,HBL.out⟩
set_option maxRecDepth 100000 in
set_option maxHeartbeats 1600000 in
theorem back19_d (l:List K) (n:Nat) (hn:n=l.length) (hn3:n≤9223372036854775807) (A:Option Addr) (c:Nat) (r:Rg) (p:List Nat) (hE:ecB l r=(0,p)) (hbig:bigR l=false) (w:World) (hT:Tabs w) (hA:Ks w w.heap.size A l):Calls Tryz.prog 6 #[.slice A n c, .agg #[.int .i64 r.t.ser, .int .i64 r.t.kind, .int .i64 r.t.frm, .int .i64 r.t.till, .int .i64 r.t.cls, .int .i64 r.t.card, .int .i64 r.t.seat, .int .i64 r.t.day, .int .i64 r.t.days, .int .i64 r.t.uses, .int .i64 r.t.epoch, .int .i64 r.key, .int .i64 r.left, .int .i64 r.inn, .int .i64 r.ver]] w fun e w'=>e= .returned (.bool true)∧Below w.heap.size w w':=by
 obtain⟨hD,hV,hv,hlt,h224⟩:=ecB_back hE
 have HVV:=Lib.hid (show((r.ver.toNat:Nat):Int)=r.ver by omega)
 have HE:=Lib.hid hE
 have HBIG:=Lib.hid hbig
 have HD:=Lib.hid hD
 have HV:=Lib.hid hV
 have H224:=Lib.hid h224
 clear hE hbig hD hV h224
 clear hv hlt
 have HN:=Lib.hid hn
 have HT:=Lib.hid hT
 have HA:=Lib.hid hA
 clear hn hT hA
 have HBL:=Lib.hid (Below.refl w.heap.size w)
 go_enter Tryz.func6, Tryz.ntmps6
 go_wp2_with fail
 obtain⟨w1,hw⟩: ∃w1,w1=w.alloc (.cells #[.int .i64 r.t.ser, .int .i64 r.t.kind, .int .i64 r.t.frm, .int .i64 r.t.till, .int .i64 r.t.cls, .int .i64 r.t.card, .int .i64 r.t.seat, .int .i64 r.t.day, .int .i64 r.t.days, .int .i64 r.t.uses, .int .i64 r.t.epoch, .int .i64 r.key, .int .i64 r.left, .int .i64 r.inn, .int .i64 r.ver] 28):=⟨_,rfl⟩
 rw[←hw]
 have hx:RBox w1 w.heap.size r:=by rw[hw];exact RBox.new w r
 have hb:Below w.heap.size w w1:=by rw[hw];exact below_lit w _ _
 replace HT:=Lib.hid (HT.out.next hb)
 replace HA:=Lib.hid (HA.out.next hb)
 replace HBL:=Lib.hid (HBL.out.trans (hb.mono HBL.out.size))
 have X1:=Lib.hid hx
 clear hx hb hw
 obtain⟨B1,hB⟩: ∃B,B=w.heap.size:=⟨_,rfl⟩
 rw[←hB]at X1⊢
 clear hB
 refine(benc_any l n HN.out hn3 A c r 0 p HE.out w1 HT.out HA.out).mono ?_
 rintro e w2 ⟨AP1,cP1,rfl,hs,hb⟩
 replace HT:=Lib.hid (HT.out.next hb)
 replace HA:=Lib.hid (HA.out.next hb)
 replace X1:=Lib.hid (X1.out.next hb)
 replace HBL:=Lib.hid (HBL.out.trans (hb.mono HBL.out.size))
 have P1:=Lib.hid hs
 clear hb hs
 go_wp2_with fail
 refine(refbig_named l n HN.out false HBIG.out A c w2 HA.out hn3).mono ?_
 rintro e w3 ⟨rfl,hb⟩
 replace HT:=Lib.hid (HT.out.next hb)
 replace HA:=Lib.hid (HA.out.next hb)
 replace X1:=Lib.hid (X1.out.next hb)
 replace P1:=Lib.hid (P1.out.next hb)
 replace HBL:=Lib.hid (HBL.out.trans (hb.mono HBL.out.size))
 clear hb
 go_wp2_with fail
 refine(bdec_any l n HN.out hn3 p p.length rfl (by have:=H224.out;omega) A c AP1 cP1 0 r HD.out w3 HT.out HA.out P1.out).mono ?_
 rintro e w4 ⟨rfl,hb⟩
 replace HT:=Lib.hid (HT.out.next hb)
 replace HA:=Lib.hid (HA.out.next hb)
 replace X1:=Lib.hid (X1.out.next hb)
 replace P1:=Lib.hid (P1.out.next hb)
 replace HBL:=Lib.hid (HBL.out.trans (hb.mono HBL.out.size))
 clear hb
 go_wp2_with fail
 obtain⟨w5,hw⟩: ∃w5,w5=w4.alloc (.cells #[.int .i64 r.t.ser, .int .i64 r.t.kind, .int .i64 r.t.frm, .int .i64 r.t.till, .int .i64 r.t.cls, .int .i64 r.t.card, .int .i64 r.t.seat, .int .i64 r.t.day, .int .i64 r.t.days, .int .i64 r.t.uses, .int .i64 r.t.epoch, .int .i64 r.key, .int .i64 r.left, .int .i64 r.inn, .int .i64 r.ver] 28):=⟨_,rfl⟩
 rw[←hw]
 have hx:RBox w5 w4.heap.size r:=by rw[hw];exact RBox.new w4 r
 have hb:Below w4.heap.size w4 w5:=by rw[hw];exact below_lit w4 _ _
 replace HT:=Lib.hid (HT.out.next hb)
 replace HA:=Lib.hid (HA.out.next hb)
 replace X1:=Lib.hid (X1.out.next hb)
 replace P1:=Lib.hid (P1.out.next hb)
 replace HBL:=Lib.hid (HBL.out.trans (hb.mono HBL.out.size))
 have X2:=Lib.hid hx
 clear hx hb hw
 obtain⟨B2,hB⟩: ∃B,B=w4.heap.size:=⟨_,rfl⟩
 rw[←hB]at X2⊢
 clear hB
 refine(bver_any p p.length rfl (by have:=H224.out;omega) AP1 cP1 0 r.ver.toNat HV.out w5 P1.out).mono ?_
 rintro e w6 ⟨rfl,hb⟩
 replace HT:=Lib.hid (HT.out.next hb)
 replace HA:=Lib.hid (HA.out.next hb)
 replace X1:=Lib.hid (X1.out.next hb)
 replace P1:=Lib.hid (P1.out.next hb)
 replace X2:=Lib.hid (X2.out.next hb)
 replace HBL:=Lib.hid (HBL.out.trans (hb.mono HBL.out.size))
 clear hb
 rw[HVV.out]
 go_wp2_with fail
 refine(coded19_any w6 HT.out).mono ?_
 rintro e w7 ⟨rfl,hb⟩
 replace HT:=Lib.hid (HT.out.next hb)
 replace HA:=Lib.hid (HA.out.next hb)
 replace X1:=Lib.hid (X1.out.next hb)
 replace P1:=Lib.hid (P1.out.next hb)
 replace X2:=Lib.hid (X2.out.next hb)
 replace HBL:=Lib.hid (HBL.out.trans (hb.mono HBL.out.size))
 clear hb
 obtain⟨c0,c1,c2,c3,c4,c5,c6,c7,c8,c9,c10,c11,c12,c13,c14⟩:=X2.out.cells
 obtain⟨k0,k1,k2,k3,k4,k5,k6,k7,k8,k9,k10,k11,k12,k13,k14⟩:=X1.out.cells
 have heq:=read_eq r r
 rw[rgB_self]at heq
 go_wp2
 go_ret
 exact⟨rfl,HBL.out⟩
set_option maxRecDepth 100000 in
set_option maxHeartbeats 1600000 in
theorem back19_any (l:List K) (n:Nat) (hn:n=l.length) (hn3:n≤9223372036854775807) (A:Option Addr) (c:Nat) (r:Rg) (w:World) (hT:Tabs w) (hA:Ks w w.heap.size A l):Calls Tryz.prog 6 #[.slice A n c, .agg #[.int .i64 r.t.ser, .int .i64 r.t.kind, .int .i64 r.t.frm, .int .i64 r.t.till, .int .i64 r.t.cls, .int .i64 r.t.card, .int .i64 r.t.seat, .int .i64 r.t.day, .int .i64 r.t.days, .int .i64 r.t.uses, .int .i64 r.t.epoch, .int .i64 r.key, .int .i64 r.left, .int .i64 r.inn, .int .i64 r.ver]] w fun e w'=>e= .returned (.bool true)∧Below w.heap.size w w':=by
 by_cases h0:(ecB l r).1=0
 ·have hE:ecB l r=(0,(ecB l r).2):=by rw[←h0]
  cases hbig:bigR l
  ·exact back19_d l n hn hn3 A c r _ hE hbig w hT hA
  ·exact back19_c l n hn hn3 A c r _ hE hbig w hT hA
 ·cases hbig:bigR l
  ·exact back19_b l n hn hn3 A c r _ _ rfl h0 hbig w hT hA
  ·exact back19_a l n hn hn3 A c r _ _ rfl h0 hbig w hT hA
end Go.Proofs.YtcnglbliidjnfaaGreatDoor
