import Derived.Test.YtmdbfogjfbbpjaaGreatDoorFieldsPGet
import Derived.Test.YtmdbfogjfbbpjaaGreatDoorFortyPPut
import Derived.Test.YtmdbfogjfbbpjaaGreatDoorRingAddMath
import Derived.Test.YtmdbfogjfbbpjaaGreatDoorShaRefSum
import Derived.Test.YtmdbfogjfbbpjaaGreatDoorMem
import Derived.Test.YtmdbfogjfbbpjaaGreatDoorLayPFields
import Derived.Test.YtmdbfogjfbbpjaaGreatDoorTie
import Derived.Test.YtmdbfogjfbbpjaaGreatDoorCards
import Derived.Test.YtmdbfogjfbbpjaaGreatDoorRingPFind
import Derived.LaidMore
import Derived.Lib.LaidTab
import Derived.Stop.Joined
import Derived.Stop.LaidErr
set_option maxHeartbeats 1600000
set_option maxRecDepth 100000
set_option linter.unusedVariables false
section
namespace Go.Proofs.YtmdbfogjfbbpjaaGreatDoor
open Go.ChangeShapes Go.WideShapes Go.ChangeAt Go.RowKit
theorem lI (w:World):Calls Tryz.prog 26 #[] w fun e w'=> ∃g,e= .returned (.tuple #[.slice (some ⟨g,0,none⟩) 2 2, .agg #[.int .i64 ar.t.ser, .int .i64 ar.t.kind, .int .i64 ar.t.frm, .int .i64 ar.t.till, .int .i64 ar.t.cls, .int .i64 ar.t.card, .int .i64 ar.t.seat, .int .i64 ar.t.day, .int .i64 ar.t.days, .int .i64 ar.t.uses, .int .i64 ar.t.epoch, .int .i64 ar.key, .int .i64 ar.left, .int .i64 ar.inn, .int .i64 ar.ver]])∧Ks w' w'.heap.size (some ⟨g,0,none⟩) aK∧Below w.heap.size w w':=by
 have HBL:=Lib.hid (Below.refl w.heap.size w)
 go_enter Tryz.func26, Tryz.ntmps26
 go_wp2
 obtain⟨w0,hw0⟩: ∃w0,w0=w.alloc (.cells #[.int .i64 42, .int .i64 1, .int .i64 3, .int .i64 20, .int .i64 2, .int .i64 1, .int .i64 0, .int .i64 10, .int .i64 1, .int .i64 1, .int .i64 0, .int .i64 5, .int .i64 1, .int .i64 0, .int .i64 0] 39):=⟨_,rfl⟩
 have e1:w.heap.size+1=w0.heap.size:=by rw[hw0];simp
 rw[←hw0,e1]
 obtain⟨wa,hwa⟩: ∃wa,wa=w0:=⟨_,rfl⟩
 rw[←hwa]
 obtain⟨wb,hwb⟩: ∃wb,wb=wa.alloc (.cells #[.int .u8 1, .int .u8 2, .int .u8 3] 5):=⟨_,rfl⟩
 have e2:wa.heap.size+1=wb.heap.size:=by rw[hwb];simp
 rw[←hwb,e2]
 have hS:Bs wb wb.heap.size [1,2,3] (some ⟨wa.heap.size,0,none⟩) 3:=by rw[hwb];exact Acr wa _ [1,2,3] 3 rfl rfl (by omega) (by decide)
 obtain⟨wc,hwc⟩: ∃wc,wc=wb.alloc (.cells #[.int .u8 9] 5):=⟨_,rfl⟩
 have e3:wb.heap.size+1=wc.heap.size:=by rw[hwc];simp
 rw[←hwc,e3]
 have hS2:Bs wc wc.heap.size [9] (some ⟨wb.heap.size,0,none⟩) 1:=by rw[hwc];exact Acr wb _ [9] 1 rfl rfl (by omega) (by decide)
 have b3:Below wb.heap.size wb wc:=by rw[hwc];exact Aa wb _ _
 have hS1:=hS.next b3
 obtain⟨wd,hwd⟩: ∃wd,wd=wc.alloc (.cells #[.int .i64 5, .slice (some ⟨wa.heap.size,0,none⟩) 3 3, .int .i64 0, .int .i64 99, .int .i64 6, .slice (some ⟨wb.heap.size,0,none⟩) 1 1, .int .i64 0, .int .i64 99] 44):=⟨_,rfl⟩
 rw[←hwd]
 have hK:Ks wd wd.heap.size (some ⟨wc.heap.size,0,none⟩) aK:=by rw[hwd];exact AeK wc [⟨ak5,some ⟨wa.heap.size,0,none⟩,3⟩,⟨ak6,some ⟨wb.heap.size,0,none⟩,1⟩] #[.int .i64 5, .slice (some ⟨wa.heap.size,0,none⟩) 3 3, .int .i64 0, .int .i64 99, .int .i64 6, .slice (some ⟨wb.heap.size,0,none⟩) 1 1, .int .i64 0, .int .i64 99] 2 rfl rfl (by omega) (by intro q hq;simp only[List.mem_cons,List.not_mem_nil,or_false]at hq;rcases hq with rfl|rfl;exact hS1;exact hS2)
 have e0:w0.heap.size=wa.heap.size:=by rw[hwa]
 have b1:Below w.heap.size w wa:=by rw[hwa,hw0];exact Aa w _ _
 have b2:Below wa.heap.size wa wb:=by rw[hwb];exact Aa wa _ _
 have b4:Below wc.heap.size wc wd:=by rw[hwd];exact Aa wc _ _
 have hR:wd.heap[w.heap.size]?=some (.cells #[.int .i64 42, .int .i64 1, .int .i64 3, .int .i64 20, .int .i64 2, .int .i64 1, .int .i64 0, .int .i64 10, .int .i64 1, .int .i64 1, .int .i64 0, .int .i64 5, .int .i64 1, .int .i64 0, .int .i64 0] 39 (0,0)):=by rw[hwd,heap_alloc_old _ _ (by omega),hwc,heap_alloc_old _ _ (by omega),hwb,heap_alloc_old _ _ (by omega),hwa,hw0];exact heap_alloc_new w _
 exact bodyPost_ret (mG Tryz.results26 _ wd w.heap.size #[.int .i64 42, .int .i64 1, .int .i64 3, .int .i64 20, .int .i64 2, .int .i64 1, .int .i64 0, .int .i64 10, .int .i64 1, .int .i64 1, .int .i64 0, .int .i64 5, .int .i64 1, .int .i64 0, .int .i64 0] _ rfl hR Ai) rfl ⟨wc.heap.size,rfl,hK,b1.trans ((b2.trans ((b3.trans (b4.mono b3.size)).mono b2.size)).mono b1.size)⟩
theorem Az (C:XC) (w:World) (hT:Cx w):Calls Tryz.prog 11 #[] w fun e w'=>e= .returned (.bool true)∧Below w.heap.size w w':=by
 have HT:=Lib.hid hT
 clear hT
 have HBL:=Lib.hid (Below.refl w.heap.size w)
 go_enter Tryz.func11, Tryz.ntmps11
 go_wp2_with fail
 refine(lI w).mono ?_
 rintro e w1 ⟨g,rfl,hs,hb⟩
 replace HT:=Lib.hid (HT.out.next hb)
 replace HBL:=Lib.hid (HBL.out.trans (hb.mono HBL.out.size))
 have HK:=Lib.hid hs
 clear hb hs
 go_wp2_with fail
 obtain⟨w2,hw,hx,hb⟩:=El w1 ar
 rw[←hw]
 replace HT:=Lib.hid (HT.out.next hb)
 replace HK:=Lib.hid (HK.out.next hb)
 replace HBL:=Lib.hid (HBL.out.trans (hb.mono HBL.out.size))
 have X1:=Lib.hid hx
 clear hx hb hw
 obtain⟨B1,hB⟩: ∃B,B=w1.heap.size:=⟨_,rfl⟩
 rw[←hB]at X1⊢
 clear hB
 obtain⟨c0,c1,c2,c3,c4,c5,c6,c7,c8,c9,c10,c11,c12,c13,c14⟩:=X1.out.cells
 refine(iA aK 2 rfl (by omega) _ 2 ar AfV 0 aB tI w2 HT.out HK.out).mono ?_
 rintro e w3 ⟨AE1,cE1,rfl,hs,hb⟩
 clear c0 c1 c2 c3 c4 c5 c6 c7 c8 c9 c10 c11 c12 c13 c14
 replace HT:=Lib.hid (HT.out.next hb)
 replace HK:=Lib.hid (HK.out.next hb)
 replace X1:=Lib.hid (X1.out.next hb)
 replace HBL:=Lib.hid (HBL.out.trans (hb.mono HBL.out.size))
 have E1:=Lib.hid hs
 clear hb hs
 go_wp2_with fail
 refine(C.tob aK 2 aB aB.length _ 2 AE1 cE1 2 6 0 aS 1 0 w3 rfl (by omega) rfl cY.1 (Ct (by omega) (by omega)) (Ct (by omega) (by omega)) AfT HT.out HK.out E1.out).mono ?_
 rintro e w4 ⟨AE2,cE2,rfl,hs,hb⟩
 replace HT:=Lib.hid (HT.out.next hb)
 replace HK:=Lib.hid (HK.out.next hb)
 replace X1:=Lib.hid (X1.out.next hb)
 replace E1:=Lib.hid (E1.out.next hb)
 replace HBL:=Lib.hid (HBL.out.trans (hb.mono HBL.out.size))
 have E2:=Lib.hid hs
 clear hb hs
 go_wp2_with fail
 obtain⟨w5,hw⟩: ∃w5,w5=w4.alloc (.cells #[.int .i64 1, .int .i64 0] 26):=⟨_,rfl⟩
 rw[←hw]
 have hx:Cd w5 w4.heap.size 1 0:=by rw[hw];exact Cd.new w4 1 0
 have hb:Below w4.heap.size w4 w5:=by rw[hw];exact Aa w4 _ _
 replace HT:=Lib.hid (HT.out.next hb)
 replace HK:=Lib.hid (HK.out.next hb)
 replace X1:=Lib.hid (X1.out.next hb)
 replace E1:=Lib.hid (E1.out.next hb)
 replace E2:=Lib.hid (E2.out.next hb)
 replace HBL:=Lib.hid (HBL.out.trans (hb.mono HBL.out.size))
 have J1:=Lib.hid hx
 clear hx hb hw
 obtain⟨B2,hB⟩: ∃B,B=w4.heap.size:=⟨_,rfl⟩
 rw[←hB]at J1⊢
 clear hB
 obtain⟨d0,d1⟩:=J1.out.cells
 refine(C.tos aK 2 aS aS.length _ 2 AE2 cE2 1 0 5 0 aB w5 rfl (by omega) rfl cY.2 (Ct (by omega) (by omega)) (Ct (by omega) (by omega)) (Ct (by omega) (by omega)) AfU HT.out HK.out E2.out).mono ?_
 rintro e w6 ⟨AE3,cE3,rfl,hs,hb⟩
 clear d0 d1
 replace HT:=Lib.hid (HT.out.next hb)
 replace HK:=Lib.hid (HK.out.next hb)
 replace X1:=Lib.hid (X1.out.next hb)
 replace E1:=Lib.hid (E1.out.next hb)
 replace E2:=Lib.hid (E2.out.next hb)
 replace J1:=Lib.hid (J1.out.next hb)
 replace HBL:=Lib.hid (HBL.out.trans (hb.mono HBL.out.size))
 have E3:=Lib.hid hs
 clear hb hs
 go_wp2_with fail
 refine(C.tob aK 2 aB aB.length _ 2 AE1 cE1 1 6 18 [] 0 0 w6 rfl (by omega) rfl cY.1 (Ct (by omega) (by omega)) (Ct (by omega) (by omega)) Afz HT.out HK.out E1.out).mono ?_
 rintro e w7 ⟨AE4,cE4,rfl,hs,hb⟩
 replace HT:=Lib.hid (HT.out.next hb)
 replace HK:=Lib.hid (HK.out.next hb)
 replace X1:=Lib.hid (X1.out.next hb)
 replace E1:=Lib.hid (E1.out.next hb)
 replace E2:=Lib.hid (E2.out.next hb)
 replace J1:=Lib.hid (J1.out.next hb)
 replace E3:=Lib.hid (E3.out.next hb)
 replace HBL:=Lib.hid (HBL.out.trans (hb.mono HBL.out.size))
 have E4:=Lib.hid hs
 clear hb hs
 go_wp2_with fail
 obtain⟨w8,hw⟩: ∃w8,w8=w7.alloc (.cells #[.int .i64 0, .int .i64 0] 26):=⟨_,rfl⟩
 rw[←hw]
 have hx:Cd w8 w7.heap.size 0 0:=by rw[hw];exact Cd.new w7 0 0
 have hb:Below w7.heap.size w7 w8:=by rw[hw];exact Aa w7 _ _
 replace HT:=Lib.hid (HT.out.next hb)
 replace HK:=Lib.hid (HK.out.next hb)
 replace X1:=Lib.hid (X1.out.next hb)
 replace E1:=Lib.hid (E1.out.next hb)
 replace E2:=Lib.hid (E2.out.next hb)
 replace J1:=Lib.hid (J1.out.next hb)
 replace E3:=Lib.hid (E3.out.next hb)
 replace E4:=Lib.hid (E4.out.next hb)
 replace HBL:=Lib.hid (HBL.out.trans (hb.mono HBL.out.size))
 have J2:=Lib.hid hx
 clear hx hb hw
 obtain⟨B3,hB⟩: ∃B,B=w7.heap.size:=⟨_,rfl⟩
 rw[←hB]at J2⊢
 clear hB
 refine(C.tos aK 2 aS aS.length _ 2 AE2 cE2 2 0 5 1 [] w8 rfl (by omega) rfl cY.2 (Ct (by omega) (by omega)) (Ct (by omega) (by omega)) (Ct (by omega) (by omega)) Af0 HT.out HK.out E2.out).mono ?_
 rintro e w9 ⟨AE5,cE5,rfl,hs,hb⟩
 replace HT:=Lib.hid (HT.out.next hb)
 replace HK:=Lib.hid (HK.out.next hb)
 replace X1:=Lib.hid (X1.out.next hb)
 replace E1:=Lib.hid (E1.out.next hb)
 replace E2:=Lib.hid (E2.out.next hb)
 replace J1:=Lib.hid (J1.out.next hb)
 replace E3:=Lib.hid (E3.out.next hb)
 replace E4:=Lib.hid (E4.out.next hb)
 replace J2:=Lib.hid (J2.out.next hb)
 replace HBL:=Lib.hid (HBL.out.trans (hb.mono HBL.out.size))
 have E5:=Lib.hid hs
 clear hb hs
 obtain⟨d0,d1⟩:=J1.out.cells
 go_wp2_with fail
 refine(C.tos aK 2 aS aS.length _ 2 AE2 cE2 1 0 7 10 [] w9 rfl (by omega) rfl cY.2 (Ct (by omega) (by omega)) (Ct (by omega) (by omega)) (Ct (by omega) (by omega)) Af1 HT.out HK.out E2.out).mono ?_
 rintro e w10 ⟨AE6,cE6,rfl,hs,hb⟩
 clear d0 d1
 replace HT:=Lib.hid (HT.out.next hb)
 replace HK:=Lib.hid (HK.out.next hb)
 replace X1:=Lib.hid (X1.out.next hb)
 replace E1:=Lib.hid (E1.out.next hb)
 replace E2:=Lib.hid (E2.out.next hb)
 replace J1:=Lib.hid (J1.out.next hb)
 replace E3:=Lib.hid (E3.out.next hb)
 replace E4:=Lib.hid (E4.out.next hb)
 replace J2:=Lib.hid (J2.out.next hb)
 replace E5:=Lib.hid (E5.out.next hb)
 replace HBL:=Lib.hid (HBL.out.trans (hb.mono HBL.out.size))
 have E6:=Lib.hid hs
 clear hb hs
 go_wp2_with fail
 refine(C.tob aK 2 [] 0 _ 2 none 0 2 6 14 [] 0 0 w10 rfl (by omega) rfl (by omega) (Ct (by omega) (by omega)) (Ct (by omega) (by omega)) Af2 HT.out HK.out (Bs.empty _ _)).mono ?_
 rintro e w11 ⟨AE7,cE7,rfl,hs,hb⟩
 replace HT:=Lib.hid (HT.out.next hb)
 replace HK:=Lib.hid (HK.out.next hb)
 replace X1:=Lib.hid (X1.out.next hb)
 replace E1:=Lib.hid (E1.out.next hb)
 replace E2:=Lib.hid (E2.out.next hb)
 replace J1:=Lib.hid (J1.out.next hb)
 replace E3:=Lib.hid (E3.out.next hb)
 replace E4:=Lib.hid (E4.out.next hb)
 replace J2:=Lib.hid (J2.out.next hb)
 replace E5:=Lib.hid (E5.out.next hb)
 replace E6:=Lib.hid (E6.out.next hb)
 replace HBL:=Lib.hid (HBL.out.trans (hb.mono HBL.out.size))
 have E7:=Lib.hid hs
 clear hb hs
 go_wp2_with fail
 obtain⟨w12,hw⟩: ∃w12,w12=w11.alloc (.cells #[.int .i64 0, .int .i64 0] 26):=⟨_,rfl⟩
 rw[←hw]
 have hx:Cd w12 w11.heap.size 0 0:=by rw[hw];exact Cd.new w11 0 0
 have hb:Below w11.heap.size w11 w12:=by rw[hw];exact Aa w11 _ _
 replace HT:=Lib.hid (HT.out.next hb)
 replace HK:=Lib.hid (HK.out.next hb)
 replace X1:=Lib.hid (X1.out.next hb)
 replace E1:=Lib.hid (E1.out.next hb)
 replace E2:=Lib.hid (E2.out.next hb)
 replace J1:=Lib.hid (J1.out.next hb)
 replace E3:=Lib.hid (E3.out.next hb)
 replace E4:=Lib.hid (E4.out.next hb)
 replace J2:=Lib.hid (J2.out.next hb)
 replace E5:=Lib.hid (E5.out.next hb)
 replace E6:=Lib.hid (E6.out.next hb)
 replace E7:=Lib.hid (E7.out.next hb)
 replace HBL:=Lib.hid (HBL.out.trans (hb.mono HBL.out.size))
 have J3:=Lib.hid hx
 clear hx hb hw
 obtain⟨B4,hB⟩: ∃B,B=w11.heap.size:=⟨_,rfl⟩
 rw[←hB]at J3⊢
 clear hB
 refine(Rq aK 2 rfl (by omega) aS aS.length rfl cY.2 _ 2 AE2 cE2 0 ax tJ w12 HT.out HK.out E2.out).mono ?_
 rintro e w13 ⟨rfl,hb⟩
 replace HT:=Lib.hid (HT.out.next hb)
 replace HK:=Lib.hid (HK.out.next hb)
 replace X1:=Lib.hid (X1.out.next hb)
 replace E1:=Lib.hid (E1.out.next hb)
 replace E2:=Lib.hid (E2.out.next hb)
 replace J1:=Lib.hid (J1.out.next hb)
 replace E3:=Lib.hid (E3.out.next hb)
 replace E4:=Lib.hid (E4.out.next hb)
 replace J2:=Lib.hid (J2.out.next hb)
 replace E5:=Lib.hid (E5.out.next hb)
 replace E6:=Lib.hid (E6.out.next hb)
 replace E7:=Lib.hid (E7.out.next hb)
 replace J3:=Lib.hid (J3.out.next hb)
 replace HBL:=Lib.hid (HBL.out.trans (hb.mono HBL.out.size))
 clear hb
 have J1a:=Lib.hid (J1.out.alloc (.cells #[.int .i64 ax.t.ser, .int .i64 ax.t.kind, .int .i64 ax.t.frm, .int .i64 ax.t.till, .int .i64 ax.t.cls, .int .i64 ax.t.card, .int .i64 ax.t.seat, .int .i64 ax.t.day, .int .i64 ax.t.days, .int .i64 ax.t.uses, .int .i64 ax.t.epoch, .int .i64 ax.key, .int .i64 ax.left, .int .i64 ax.inn, .int .i64 ax.ver] 39))
 obtain⟨d0,d1⟩:=J1a.out.cells
 go_wp2_with fail
 obtain⟨w14,hw,hx,hb⟩:=El w13 ax
 rw[←hw]
 clear d0 d1
 replace HT:=Lib.hid (HT.out.next hb)
 replace HK:=Lib.hid (HK.out.next hb)
 replace X1:=Lib.hid (X1.out.next hb)
 replace E1:=Lib.hid (E1.out.next hb)
 replace E2:=Lib.hid (E2.out.next hb)
 replace J1:=Lib.hid (J1.out.next hb)
 replace E3:=Lib.hid (E3.out.next hb)
 replace E4:=Lib.hid (E4.out.next hb)
 replace J2:=Lib.hid (J2.out.next hb)
 replace E5:=Lib.hid (E5.out.next hb)
 replace E6:=Lib.hid (E6.out.next hb)
 replace E7:=Lib.hid (E7.out.next hb)
 replace J3:=Lib.hid (J3.out.next hb)
 replace HBL:=Lib.hid (HBL.out.trans (hb.mono HBL.out.size))
 have X9:=Lib.hid hx
 clear hx hb hw
 obtain⟨B9,hB⟩: ∃B,B=w13.heap.size:=⟨_,rfl⟩
 rw[←hB]at X9⊢
 clear hB
 clear J1a
 refine(Iv aB aB.length aB.length rfl rfl AE1 AE3 cE1 cE3 w14 E1.out E3.out).mono ?_
 rintro e w15 ⟨rfl,hb⟩
 replace HT:=Lib.hid (HT.out.next hb)
 replace HK:=Lib.hid (HK.out.next hb)
 replace X1:=Lib.hid (X1.out.next hb)
 replace E1:=Lib.hid (E1.out.next hb)
 replace E2:=Lib.hid (E2.out.next hb)
 replace J1:=Lib.hid (J1.out.next hb)
 replace E3:=Lib.hid (E3.out.next hb)
 replace E4:=Lib.hid (E4.out.next hb)
 replace J2:=Lib.hid (J2.out.next hb)
 replace E5:=Lib.hid (E5.out.next hb)
 replace E6:=Lib.hid (E6.out.next hb)
 replace E7:=Lib.hid (E7.out.next hb)
 replace J3:=Lib.hid (J3.out.next hb)
 replace X9:=Lib.hid (X9.out.next hb)
 replace HBL:=Lib.hid (HBL.out.trans (hb.mono HBL.out.size))
 clear hb
 obtain⟨c0,c1,c2,c3,c4,c5,c6,c7,c8,c9,c10,c11,c12,c13,c14⟩:=X1.out.cells
 obtain⟨f0,f1,f2,f3,f4,f5,f6,f7,f8,f9,f10,f11,f12,f13,f14⟩:=X9.out.cells
 go_wp2
 go_ret
 exact⟨rfl,HBL.out⟩
theorem fM {w:World} {b:Nat} {l i:Int} (h:Cd w b l i) (x y:Int):Cd ((w.setCell ⟨b,0,none⟩ (.int .i64 x)).setCell ⟨b,1,none⟩ (.int .i64 y)) b x y:=
 heap_setCell_same _ b 1 _ _ (.int .i64 y) (heap_setCell_same w b 0 _ _ (.int .i64 x) h)
theorem Rt {B b:Nat} {a w:World} (h:Below B a w) (hb:B≤b) (x y:Value):Below B a ((w.setCell ⟨b,0,none⟩ x).setCell ⟨b,1,none⟩ y):=(h.setCell (p:=⟨b,0,none⟩) hb x).setCell (p:=⟨b,1,none⟩) hb y
theorem Ab4 {w:World} {B X j:Nat} {s:List Nat} {A:Option Addr} {c:Nat} {l i:Int} (h:Bs w B s A c) (hX:Cd w X l i) (v:Value):Bs (w.setCell ⟨X,j,none⟩ v) B s A c:=by
 refine⟨fun k u hu=> ?_,h.nil,h.len,h.cap,h.lt⟩
 obtain⟨ad,e,hlt,hc⟩:=h.rd k u hu
 refine⟨ad,e,hlt, ?_⟩
 by_cases hb:X=(ad.add k).block
 ·exfalso
  obtain⟨x,hx⟩: ∃x:Nat,u= .int .u8 x:=by
   simp only[U8,List.getElem?_map,Option.map_eq_some_iff]at hu
   obtain⟨x,_,rfl⟩:=hu
   exact⟨x,rfl⟩
  subst hx
  unfold World.cell? at hc
  rw[←hb,hX]at hc
  simp only at hc
  simp at hc
  have hm:=List.mem_of_getElem? hc.2
  simp at hm
 ·rw[World.cell?_setCell_other]
  ·exact hc
  ·intro e2
   exact hb (by rw[←e2])
theorem Ae0 {w:World} {B X:Nat} {s:List Nat} {A:Option Addr} {c:Nat} {l i:Int} (h:Bs w B s A c) (hX:Cd w X l i) (x y:Int):Bs ((w.setCell ⟨X,0,none⟩ (.int .i64 x)).setCell ⟨X,1,none⟩ (.int .i64 y)) B s A c:=
 Ab4 (Ab4 h hX _) (show Cd (w.setCell ⟨X,0,none⟩ (.int .i64 x)) X x i from heap_setCell_same w X 0 _ _ _ hX) _
theorem AdO:(Tryz.prog.info? 26).map (·.size)=some 2:=by kernel_rfl
theorem Vk {fn:Func} {p q u:Tmp} (h:fn.results= #[.tmp p, .cell q 26, .tmp u]) (tmps:Array Value) (w:World) (g:Nat) (a b:Int) (hq:tmps.getD q undef= .pointer (some ⟨g,0,none⟩)) (hg:Cd w g a b):
  (results fn tmps).run Tryz.prog w= .ok (.tuple #[tmps.getD p undef, .agg #[.int .i64 a, .int .i64 b],tmps.getD u undef]) w:=by
 have hq':tmps[q]?.getD undef= .pointer (some ⟨g,0,none⟩):=by simpa using hq
 have h1:=run_loadVar_row (P:= Tryz.prog) w g 26 26 #[.int .i64 a, .int .i64 b] (0,0) _ hg Tryz.underlying26 rfl AdO
 simp[results,h,hq',asAddr,h1]
end Go.Proofs.YtmdbfogjfbbpjaaGreatDoor
end
section
namespace Go.Proofs.YtmdbfogjfbbpjaaGreatDoor
set_option maxRecDepth 100000
open Go.ChangeShapes Go.WideShapes Go.ChangeAt Go.RowKit
def Hh {H:Type} :List (String × DataW H):=[("gateline/sha.constants",Rows.laid_gateline_sha_constants),("gateline/sha.beginning",Rows.laid_gateline_sha_beginning)]
theorem Ab5: Tryz.prog.globalNamed "gateline/sha.constants" =some 1 :=by kernel_rfl
theorem Ab6: Tryz.prog.globalNamed "gateline/sha.beginning" =some 0 :=by kernel_rfl
theorem AdP:(Tryz.prog.globals[1]?).map (·.type)=some 215 :=by kernel_rfl
theorem AdQ:(Tryz.prog.globals[0]?).map (·.type)=some 193 :=by kernel_rfl
theorem AdR: Tryz.prog.cellsOf 215 =64:=by kernel_rfl
theorem Ab7: Tryz.prog.cellsOf 193 =8:=by kernel_rfl
theorem Ab8 {W:World} {g:Nat} {name:String} {l:List Nat} (hg: Tryz.prog.globalNamed name=some g) (h:Lib.TabIs Tryz.prog W name .u32 (l.map fun x:Nat=>(x:Int))):Rd W W.heap.size (some ⟨g,0,none⟩) (U32 l):=by
 intro k u hu
 have hk:k<l.length:=by
  rcases Nat.lt_or_ge k l.length with h'|h'
  ·exact h'
  ·rw[List.getElem?_eq_none (by rw[Qa];exact h')]at hu;cases hu
 have hc:=h.cell hg k (by simpa using hk)
 rw[eL l k hk]at hu
 cases hu
 have hlt:g<W.heap.size:=Ll hc
 refine⟨_,rfl,hlt, ?_⟩
 rw[Bu,hc]
 simp[List.getD,hk]
theorem Gw {W:World} (h:laidMetH Tryz.prog Hh W):Cx W:=by
 have h':laidMet Tryz.prog Hh W:=h
 exact⟨Ab8 Ab5 (Lib.tabIs_of_head (zs:=kTab.map fun x:Nat=>(x:Int)) Ab5 AdP Tryz.underlying215 Tryz.underlying192 Tryz.cellsU32 AdR h'),
  Ab8 Ab6 (Lib.tabIs_of_head (zs:=Cr.list.map fun x:Nat=>(x:Int)) Ab6 AdQ Tryz.underlying193 Tryz.underlying192 Tryz.cellsU32 Ab7 (laidMet.tail h'))⟩
theorem Mz (os:Os) (args:Array Value):laidMetH Tryz.prog Hh ((World.doorLaid Tryz.prog 400 os).forCall (fun _ _=>0) ⟨#[],args,[]⟩).memory:=
 laidMetH_of_parts3 (fuel:=8) (laidMet_of_run' 8 (by kernel_rfl) (by kernel_rfl)) (by kernel_rfl) (by kernel_rfl)
end Go.Proofs.YtmdbfogjfbbpjaaGreatDoor
end
