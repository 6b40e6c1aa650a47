import Derived.Test.YtcnglbliidjnfaaGreatDoorBarConst
import Derived.Test.YtcnglbliidjnfaaGreatDoorBarPEnc
import Derived.Test.YtcnglbliidjnfaaGreatDoorBarPDec0
import Derived.Test.YtcnglbliidjnfaaGreatDoorBarPVer0
import Derived.Test.YtcnglbliidjnfaaGreatDoorMacTag
import Derived.Lib.SlBytesConst
import Derived.OpenShut
import Derived.SizedLaws
import Derived.Test.YtcnglbliidjnfaaGreatDoorTie
import Derived.Test.YtcnglbliidjnfaaGreatDoorCards
import Derived.LaidMore
import Derived.Lib.LaidTab
import Derived.Stop.Joined
import Derived.Stop.LaidErr
section
namespace Go.Proofs.YtcnglbliidjnfaaGreatDoor
set_option linter.unusedVariables false
open Go.ChangeShapes Go.WideShapes Go.ChangeAt Go.RowKit
def bG3:Array Value:= #[.int .u8 223, .int .u8 152, .int .u8 161, .int .u8 58, .int .u8 32, .int .u8 149, .int .u8 149, .int .u8 200, .int .u8 55, .int .u8 133, .int .u8 66, .int .u8 21, .int .u8 212, .int .u8 95, .int .u8 169, .int .u8 195, .int .u8 153, .int .u8 21, .int .u8 252, .int .u8 61, .int .u8 83, .int .u8 174, .int .u8 120, .int .u8 30, .int .u8 191, .int .u8 79, .int .u8 242, .int .u8 216, .int .u8 216, .int .u8 152, .int .u8 175, .int .u8 73]
def bG4:Array Value:= #[.int .u8 156, .int .u8 58, .int .u8 19, .int .u8 156, .int .u8 88, .int .u8 59, .int .u8 163, .int .u8 97, .int .u8 51, .int .u8 42, .int .u8 38, .int .u8 158, .int .u8 134, .int .u8 6, .int .u8 163, .int .u8 120, .int .u8 142, .int .u8 45, .int .u8 165, .int .u8 97, .int .u8 203, .int .u8 110, .int .u8 215, .int .u8 78, .int .u8 160, .int .u8 123, .int .u8 198, .int .u8 17, .int .u8 225, .int .u8 29, .int .u8 192, .int .u8 136]
theorem bG_ne (w:World):(Op.equalIn 10000 42 (.agg bG3) (.agg bG4)).run Tryz.prog w= .ok false w:=by kernel_rfl
set_option maxRecDepth 100000 in
set_option maxHeartbeats 1600000 in
theorem plain19_any (w:World):Calls Tryz.prog 34 #[] w fun e w'=> ∃g,e= .returned (.tuple #[.slice (some ⟨g,0,none⟩) 1 1, .agg #[.int .i64 br0.t.ser, .int .i64 br0.t.kind, .int .i64 br0.t.frm, .int .i64 br0.t.till, .int .i64 br0.t.cls, .int .i64 br0.t.card, .int .i64 br0.t.seat, .int .i64 br0.t.day, .int .i64 br0.t.days, .int .i64 br0.t.uses, .int .i64 br0.t.epoch, .int .i64 br0.key, .int .i64 br0.left, .int .i64 br0.inn, .int .i64 br0.ver]])∧Ks w' w'.heap.size (some ⟨g,0,none⟩) [bk1]∧Below w.heap.size w w':=by
 have HBL:=Lib.hid (Below.refl w.heap.size w)
 go_enter Tryz.func34, Tryz.ntmps34
 go_wp2
 obtain⟨wa,hwa⟩: ∃wa,wa=w.alloc (.cells #[.int .i64 42, .int .i64 1, .int .i64 3, .int .i64 20, .int .i64 2, .int .i64 0, .int .i64 0, .int .i64 10, .int .i64 1, .int .i64 1, .int .i64 0, .int .i64 5, .int .i64 0, .int .i64 0, .int .i64 1] 28):=⟨_,rfl⟩
 have e1:w.heap.size+1=wa.heap.size:=by rw[hwa];simp
 rw[←hwa,e1]
 obtain⟨wb,hwb⟩: ∃wb,wb=wa.alloc (.cells #[.int .u8 1, .int .u8 2, .int .u8 3] 5):=⟨_,rfl⟩
 have e2:wa.heap.size+1=wb.heap.size:=by rw[hwb];simp
 rw[←hwb,e2]
 have hS:Bs wb wb.heap.size [1,2,3] (some ⟨wa.heap.size,0,none⟩) 3:=by rw[hwb];exact bs_lit wa _ [1,2,3] 3 rfl rfl (by omega) (by decide)
 obtain⟨wc,hwc⟩: ∃wc,wc=wb.alloc (.cells #[.int .i64 5, .slice (some ⟨wa.heap.size,0,none⟩) 3 3, .int .i64 0, .int .i64 99] 48):=⟨_,rfl⟩
 rw[←hwc]
 have hK:Ks wc wc.heap.size (some ⟨wb.heap.size,0,none⟩) [bk1]:=by rw[hwc];exact ks_lit wb [⟨bk1,some ⟨wa.heap.size,0,none⟩,3⟩] #[.int .i64 5, .slice (some ⟨wa.heap.size,0,none⟩) 3 3, .int .i64 0, .int .i64 99] 1 rfl rfl (by omega) (by intro q hq;rw[List.mem_singleton]at hq;subst hq;exact hS)
 have hR:wc.heap[w.heap.size]?=some (.cells #[.int .i64 42, .int .i64 1, .int .i64 3, .int .i64 20, .int .i64 2, .int .i64 0, .int .i64 0, .int .i64 10, .int .i64 1, .int .i64 1, .int .i64 0, .int .i64 5, .int .i64 0, .int .i64 0, .int .i64 1] 28 (0,0)):=by rw[hwc,heap_alloc_old _ _ (by omega),hwb,heap_alloc_old _ _ (by omega),hwa];exact heap_alloc_new w _
 have b1:Below w.heap.size w wa:=by rw[hwa];exact below_lit w _ _
 have b2:Below wa.heap.size wa wb:=by rw[hwb];exact below_lit wa _ _
 have b3:Below wb.heap.size wb wc:=by rw[hwc];exact below_lit wb _ _
 exact bodyPost_ret (res_tmp_row Tryz.results34 _ wc w.heap.size #[.int .i64 42, .int .i64 1, .int .i64 3, .int .i64 20, .int .i64 2, .int .i64 0, .int .i64 0, .int .i64 10, .int .i64 1, .int .i64 1, .int .i64 0, .int .i64 5, .int .i64 0, .int .i64 0, .int .i64 1] _ rfl hR infoRd) rfl ⟨wb.heap.size,rfl,hK,b1.trans ((b2.trans (b3.mono b2.size)).mono b1.size)⟩
theorem be1_call (A:Option Addr) (c:Nat) (w:World) (hT:Tabs w) (hA:Ks w w.heap.size A [bk1]):Calls Tryz.prog 11 #[.slice A 1 c, .agg #[.int .i64 br0.t.ser, .int .i64 br0.t.kind, .int .i64 br0.t.frm, .int .i64 br0.t.till, .int .i64 br0.t.cls, .int .i64 br0.t.card, .int .i64 br0.t.seat, .int .i64 br0.t.day, .int .i64 br0.t.days, .int .i64 br0.t.uses, .int .i64 br0.t.epoch, .int .i64 br0.key, .int .i64 br0.left, .int .i64 br0.inn, .int .i64 br0.ver]] w fun e w'=> ∃A' c',e= .returned (.tuple #[.slice A' 89 c', .int .i64 0])∧Bs w' w'.heap.size bS A' c'∧Below w.heap.size w w':=benc_any [bk1] 1 rfl (by omega) A c br0 0 bS b_enc w hT hA
theorem be0_call (w:World) (hT:Tabs w):Calls Tryz.prog 11 #[.slice none 0 0, .agg #[.int .i64 br0.t.ser, .int .i64 br0.t.kind, .int .i64 br0.t.frm, .int .i64 br0.t.till, .int .i64 br0.t.cls, .int .i64 br0.t.card, .int .i64 br0.t.seat, .int .i64 br0.t.day, .int .i64 br0.t.days, .int .i64 br0.t.uses, .int .i64 br0.t.epoch, .int .i64 br0.key, .int .i64 br0.left, .int .i64 br0.inn, .int .i64 br0.ver]] w fun e w'=> ∃A' c',e= .returned (.tuple #[.slice A' 0 c', .int .i64 10])∧Bs w' w'.heap.size [] A' c'∧Below w.heap.size w w':=benc_any [] 0 rfl (by omega) none 0 br0 10 [] b_enc0 w hT (fun i hi=>absurd hi (by simp))
theorem bd1_call (A:Option Addr) (c:Nat) (B:Option Addr) (d:Nat) (w:World) (hT:Tabs w) (hA:Ks w w.heap.size A [bk1]) (hB:Bs w w.heap.size bS B d):Calls Tryz.prog 15 #[.slice A 1 c, .slice B 89 d] w fun e w'=>e= .returned (.tuple #[.agg #[.int .i64 br0.t.ser, .int .i64 br0.t.kind, .int .i64 br0.t.frm, .int .i64 br0.t.till, .int .i64 br0.t.cls, .int .i64 br0.t.card, .int .i64 br0.t.seat, .int .i64 br0.t.day, .int .i64 br0.t.days, .int .i64 br0.t.uses, .int .i64 br0.t.epoch, .int .i64 br0.key, .int .i64 br0.left, .int .i64 br0.inn, .int .i64 br0.ver], .int .i64 0])∧Below w.heap.size w w':=bdec_any [bk1] 1 rfl (by omega) bS 89 rfl (by omega) A c B d 0 br0 b_dec w hT hA hB
theorem bd2_call (A:Option Addr) (c:Nat) (B:Option Addr) (d:Nat) (w:World) (hT:Tabs w) (hA:Ks w w.heap.size A [bk2]) (hB:Bs w w.heap.size bS B d):Calls Tryz.prog 15 #[.slice A 1 c, .slice B 89 d] w fun e w'=>e= .returned (.tuple #[.agg #[.int .i64 0, .int .i64 0, .int .i64 0, .int .i64 0, .int .i64 0, .int .i64 0, .int .i64 0, .int .i64 0, .int .i64 0, .int .i64 0, .int .i64 0, .int .i64 0, .int .i64 0, .int .i64 0, .int .i64 0], .int .i64 11])∧Below w.heap.size w w':=bdec_any [bk2] 1 rfl (by omega) bS 89 rfl (by omega) A c B d 11 zeroR b_dec2 w hT hA hB
theorem bd0_call (B:Option Addr) (d:Nat) (w:World) (hT:Tabs w) (hB:Bs w w.heap.size bS B d):Calls Tryz.prog 15 #[.slice none 0 0, .slice B 89 d] w fun e w'=>e= .returned (.tuple #[.agg #[.int .i64 0, .int .i64 0, .int .i64 0, .int .i64 0, .int .i64 0, .int .i64 0, .int .i64 0, .int .i64 0, .int .i64 0, .int .i64 0, .int .i64 0, .int .i64 0, .int .i64 0, .int .i64 0, .int .i64 0], .int .i64 10])∧Below w.heap.size w w':=bdec_any [] 0 rfl (by omega) bS 89 rfl (by omega) none 0 B d 10 zeroR b_dec0 w hT (fun i hi=>absurd hi (by simp)) hB
theorem bd9_call (A:Option Addr) (c:Nat) (B:Option Addr) (d:Nat) (w:World) (hT:Tabs w) (hA:Ks w w.heap.size A [bk1]) (hB:Bs w w.heap.size [48,48] B d):Calls Tryz.prog 15 #[.slice A 1 c, .slice B 2 d] w fun e w'=>e= .returned (.tuple #[.agg #[.int .i64 0, .int .i64 0, .int .i64 0, .int .i64 0, .int .i64 0, .int .i64 0, .int .i64 0, .int .i64 0, .int .i64 0, .int .i64 0, .int .i64 0, .int .i64 0, .int .i64 0, .int .i64 0, .int .i64 0], .int .i64 14])∧Below w.heap.size w w':=bdec_any [bk1] 1 rfl (by omega) [48,48] 2 rfl (by omega) A c B d 14 zeroR b_dec9 w hT hA hB
theorem bv1_call (B:Option Addr) (d:Nat) (w:World) (hB:Bs w w.heap.size bS B d):Calls Tryz.prog 17 #[.slice B 89 d] w fun e w'=>e= .returned (.tuple #[.int .i64 1, .int .i64 0])∧Below w.heap.size w w':=bver_any bS 89 rfl (by omega) B d 0 1 b_ver w hB
theorem bt3_call (A:Option Addr) (c:Nat) (w:World) (hT:Tabs w) (hA:Bs w w.heap.size [1] A c):Calls Tryz.prog 19 #[.slice A 1 c, .slice none 0 0] w fun e w'=>e= .returned (.agg bG3)∧Below w.heap.size w w':=btag_any [1] [] 1 0 rfl rfl A none c 0 w hT hA (Bs.empty _ _) (by omega) (by omega) bG3 (by rw[b_t3];rfl)
theorem bt4_call (A:Option Addr) (c:Nat) (w:World) (hT:Tabs w) (hA:Bs w w.heap.size [2] A c):Calls Tryz.prog 19 #[.slice A 1 c, .slice none 0 0] w fun e w'=>e= .returned (.agg bG4)∧Below w.heap.size w w':=btag_any [2] [] 1 0 rfl rfl A none c 0 w hT hA (Bs.empty _ _) (by omega) (by omega) bG4 (by rw[b_t4];rfl)
set_option maxRecDepth 100000 in
set_option maxHeartbeats 1600000 in
theorem coded19_any (w:World) (hT:Tabs w):Calls Tryz.prog 13 #[] w fun e w'=>e= .returned (.bool true)∧Below w.heap.size w w':=by
 have hcv:=fun(w:World) (C:Array Value) (n c:Nat)=>Lib.run_convert_bytes_const (P:= Tryz.prog) w 30 5 C n c Tryz.underlying30 Tryz.underlying5
 have HT:=Lib.hid hT
 clear hT
 have HBL:=Lib.hid (Below.refl w.heap.size w)
 go_enter Tryz.func13, Tryz.ntmps13
 go_wp2_with fail
 refine(plain19_any w).mono ?_
 rintro e w1 ⟨g,rfl,hs,hb⟩
 replace HT:=Lib.hid (HT.out.next hb)
 replace HBL:=Lib.hid (HBL.out.trans (hb.mono HBL.out.size))
 have HK:=Lib.hid hs
 clear hb hs
 go_wp2_with fail
 obtain⟨w2,hw⟩: ∃w2,w2=w1.alloc (.cells #[.int .i64 br0.t.ser, .int .i64 br0.t.kind, .int .i64 br0.t.frm, .int .i64 br0.t.till, .int .i64 br0.t.cls, .int .i64 br0.t.card, .int .i64 br0.t.seat, .int .i64 br0.t.day, .int .i64 br0.t.days, .int .i64 br0.t.uses, .int .i64 br0.t.epoch, .int .i64 br0.key, .int .i64 br0.left, .int .i64 br0.inn, .int .i64 br0.ver] 28):=⟨_,rfl⟩
 rw[←hw]
 have hx:RBox w2 w1.heap.size br0:=by rw[hw];exact RBox.new w1 br0
 have hb:Below w1.heap.size w1 w2:=by rw[hw];exact below_lit w1 _ _
 replace HT:=Lib.hid (HT.out.next hb)
 replace HK:=Lib.hid (HK.out.next hb)
 replace HBL:=Lib.hid (HBL.out.trans (hb.mono HBL.out.size))
 have X1:=Lib.hid hx
 clear hx hb hw
 obtain⟨B1,hB⟩: ∃B,B=w1.heap.size:=⟨_,rfl⟩
 rw[←hB]at X1⊢
 clear hB
 obtain⟨c0,c1,c2,c3,c4,c5,c6,c7,c8,c9,c10,c11,c12,c13,c14⟩:=X1.out.cells
 refine(be1_call _ 1 w2 HT.out HK.out).mono ?_
 rintro e w3 ⟨AE1,cE1,rfl,hs,hb⟩
 clear c0 c1 c2 c3 c4 c5 c6 c7 c8 c9 c10 c11 c12 c13 c14
 replace HT:=Lib.hid (HT.out.next hb)
 replace HK:=Lib.hid (HK.out.next hb)
 replace X1:=Lib.hid (X1.out.next hb)
 replace HBL:=Lib.hid (HBL.out.trans (hb.mono HBL.out.size))
 have E1:=Lib.hid hs
 clear hb hs
 generalize Value.agg #[.int .i64 br0.t.ser, .int .i64 br0.t.kind, .int .i64 br0.t.frm, .int .i64 br0.t.till, .int .i64 br0.t.cls, .int .i64 br0.t.card, .int .i64 br0.t.seat, .int .i64 br0.t.day, .int .i64 br0.t.days, .int .i64 br0.t.uses, .int .i64 br0.t.epoch, .int .i64 br0.key, .int .i64 br0.left, .int .i64 br0.inn, .int .i64 br0.ver]=V1
 go_wp2_with fail
 refine(bd1_call _ 1 AE1 cE1 w3 HT.out HK.out E1.out).mono ?_
 rintro e w4 ⟨rfl,hb⟩
 replace HT:=Lib.hid (HT.out.next hb)
 replace HK:=Lib.hid (HK.out.next hb)
 replace X1:=Lib.hid (X1.out.next hb)
 replace E1:=Lib.hid (E1.out.next hb)
 replace HBL:=Lib.hid (HBL.out.trans (hb.mono HBL.out.size))
 clear hb
 go_wp2_with fail
 obtain⟨w5,hw⟩: ∃w5,w5=w4.alloc (.cells #[.int .i64 br0.t.ser, .int .i64 br0.t.kind, .int .i64 br0.t.frm, .int .i64 br0.t.till, .int .i64 br0.t.cls, .int .i64 br0.t.card, .int .i64 br0.t.seat, .int .i64 br0.t.day, .int .i64 br0.t.days, .int .i64 br0.t.uses, .int .i64 br0.t.epoch, .int .i64 br0.key, .int .i64 br0.left, .int .i64 br0.inn, .int .i64 br0.ver] 28):=⟨_,rfl⟩
 rw[←hw]
 have hx:RBox w5 w4.heap.size br0:=by rw[hw];exact RBox.new w4 br0
 have hb:Below w4.heap.size w4 w5:=by rw[hw];exact below_lit w4 _ _
 replace HT:=Lib.hid (HT.out.next hb)
 replace HK:=Lib.hid (HK.out.next hb)
 replace X1:=Lib.hid (X1.out.next hb)
 replace E1:=Lib.hid (E1.out.next hb)
 replace HBL:=Lib.hid (HBL.out.trans (hb.mono HBL.out.size))
 have X5:=Lib.hid hx
 clear hx hb hw
 obtain⟨B5,hB⟩: ∃B,B=w4.heap.size:=⟨_,rfl⟩
 rw[←hB]at X5⊢
 clear hB
 generalize Value.agg #[.int .i64 br0.t.ser, .int .i64 br0.t.kind, .int .i64 br0.t.frm, .int .i64 br0.t.till, .int .i64 br0.t.cls, .int .i64 br0.t.card, .int .i64 br0.t.seat, .int .i64 br0.t.day, .int .i64 br0.t.days, .int .i64 br0.t.uses, .int .i64 br0.t.epoch, .int .i64 br0.key, .int .i64 br0.left, .int .i64 br0.inn, .int .i64 br0.ver]=V2
 refine(bv1_call AE1 cE1 w5 E1.out).mono ?_
 rintro e w6 ⟨rfl,hb⟩
 replace HT:=Lib.hid (HT.out.next hb)
 replace HK:=Lib.hid (HK.out.next hb)
 replace X1:=Lib.hid (X1.out.next hb)
 replace E1:=Lib.hid (E1.out.next hb)
 replace X5:=Lib.hid (X5.out.next hb)
 replace HBL:=Lib.hid (HBL.out.trans (hb.mono HBL.out.size))
 clear hb
 go_wp2_with fail
 obtain⟨w7,hw⟩: ∃w7,w7=w6.alloc (.cells #[.int .u8 1, .int .u8 2, .int .u8 4] 5):=⟨_,rfl⟩
 have hs:w6.heap.size+1=w7.heap.size:=by rw[hw];simp
 rw[←hw]
 have hx:Bs w7 w7.heap.size [1,2,4] (some ⟨w6.heap.size,0,none⟩) 3:=by rw[hw];exact bs_lit w6 _ [1,2,4] 3 rfl rfl (by omega) (by decide)
 have hb:Below w6.heap.size w6 w7:=by rw[hw];exact below_lit w6 _ _
 replace HT:=Lib.hid (HT.out.next hb)
 replace HK:=Lib.hid (HK.out.next hb)
 replace X1:=Lib.hid (X1.out.next hb)
 replace E1:=Lib.hid (E1.out.next hb)
 replace X5:=Lib.hid (X5.out.next hb)
 replace HBL:=Lib.hid (HBL.out.trans (hb.mono HBL.out.size))
 have LR:=Lib.hid hx
 clear hx hb hw
 rw[hs]
 clear hs
 obtain⟨w8,hw⟩: ∃w8,w8=w7.alloc (.cells #[.int .i64 5, .slice (some ⟨w6.heap.size,0,none⟩) 3 3, .int .i64 0, .int .i64 99] 48):=⟨_,rfl⟩
 rw[←hw]
 have hx:Ks w8 w8.heap.size (some ⟨w7.heap.size,0,none⟩) [bk2]:=by rw[hw];exact ks_lit w7 [⟨bk2,some ⟨w6.heap.size,0,none⟩,3⟩] #[.int .i64 5, .slice (some ⟨w6.heap.size,0,none⟩) 3 3, .int .i64 0, .int .i64 99] 1 rfl rfl (by omega) (by intro q hq;rw[List.mem_singleton]at hq;subst hq;exact LR.out)
 have hb:Below w7.heap.size w7 w8:=by rw[hw];exact below_lit w7 _ _
 replace HT:=Lib.hid (HT.out.next hb)
 replace HK:=Lib.hid (HK.out.next hb)
 replace X1:=Lib.hid (X1.out.next hb)
 replace E1:=Lib.hid (E1.out.next hb)
 replace X5:=Lib.hid (X5.out.next hb)
 replace LR:=Lib.hid (LR.out.next hb)
 replace HBL:=Lib.hid (HBL.out.trans (hb.mono HBL.out.size))
 have HK2:=Lib.hid hx
 clear hx hb hw
 refine(bd2_call _ 1 AE1 cE1 w8 HT.out HK2.out E1.out).mono ?_
 rintro e w9 ⟨rfl,hb⟩
 replace HT:=Lib.hid (HT.out.next hb)
 replace HK:=Lib.hid (HK.out.next hb)
 replace X1:=Lib.hid (X1.out.next hb)
 replace E1:=Lib.hid (E1.out.next hb)
 replace X5:=Lib.hid (X5.out.next hb)
 replace LR:=Lib.hid (LR.out.next hb)
 replace HK2:=Lib.hid (HK2.out.next hb)
 replace HBL:=Lib.hid (HBL.out.trans (hb.mono HBL.out.size))
 clear hb
 go_wp2_with fail
 obtain⟨w10,hw⟩: ∃w10,w10=w9.alloc (.cells #[.int .i64 0, .int .i64 0, .int .i64 0, .int .i64 0, .int .i64 0, .int .i64 0, .int .i64 0, .int .i64 0, .int .i64 0, .int .i64 0, .int .i64 0, .int .i64 0, .int .i64 0, .int .i64 0, .int .i64 0] 28):=⟨_,rfl⟩
 rw[←hw]
 have hx:RBox w10 w9.heap.size zeroR:=by rw[hw];exact RBox.new w9 zeroR
 have hb:Below w9.heap.size w9 w10:=by rw[hw];exact below_lit w9 _ _
 replace HT:=Lib.hid (HT.out.next hb)
 replace HK:=Lib.hid (HK.out.next hb)
 replace X1:=Lib.hid (X1.out.next hb)
 replace E1:=Lib.hid (E1.out.next hb)
 replace X5:=Lib.hid (X5.out.next hb)
 replace LR:=Lib.hid (LR.out.next hb)
 replace HK2:=Lib.hid (HK2.out.next hb)
 replace HBL:=Lib.hid (HBL.out.trans (hb.mono HBL.out.size))
 have X9:=Lib.hid hx
 clear hx hb hw
 obtain⟨B9,hB⟩: ∃B,B=w9.heap.size:=⟨_,rfl⟩
 rw[←hB]at X9⊢
 clear hB
 generalize Value.agg #[.int .i64 0, .int .i64 0, .int .i64 0, .int .i64 0, .int .i64 0, .int .i64 0, .int .i64 0, .int .i64 0, .int .i64 0, .int .i64 0, .int .i64 0, .int .i64 0, .int .i64 0, .int .i64 0, .int .i64 0]=V3
 refine(bd0_call AE1 cE1 w10 HT.out E1.out).mono ?_
 rintro e w11 ⟨rfl,hb⟩
 replace HT:=Lib.hid (HT.out.next hb)
 replace HK:=Lib.hid (HK.out.next hb)
 replace X1:=Lib.hid (X1.out.next hb)
 replace E1:=Lib.hid (E1.out.next hb)
 replace X5:=Lib.hid (X5.out.next hb)
 replace LR:=Lib.hid (LR.out.next hb)
 replace HK2:=Lib.hid (HK2.out.next hb)
 replace X9:=Lib.hid (X9.out.next hb)
 replace HBL:=Lib.hid (HBL.out.trans (hb.mono HBL.out.size))
 clear hb
 have X1a:=Lib.hid (X1.out.alloc (.cells #[.int .i64 0, .int .i64 0, .int .i64 0, .int .i64 0, .int .i64 0, .int .i64 0, .int .i64 0, .int .i64 0, .int .i64 0, .int .i64 0, .int .i64 0, .int .i64 0, .int .i64 0, .int .i64 0, .int .i64 0] 28))
 obtain⟨c0,c1,c2,c3,c4,c5,c6,c7,c8,c9,c10,c11,c12,c13,c14⟩:=X1a.out.cells
 go_wp2_with fail
 obtain⟨w12,hw⟩: ∃w12,w12=w11.alloc (.cells #[.int .i64 0, .int .i64 0, .int .i64 0, .int .i64 0, .int .i64 0, .int .i64 0, .int .i64 0, .int .i64 0, .int .i64 0, .int .i64 0, .int .i64 0, .int .i64 0, .int .i64 0, .int .i64 0, .int .i64 0] 28):=⟨_,rfl⟩
 rw[←hw]
 have hx:RBox w12 w11.heap.size zeroR:=by rw[hw];exact RBox.new w11 zeroR
 have hb:Below w11.heap.size w11 w12:=by rw[hw];exact below_lit w11 _ _
 clear c0 c1 c2 c3 c4 c5 c6 c7 c8 c9 c10 c11 c12 c13 c14
 replace HT:=Lib.hid (HT.out.next hb)
 replace HK:=Lib.hid (HK.out.next hb)
 replace X1:=Lib.hid (X1.out.next hb)
 replace E1:=Lib.hid (E1.out.next hb)
 replace X5:=Lib.hid (X5.out.next hb)
 replace LR:=Lib.hid (LR.out.next hb)
 replace HK2:=Lib.hid (HK2.out.next hb)
 replace X9:=Lib.hid (X9.out.next hb)
 replace HBL:=Lib.hid (HBL.out.trans (hb.mono HBL.out.size))
 have X11:=Lib.hid hx
 clear hx hb hw
 obtain⟨B11,hB⟩: ∃B,B=w11.heap.size:=⟨_,rfl⟩
 rw[←hB]at X11⊢
 clear hB
 generalize Value.agg #[.int .i64 0, .int .i64 0, .int .i64 0, .int .i64 0, .int .i64 0, .int .i64 0, .int .i64 0, .int .i64 0, .int .i64 0, .int .i64 0, .int .i64 0, .int .i64 0, .int .i64 0, .int .i64 0, .int .i64 0]=V4
 refine(be0_call w12 HT.out).mono ?_
 rintro e w13 ⟨AE0,cE0,rfl,hs,hb⟩
 replace HT:=Lib.hid (HT.out.next hb)
 replace HK:=Lib.hid (HK.out.next hb)
 replace X1:=Lib.hid (X1.out.next hb)
 replace E1:=Lib.hid (E1.out.next hb)
 replace X5:=Lib.hid (X5.out.next hb)
 replace LR:=Lib.hid (LR.out.next hb)
 replace HK2:=Lib.hid (HK2.out.next hb)
 replace X9:=Lib.hid (X9.out.next hb)
 replace X11:=Lib.hid (X11.out.next hb)
 replace HBL:=Lib.hid (HBL.out.trans (hb.mono HBL.out.size))
 have E0:=Lib.hid hs
 clear hb hs
 generalize Value.agg #[.int .i64 br0.t.ser, .int .i64 br0.t.kind, .int .i64 br0.t.frm, .int .i64 br0.t.till, .int .i64 br0.t.cls, .int .i64 br0.t.card, .int .i64 br0.t.seat, .int .i64 br0.t.day, .int .i64 br0.t.days, .int .i64 br0.t.uses, .int .i64 br0.t.epoch, .int .i64 br0.key, .int .i64 br0.left, .int .i64 br0.inn, .int .i64 br0.ver]=V5
 go_wp2_with fail
 obtain⟨w14,hw⟩: ∃w14,w14=w13.alloc (.cells #[.int .u8 48, .int .u8 48] 5 (2,3)):=⟨_,rfl⟩
 rw[←hw]
 have hx:Bs w14 w14.heap.size [48,48] (some ⟨w13.heap.size,0,none⟩) 2:=by rw[hw];exact bs_mark w13 _ _ [48,48] 2 rfl rfl (by omega) (by decide)
 have hb:Below w13.heap.size w13 w14:=by rw[hw];exact(Below.refl _ _).alloc (Nat.le_refl _) _
 replace HT:=Lib.hid (HT.out.next hb)
 replace HK:=Lib.hid (HK.out.next hb)
 replace X1:=Lib.hid (X1.out.next hb)
 replace E1:=Lib.hid (E1.out.next hb)
 replace X5:=Lib.hid (X5.out.next hb)
 replace LR:=Lib.hid (LR.out.next hb)
 replace HK2:=Lib.hid (HK2.out.next hb)
 replace X9:=Lib.hid (X9.out.next hb)
 replace X11:=Lib.hid (X11.out.next hb)
 replace E0:=Lib.hid (E0.out.next hb)
 replace HBL:=Lib.hid (HBL.out.trans (hb.mono HBL.out.size))
 have LZ:=Lib.hid hx
 clear hx hb hw
 refine(bd9_call _ 1 _ 2 w14 HT.out HK.out LZ.out).mono ?_
 rintro e w15 ⟨rfl,hb⟩
 replace HT:=Lib.hid (HT.out.next hb)
 replace HK:=Lib.hid (HK.out.next hb)
 replace X1:=Lib.hid (X1.out.next hb)
 replace E1:=Lib.hid (E1.out.next hb)
 replace X5:=Lib.hid (X5.out.next hb)
 replace LR:=Lib.hid (LR.out.next hb)
 replace HK2:=Lib.hid (HK2.out.next hb)
 replace X9:=Lib.hid (X9.out.next hb)
 replace X11:=Lib.hid (X11.out.next hb)
 replace E0:=Lib.hid (E0.out.next hb)
 replace LZ:=Lib.hid (LZ.out.next hb)
 replace HBL:=Lib.hid (HBL.out.trans (hb.mono HBL.out.size))
 clear hb
 have X5a:=Lib.hid (X5.out.alloc (.cells #[.int .i64 0, .int .i64 0, .int .i64 0, .int .i64 0, .int .i64 0, .int .i64 0, .int .i64 0, .int .i64 0, .int .i64 0, .int .i64 0, .int .i64 0, .int .i64 0, .int .i64 0, .int .i64 0, .int .i64 0] 28))
 obtain⟨c0,c1,c2,c3,c4,c5,c6,c7,c8,c9,c10,c11,c12,c13,c14⟩:=X5a.out.cells
 have X1b:=Lib.hid (X1.out.alloc (.cells #[.int .i64 0, .int .i64 0, .int .i64 0, .int .i64 0, .int .i64 0, .int .i64 0, .int .i64 0, .int .i64 0, .int .i64 0, .int .i64 0, .int .i64 0, .int .i64 0, .int .i64 0, .int .i64 0, .int .i64 0] 28))
 obtain⟨d0,d1,d2,d3,d4,d5,d6,d7,d8,d9,d10,d11,d12,d13,d14⟩:=X1b.out.cells
 have heq:=read_eq br0 br0
 rw[rgB_self]at heq
 have heqn:=bG_ne
 as_aux_lemma=>
  go_wp2_with fail
  obtain⟨w16,hw⟩: ∃w16,w16=w15.alloc (.cells #[.int .i64 0, .int .i64 0, .int .i64 0, .int .i64 0, .int .i64 0, .int .i64 0, .int .i64 0, .int .i64 0, .int .i64 0, .int .i64 0, .int .i64 0, .int .i64 0, .int .i64 0, .int .i64 0, .int .i64 0] 28):=⟨_,rfl⟩
  rw[←hw]
  have hx:RBox w16 w15.heap.size zeroR:=by rw[hw];exact RBox.new w15 zeroR
  have hs:w15.heap.size+1=w16.heap.size:=by rw[hw];simp
  have hb:Below w15.heap.size w15 w16:=by rw[hw];exact below_lit w15 _ _
  clear c0 c1 c2 c3 c4 c5 c6 c7 c8 c9 c10 c11 c12 c13 c14 d0 d1 d2 d3 d4 d5 d6 d7 d8 d9 d10 d11 d12 d13 d14
  replace HT:=Lib.hid (HT.out.next hb)
  replace HK:=Lib.hid (HK.out.next hb)
  replace X1:=Lib.hid (X1.out.next hb)
  replace E1:=Lib.hid (E1.out.next hb)
  replace X5:=Lib.hid (X5.out.next hb)
  replace LR:=Lib.hid (LR.out.next hb)
  replace HK2:=Lib.hid (HK2.out.next hb)
  replace X9:=Lib.hid (X9.out.next hb)
  replace X11:=Lib.hid (X11.out.next hb)
  replace E0:=Lib.hid (E0.out.next hb)
  replace LZ:=Lib.hid (LZ.out.next hb)
  replace HBL:=Lib.hid (HBL.out.trans (hb.mono HBL.out.size))
  have X15:=Lib.hid hx
  clear hx hb hw
  rw[hs]
  clear hs
  obtain⟨B15,hB⟩: ∃B,B=w15.heap.size:=⟨_,rfl⟩
  rw[←hB]at X15⊢
  clear hB
  obtain⟨w17,hw⟩: ∃w17,w17=w16.alloc (.cells #[.int .u8 1] 5):=⟨_,rfl⟩
  have hs:w16.heap.size+1=w17.heap.size:=by rw[hw];simp
  rw[←hw]
  have hx:Bs w17 w17.heap.size [1] (some ⟨w16.heap.size,0,none⟩) 1:=by rw[hw];exact bs_lit w16 _ [1] 1 rfl rfl (by omega) (by decide)
  have hb:Below w16.heap.size w16 w17:=by rw[hw];exact below_lit w16 _ _
  replace HT:=Lib.hid (HT.out.next hb)
  replace HK:=Lib.hid (HK.out.next hb)
  replace X1:=Lib.hid (X1.out.next hb)
  replace E1:=Lib.hid (E1.out.next hb)
  replace X5:=Lib.hid (X5.out.next hb)
  replace LR:=Lib.hid (LR.out.next hb)
  replace HK2:=Lib.hid (HK2.out.next hb)
  replace X9:=Lib.hid (X9.out.next hb)
  replace X11:=Lib.hid (X11.out.next hb)
  replace E0:=Lib.hid (E0.out.next hb)
  replace LZ:=Lib.hid (LZ.out.next hb)
  replace X15:=Lib.hid (X15.out.next hb)
  replace HBL:=Lib.hid (HBL.out.trans (hb.mono HBL.out.size))
  have LT:=Lib.hid hx
  clear hx hb hw
  clear hs heq hcv
  refine(bt3_call _ 1 w17 HT.out LT.out).mono ?_
  rintro e w18 ⟨rfl,hb⟩
  replace HT:=Lib.hid (HT.out.next hb)
  replace HK:=Lib.hid (HK.out.next hb)
  replace X1:=Lib.hid (X1.out.next hb)
  replace E1:=Lib.hid (E1.out.next hb)
  replace X5:=Lib.hid (X5.out.next hb)
  replace LR:=Lib.hid (LR.out.next hb)
  replace HK2:=Lib.hid (HK2.out.next hb)
  replace X9:=Lib.hid (X9.out.next hb)
  replace X11:=Lib.hid (X11.out.next hb)
  replace E0:=Lib.hid (E0.out.next hb)
  replace LZ:=Lib.hid (LZ.out.next hb)
  replace X15:=Lib.hid (X15.out.next hb)
  replace LT:=Lib.hid (LT.out.next hb)
  replace HBL:=Lib.hid (HBL.out.trans (hb.mono HBL.out.size))
  clear hb
  go_wp2_with fail
  obtain⟨w19,hw⟩: ∃w19,w19=w18.alloc (.cells #[.int .u8 2] 5):=⟨_,rfl⟩
  have hs:w18.heap.size+1=w19.heap.size:=by rw[hw];simp
  rw[←hw]
  have hx:Bs w19 w19.heap.size [2] (some ⟨w18.heap.size,0,none⟩) 1:=by rw[hw];exact bs_lit w18 _ [2] 1 rfl rfl (by omega) (by decide)
  have hb:Below w18.heap.size w18 w19:=by rw[hw];exact below_lit w18 _ _
  replace HT:=Lib.hid (HT.out.next hb)
  replace HK:=Lib.hid (HK.out.next hb)
  replace X1:=Lib.hid (X1.out.next hb)
  replace E1:=Lib.hid (E1.out.next hb)
  replace X5:=Lib.hid (X5.out.next hb)
  replace LR:=Lib.hid (LR.out.next hb)
  replace HK2:=Lib.hid (HK2.out.next hb)
  replace X9:=Lib.hid (X9.out.next hb)
  replace X11:=Lib.hid (X11.out.next hb)
  replace E0:=Lib.hid (E0.out.next hb)
  replace LZ:=Lib.hid (LZ.out.next hb)
  replace X15:=Lib.hid (X15.out.next hb)
  replace LT:=Lib.hid (LT.out.next hb)
  replace HBL:=Lib.hid (HBL.out.trans (hb.mono HBL.out.size))
  have LT2:=Lib.hid hx
  clear hx hb hw
  clear hs
  refine(bt4_call _ 1 w19 HT.out LT2.out).mono ?_
  rintro e w20 ⟨rfl,hb⟩
  replace HT:=Lib.hid (HT.out.next hb)
  replace HK:=Lib.hid (HK.out.next hb)
  replace X1:=Lib.hid (X1.out.next hb)
  replace E1:=Lib.hid (E1.out.next hb)
  replace X5:=Lib.hid (X5.out.next hb)
  replace LR:=Lib.hid (LR.out.next hb)
  replace HK2:=Lib.hid (HK2.out.next hb)
  replace X9:=Lib.hid (X9.out.next hb)
  replace X11:=Lib.hid (X11.out.next hb)
  replace E0:=Lib.hid (E0.out.next hb)
  replace LZ:=Lib.hid (LZ.out.next hb)
  replace X15:=Lib.hid (X15.out.next hb)
  replace LT:=Lib.hid (LT.out.next hb)
  replace LT2:=Lib.hid (LT2.out.next hb)
  replace HBL:=Lib.hid (HBL.out.trans (hb.mono HBL.out.size))
  clear hb
  go_wp2
  go_ret
  exact⟨rfl,HBL.out⟩
end Go.Proofs.YtcnglbliidjnfaaGreatDoor
end
section
namespace Go.Proofs.YtcnglbliidjnfaaGreatDoor
set_option linter.unusedVariables false
open Go.ChangeShapes Go.WideShapes Go.ChangeAt Go.RowKit
section
variable {H:Type} {enc:TypeId × Value→H} {P:Program}
theorem open_nats_full {W:World} {t e:TypeId} {k:IntKind} {r:Reach} {b0 m:Nat} {v:Value} {d:DataW H} {ps:List MemPlace} (ht:P.underlying t=some (.slice e)) (he:P.underlying e=some (.int k)) (hc:P.cellsOf e=1)
  (hm: ∀z,(Lit.int k z).wf=true→0≤z∧z<m) (hval:Value.okWide P W r b0 t v) (hd:DataW.Trod enc P W 0 (fun _=>true) true t v d ps):
  ∃(A:Option Addr) (l:List Nat) (c:Nat),v= .slice A l.length c∧Rd W W.heap.size A (l.map fun x:Nat=>Value.int k (x:Int))∧(∀x∈l,x<m)∧l.length≤c∧c≤maxLen∧(A=none→c=0)∧
   ∀b,(d.weights P t).all (·≤b)=true→c*P.bytesOf e≤b:=by
 obtain⟨a0,len,cap,rfl⟩:=okWide_slice ht hval
 obtain⟨fuel,hf⟩:=hd
 rcases open_ints ht he hc hf with⟨hcs,_⟩|⟨a,len',cap',zs,hcs,_,h1,h2,hz,hx,hcell,hwf⟩
 ·simp[Value.cells]at hcs
  obtain⟨rfl,rfl,rfl⟩:=hcs
  exact⟨none,[],0,rfl,by intro k u hu;simp at hu,by simp,by simp,by simp,by simp,by simp⟩
 ·simp[Value.cells]at hcs
  obtain⟨rfl,rfl,rfl⟩:=hcs
  simp at hz
  refine⟨some a,(zs.take len).map Int.toNat,cap,by simp;omega, ?_, ?_,by simp;omega,h2,by simp, ?_⟩
  ·intro j u hu
   simp only[List.getElem?_map,Option.map_eq_some_iff]at hu
   obtain⟨x,⟨z,hz1,rfl⟩,rfl⟩:=hu
   have hj:j<len:=by
    rcases Nat.lt_or_ge j len with h|h
    ·exact h
    ·rw[List.getElem?_eq_none (by simp;omega)]at hz1;cases hz1
   have hcj:=hcell j (by omega)
   rw[List.getElem?_take,if_pos hj]at hz1
   rw[List.getD_eq_getElem?_getD,hz1,Option.getD_some]at hcj
   have hzw:=hm z (hwf z (List.mem_of_getElem? hz1))
   refine⟨a,rfl, ?_, ?_⟩
   ·have:=lt_of_cell hcj
    rwa[add_block]at this
   ·rw[hcj]
    congr 2
    omega
  ·intro x hx
   simp only[List.mem_map]at hx
   obtain⟨z,hz1,rfl⟩:=hx
   have:=hm z (hwf z (List.mem_of_mem_take hz1))
   omega
  ·intro b hb
   obtain⟨rfl,_⟩:=Prod.mk.inj hx
   simp only[DataW.weights,ht,List.all_cons,Bool.and_eq_true,decide_eq_true_eq]at hb
   have h3:=hb.1
   simp[lits]at h3
   have h4:min len zs.length+(zs.length - len)=cap:=by omega
   rw[h4]at h3
   exact h3
theorem weights_of_each {ts:List TypeId} {ds:List (DataW H)} {b:Nat} (h:(DataW.weightsEach P ts ds).all (·≤b)=true) (j:Nat) {t:TypeId} {d:DataW H} (ht:ts[j]?=some t) (hd:ds[j]?=some d):(d.weights P t).all (·≤b)=true:=
 List.all_eq_true.2 fun n hn=>List.all_eq_true.1 h n (DataW.weights_mem_each ht hd n hn)
end
end Go.Proofs.YtcnglbliidjnfaaGreatDoor
end
section
namespace Go.Proofs.YtcnglbliidjnfaaGreatDoor
set_option maxRecDepth 100000
set_option linter.unusedVariables false
open Go.ChangeShapes Go.WideShapes Go.ChangeAt Go.RowKit
def laidL {H:Type} :List (String × DataW H):=[("gateline/sha.constants",Rows.laid_gateline_sha_constants),("gateline/sha.beginning",Rows.laid_gateline_sha_beginning)]
theorem gConst: Tryz.prog.globalNamed "gateline/sha.constants" =some 1 :=by kernel_rfl
theorem gBegin: Tryz.prog.globalNamed "gateline/sha.beginning" =some 0 :=by kernel_rfl
theorem gConstT:(Tryz.prog.globals[1]?).map (·.type)=some 157 :=by kernel_rfl
theorem gBeginT:(Tryz.prog.globals[0]?).map (·.type)=some 139 :=by kernel_rfl
theorem cells64: Tryz.prog.cellsOf 157 =64:=by kernel_rfl
theorem cellsOf8: Tryz.prog.cellsOf 139 =8:=by kernel_rfl
theorem rd_tab {W:World} {g:Nat} {name:String} {l:List Nat} (hg: Tryz.prog.globalNamed name=some g) (h:Lib.TabIs Tryz.prog W name .u32 (l.map fun x:Nat=>(x:Int))):Rd W W.heap.size (some ⟨g,0,none⟩) (U32 l):=by
 intro k u hu
 have hk:k<l.length:=by
  rcases Nat.lt_or_ge k l.length with h'|h'
  ·exact h'
  ·rw[List.getElem?_eq_none (by rw[U32_length];exact h')]at hu;cases hu
 have hc:=h.cell hg k (by simpa using hk)
 rw[U32_at l k hk]at hu
 cases hu
 have hlt:g<W.heap.size:=lt_of_cell hc
 refine⟨_,rfl,hlt, ?_⟩
 rw[at_add,hc]
 simp[List.getD,hk]
theorem tabs_of_laid {W:World} (h:laidMetH Tryz.prog laidL W):Tabs W:=by
 have h':laidMet Tryz.prog laidL W:=h
 exact⟨rd_tab gConst (Lib.tabIs_of_head (zs:=kTab.map fun x:Nat=>(x:Int)) gConst gConstT Tryz.underlying157 Tryz.underlying138 Tryz.cellsU32 cells64 h'),
  rd_tab gBegin (Lib.tabIs_of_head (zs:=beginN.list.map fun x:Nat=>(x:Int)) gBegin gBeginT Tryz.underlying139 Tryz.underlying138 Tryz.cellsU32 cellsOf8 (laidMet.tail h'))⟩
theorem door_met (os:Os) (args:Array Value):laidMetH Tryz.prog laidL ((World.doorLaid Tryz.prog 400 os).forCall (fun _ _=>0) ⟨#[],args,[]⟩).memory:=
 laidMetH_of_parts3 (fuel:=8) (laidMet_of_run' 8 (by kernel_rfl) (by kernel_rfl)) (by kernel_rfl) (by kernel_rfl)
end Go.Proofs.YtcnglbliidjnfaaGreatDoor
end
