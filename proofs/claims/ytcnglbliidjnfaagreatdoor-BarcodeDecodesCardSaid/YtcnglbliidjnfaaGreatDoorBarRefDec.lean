import Derived.Test.YtcnglbliidjnfaaGreatDoorFortyRefGet
import Derived.Test.YtcnglbliidjnfaaGreatDoorMacRefBlock
import Derived.Test.YtcnglbliidjnfaaGreatDoorBarPChain
import Derived.Test.YtcnglbliidjnfaaGreatDoorBarPDec0
import Derived.Test.YtcnglbliidjnfaaGreatDoorFieldsRefGetC
import Derived.Test.YtcnglbliidjnfaaGreatDoorRingFind
import Derived.Test.YtcnglbliidjnfaaGreatDoorRingLast
import Derived.Test.YtcnglbliidjnfaaGreatDoorBarPVer0
namespace Go.Proofs.YtcnglbliidjnfaaGreatDoor
set_option linter.unusedVariables false
open Go.ChangeShapes Go.WideShapes Go.ChangeAt Go.RowKit
theorem rfget_zero9 (l:List Tf) (n:Nat) (hn:n=l.length) (E:Nat) (hE:fdGet l=(E,zeroR)) (A:Option Addr) (c:Nat) (w:World) (hA:Ts w w.heap.size l A c):Calls Tryz.prog 46 #[.slice A n c] w fun e w'=>e= .returned (.tuple #[.agg #[.int .i64 0, .int .i64 0, .int .i64 0, .int .i64 0, .int .i64 0, .int .i64 0, .int .i64 0, .int .i64 0, .int .i64 0, .int .i64 0, .int .i64 0, .int .i64 0, .int .i64 0, .int .i64 0, .int .i64 0], .int .i64 (E:Int)])∧Below w.heap.size w w':=rfget_any l n hn E zeroR hE A c w hA
set_option maxRecDepth 100000 in
set_option maxHeartbeats 1600000 in
theorem rbdec_a (l:List K) (n:Nat) (hn:n=l.length) (hn3:n≤9223372036854775807) (b:List Nat) (m:Nat) (hm:m=b.length) (hm4:m≤4000) (A:Option Addr) (c:Nat) (B:Option Addr) (d:Nat) (E:Nat) (r:Rg) (hE:decB l b=(E,r)) (w:World) (hA:Ks w w.heap.size A l) (hB:Bs w w.heap.size b B d) (h1:isR l=false):Calls Tryz.prog 16 #[.slice A n c, .slice B m d] w fun e w'=>e= .returned (.tuple #[.agg #[.int .i64 r.t.ser, .int .i64 r.t.kind, .int .i64 r.t.frm, .int .i64 r.t.till, .int .i64 r.t.cls, .int .i64 r.t.card, .int .i64 r.t.seat, .int .i64 r.t.day, .int .i64 r.t.days, .int .i64 r.t.uses, .int .i64 r.t.epoch, .int .i64 r.key, .int .i64 r.left, .int .i64 r.inn, .int .i64 r.ver], .int .i64 (E:Int)])∧Below w.heap.size w w':=by
 obtain⟨rfl,rfl⟩:E=1∧r=zeroR:=by rw[decB,if_pos h1]at hE;exact⟨(Prod.mk.inj hE).1.symm,(Prod.mk.inj hE).2.symm⟩
 have H1:=Lib.hid h1
 clear hE h1
 have HN:=Lib.hid hn
 have HM:=Lib.hid hm
 have HA:=Lib.hid hA
 have HB:=Lib.hid hB
 clear hn hm hA hB
 have HBL:=Lib.hid (Below.refl w.heap.size w)
 go_enter Tryz.func16, Tryz.ntmps16
 go_wp2_with fail
 obtain⟨w1,hw⟩: ∃w1,w1=w.alloc (.cells #[.int .i64 0, .int .i64 0, .int .i64 0, .int .i64 0, .int .i64 0, .int .i64 0, .int .i64 0, .int .i64 0, .int .i64 0, .int .i64 0, .int .i64 0, .int .i64 0, .int .i64 0, .int .i64 0, .int .i64 0] 28):=⟨_,rfl⟩
 rw[←hw]
 have hx:RBox w1 w.heap.size zeroR:=by rw[hw];exact RBox.new w zeroR
 have hb:Below w.heap.size w w1:=by rw[hw];exact below_lit w _ _
 replace HA:=Lib.hid (HA.out.next hb)
 replace HB:=Lib.hid (HB.out.next hb)
 replace HBL:=Lib.hid (HBL.out.trans (hb.mono HBL.out.size))
 have XD:=Lib.hid hx
 clear hx hb hw
 refine(refis_named l n HN.out false H1.out A c w1 HA.out hn3).mono ?_
 rintro e w2 ⟨rfl,hb⟩
 replace HA:=Lib.hid (HA.out.next hb)
 replace HB:=Lib.hid (HB.out.next hb)
 replace XD:=Lib.hid (XD.out.next hb)
 replace HBL:=Lib.hid (HBL.out.trans (hb.mono HBL.out.size))
 clear hb
 go_wp2_with ((with_reducible refine at_store 4 ?_);refine wpList_store_named (o:=⟨none, .store 28 (.tmp 4) (.tmp 19),_,_,_,_⟩) rfl 28 (.tmp 4) (.tmp 19) rfl (w.heap.size) #[.int .i64 0, .int .i64 0, .int .i64 0, .int .i64 0, .int .i64 0, .int .i64 0, .int .i64 0, .int .i64 0, .int .i64 0, .int .i64 0, .int .i64 0, .int .i64 0, .int .i64 0, .int .i64 0, .int .i64 0] rfl rfl 28 #[.int .i64 0, .int .i64 0, .int .i64 0, .int .i64 0, .int .i64 0, .int .i64 0, .int .i64 0, .int .i64 0, .int .i64 0, .int .i64 0, .int .i64 0, .int .i64 0, .int .i64 0, .int .i64 0, .int .i64 0] XD.out infoRd rfl (rg_one _ _ _ _ _ _ _ _ _ _ _ _ _ _ _) ?_)
 intro w90 hw90
 go_wp2
 refine bodyPost_ret (results_row_tmp' Tryz.results16 _ w90 (w.heap.size) 28 #[.int .i64 0, .int .i64 0, .int .i64 0, .int .i64 0, .int .i64 0, .int .i64 0, .int .i64 0, .int .i64 0, .int .i64 0, .int .i64 0, .int .i64 0, .int .i64 0, .int .i64 0, .int .i64 0, .int .i64 0] (0,0) _ rfl (by rw[hw90.out];exact setRow_heap _ _ _ _ _ _ XD.out) Tryz.underlying28 rfl infoRd) rfl ⟨rfl, ?_⟩
 rw[hw90.out]
 exact below_setRow HBL.out (Nat.le_refl _) _
set_option maxRecDepth 100000 in
set_option maxHeartbeats 1600000 in
theorem rbdec_b (l:List K) (n:Nat) (hn:n=l.length) (hn3:n≤9223372036854775807) (b:List Nat) (m:Nat) (hm:m=b.length) (hm4:m≤4000) (A:Option Addr) (c:Nat) (B:Option Addr) (d:Nat) (E:Nat) (r:Rg) (hE:decB l b=(E,r)) (w:World) (hA:Ks w w.heap.size A l) (hB:Bs w w.heap.size b B d) (h1:isR l=true) (G:Nat) (P:List Nat) (hX:fgetX b=(G,P)) (h2:G≠0):Calls Tryz.prog 16 #[.slice A n c, .slice B m d] w fun e w'=>e= .returned (.tuple #[.agg #[.int .i64 r.t.ser, .int .i64 r.t.kind, .int .i64 r.t.frm, .int .i64 r.t.till, .int .i64 r.t.cls, .int .i64 r.t.card, .int .i64 r.t.seat, .int .i64 r.t.day, .int .i64 r.t.days, .int .i64 r.t.uses, .int .i64 r.t.epoch, .int .i64 r.key, .int .i64 r.left, .int .i64 r.inn, .int .i64 r.ver], .int .i64 (E:Int)])∧Below w.heap.size w w':=by
 have h1': ¬isR l=false:=by rw[h1];decide
 obtain⟨rfl,rfl⟩:E=G∧r=zeroR:=by
  rw[decB,if_neg h1',hX]at hE
  simp only at hE
  rw[if_pos h2]at hE
  exact⟨(Prod.mk.inj hE).1.symm,(Prod.mk.inj hE).2.symm⟩
 have s1:((E:Int)==0)=false:=by rw[beq_eq_false_iff_ne];omega
 have s2:((E:Int) !=0)=true:=by rw[bne_iff_ne];omega
 have s3:(E==0)=false:=by rw[beq_eq_false_iff_ne];exact h2
 have s4:(E !=0)=true:=by rw[bne_iff_ne];exact h2
 have H1:=Lib.hid h1
 have H2:=Lib.hid h2
 have HX:=Lib.hid hX
 clear hE h1 h1' h2 hX
 have HN:=Lib.hid hn
 have HM:=Lib.hid hm
 have HA:=Lib.hid hA
 have HB:=Lib.hid hB
 clear hn hm hA hB
 have HBL:=Lib.hid (Below.refl w.heap.size w)
 go_enter Tryz.func16, Tryz.ntmps16
 go_wp2_with fail
 obtain⟨w1,hw⟩: ∃w1,w1=w.alloc (.cells #[.int .i64 0, .int .i64 0, .int .i64 0, .int .i64 0, .int .i64 0, .int .i64 0, .int .i64 0, .int .i64 0, .int .i64 0, .int .i64 0, .int .i64 0, .int .i64 0, .int .i64 0, .int .i64 0, .int .i64 0] 28):=⟨_,rfl⟩
 rw[←hw]
 have hx:RBox w1 w.heap.size zeroR:=by rw[hw];exact RBox.new w zeroR
 have hb:Below w.heap.size w w1:=by rw[hw];exact below_lit w _ _
 replace HA:=Lib.hid (HA.out.next hb)
 replace HB:=Lib.hid (HB.out.next hb)
 replace HBL:=Lib.hid (HBL.out.trans (hb.mono HBL.out.size))
 have XD:=Lib.hid hx
 clear hx hb hw
 refine(refis_named l n HN.out true H1.out A c w1 HA.out hn3).mono ?_
 rintro e w2 ⟨rfl,hb⟩
 replace HA:=Lib.hid (HA.out.next hb)
 replace HB:=Lib.hid (HB.out.next hb)
 replace XD:=Lib.hid (XD.out.next hb)
 replace HBL:=Lib.hid (HBL.out.trans (hb.mono HBL.out.size))
 clear hb
 go_wp2_with fail
 refine(rbody_no b m HM.out hm4 B d w2 HB.out E P HX.out H2.out).mono ?_
 rintro e w3 ⟨rfl,hb⟩
 replace HA:=Lib.hid (HA.out.next hb)
 replace HB:=Lib.hid (HB.out.next hb)
 replace XD:=Lib.hid (XD.out.next hb)
 replace HBL:=Lib.hid (HBL.out.trans (hb.mono HBL.out.size))
 clear hb
 go_wp2_with ((with_reducible refine at_store 4 ?_);refine wpList_store_named (o:=⟨none, .store 28 (.tmp 4) (.tmp 28),_,_,_,_⟩) rfl 28 (.tmp 4) (.tmp 28) rfl (w.heap.size) #[.int .i64 0, .int .i64 0, .int .i64 0, .int .i64 0, .int .i64 0, .int .i64 0, .int .i64 0, .int .i64 0, .int .i64 0, .int .i64 0, .int .i64 0, .int .i64 0, .int .i64 0, .int .i64 0, .int .i64 0] rfl rfl 28 #[.int .i64 0, .int .i64 0, .int .i64 0, .int .i64 0, .int .i64 0, .int .i64 0, .int .i64 0, .int .i64 0, .int .i64 0, .int .i64 0, .int .i64 0, .int .i64 0, .int .i64 0, .int .i64 0, .int .i64 0] XD.out infoRd rfl (rg_one _ _ _ _ _ _ _ _ _ _ _ _ _ _ _) ?_)
 intro w90 hw90
 go_wp2
 refine bodyPost_ret (results_row_tmp' Tryz.results16 _ w90 (w.heap.size) 28 #[.int .i64 0, .int .i64 0, .int .i64 0, .int .i64 0, .int .i64 0, .int .i64 0, .int .i64 0, .int .i64 0, .int .i64 0, .int .i64 0, .int .i64 0, .int .i64 0, .int .i64 0, .int .i64 0, .int .i64 0] (0,0) _ rfl (by rw[hw90.out];exact setRow_heap _ _ _ _ _ _ XD.out) Tryz.underlying28 rfl infoRd) rfl ⟨rfl, ?_⟩
 rw[hw90.out]
 exact below_setRow HBL.out (Nat.le_refl _) _
set_option maxRecDepth 100000 in
set_option maxHeartbeats 1600000 in
theorem rbdec_c (l:List K) (n:Nat) (hn:n=l.length) (hn3:n≤9223372036854775807) (b:List Nat) (m:Nat) (hm:m=b.length) (hm4:m≤4000) (A:Option Addr) (c:Nat) (B:Option Addr) (d:Nat) (E:Nat) (r:Rg) (hE:decB l b=(E,r)) (w:World) (hA:Ks w w.heap.size A l) (hB:Bs w w.heap.size b B d) (h1:isR l=true) (P:List Nat) (hX:fgetX b=(0,P)) (h2:P.length<32):Calls Tryz.prog 16 #[.slice A n c, .slice B m d] w fun e w'=>e= .returned (.tuple #[.agg #[.int .i64 r.t.ser, .int .i64 r.t.kind, .int .i64 r.t.frm, .int .i64 r.t.till, .int .i64 r.t.cls, .int .i64 r.t.card, .int .i64 r.t.seat, .int .i64 r.t.day, .int .i64 r.t.days, .int .i64 r.t.uses, .int .i64 r.t.epoch, .int .i64 r.key, .int .i64 r.left, .int .i64 r.inn, .int .i64 r.ver], .int .i64 (E:Int)])∧Below w.heap.size w w':=by
 have h1': ¬isR l=false:=by rw[h1];decide
 obtain⟨rfl,rfl⟩:E=14∧r=zeroR:=by
  rw[decB,if_neg h1',hX]at hE
  simp only at hE
  rw[if_neg (by simp),toldB,if_pos h2]at hE
  exact⟨(Prod.mk.inj hE).1.symm,(Prod.mk.inj hE).2.symm⟩
 have H1:=Lib.hid h1
 have H2:=Lib.hid h2
 have HX:=Lib.hid hX
 clear hE h1 h1' h2 hX
 have HN:=Lib.hid hn
 have HM:=Lib.hid hm
 have HA:=Lib.hid hA
 have HB:=Lib.hid hB
 clear hn hm hA hB
 have HBL:=Lib.hid (Below.refl w.heap.size w)
 go_enter Tryz.func16, Tryz.ntmps16
 go_wp2_with fail
 obtain⟨w1,hw⟩: ∃w1,w1=w.alloc (.cells #[.int .i64 0, .int .i64 0, .int .i64 0, .int .i64 0, .int .i64 0, .int .i64 0, .int .i64 0, .int .i64 0, .int .i64 0, .int .i64 0, .int .i64 0, .int .i64 0, .int .i64 0, .int .i64 0, .int .i64 0] 28):=⟨_,rfl⟩
 rw[←hw]
 have hx:RBox w1 w.heap.size zeroR:=by rw[hw];exact RBox.new w zeroR
 have hb:Below w.heap.size w w1:=by rw[hw];exact below_lit w _ _
 replace HA:=Lib.hid (HA.out.next hb)
 replace HB:=Lib.hid (HB.out.next hb)
 replace HBL:=Lib.hid (HBL.out.trans (hb.mono HBL.out.size))
 have XD:=Lib.hid hx
 clear hx hb hw
 refine(refis_named l n HN.out true H1.out A c w1 HA.out hn3).mono ?_
 rintro e w2 ⟨rfl,hb⟩
 replace HA:=Lib.hid (HA.out.next hb)
 replace HB:=Lib.hid (HB.out.next hb)
 replace XD:=Lib.hid (XD.out.next hb)
 replace HBL:=Lib.hid (HBL.out.trans (hb.mono HBL.out.size))
 clear hb
 go_wp2_with fail
 refine(rbody_short b m HM.out hm4 B d w2 HB.out P HX.out H2.out).mono ?_
 rintro e w3 ⟨rfl,hb⟩
 replace HA:=Lib.hid (HA.out.next hb)
 replace HB:=Lib.hid (HB.out.next hb)
 replace XD:=Lib.hid (XD.out.next hb)
 replace HBL:=Lib.hid (HBL.out.trans (hb.mono HBL.out.size))
 clear hb
 go_wp2_with ((with_reducible refine at_store 4 ?_);refine wpList_store_named (o:=⟨none, .store 28 (.tmp 4) (.tmp 28),_,_,_,_⟩) rfl 28 (.tmp 4) (.tmp 28) rfl (w.heap.size) #[.int .i64 0, .int .i64 0, .int .i64 0, .int .i64 0, .int .i64 0, .int .i64 0, .int .i64 0, .int .i64 0, .int .i64 0, .int .i64 0, .int .i64 0, .int .i64 0, .int .i64 0, .int .i64 0, .int .i64 0] rfl rfl 28 #[.int .i64 0, .int .i64 0, .int .i64 0, .int .i64 0, .int .i64 0, .int .i64 0, .int .i64 0, .int .i64 0, .int .i64 0, .int .i64 0, .int .i64 0, .int .i64 0, .int .i64 0, .int .i64 0, .int .i64 0] XD.out infoRd rfl (rg_one _ _ _ _ _ _ _ _ _ _ _ _ _ _ _) ?_)
 intro w90 hw90
 go_wp2
 refine bodyPost_ret (results_row_tmp' Tryz.results16 _ w90 (w.heap.size) 28 #[.int .i64 0, .int .i64 0, .int .i64 0, .int .i64 0, .int .i64 0, .int .i64 0, .int .i64 0, .int .i64 0, .int .i64 0, .int .i64 0, .int .i64 0, .int .i64 0, .int .i64 0, .int .i64 0, .int .i64 0] (0,0) _ rfl (by rw[hw90.out];exact setRow_heap _ _ _ _ _ _ XD.out) Tryz.underlying28 rfl infoRd) rfl ⟨rfl, ?_⟩
 rw[hw90.out]
 exact below_setRow HBL.out (Nat.le_refl _) _
set_option maxRecDepth 100000 in
set_option maxHeartbeats 1600000 in
theorem rbdec_d (l:List K) (n:Nat) (hn:n=l.length) (hn3:n≤9223372036854775807) (b:List Nat) (m:Nat) (hm:m=b.length) (hm4:m≤4000) (A:Option Addr) (c:Nat) (B:Option Addr) (d:Nat) (E:Nat) (r:Rg) (hE:decB l b=(E,r)) (w:World) (hA:Ks w w.heap.size A l) (hB:Bs w w.heap.size b B d) (h1:isR l=true) (P:List Nat) (hX:fgetX b=(0,P)) (j:Nat) (hj:P.length=j+32) (G:Nat) (L:List Tf) (hG:gotT (restB P)=(G,L)) (h2:G≠0):Calls Tryz.prog 16 #[.slice A n c, .slice B m d] w fun e w'=>e= .returned (.tuple #[.agg #[.int .i64 r.t.ser, .int .i64 r.t.kind, .int .i64 r.t.frm, .int .i64 r.t.till, .int .i64 r.t.cls, .int .i64 r.t.card, .int .i64 r.t.seat, .int .i64 r.t.day, .int .i64 r.t.days, .int .i64 r.t.uses, .int .i64 r.t.epoch, .int .i64 r.key, .int .i64 r.left, .int .i64 r.inn, .int .i64 r.ver], .int .i64 (E:Int)])∧Below w.heap.size w w':=by
 obtain⟨rfl,rfl⟩:E=G∧r=zeroR:=by
  have h1': ¬isR l=false:=by rw[h1];decide
  rw[decB,if_neg h1',hX]at hE
  simp only at hE
  rw[if_neg (by simp),toldB,if_neg (by omega),hG]at hE
  simp only at hE
  rw[if_pos h2]at hE
  exact⟨(Prod.mk.inj hE).1.symm,(Prod.mk.inj hE).2.symm⟩
 have s1:((E:Int)==0)=false:=by rw[beq_eq_false_iff_ne];omega
 have s2:((E:Int) !=0)=true:=by rw[bne_iff_ne];omega
 have s3:(E==0)=false:=by rw[beq_eq_false_iff_ne];exact h2
 have s4:(E !=0)=true:=by rw[bne_iff_ne];exact h2
 clear h2
 have HRJ:=Lib.hid (show j=(restB P).length by rw[restB,List.length_take];omega)
 have HSJ:=Lib.hid (show 32=(sealB P).length by rw[sealB,List.length_drop];omega)
 have hjl:j≤4000:=by
  have h9:=fgetX_len9 b
  rw[hX]at h9
  simp only at h9
  omega
 have H1:=Lib.hid h1
 have HX:=Lib.hid hX
 have HJ:=Lib.hid hj
 have HG:=Lib.hid hG
 clear hE h1 hX hj hG
 have HN:=Lib.hid hn
 have HM:=Lib.hid hm
 have HA:=Lib.hid hA
 have HB:=Lib.hid hB
 clear hn hm hA hB
 have HBL:=Lib.hid (Below.refl w.heap.size w)
 go_enter Tryz.func16, Tryz.ntmps16
 go_wp2_with fail
 obtain⟨w1,hw⟩: ∃w1,w1=w.alloc (.cells #[.int .i64 0, .int .i64 0, .int .i64 0, .int .i64 0, .int .i64 0, .int .i64 0, .int .i64 0, .int .i64 0, .int .i64 0, .int .i64 0, .int .i64 0, .int .i64 0, .int .i64 0, .int .i64 0, .int .i64 0] 28):=⟨_,rfl⟩
 rw[←hw]
 have hx:RBox w1 w.heap.size zeroR:=by rw[hw];exact RBox.new w zeroR
 have hb:Below w.heap.size w w1:=by rw[hw];exact below_lit w _ _
 replace HA:=Lib.hid (HA.out.next hb)
 replace HB:=Lib.hid (HB.out.next hb)
 replace HBL:=Lib.hid (HBL.out.trans (hb.mono HBL.out.size))
 have XD:=Lib.hid hx
 clear hx hb hw
 refine(refis_named l n HN.out true H1.out A c w1 HA.out hn3).mono ?_
 rintro e w2 ⟨rfl,hb⟩
 replace HA:=Lib.hid (HA.out.next hb)
 replace HB:=Lib.hid (HB.out.next hb)
 replace XD:=Lib.hid (XD.out.next hb)
 replace HBL:=Lib.hid (HBL.out.trans (hb.mono HBL.out.size))
 clear hb
 go_wp2_with fail
 refine(rbody_ok b m HM.out hm4 B d w2 HB.out P HX.out j HJ.out).mono ?_
 rintro e w3 ⟨A1,c1,A2,c2,rfl,hs1,hs2,hb⟩
 replace HA:=Lib.hid (HA.out.next hb)
 replace HB:=Lib.hid (HB.out.next hb)
 replace XD:=Lib.hid (XD.out.next hb)
 replace HBL:=Lib.hid (HBL.out.trans (hb.mono HBL.out.size))
 clear hb
 have S1:=Lib.hid hs1
 have S2:=Lib.hid hs2
 clear hs1 hs2
 go_wp2_with fail
 refine(refget_tlv (restB P) j HRJ.out (by omega) E L HG.out A1 c1 w3 S1.out).mono ?_
 rintro e w4 ⟨ALT,cLT,rfl,hs,hb⟩
 replace HA:=Lib.hid (HA.out.next hb)
 replace HB:=Lib.hid (HB.out.next hb)
 replace XD:=Lib.hid (XD.out.next hb)
 replace S1:=Lib.hid (S1.out.next hb)
 replace S2:=Lib.hid (S2.out.next hb)
 replace HBL:=Lib.hid (HBL.out.trans (hb.mono HBL.out.size))
 have LT:=Lib.hid hs
 clear hb hs
 go_wp2_with ((with_reducible refine at_store 4 ?_);refine wpList_store_named (o:=⟨none, .store 28 (.tmp 4) (.tmp 37),_,_,_,_⟩) rfl 28 (.tmp 4) (.tmp 37) rfl (w.heap.size) #[.int .i64 0, .int .i64 0, .int .i64 0, .int .i64 0, .int .i64 0, .int .i64 0, .int .i64 0, .int .i64 0, .int .i64 0, .int .i64 0, .int .i64 0, .int .i64 0, .int .i64 0, .int .i64 0, .int .i64 0] rfl rfl 28 #[.int .i64 0, .int .i64 0, .int .i64 0, .int .i64 0, .int .i64 0, .int .i64 0, .int .i64 0, .int .i64 0, .int .i64 0, .int .i64 0, .int .i64 0, .int .i64 0, .int .i64 0, .int .i64 0, .int .i64 0] XD.out infoRd rfl (rg_one _ _ _ _ _ _ _ _ _ _ _ _ _ _ _) ?_)
 intro w90 hw90
 go_wp2
 refine bodyPost_ret (results_row_tmp' Tryz.results16 _ w90 (w.heap.size) 28 #[.int .i64 0, .int .i64 0, .int .i64 0, .int .i64 0, .int .i64 0, .int .i64 0, .int .i64 0, .int .i64 0, .int .i64 0, .int .i64 0, .int .i64 0, .int .i64 0, .int .i64 0, .int .i64 0, .int .i64 0] (0,0) _ rfl (by rw[hw90.out];exact setRow_heap _ _ _ _ _ _ XD.out) Tryz.underlying28 rfl infoRd) rfl ⟨rfl, ?_⟩
 rw[hw90.out]
 exact below_setRow HBL.out (Nat.le_refl _) _
set_option maxRecDepth 100000 in
set_option maxHeartbeats 1600000 in
theorem rbdec_e (l:List K) (n:Nat) (hn:n=l.length) (hn3:n≤9223372036854775807) (b:List Nat) (m:Nat) (hm:m=b.length) (hm4:m≤4000) (A:Option Addr) (c:Nat) (B:Option Addr) (d:Nat) (E:Nat) (r:Rg) (hE:decB l b=(E,r)) (w:World) (hA:Ks w w.heap.size A l) (hB:Bs w w.heap.size b B d) (h1:isR l=true) (P:List Nat) (hX:fgetX b=(0,P)) (j:Nat) (hj:P.length=j+32) (L:List Tf) (hG:gotT (restB P)=(0,L)) (G:Nat) (r9:Rg) (hF:fdGet L=(G,r9)) (h2:G≠0):Calls Tryz.prog 16 #[.slice A n c, .slice B m d] w fun e w'=>e= .returned (.tuple #[.agg #[.int .i64 r.t.ser, .int .i64 r.t.kind, .int .i64 r.t.frm, .int .i64 r.t.till, .int .i64 r.t.cls, .int .i64 r.t.card, .int .i64 r.t.seat, .int .i64 r.t.day, .int .i64 r.t.days, .int .i64 r.t.uses, .int .i64 r.t.epoch, .int .i64 r.key, .int .i64 r.left, .int .i64 r.inn, .int .i64 r.ver], .int .i64 (E:Int)])∧Below w.heap.size w w':=by
 have hsaid:=dec_said h1 hX (by omega) hG
 have hz:=fdGet_bad hF h2
 subst hz
 obtain⟨rfl,rfl⟩:E=G∧r=zeroR:=by
  rw[hsaid,hF,if_pos h2]at hE
  exact⟨(Prod.mk.inj hE).1.symm,(Prod.mk.inj hE).2.symm⟩
 have s1:((E:Int)==0)=false:=by rw[beq_eq_false_iff_ne];omega
 have s2:((E:Int) !=0)=true:=by rw[bne_iff_ne];omega
 have s3:(E==0)=false:=by rw[beq_eq_false_iff_ne];exact h2
 have s4:(E !=0)=true:=by rw[bne_iff_ne];exact h2
 have HF:=Lib.hid hF
 clear h2 hF hsaid
 have HRJ:=Lib.hid (show j=(restB P).length by rw[restB,List.length_take];omega)
 have HSJ:=Lib.hid (show 32=(sealB P).length by rw[sealB,List.length_drop];omega)
 have hjl:j≤4000:=by
  have h9:=fgetX_len9 b
  rw[hX]at h9
  simp only at h9
  omega
 have H1:=Lib.hid h1
 have HX:=Lib.hid hX
 have HJ:=Lib.hid hj
 have HG:=Lib.hid hG
 clear hE h1 hX hj hG
 have HN:=Lib.hid hn
 have HM:=Lib.hid hm
 have HA:=Lib.hid hA
 have HB:=Lib.hid hB
 clear hn hm hA hB
 have HBL:=Lib.hid (Below.refl w.heap.size w)
 go_enter Tryz.func16, Tryz.ntmps16
 go_wp2_with fail
 obtain⟨w1,hw⟩: ∃w1,w1=w.alloc (.cells #[.int .i64 0, .int .i64 0, .int .i64 0, .int .i64 0, .int .i64 0, .int .i64 0, .int .i64 0, .int .i64 0, .int .i64 0, .int .i64 0, .int .i64 0, .int .i64 0, .int .i64 0, .int .i64 0, .int .i64 0] 28):=⟨_,rfl⟩
 rw[←hw]
 have hx:RBox w1 w.heap.size zeroR:=by rw[hw];exact RBox.new w zeroR
 have hb:Below w.heap.size w w1:=by rw[hw];exact below_lit w _ _
 replace HA:=Lib.hid (HA.out.next hb)
 replace HB:=Lib.hid (HB.out.next hb)
 replace HBL:=Lib.hid (HBL.out.trans (hb.mono HBL.out.size))
 have XD:=Lib.hid hx
 clear hx hb hw
 refine(refis_named l n HN.out true H1.out A c w1 HA.out hn3).mono ?_
 rintro e w2 ⟨rfl,hb⟩
 replace HA:=Lib.hid (HA.out.next hb)
 replace HB:=Lib.hid (HB.out.next hb)
 replace XD:=Lib.hid (XD.out.next hb)
 replace HBL:=Lib.hid (HBL.out.trans (hb.mono HBL.out.size))
 clear hb
 go_wp2_with fail
 refine(rbody_ok b m HM.out hm4 B d w2 HB.out P HX.out j HJ.out).mono ?_
 rintro e w3 ⟨A1,c1,A2,c2,rfl,hs1,hs2,hb⟩
 replace HA:=Lib.hid (HA.out.next hb)
 replace HB:=Lib.hid (HB.out.next hb)
 replace XD:=Lib.hid (XD.out.next hb)
 replace HBL:=Lib.hid (HBL.out.trans (hb.mono HBL.out.size))
 clear hb
 have S1:=Lib.hid hs1
 have S2:=Lib.hid hs2
 clear hs1 hs2
 go_wp2_with fail
 refine(refget_tlv (restB P) j HRJ.out (by omega) 0 L HG.out A1 c1 w3 S1.out).mono ?_
 rintro e w4 ⟨ALT,cLT,rfl,hs,hb⟩
 replace HA:=Lib.hid (HA.out.next hb)
 replace HB:=Lib.hid (HB.out.next hb)
 replace XD:=Lib.hid (XD.out.next hb)
 replace S1:=Lib.hid (S1.out.next hb)
 replace S2:=Lib.hid (S2.out.next hb)
 replace HBL:=Lib.hid (HBL.out.trans (hb.mono HBL.out.size))
 have LT:=Lib.hid hs
 clear hb hs
 go_wp2_with fail
 refine(rfget_zero9 L L.length rfl E HF.out ALT cLT w4 LT.out).mono ?_
 rintro e w5 ⟨rfl,hb⟩
 replace HA:=Lib.hid (HA.out.next hb)
 replace HB:=Lib.hid (HB.out.next hb)
 replace XD:=Lib.hid (XD.out.next hb)
 replace S1:=Lib.hid (S1.out.next hb)
 replace S2:=Lib.hid (S2.out.next hb)
 replace LT:=Lib.hid (LT.out.next hb)
 replace HBL:=Lib.hid (HBL.out.trans (hb.mono HBL.out.size))
 clear hb
 obtain⟨w80,hw80⟩: ∃w80,w80=w5.alloc (.cells #[.int .i64 0, .int .i64 0, .int .i64 0, .int .i64 0, .int .i64 0, .int .i64 0, .int .i64 0, .int .i64 0, .int .i64 0, .int .i64 0, .int .i64 0, .int .i64 0, .int .i64 0, .int .i64 0, .int .i64 0] 28):=⟨_,rfl⟩
 have hb:Below w5.heap.size w5 w80:=by rw[hw80];exact below_lit w5 _ _
 replace XD:=Lib.hid (XD.out.next hb)
 replace HBL:=Lib.hid (HBL.out.trans (hb.mono HBL.out.size))
 clear hb
 have HW:=Lib.hid hw80
 clear hw80
 go_wp2_with ((with_reducible refine at_store 4 ?_);rw[←HW.out];refine wpList_store_named (o:=⟨none, .store 28 (.tmp 4) (.tmp 46),_,_,_,_⟩) rfl 28 (.tmp 4) (.tmp 46) rfl (w.heap.size) #[.int .i64 0, .int .i64 0, .int .i64 0, .int .i64 0, .int .i64 0, .int .i64 0, .int .i64 0, .int .i64 0, .int .i64 0, .int .i64 0, .int .i64 0, .int .i64 0, .int .i64 0, .int .i64 0, .int .i64 0] rfl rfl 28 #[.int .i64 0, .int .i64 0, .int .i64 0, .int .i64 0, .int .i64 0, .int .i64 0, .int .i64 0, .int .i64 0, .int .i64 0, .int .i64 0, .int .i64 0, .int .i64 0, .int .i64 0, .int .i64 0, .int .i64 0] XD.out infoRd rfl (rg_one _ _ _ _ _ _ _ _ _ _ _ _ _ _ _) ?_)
 intro w90 hw90
 go_wp2
 refine bodyPost_ret (results_row_tmp' Tryz.results16 _ w90 (w.heap.size) 28 #[.int .i64 0, .int .i64 0, .int .i64 0, .int .i64 0, .int .i64 0, .int .i64 0, .int .i64 0, .int .i64 0, .int .i64 0, .int .i64 0, .int .i64 0, .int .i64 0, .int .i64 0, .int .i64 0, .int .i64 0] (0,0) _ rfl (by rw[hw90.out];exact setRow_heap _ _ _ _ _ _ XD.out) Tryz.underlying28 rfl infoRd) rfl ⟨rfl, ?_⟩
 rw[hw90.out]
 exact below_setRow HBL.out (Nat.le_refl _) _
set_option maxRecDepth 100000 in
set_option maxHeartbeats 1600000 in
theorem rbdec_f (l:List K) (n:Nat) (hn:n=l.length) (hn3:n≤9223372036854775807) (b:List Nat) (m:Nat) (hm:m=b.length) (hm4:m≤4000) (A:Option Addr) (c:Nat) (B:Option Addr) (d:Nat) (E:Nat) (r:Rg) (hE:decB l b=(E,r)) (w:World) (hA:Ks w w.heap.size A l) (hB:Bs w w.heap.size b B d) (h1:isR l=true) (P:List Nat) (hX:fgetX b=(0,P)) (j:Nat) (hj:P.length=j+32) (L:List Tf) (hG:gotT (restB P)=(0,L)) (g:Rg) (hF:fdGet L=(0,g)) (h3:findE l g.key≠0):Calls Tryz.prog 16 #[.slice A n c, .slice B m d] w fun e w'=>e= .returned (.tuple #[.agg #[.int .i64 r.t.ser, .int .i64 r.t.kind, .int .i64 r.t.frm, .int .i64 r.t.till, .int .i64 r.t.cls, .int .i64 r.t.card, .int .i64 r.t.seat, .int .i64 r.t.day, .int .i64 r.t.days, .int .i64 r.t.uses, .int .i64 r.t.epoch, .int .i64 r.key, .int .i64 r.left, .int .i64 r.inn, .int .i64 r.ver], .int .i64 (E:Int)])∧Below w.heap.size w w':=by
 have hsaid:=dec_said h1 hX (by omega) hG
 obtain⟨rfl,rfl⟩:E=10∧r=zeroR:=by
  rw[hsaid,hF]at hE
  simp only at hE
  rw[if_neg (by simp),if_pos h3]at hE
  exact⟨(Prod.mk.inj hE).1.symm,(Prod.mk.inj hE).2.symm⟩
 have h10:findE l g.key=10:=find_ten h1 h3
 obtain⟨q,hq⟩: ∃q,q=findK l g.key:=⟨_,rfl⟩
 have H10:=Lib.hid h10.symm
 have HQ:=Lib.hid hq
 have HF:=Lib.hid hF
 clear h3 hF hsaid h10 hq
 have HRJ:=Lib.hid (show j=(restB P).length by rw[restB,List.length_take];omega)
 have HSJ:=Lib.hid (show 32=(sealB P).length by rw[sealB,List.length_drop];omega)
 have hjl:j≤4000:=by
  have h9:=fgetX_len9 b
  rw[hX]at h9
  simp only at h9
  omega
 have H1:=Lib.hid h1
 have HX:=Lib.hid hX
 have HJ:=Lib.hid hj
 have HG:=Lib.hid hG
 clear hE h1 hX hj hG
 have HN:=Lib.hid hn
 have HM:=Lib.hid hm
 have HA:=Lib.hid hA
 have HB:=Lib.hid hB
 clear hn hm hA hB
 have HBL:=Lib.hid (Below.refl w.heap.size w)
 go_enter Tryz.func16, Tryz.ntmps16
 go_wp2_with fail
 obtain⟨w1,hw⟩: ∃w1,w1=w.alloc (.cells #[.int .i64 0, .int .i64 0, .int .i64 0, .int .i64 0, .int .i64 0, .int .i64 0, .int .i64 0, .int .i64 0, .int .i64 0, .int .i64 0, .int .i64 0, .int .i64 0, .int .i64 0, .int .i64 0, .int .i64 0] 28):=⟨_,rfl⟩
 rw[←hw]
 have hx:RBox w1 w.heap.size zeroR:=by rw[hw];exact RBox.new w zeroR
 have hb:Below w.heap.size w w1:=by rw[hw];exact below_lit w _ _
 replace HA:=Lib.hid (HA.out.next hb)
 replace HB:=Lib.hid (HB.out.next hb)
 replace HBL:=Lib.hid (HBL.out.trans (hb.mono HBL.out.size))
 have XD:=Lib.hid hx
 clear hx hb hw
 refine(refis_named l n HN.out true H1.out A c w1 HA.out hn3).mono ?_
 rintro e w2 ⟨rfl,hb⟩
 replace HA:=Lib.hid (HA.out.next hb)
 replace HB:=Lib.hid (HB.out.next hb)
 replace XD:=Lib.hid (XD.out.next hb)
 replace HBL:=Lib.hid (HBL.out.trans (hb.mono HBL.out.size))
 clear hb
 go_wp2_with fail
 refine(rbody_ok b m HM.out hm4 B d w2 HB.out P HX.out j HJ.out).mono ?_
 rintro e w3 ⟨A1,c1,A2,c2,rfl,hs1,hs2,hb⟩
 replace HA:=Lib.hid (HA.out.next hb)
 replace HB:=Lib.hid (HB.out.next hb)
 replace XD:=Lib.hid (XD.out.next hb)
 replace HBL:=Lib.hid (HBL.out.trans (hb.mono HBL.out.size))
 clear hb
 have S1:=Lib.hid hs1
 have S2:=Lib.hid hs2
 clear hs1 hs2
 go_wp2_with fail
 refine(refget_tlv (restB P) j HRJ.out (by omega) 0 L HG.out A1 c1 w3 S1.out).mono ?_
 rintro e w4 ⟨ALT,cLT,rfl,hs,hb⟩
 replace HA:=Lib.hid (HA.out.next hb)
 replace HB:=Lib.hid (HB.out.next hb)
 replace XD:=Lib.hid (XD.out.next hb)
 replace S1:=Lib.hid (S1.out.next hb)
 replace S2:=Lib.hid (S2.out.next hb)
 replace HBL:=Lib.hid (HBL.out.trans (hb.mono HBL.out.size))
 have LT:=Lib.hid hs
 clear hb hs
 go_wp2_with fail
 refine(rfget_any L L.length rfl 0 g HF.out ALT cLT w4 LT.out).mono ?_
 rintro e w5 ⟨rfl,hb⟩
 replace HA:=Lib.hid (HA.out.next hb)
 replace HB:=Lib.hid (HB.out.next hb)
 replace XD:=Lib.hid (XD.out.next hb)
 replace S1:=Lib.hid (S1.out.next hb)
 replace S2:=Lib.hid (S2.out.next hb)
 replace LT:=Lib.hid (LT.out.next hb)
 replace HBL:=Lib.hid (HBL.out.trans (hb.mono HBL.out.size))
 clear hb
 go_wp2_with fail
 obtain⟨w6,hw⟩: ∃w6,w6=w5.alloc (.cells #[.int .i64 g.t.ser, .int .i64 g.t.kind, .int .i64 g.t.frm, .int .i64 g.t.till, .int .i64 g.t.cls, .int .i64 g.t.card, .int .i64 g.t.seat, .int .i64 g.t.day, .int .i64 g.t.days, .int .i64 g.t.uses, .int .i64 g.t.epoch, .int .i64 g.key, .int .i64 g.left, .int .i64 g.inn, .int .i64 g.ver] 28):=⟨_,rfl⟩
 rw[←hw]
 have hx:RBox w6 w5.heap.size g:=by rw[hw];exact RBox.new w5 g
 have hb:Below w5.heap.size w5 w6:=by rw[hw];exact below_lit w5 _ _
 replace HA:=Lib.hid (HA.out.next hb)
 replace HB:=Lib.hid (HB.out.next hb)
 replace XD:=Lib.hid (XD.out.next hb)
 replace S1:=Lib.hid (S1.out.next hb)
 replace S2:=Lib.hid (S2.out.next hb)
 replace LT:=Lib.hid (LT.out.next hb)
 replace HBL:=Lib.hid (HBL.out.trans (hb.mono HBL.out.size))
 have X1:=Lib.hid hx
 clear hx hb hw
 obtain⟨B1,hB⟩: ∃B,B=w5.heap.size:=⟨_,rfl⟩
 rw[←hB]at X1⊢
 clear hB
 obtain⟨c0,c1,c2,c3,c4,c5,c6,c7,c8,c9,c10,c11,c12,c13,c14⟩:=X1.out.cells
 refine(reffind_any l n HN.out g.key A c w6 HA.out hn3 q 10 HQ.out H10.out).mono ?_
 rintro e w7 ⟨S,cc,rfl,hs,hb⟩
 clear c0 c1 c2 c3 c4 c5 c6 c7 c8 c9 c10 c11 c12 c13 c14
 replace HA:=Lib.hid (HA.out.next hb)
 replace HB:=Lib.hid (HB.out.next hb)
 replace XD:=Lib.hid (XD.out.next hb)
 replace S1:=Lib.hid (S1.out.next hb)
 replace S2:=Lib.hid (S2.out.next hb)
 replace LT:=Lib.hid (LT.out.next hb)
 replace X1:=Lib.hid (X1.out.next hb)
 replace HBL:=Lib.hid (HBL.out.trans (hb.mono HBL.out.size))
 have FS:=Lib.hid hs
 clear hb hs
 obtain⟨w80,hw80⟩: ∃w80,w80=w7.alloc (.cells #[.int .i64 q.id, .slice S q.sec.length cc, .int .i64 q.frm, .int .i64 q.til] 48):=⟨_,rfl⟩
 have hb:Below w7.heap.size w7 w80:=by rw[hw80];exact below_lit w7 _ _
 replace XD:=Lib.hid (XD.out.next hb)
 replace HBL:=Lib.hid (HBL.out.trans (hb.mono HBL.out.size))
 clear hb
 have HW:=Lib.hid hw80
 clear hw80
 go_wp2_with ((with_reducible refine at_store 4 ?_);rw[←HW.out];refine wpList_store_named (o:=⟨none, .store 28 (.tmp 4) (.tmp 57),_,_,_,_⟩) rfl 28 (.tmp 4) (.tmp 57) rfl (w.heap.size) #[.int .i64 0, .int .i64 0, .int .i64 0, .int .i64 0, .int .i64 0, .int .i64 0, .int .i64 0, .int .i64 0, .int .i64 0, .int .i64 0, .int .i64 0, .int .i64 0, .int .i64 0, .int .i64 0, .int .i64 0] rfl rfl 28 #[.int .i64 0, .int .i64 0, .int .i64 0, .int .i64 0, .int .i64 0, .int .i64 0, .int .i64 0, .int .i64 0, .int .i64 0, .int .i64 0, .int .i64 0, .int .i64 0, .int .i64 0, .int .i64 0, .int .i64 0] XD.out infoRd rfl (rg_one _ _ _ _ _ _ _ _ _ _ _ _ _ _ _) ?_)
 intro w90 hw90
 go_wp2
 refine bodyPost_ret (results_row_tmp' Tryz.results16 _ w90 (w.heap.size) 28 #[.int .i64 0, .int .i64 0, .int .i64 0, .int .i64 0, .int .i64 0, .int .i64 0, .int .i64 0, .int .i64 0, .int .i64 0, .int .i64 0, .int .i64 0, .int .i64 0, .int .i64 0, .int .i64 0, .int .i64 0] (0,0) _ rfl (by rw[hw90.out];exact setRow_heap _ _ _ _ _ _ XD.out) Tryz.underlying28 rfl infoRd) rfl ⟨rfl, ?_⟩
 rw[hw90.out]
 exact below_setRow HBL.out (Nat.le_refl _) _
set_option maxRecDepth 100000 in
set_option maxHeartbeats 1600000 in
theorem rbdec_g (l:List K) (n:Nat) (hn:n=l.length) (hn3:n≤9223372036854775807) (b:List Nat) (m:Nat) (hm:m=b.length) (hm4:m≤4000) (A:Option Addr) (c:Nat) (B:Option Addr) (d:Nat) (E:Nat) (r:Rg) (hE:decB l b=(E,r)) (w:World) (hA:Ks w w.heap.size A l) (hB:Bs w w.heap.size b B d) (h1:isR l=true) (P:List Nat) (hX:fgetX b=(0,P)) (j:Nat) (hj:P.length=j+32) (L:List Tf) (hG:gotT (restB P)=(0,L)) (g:Rg) (hF:fdGet L=(0,g)) (h3:findE l g.key=0) (h4:(sealB P==tagB (findK l g.key).sec (restB P))=false):Calls Tryz.prog 16 #[.slice A n c, .slice B m d] w fun e w'=>e= .returned (.tuple #[.agg #[.int .i64 r.t.ser, .int .i64 r.t.kind, .int .i64 r.t.frm, .int .i64 r.t.till, .int .i64 r.t.cls, .int .i64 r.t.card, .int .i64 r.t.seat, .int .i64 r.t.day, .int .i64 r.t.days, .int .i64 r.t.uses, .int .i64 r.t.epoch, .int .i64 r.key, .int .i64 r.left, .int .i64 r.inn, .int .i64 r.ver], .int .i64 (E:Int)])∧Below w.heap.size w w':=by
 have hsaid:=dec_said h1 hX (by omega) hG
 obtain⟨rfl,rfl⟩:E=11∧r=zeroR:=by
  rw[hsaid,hF]at hE
  simp only at hE
  rw[if_neg (by simp),if_neg (by omega),if_pos (by simpa using h4)]at hE
  exact⟨(Prod.mk.inj hE).1.symm,(Prod.mk.inj hE).2.symm⟩
 obtain⟨q,hq⟩: ∃q,q=findK l g.key:=⟨_,rfl⟩
 have h64:=find_sec h3
 rw[←hq]at h4 h64
 obtain⟨T,hTg⟩: ∃T,tagB q.sec (restB P)=T:=⟨_,rfl⟩
 obtain⟨F,hFA⟩: ∃F:Array Value,F=(U8 T).toArray:=⟨_,rfl⟩
 have hTL:T.length=32:=by rw[←hTg];exact tagB_len _ _
 have hTT: ∀x∈T,x<256:=by rw[←hTg];exact tagB_lt _ _
 rw[hTg]at h4
 have H4:=Lib.hid h4
 have H3:=Lib.hid h3.symm
 have H64:=Lib.hid h64
 have HFB:=Lib.hid (show F=(U8 (tagB q.sec (restB P))).toArray by rw[hTg];exact hFA)
 have HIS:=Lib.hid (isArr32 hFA hTL)
 have HFT:=Lib.hid hFA
 have HTL:=Lib.hid hTL
 have HTT:=Lib.hid hTT
 have HQ:=Lib.hid hq
 have HF:=Lib.hid hF
 have hjm:j≤3999:=by
  have h9:=fgetX_len9 b
  rw[hX]at h9
  simp only at h9
  omega
 clear h3 h4 h64 hTg hFA hTL hTT hq hF hsaid
 have HRJ:=Lib.hid (show j=(restB P).length by rw[restB,List.length_take];omega)
 have HSJ:=Lib.hid (show 32=(sealB P).length by rw[sealB,List.length_drop];omega)
 have hjl:j≤4000:=by
  have h9:=fgetX_len9 b
  rw[hX]at h9
  simp only at h9
  omega
 have H1:=Lib.hid h1
 have HX:=Lib.hid hX
 have HJ:=Lib.hid hj
 have HG:=Lib.hid hG
 clear hE h1 hX hj hG
 have HN:=Lib.hid hn
 have HM:=Lib.hid hm
 have HA:=Lib.hid hA
 have HB:=Lib.hid hB
 clear hn hm hA hB
 have HBL:=Lib.hid (Below.refl w.heap.size w)
 go_enter Tryz.func16, Tryz.ntmps16
 go_wp2_with fail
 obtain⟨w1,hw⟩: ∃w1,w1=w.alloc (.cells #[.int .i64 0, .int .i64 0, .int .i64 0, .int .i64 0, .int .i64 0, .int .i64 0, .int .i64 0, .int .i64 0, .int .i64 0, .int .i64 0, .int .i64 0, .int .i64 0, .int .i64 0, .int .i64 0, .int .i64 0] 28):=⟨_,rfl⟩
 rw[←hw]
 have hx:RBox w1 w.heap.size zeroR:=by rw[hw];exact RBox.new w zeroR
 have hb:Below w.heap.size w w1:=by rw[hw];exact below_lit w _ _
 replace HA:=Lib.hid (HA.out.next hb)
 replace HB:=Lib.hid (HB.out.next hb)
 replace HBL:=Lib.hid (HBL.out.trans (hb.mono HBL.out.size))
 have XD:=Lib.hid hx
 clear hx hb hw
 refine(refis_named l n HN.out true H1.out A c w1 HA.out hn3).mono ?_
 rintro e w2 ⟨rfl,hb⟩
 replace HA:=Lib.hid (HA.out.next hb)
 replace HB:=Lib.hid (HB.out.next hb)
 replace XD:=Lib.hid (XD.out.next hb)
 replace HBL:=Lib.hid (HBL.out.trans (hb.mono HBL.out.size))
 clear hb
 go_wp2_with fail
 refine(rbody_ok b m HM.out hm4 B d w2 HB.out P HX.out j HJ.out).mono ?_
 rintro e w3 ⟨A1,c1,A2,c2,rfl,hs1,hs2,hb⟩
 replace HA:=Lib.hid (HA.out.next hb)
 replace HB:=Lib.hid (HB.out.next hb)
 replace XD:=Lib.hid (XD.out.next hb)
 replace HBL:=Lib.hid (HBL.out.trans (hb.mono HBL.out.size))
 clear hb
 have S1:=Lib.hid hs1
 have S2:=Lib.hid hs2
 clear hs1 hs2
 go_wp2_with fail
 refine(refget_tlv (restB P) j HRJ.out (by omega) 0 L HG.out A1 c1 w3 S1.out).mono ?_
 rintro e w4 ⟨ALT,cLT,rfl,hs,hb⟩
 replace HA:=Lib.hid (HA.out.next hb)
 replace HB:=Lib.hid (HB.out.next hb)
 replace XD:=Lib.hid (XD.out.next hb)
 replace S1:=Lib.hid (S1.out.next hb)
 replace S2:=Lib.hid (S2.out.next hb)
 replace HBL:=Lib.hid (HBL.out.trans (hb.mono HBL.out.size))
 have LT:=Lib.hid hs
 clear hb hs
 go_wp2_with fail
 refine(rfget_any L L.length rfl 0 g HF.out ALT cLT w4 LT.out).mono ?_
 rintro e w5 ⟨rfl,hb⟩
 replace HA:=Lib.hid (HA.out.next hb)
 replace HB:=Lib.hid (HB.out.next hb)
 replace XD:=Lib.hid (XD.out.next hb)
 replace S1:=Lib.hid (S1.out.next hb)
 replace S2:=Lib.hid (S2.out.next hb)
 replace LT:=Lib.hid (LT.out.next hb)
 replace HBL:=Lib.hid (HBL.out.trans (hb.mono HBL.out.size))
 clear hb
 go_wp2_with fail
 obtain⟨w6,hw⟩: ∃w6,w6=w5.alloc (.cells #[.int .i64 g.t.ser, .int .i64 g.t.kind, .int .i64 g.t.frm, .int .i64 g.t.till, .int .i64 g.t.cls, .int .i64 g.t.card, .int .i64 g.t.seat, .int .i64 g.t.day, .int .i64 g.t.days, .int .i64 g.t.uses, .int .i64 g.t.epoch, .int .i64 g.key, .int .i64 g.left, .int .i64 g.inn, .int .i64 g.ver] 28):=⟨_,rfl⟩
 rw[←hw]
 have hx:RBox w6 w5.heap.size g:=by rw[hw];exact RBox.new w5 g
 have hb:Below w5.heap.size w5 w6:=by rw[hw];exact below_lit w5 _ _
 replace HA:=Lib.hid (HA.out.next hb)
 replace HB:=Lib.hid (HB.out.next hb)
 replace XD:=Lib.hid (XD.out.next hb)
 replace S1:=Lib.hid (S1.out.next hb)
 replace S2:=Lib.hid (S2.out.next hb)
 replace LT:=Lib.hid (LT.out.next hb)
 replace HBL:=Lib.hid (HBL.out.trans (hb.mono HBL.out.size))
 have X1:=Lib.hid hx
 clear hx hb hw
 obtain⟨B1,hB⟩: ∃B,B=w5.heap.size:=⟨_,rfl⟩
 rw[←hB]at X1⊢
 clear hB
 obtain⟨c0,c1,c2,c3,c4,c5,c6,c7,c8,c9,c10,c11,c12,c13,c14⟩:=X1.out.cells
 refine(reffind_any l n HN.out g.key A c w6 HA.out hn3 q 0 HQ.out H3.out).mono ?_
 rintro e w7 ⟨S,cc,rfl,hs,hb⟩
 clear c0 c1 c2 c3 c4 c5 c6 c7 c8 c9 c10 c11 c12 c13 c14
 replace HA:=Lib.hid (HA.out.next hb)
 replace HB:=Lib.hid (HB.out.next hb)
 replace XD:=Lib.hid (XD.out.next hb)
 replace S1:=Lib.hid (S1.out.next hb)
 replace S2:=Lib.hid (S2.out.next hb)
 replace LT:=Lib.hid (LT.out.next hb)
 replace X1:=Lib.hid (X1.out.next hb)
 replace HBL:=Lib.hid (HBL.out.trans (hb.mono HBL.out.size))
 have FS:=Lib.hid hs
 clear hb hs
 go_wp2_with fail
 obtain⟨w8,hw⟩: ∃w8,w8=w7.alloc (.cells #[.int .i64 q.id, .slice S q.sec.length cc, .int .i64 q.frm, .int .i64 q.til] 48):=⟨_,rfl⟩
 rw[←hw]
 have hx:Box w8 w7.heap.size ⟨q,S,cc⟩:=by rw[hw];exact(box_lit w7 ⟨q,S,cc⟩ FS.out).1
 have hb:Below w7.heap.size w7 w8:=by rw[hw];exact below_lit w7 _ _
 replace HA:=Lib.hid (HA.out.next hb)
 replace HB:=Lib.hid (HB.out.next hb)
 replace XD:=Lib.hid (XD.out.next hb)
 replace S1:=Lib.hid (S1.out.next hb)
 replace S2:=Lib.hid (S2.out.next hb)
 replace LT:=Lib.hid (LT.out.next hb)
 replace X1:=Lib.hid (X1.out.next hb)
 replace FS:=Lib.hid (FS.out.next hb)
 replace HBL:=Lib.hid (HBL.out.trans (hb.mono HBL.out.size))
 have HX9:=Lib.hid hx
 clear hx hb hw
 obtain⟨X,hB⟩: ∃B,B=w7.heap.size:=⟨_,rfl⟩
 rw[←hB]at HX9⊢
 clear hB
 have k1:=cell_of_row _ _ 1 _ _ _ HX9.out.1
 go_wp2_with fail
 refine(rbtag_any q.sec (restB P) q.sec.length j rfl HRJ.out S A1 cc c1 w8 FS.out S1.out (by have:=H64.out;omega) hjm F HFB.out).mono ?_
 rintro e w9 ⟨rfl,hb⟩
 clear k1
 replace HA:=Lib.hid (HA.out.next hb)
 replace HB:=Lib.hid (HB.out.next hb)
 replace XD:=Lib.hid (XD.out.next hb)
 replace S1:=Lib.hid (S1.out.next hb)
 replace S2:=Lib.hid (S2.out.next hb)
 replace LT:=Lib.hid (LT.out.next hb)
 replace X1:=Lib.hid (X1.out.next hb)
 replace FS:=Lib.hid (FS.out.next hb)
 replace HX9:=Lib.hid (HX9.out.next hb)
 replace HBL:=Lib.hid (HBL.out.trans (hb.mono HBL.out.size))
 clear hb
 go_wp2_with ((with_reducible refine at_store 15 ?_);refine wpList_store_named (o:=⟨none, .store 42 (.tmp 15) (.tmp 62),_,_,_,_⟩) rfl 42 (.tmp 15) (.tmp 62) rfl w9.heap.size F rfl rfl 42 b32 (heap_alloc_new w9 _) HIS.out.1 HIS.out.2.1 HIS.out.2.2 ?_;intro w20 hw20;have HR4:=Lib.hid (row_made hw20.out))
 have hb:=HR4.out.2.2
 replace HA:=Lib.hid (HA.out.next hb)
 replace HB:=Lib.hid (HB.out.next hb)
 replace XD:=Lib.hid (XD.out.next hb)
 replace S1:=Lib.hid (S1.out.next hb)
 replace S2:=Lib.hid (S2.out.next hb)
 replace LT:=Lib.hid (LT.out.next hb)
 replace X1:=Lib.hid (X1.out.next hb)
 replace FS:=Lib.hid (FS.out.next hb)
 replace HX9:=Lib.hid (HX9.out.next hb)
 replace HBL:=Lib.hid (HBL.out.trans (hb.mono HBL.out.size))
 clear hb
 have HRT:=Lib.hid (show Bs w20 w20.heap.size T (some ⟨w9.heap.size,0,none⟩) 32 from⟨rd_row HR4.out.2.1 HFT.out,(fun h=>by cases h),(by rw[HTL.out];omega),(by omega),HTT.out⟩)
 refine(same_told (sealB P) T false H4.out 32 32 HSJ.out HTL.out.symm A2 _ c2 32 w20 S2.out HRT.out).mono ?_
 rintro e w10 ⟨rfl,hb⟩
 replace HA:=Lib.hid (HA.out.next hb)
 replace HB:=Lib.hid (HB.out.next hb)
 replace XD:=Lib.hid (XD.out.next hb)
 replace S1:=Lib.hid (S1.out.next hb)
 replace S2:=Lib.hid (S2.out.next hb)
 replace LT:=Lib.hid (LT.out.next hb)
 replace X1:=Lib.hid (X1.out.next hb)
 replace FS:=Lib.hid (FS.out.next hb)
 replace HX9:=Lib.hid (HX9.out.next hb)
 replace HBL:=Lib.hid (HBL.out.trans (hb.mono HBL.out.size))
 clear hb
 go_wp2_with ((with_reducible refine at_store 4 ?_);refine wpList_store_named (o:=⟨none, .store 28 (.tmp 4) (.tmp 67),_,_,_,_⟩) rfl 28 (.tmp 4) (.tmp 67) rfl (w.heap.size) #[.int .i64 0, .int .i64 0, .int .i64 0, .int .i64 0, .int .i64 0, .int .i64 0, .int .i64 0, .int .i64 0, .int .i64 0, .int .i64 0, .int .i64 0, .int .i64 0, .int .i64 0, .int .i64 0, .int .i64 0] rfl rfl 28 #[.int .i64 0, .int .i64 0, .int .i64 0, .int .i64 0, .int .i64 0, .int .i64 0, .int .i64 0, .int .i64 0, .int .i64 0, .int .i64 0, .int .i64 0, .int .i64 0, .int .i64 0, .int .i64 0, .int .i64 0] XD.out infoRd rfl (rg_one _ _ _ _ _ _ _ _ _ _ _ _ _ _ _) ?_)
 intro w90 hw90
 go_wp2
 refine bodyPost_ret (results_row_tmp' Tryz.results16 _ w90 (w.heap.size) 28 #[.int .i64 0, .int .i64 0, .int .i64 0, .int .i64 0, .int .i64 0, .int .i64 0, .int .i64 0, .int .i64 0, .int .i64 0, .int .i64 0, .int .i64 0, .int .i64 0, .int .i64 0, .int .i64 0, .int .i64 0] (0,0) _ rfl (by rw[hw90.out];exact setRow_heap _ _ _ _ _ _ XD.out) Tryz.underlying28 rfl infoRd) rfl ⟨rfl, ?_⟩
 rw[hw90.out]
 exact below_setRow HBL.out (Nat.le_refl _) _
set_option maxRecDepth 100000 in
set_option maxHeartbeats 1600000 in
theorem rbdec_h (l:List K) (n:Nat) (hn:n=l.length) (hn3:n≤9223372036854775807) (b:List Nat) (m:Nat) (hm:m=b.length) (hm4:m≤4000) (A:Option Addr) (c:Nat) (B:Option Addr) (d:Nat) (E:Nat) (r:Rg) (hE:decB l b=(E,r)) (w:World) (hA:Ks w w.heap.size A l) (hB:Bs w w.heap.size b B d) (h1:isR l=true) (P:List Nat) (hX:fgetX b=(0,P)) (j:Nat) (hj:P.length=j+32) (L:List Tf) (hG:gotT (restB P)=(0,L)) (g:Rg) (hF:fdGet L=(0,g)) (h3:findE l g.key=0) (h4:(sealB P==tagB (findK l g.key).sec (restB P))=true):Calls Tryz.prog 16 #[.slice A n c, .slice B m d] w fun e w'=>e= .returned (.tuple #[.agg #[.int .i64 r.t.ser, .int .i64 r.t.kind, .int .i64 r.t.frm, .int .i64 r.t.till, .int .i64 r.t.cls, .int .i64 r.t.card, .int .i64 r.t.seat, .int .i64 r.t.day, .int .i64 r.t.days, .int .i64 r.t.uses, .int .i64 r.t.epoch, .int .i64 r.key, .int .i64 r.left, .int .i64 r.inn, .int .i64 r.ver], .int .i64 (E:Int)])∧Below w.heap.size w w':=by
 have hsaid:=dec_said h1 hX (by omega) hG
 obtain⟨rfl,rfl⟩:E=0∧r=g:=by
  rw[hsaid,hF]at hE
  simp only at hE
  rw[if_neg (by simp),if_neg (by omega),if_neg (by simpa using h4)]at hE
  exact⟨(Prod.mk.inj hE).1.symm,(Prod.mk.inj hE).2.symm⟩
 obtain⟨q,hq⟩: ∃q,q=findK l r.key:=⟨_,rfl⟩
 have h64:=find_sec h3
 rw[←hq]at h4 h64
 obtain⟨T,hTg⟩: ∃T,tagB q.sec (restB P)=T:=⟨_,rfl⟩
 obtain⟨F,hFA⟩: ∃F:Array Value,F=(U8 T).toArray:=⟨_,rfl⟩
 have hTL:T.length=32:=by rw[←hTg];exact tagB_len _ _
 have hTT: ∀x∈T,x<256:=by rw[←hTg];exact tagB_lt _ _
 rw[hTg]at h4
 have H4:=Lib.hid h4
 have H3:=Lib.hid h3.symm
 have H64:=Lib.hid h64
 have HFB:=Lib.hid (show F=(U8 (tagB q.sec (restB P))).toArray by rw[hTg];exact hFA)
 have HIS:=Lib.hid (isArr32 hFA hTL)
 have HFT:=Lib.hid hFA
 have HTL:=Lib.hid hTL
 have HTT:=Lib.hid hTT
 have HQ:=Lib.hid hq
 have HF:=Lib.hid hF
 have hjm:j≤3999:=by
  have h9:=fgetX_len9 b
  rw[hX]at h9
  simp only at h9
  omega
 clear h3 h4 h64 hTg hFA hTL hTT hq hF hsaid
 have HRJ:=Lib.hid (show j=(restB P).length by rw[restB,List.length_take];omega)
 have HSJ:=Lib.hid (show 32=(sealB P).length by rw[sealB,List.length_drop];omega)
 have hjl:j≤4000:=by
  have h9:=fgetX_len9 b
  rw[hX]at h9
  simp only at h9
  omega
 have H1:=Lib.hid h1
 have HX:=Lib.hid hX
 have HJ:=Lib.hid hj
 have HG:=Lib.hid hG
 clear hE h1 hX hj hG
 have HN:=Lib.hid hn
 have HM:=Lib.hid hm
 have HA:=Lib.hid hA
 have HB:=Lib.hid hB
 clear hn hm hA hB
 have HBL:=Lib.hid (Below.refl w.heap.size w)
 go_enter Tryz.func16, Tryz.ntmps16
 go_wp2_with fail
 obtain⟨w1,hw⟩: ∃w1,w1=w.alloc (.cells #[.int .i64 0, .int .i64 0, .int .i64 0, .int .i64 0, .int .i64 0, .int .i64 0, .int .i64 0, .int .i64 0, .int .i64 0, .int .i64 0, .int .i64 0, .int .i64 0, .int .i64 0, .int .i64 0, .int .i64 0] 28):=⟨_,rfl⟩
 rw[←hw]
 have hx:RBox w1 w.heap.size zeroR:=by rw[hw];exact RBox.new w zeroR
 have hb:Below w.heap.size w w1:=by rw[hw];exact below_lit w _ _
 replace HA:=Lib.hid (HA.out.next hb)
 replace HB:=Lib.hid (HB.out.next hb)
 replace HBL:=Lib.hid (HBL.out.trans (hb.mono HBL.out.size))
 have XD:=Lib.hid hx
 clear hx hb hw
 refine(refis_named l n HN.out true H1.out A c w1 HA.out hn3).mono ?_
 rintro e w2 ⟨rfl,hb⟩
 replace HA:=Lib.hid (HA.out.next hb)
 replace HB:=Lib.hid (HB.out.next hb)
 replace XD:=Lib.hid (XD.out.next hb)
 replace HBL:=Lib.hid (HBL.out.trans (hb.mono HBL.out.size))
 clear hb
 go_wp2_with fail
 refine(rbody_ok b m HM.out hm4 B d w2 HB.out P HX.out j HJ.out).mono ?_
 rintro e w3 ⟨A1,c1,A2,c2,rfl,hs1,hs2,hb⟩
 replace HA:=Lib.hid (HA.out.next hb)
 replace HB:=Lib.hid (HB.out.next hb)
 replace XD:=Lib.hid (XD.out.next hb)
 replace HBL:=Lib.hid (HBL.out.trans (hb.mono HBL.out.size))
 clear hb
 have S1:=Lib.hid hs1
 have S2:=Lib.hid hs2
 clear hs1 hs2
 go_wp2_with fail
 refine(refget_tlv (restB P) j HRJ.out (by omega) 0 L HG.out A1 c1 w3 S1.out).mono ?_
 rintro e w4 ⟨ALT,cLT,rfl,hs,hb⟩
 replace HA:=Lib.hid (HA.out.next hb)
 replace HB:=Lib.hid (HB.out.next hb)
 replace XD:=Lib.hid (XD.out.next hb)
 replace S1:=Lib.hid (S1.out.next hb)
 replace S2:=Lib.hid (S2.out.next hb)
 replace HBL:=Lib.hid (HBL.out.trans (hb.mono HBL.out.size))
 have LT:=Lib.hid hs
 clear hb hs
 go_wp2_with fail
 refine(rfget_any L L.length rfl 0 r HF.out ALT cLT w4 LT.out).mono ?_
 rintro e w5 ⟨rfl,hb⟩
 replace HA:=Lib.hid (HA.out.next hb)
 replace HB:=Lib.hid (HB.out.next hb)
 replace XD:=Lib.hid (XD.out.next hb)
 replace S1:=Lib.hid (S1.out.next hb)
 replace S2:=Lib.hid (S2.out.next hb)
 replace LT:=Lib.hid (LT.out.next hb)
 replace HBL:=Lib.hid (HBL.out.trans (hb.mono HBL.out.size))
 clear hb
 go_wp2_with fail
 obtain⟨w6,hw⟩: ∃w6,w6=w5.alloc (.cells #[.int .i64 r.t.ser, .int .i64 r.t.kind, .int .i64 r.t.frm, .int .i64 r.t.till, .int .i64 r.t.cls, .int .i64 r.t.card, .int .i64 r.t.seat, .int .i64 r.t.day, .int .i64 r.t.days, .int .i64 r.t.uses, .int .i64 r.t.epoch, .int .i64 r.key, .int .i64 r.left, .int .i64 r.inn, .int .i64 r.ver] 28):=⟨_,rfl⟩
 rw[←hw]
 have hx:RBox w6 w5.heap.size r:=by rw[hw];exact RBox.new w5 r
 have hb:Below w5.heap.size w5 w6:=by rw[hw];exact below_lit w5 _ _
 replace HA:=Lib.hid (HA.out.next hb)
 replace HB:=Lib.hid (HB.out.next hb)
 replace XD:=Lib.hid (XD.out.next hb)
 replace S1:=Lib.hid (S1.out.next hb)
 replace S2:=Lib.hid (S2.out.next hb)
 replace LT:=Lib.hid (LT.out.next hb)
 replace HBL:=Lib.hid (HBL.out.trans (hb.mono HBL.out.size))
 have X1:=Lib.hid hx
 clear hx hb hw
 obtain⟨B1,hB⟩: ∃B,B=w5.heap.size:=⟨_,rfl⟩
 rw[←hB]at X1⊢
 clear hB
 obtain⟨c0,c1,c2,c3,c4,c5,c6,c7,c8,c9,c10,c11,c12,c13,c14⟩:=X1.out.cells
 refine(reffind_any l n HN.out r.key A c w6 HA.out hn3 q 0 HQ.out H3.out).mono ?_
 rintro e w7 ⟨S,cc,rfl,hs,hb⟩
 clear c0 c1 c2 c3 c4 c5 c6 c7 c8 c9 c10 c11 c12 c13 c14
 replace HA:=Lib.hid (HA.out.next hb)
 replace HB:=Lib.hid (HB.out.next hb)
 replace XD:=Lib.hid (XD.out.next hb)
 replace S1:=Lib.hid (S1.out.next hb)
 replace S2:=Lib.hid (S2.out.next hb)
 replace LT:=Lib.hid (LT.out.next hb)
 replace X1:=Lib.hid (X1.out.next hb)
 replace HBL:=Lib.hid (HBL.out.trans (hb.mono HBL.out.size))
 have FS:=Lib.hid hs
 clear hb hs
 go_wp2_with fail
 obtain⟨w8,hw⟩: ∃w8,w8=w7.alloc (.cells #[.int .i64 q.id, .slice S q.sec.length cc, .int .i64 q.frm, .int .i64 q.til] 48):=⟨_,rfl⟩
 rw[←hw]
 have hx:Box w8 w7.heap.size ⟨q,S,cc⟩:=by rw[hw];exact(box_lit w7 ⟨q,S,cc⟩ FS.out).1
 have hb:Below w7.heap.size w7 w8:=by rw[hw];exact below_lit w7 _ _
 replace HA:=Lib.hid (HA.out.next hb)
 replace HB:=Lib.hid (HB.out.next hb)
 replace XD:=Lib.hid (XD.out.next hb)
 replace S1:=Lib.hid (S1.out.next hb)
 replace S2:=Lib.hid (S2.out.next hb)
 replace LT:=Lib.hid (LT.out.next hb)
 replace X1:=Lib.hid (X1.out.next hb)
 replace FS:=Lib.hid (FS.out.next hb)
 replace HBL:=Lib.hid (HBL.out.trans (hb.mono HBL.out.size))
 have HX9:=Lib.hid hx
 clear hx hb hw
 obtain⟨X,hB⟩: ∃B,B=w7.heap.size:=⟨_,rfl⟩
 rw[←hB]at HX9⊢
 clear hB
 have k1:=cell_of_row _ _ 1 _ _ _ HX9.out.1
 go_wp2_with fail
 refine(rbtag_any q.sec (restB P) q.sec.length j rfl HRJ.out S A1 cc c1 w8 FS.out S1.out (by have:=H64.out;omega) hjm F HFB.out).mono ?_
 rintro e w9 ⟨rfl,hb⟩
 clear k1
 replace HA:=Lib.hid (HA.out.next hb)
 replace HB:=Lib.hid (HB.out.next hb)
 replace XD:=Lib.hid (XD.out.next hb)
 replace S1:=Lib.hid (S1.out.next hb)
 replace S2:=Lib.hid (S2.out.next hb)
 replace LT:=Lib.hid (LT.out.next hb)
 replace X1:=Lib.hid (X1.out.next hb)
 replace FS:=Lib.hid (FS.out.next hb)
 replace HX9:=Lib.hid (HX9.out.next hb)
 replace HBL:=Lib.hid (HBL.out.trans (hb.mono HBL.out.size))
 clear hb
 go_wp2_with ((with_reducible refine at_store 15 ?_);refine wpList_store_named (o:=⟨none, .store 42 (.tmp 15) (.tmp 62),_,_,_,_⟩) rfl 42 (.tmp 15) (.tmp 62) rfl w9.heap.size F rfl rfl 42 b32 (heap_alloc_new w9 _) HIS.out.1 HIS.out.2.1 HIS.out.2.2 ?_;intro w20 hw20;have HR4:=Lib.hid (row_made hw20.out))
 have hb:=HR4.out.2.2
 replace HA:=Lib.hid (HA.out.next hb)
 replace HB:=Lib.hid (HB.out.next hb)
 replace XD:=Lib.hid (XD.out.next hb)
 replace S1:=Lib.hid (S1.out.next hb)
 replace S2:=Lib.hid (S2.out.next hb)
 replace LT:=Lib.hid (LT.out.next hb)
 replace X1:=Lib.hid (X1.out.next hb)
 replace FS:=Lib.hid (FS.out.next hb)
 replace HX9:=Lib.hid (HX9.out.next hb)
 replace HBL:=Lib.hid (HBL.out.trans (hb.mono HBL.out.size))
 clear hb
 have HRT:=Lib.hid (show Bs w20 w20.heap.size T (some ⟨w9.heap.size,0,none⟩) 32 from⟨rd_row HR4.out.2.1 HFT.out,(fun h=>by cases h),(by rw[HTL.out];omega),(by omega),HTT.out⟩)
 refine(same_told (sealB P) T true H4.out 32 32 HSJ.out HTL.out.symm A2 _ c2 32 w20 S2.out HRT.out).mono ?_
 rintro e w10 ⟨rfl,hb⟩
 replace HA:=Lib.hid (HA.out.next hb)
 replace HB:=Lib.hid (HB.out.next hb)
 replace XD:=Lib.hid (XD.out.next hb)
 replace S1:=Lib.hid (S1.out.next hb)
 replace S2:=Lib.hid (S2.out.next hb)
 replace LT:=Lib.hid (LT.out.next hb)
 replace X1:=Lib.hid (X1.out.next hb)
 replace FS:=Lib.hid (FS.out.next hb)
 replace HX9:=Lib.hid (HX9.out.next hb)
 replace HBL:=Lib.hid (HBL.out.trans (hb.mono HBL.out.size))
 clear hb
 obtain⟨c0,c1,c2,c3,c4,c5,c6,c7,c8,c9,c10,c11,c12,c13,c14⟩:=X1.out.cells
 go_wp2_with ((with_reducible refine at_store 4 ?_);refine wpList_store_named (o:=⟨none, .store 28 (.tmp 4) (.tmp 68),_,_,_,_⟩) rfl 28 (.tmp 4) (.tmp 68) rfl (w.heap.size) #[.int .i64 r.t.ser, .int .i64 r.t.kind, .int .i64 r.t.frm, .int .i64 r.t.till, .int .i64 r.t.cls, .int .i64 r.t.card, .int .i64 r.t.seat, .int .i64 r.t.day, .int .i64 r.t.days, .int .i64 r.t.uses, .int .i64 r.t.epoch, .int .i64 r.key, .int .i64 r.left, .int .i64 r.inn, .int .i64 r.ver] rfl rfl 28 #[.int .i64 0, .int .i64 0, .int .i64 0, .int .i64 0, .int .i64 0, .int .i64 0, .int .i64 0, .int .i64 0, .int .i64 0, .int .i64 0, .int .i64 0, .int .i64 0, .int .i64 0, .int .i64 0, .int .i64 0] XD.out infoRd rfl (rg_one _ _ _ _ _ _ _ _ _ _ _ _ _ _ _) ?_)
 clear c0 c1 c2 c3 c4 c5 c6 c7 c8 c9 c10 c11 c12 c13 c14
 intro w90 hw90
 go_wp2
 refine bodyPost_ret (results_row_tmp' Tryz.results16 _ w90 (w.heap.size) 28 #[.int .i64 r.t.ser, .int .i64 r.t.kind, .int .i64 r.t.frm, .int .i64 r.t.till, .int .i64 r.t.cls, .int .i64 r.t.card, .int .i64 r.t.seat, .int .i64 r.t.day, .int .i64 r.t.days, .int .i64 r.t.uses, .int .i64 r.t.epoch, .int .i64 r.key, .int .i64 r.left, .int .i64 r.inn, .int .i64 r.ver] (0,0) _ rfl (by rw[hw90.out];exact setRow_heap _ _ _ _ _ _ XD.out) Tryz.underlying28 rfl infoRd) rfl ⟨rfl, ?_⟩
 rw[hw90.out]
 exact below_setRow HBL.out (Nat.le_refl _) _
theorem rbdec_any (l:List K) (n:Nat) (hn:n=l.length) (hn3:n≤9223372036854775807) (b:List Nat) (m:Nat) (hm:m=b.length) (hm4:m≤4000) (A:Option Addr) (c:Nat) (B:Option Addr) (d:Nat) (E:Nat) (r:Rg) (hE:decB l b=(E,r)) (w:World) (hA:Ks w w.heap.size A l) (hB:Bs w w.heap.size b B d):Calls Tryz.prog 16 #[.slice A n c, .slice B m d] w fun e w'=>e= .returned (.tuple #[.agg #[.int .i64 r.t.ser, .int .i64 r.t.kind, .int .i64 r.t.frm, .int .i64 r.t.till, .int .i64 r.t.cls, .int .i64 r.t.card, .int .i64 r.t.seat, .int .i64 r.t.day, .int .i64 r.t.days, .int .i64 r.t.uses, .int .i64 r.t.epoch, .int .i64 r.key, .int .i64 r.left, .int .i64 r.inn, .int .i64 r.ver], .int .i64 (E:Int)])∧Below w.heap.size w w':=by
 cases h1:isR l
 ·exact rbdec_a l n hn hn3 b m hm hm4 A c B d E r hE w hA hB h1
 ·cases hX:fgetX b with
  |mk G P=>
   by_cases h0:G=0
   ·subst h0
    by_cases h32:P.length<32
    ·exact rbdec_c l n hn hn3 b m hm hm4 A c B d E r hE w hA hB h1 P hX h32
    ·obtain⟨j,hj⟩: ∃j,P.length=j+32:=⟨P.length - 32,by omega⟩
     cases hG:gotT (restB P)with
     |mk F L=>
      by_cases hF:F=0
      ·subst hF
       cases hD:fdGet L with
       |mk H g=>
        by_cases hH:H=0
        ·subst hH
         by_cases h3:findE l g.key=0
         ·cases h4:(sealB P==tagB (findK l g.key).sec (restB P))
          ·exact rbdec_g l n hn hn3 b m hm hm4 A c B d E r hE w hA hB h1 P hX j hj L hG g hD h3 h4
          ·exact rbdec_h l n hn hn3 b m hm hm4 A c B d E r hE w hA hB h1 P hX j hj L hG g hD h3 h4
         ·exact rbdec_f l n hn hn3 b m hm hm4 A c B d E r hE w hA hB h1 P hX j hj L hG g hD h3
        ·exact rbdec_e l n hn hn3 b m hm hm4 A c B d E r hE w hA hB h1 P hX j hj L hG H g hD hH
      ·exact rbdec_d l n hn hn3 b m hm hm4 A c B d E r hE w hA hB h1 P hX j hj F L hG hF
   ·exact rbdec_b l n hn hn3 b m hm hm4 A c B d E r hE w hA hB h1 G P hX h0
end Go.Proofs.YtcnglbliidjnfaaGreatDoor
