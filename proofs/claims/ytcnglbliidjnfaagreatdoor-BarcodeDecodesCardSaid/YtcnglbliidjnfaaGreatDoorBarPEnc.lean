import Derived.Test.YtcnglbliidjnfaaGreatDoorMacTag
import Derived.Test.YtcnglbliidjnfaaGreatDoorRingLast
import Derived.Test.YtcnglbliidjnfaaGreatDoorFieldsPPut
import Derived.Test.YtcnglbliidjnfaaGreatDoorTlvPPut
import Derived.Test.YtcnglbliidjnfaaGreatDoorFortyPPut
import Derived.Test.YtcnglbliidjnfaaGreatDoorBarConst
import Derived.Test.YtcnglbliidjnfaaGreatDoorRgBox
import Derived.Test.YtcnglbliidjnfaaGreatDoorMem
import Derived.Test.YtcnglbliidjnfaaGreatDoorShaMix
import Derived.Laws.EntriesVeiled
import Derived.Shelf.Abstract
import Derived.Maps.OwnIn
import Derived.Maps.OwnSet
import Derived.Maps.Views
section
namespace Go.Proofs.YtcnglbliidjnfaaGreatDoor
set_option linter.unusedVariables false
open Go.ChangeShapes Go.WideShapes Go.ChangeAt Go.RowKit
theorem find_ten {l:List K} {id:Int} (h1:isR l=true) (h3:findE l id≠0):findE l id=10:=by
 rw[findE,if_pos h1]at h3⊢
 split at h3
 ·exact absurd rfl h3
 ·rename_i h;rw[if_neg h]
set_option maxRecDepth 100000 in
set_option maxHeartbeats 1600000 in
theorem benc_a (l:List K) (n:Nat) (hn:n=l.length) (hn3:n≤9223372036854775807) (A:Option Addr) (c:Nat) (r:Rg) (E:Nat) (p:List Nat) (hE:ecB l r=(E,p)) (w:World) (hT:Tabs w) (hA:Ks w w.heap.size A l) (h1:isR l=false):Calls Tryz.prog 11 #[.slice A n c, .agg #[.int .i64 r.t.ser, .int .i64 r.t.kind, .int .i64 r.t.frm, .int .i64 r.t.till, .int .i64 r.t.cls, .int .i64 r.t.card, .int .i64 r.t.seat, .int .i64 r.t.day, .int .i64 r.t.days, .int .i64 r.t.uses, .int .i64 r.t.epoch, .int .i64 r.key, .int .i64 r.left, .int .i64 r.inn, .int .i64 r.ver]] w fun e w'=> ∃A' c',e= .returned (.tuple #[.slice A' (p.length:Nat) c', .int .i64 (E:Int)])∧Bs w' w'.heap.size p A' c'∧Below w.heap.size w w':=by
 obtain⟨rfl,rfl⟩:E=1∧p=[]:=by rw[ecB,if_pos h1]at hE;exact⟨(Prod.mk.inj hE).1.symm,(Prod.mk.inj hE).2.symm⟩
 have H1:=Lib.hid h1
 clear hE h1
 have HN:=Lib.hid hn
 have HT:=Lib.hid hT
 have HA:=Lib.hid hA
 clear hn hT hA
 have HBL:=Lib.hid (Below.refl w.heap.size w)
 go_enter Tryz.func11, Tryz.ntmps11
 go_wp2_with fail
 obtain⟨w1,hw⟩: ∃w1,w1=w.alloc (.cells #[.int .i64 r.t.ser, .int .i64 r.t.kind, .int .i64 r.t.frm, .int .i64 r.t.till, .int .i64 r.t.cls, .int .i64 r.t.card, .int .i64 r.t.seat, .int .i64 r.t.day, .int .i64 r.t.days, .int .i64 r.t.uses, .int .i64 r.t.epoch, .int .i64 r.key, .int .i64 r.left, .int .i64 r.inn, .int .i64 r.ver] 28):=⟨_,rfl⟩
 rw[←hw]
 have hx:RBox w1 w.heap.size r:=by rw[hw];exact RBox.new w r
 have hb:Below w.heap.size w w1:=by rw[hw];exact below_lit w _ _
 replace HT:=Lib.hid (HT.out.next hb)
 replace HA:=Lib.hid (HA.out.next hb)
 replace HBL:=Lib.hid (HBL.out.trans (hb.mono HBL.out.size))
 have X1:=Lib.hid hx
 clear hx hb hw
 obtain⟨B1,hB⟩: ∃B,B=w.heap.size:=⟨_,rfl⟩
 rw[←hB]at X1⊢
 clear hB
 refine(pis_named l n HN.out false H1.out A c w1 HA.out hn3).mono ?_
 rintro e w2 ⟨rfl,hb⟩
 replace HT:=Lib.hid (HT.out.next hb)
 replace HA:=Lib.hid (HA.out.next hb)
 replace X1:=Lib.hid (X1.out.next hb)
 replace HBL:=Lib.hid (HBL.out.trans (hb.mono HBL.out.size))
 clear hb
 go_wp2
 go_ret2
 exact⟨none,0,rfl,Bs.empty _ _,HBL.out⟩
set_option maxRecDepth 100000 in
set_option maxHeartbeats 1600000 in
theorem benc_b (l:List K) (n:Nat) (hn:n=l.length) (hn3:n≤9223372036854775807) (A:Option Addr) (c:Nat) (r:Rg) (E:Nat) (p:List Nat) (hE:ecB l r=(E,p)) (w:World) (hT:Tabs w) (hA:Ks w w.heap.size A l) (h1:isR l=true) (h2:(fdPut r).1≠0):Calls Tryz.prog 11 #[.slice A n c, .agg #[.int .i64 r.t.ser, .int .i64 r.t.kind, .int .i64 r.t.frm, .int .i64 r.t.till, .int .i64 r.t.cls, .int .i64 r.t.card, .int .i64 r.t.seat, .int .i64 r.t.day, .int .i64 r.t.days, .int .i64 r.t.uses, .int .i64 r.t.epoch, .int .i64 r.key, .int .i64 r.left, .int .i64 r.inn, .int .i64 r.ver]] w fun e w'=> ∃A' c',e= .returned (.tuple #[.slice A' (p.length:Nat) c', .int .i64 (E:Int)])∧Bs w' w'.heap.size p A' c'∧Below w.heap.size w w':=by
 have h1': ¬isR l=false:=by rw[h1];decide
 obtain⟨G,P,hP⟩: ∃G P,fdPut r=(G,P):=⟨_,_,rfl⟩
 have hG:G≠0:=by rw[hP]at h2;exact h2
 obtain⟨rfl,rfl⟩:E=G∧p=[]:=by rw[ecB,if_neg h1',if_pos h2,hP]at hE;exact⟨(Prod.mk.inj hE).1.symm,(Prod.mk.inj hE).2.symm⟩
 have s1:((E:Int)==0)=false:=by rw[beq_eq_false_iff_ne];omega
 have s2:((E:Int) !=0)=true:=by rw[bne_iff_ne];omega
 have s3:(E==0)=false:=by rw[beq_eq_false_iff_ne];exact hG
 have s4:(E !=0)=true:=by rw[bne_iff_ne];exact hG
 have H1:=Lib.hid h1
 have HP:=Lib.hid hP
 clear hE h1 h2 h1' hG hP
 have HN:=Lib.hid hn
 have HT:=Lib.hid hT
 have HA:=Lib.hid hA
 clear hn hT hA
 have HBL:=Lib.hid (Below.refl w.heap.size w)
 go_enter Tryz.func11, Tryz.ntmps11
 go_wp2_with fail
 obtain⟨w1,hw⟩: ∃w1,w1=w.alloc (.cells #[.int .i64 r.t.ser, .int .i64 r.t.kind, .int .i64 r.t.frm, .int .i64 r.t.till, .int .i64 r.t.cls, .int .i64 r.t.card, .int .i64 r.t.seat, .int .i64 r.t.day, .int .i64 r.t.days, .int .i64 r.t.uses, .int .i64 r.t.epoch, .int .i64 r.key, .int .i64 r.left, .int .i64 r.inn, .int .i64 r.ver] 28):=⟨_,rfl⟩
 rw[←hw]
 have hx:RBox w1 w.heap.size r:=by rw[hw];exact RBox.new w r
 have hb:Below w.heap.size w w1:=by rw[hw];exact below_lit w _ _
 replace HT:=Lib.hid (HT.out.next hb)
 replace HA:=Lib.hid (HA.out.next hb)
 replace HBL:=Lib.hid (HBL.out.trans (hb.mono HBL.out.size))
 have X1:=Lib.hid hx
 clear hx hb hw
 obtain⟨B1,hB⟩: ∃B,B=w.heap.size:=⟨_,rfl⟩
 rw[←hB]at X1⊢
 clear hB
 refine(pis_named l n HN.out true H1.out A c w1 HA.out hn3).mono ?_
 rintro e w2 ⟨rfl,hb⟩
 replace HT:=Lib.hid (HT.out.next hb)
 replace HA:=Lib.hid (HA.out.next hb)
 replace X1:=Lib.hid (X1.out.next hb)
 replace HBL:=Lib.hid (HBL.out.trans (hb.mono HBL.out.size))
 clear hb
 obtain⟨c0,c1,c2,c3,c4,c5,c6,c7,c8,c9,c10,c11,c12,c13,c14⟩:=X1.out.cells
 go_wp2_with fail
 refine(fput_any r E P HP.out w2).mono ?_
 rintro e w3 ⟨AP1,cP1,rfl,hs,hb⟩
 clear c0 c1 c2 c3 c4 c5 c6 c7 c8 c9 c10 c11 c12 c13 c14
 replace HT:=Lib.hid (HT.out.next hb)
 replace HA:=Lib.hid (HA.out.next hb)
 replace X1:=Lib.hid (X1.out.next hb)
 replace HBL:=Lib.hid (HBL.out.trans (hb.mono HBL.out.size))
 have P1:=Lib.hid hs
 clear hb hs
 go_wp2
 go_ret2
 exact⟨none,0,rfl,Bs.empty _ _,HBL.out⟩
set_option maxRecDepth 100000 in
set_option maxHeartbeats 1600000 in
theorem benc_c (l:List K) (n:Nat) (hn:n=l.length) (hn3:n≤9223372036854775807) (A:Option Addr) (c:Nat) (r:Rg) (E:Nat) (p:List Nat) (hE:ecB l r=(E,p)) (w:World) (hT:Tabs w) (hA:Ks w w.heap.size A l) (h1:isR l=true) (h2:(fdPut r).1=0) (h3:findE l r.key≠0):Calls Tryz.prog 11 #[.slice A n c, .agg #[.int .i64 r.t.ser, .int .i64 r.t.kind, .int .i64 r.t.frm, .int .i64 r.t.till, .int .i64 r.t.cls, .int .i64 r.t.card, .int .i64 r.t.seat, .int .i64 r.t.day, .int .i64 r.t.days, .int .i64 r.t.uses, .int .i64 r.t.epoch, .int .i64 r.key, .int .i64 r.left, .int .i64 r.inn, .int .i64 r.ver]] w fun e w'=> ∃A' c',e= .returned (.tuple #[.slice A' (p.length:Nat) c', .int .i64 (E:Int)])∧Bs w' w'.heap.size p A' c'∧Below w.heap.size w w':=by
 have h1': ¬isR l=false:=by rw[h1];decide
 obtain⟨P,hP⟩: ∃P,fdPut r=(0,P):=⟨(fdPut r).2,by rw[←h2]⟩
 obtain⟨rfl,rfl⟩:E=10∧p=[]:=by rw[ecB,if_neg h1',if_neg (by omega),if_pos h3]at hE;exact⟨(Prod.mk.inj hE).1.symm,(Prod.mk.inj hE).2.symm⟩
 have hF:findE l r.key=10:=find_ten h1 h3
 obtain⟨q,hq⟩: ∃q,q=findK l r.key:=⟨_,rfl⟩
 have H1:=Lib.hid h1
 have HP:=Lib.hid hP
 have HF:=Lib.hid hF.symm
 have HQ:=Lib.hid hq
 clear hE h1 h2 h1' h3 hP hF hq
 have HN:=Lib.hid hn
 have HT:=Lib.hid hT
 have HA:=Lib.hid hA
 clear hn hT hA
 have HBL:=Lib.hid (Below.refl w.heap.size w)
 go_enter Tryz.func11, Tryz.ntmps11
 go_wp2_with fail
 obtain⟨w1,hw⟩: ∃w1,w1=w.alloc (.cells #[.int .i64 r.t.ser, .int .i64 r.t.kind, .int .i64 r.t.frm, .int .i64 r.t.till, .int .i64 r.t.cls, .int .i64 r.t.card, .int .i64 r.t.seat, .int .i64 r.t.day, .int .i64 r.t.days, .int .i64 r.t.uses, .int .i64 r.t.epoch, .int .i64 r.key, .int .i64 r.left, .int .i64 r.inn, .int .i64 r.ver] 28):=⟨_,rfl⟩
 rw[←hw]
 have hx:RBox w1 w.heap.size r:=by rw[hw];exact RBox.new w r
 have hb:Below w.heap.size w w1:=by rw[hw];exact below_lit w _ _
 replace HT:=Lib.hid (HT.out.next hb)
 replace HA:=Lib.hid (HA.out.next hb)
 replace HBL:=Lib.hid (HBL.out.trans (hb.mono HBL.out.size))
 have X1:=Lib.hid hx
 clear hx hb hw
 obtain⟨B1,hB⟩: ∃B,B=w.heap.size:=⟨_,rfl⟩
 rw[←hB]at X1⊢
 clear hB
 refine(pis_named l n HN.out true H1.out A c w1 HA.out hn3).mono ?_
 rintro e w2 ⟨rfl,hb⟩
 replace HT:=Lib.hid (HT.out.next hb)
 replace HA:=Lib.hid (HA.out.next hb)
 replace X1:=Lib.hid (X1.out.next hb)
 replace HBL:=Lib.hid (HBL.out.trans (hb.mono HBL.out.size))
 clear hb
 obtain⟨c0,c1,c2,c3,c4,c5,c6,c7,c8,c9,c10,c11,c12,c13,c14⟩:=X1.out.cells
 go_wp2_with fail
 refine(fput_any r 0 P HP.out w2).mono ?_
 rintro e w3 ⟨AP1,cP1,rfl,hs,hb⟩
 clear c0 c1 c2 c3 c4 c5 c6 c7 c8 c9 c10 c11 c12 c13 c14
 replace HT:=Lib.hid (HT.out.next hb)
 replace HA:=Lib.hid (HA.out.next hb)
 replace X1:=Lib.hid (X1.out.next hb)
 replace HBL:=Lib.hid (HBL.out.trans (hb.mono HBL.out.size))
 have P1:=Lib.hid hs
 clear hb hs
 obtain⟨c0,c1,c2,c3,c4,c5,c6,c7,c8,c9,c10,c11,c12,c13,c14⟩:=X1.out.cells
 go_wp2_with fail
 refine(pfind_any l n HN.out r.key A c w3 HA.out hn3 q 10 HQ.out HF.out).mono ?_
 rintro e w4 ⟨S,cc,rfl,hs,hb⟩
 clear c0 c1 c2 c3 c4 c5 c6 c7 c8 c9 c10 c11 c12 c13 c14
 replace HT:=Lib.hid (HT.out.next hb)
 replace HA:=Lib.hid (HA.out.next hb)
 replace X1:=Lib.hid (X1.out.next hb)
 replace P1:=Lib.hid (P1.out.next hb)
 replace HBL:=Lib.hid (HBL.out.trans (hb.mono HBL.out.size))
 have FS:=Lib.hid hs
 clear hb hs
 go_wp2_with fail
 obtain⟨w5,hw⟩: ∃w5,w5=w4.alloc (.cells #[.int .i64 q.id, .slice S q.sec.length cc, .int .i64 q.frm, .int .i64 q.til] 48):=⟨_,rfl⟩
 rw[←hw]
 have hx:Box w5 w4.heap.size ⟨q,S,cc⟩:=by rw[hw];exact(box_lit w4 ⟨q,S,cc⟩ FS.out).1
 have hb:Below w4.heap.size w4 w5:=by rw[hw];exact below_lit w4 _ _
 replace HT:=Lib.hid (HT.out.next hb)
 replace HA:=Lib.hid (HA.out.next hb)
 replace X1:=Lib.hid (X1.out.next hb)
 replace P1:=Lib.hid (P1.out.next hb)
 replace FS:=Lib.hid (FS.out.next hb)
 replace HBL:=Lib.hid (HBL.out.trans (hb.mono HBL.out.size))
 have HX:=Lib.hid hx
 clear hx hb hw
 obtain⟨X,hB⟩: ∃B,B=w4.heap.size:=⟨_,rfl⟩
 rw[←hB]at HX⊢
 clear hB
 go_wp2
 go_ret2
 exact⟨none,0,rfl,Bs.empty _ _,HBL.out⟩
set_option maxRecDepth 100000 in
set_option maxHeartbeats 1600000 in
theorem benc_d (l:List K) (n:Nat) (hn:n=l.length) (hn3:n≤9223372036854775807) (A:Option Addr) (c:Nat) (r:Rg) (E:Nat) (p:List Nat) (hE:ecB l r=(E,p)) (w:World) (hT:Tabs w) (hA:Ks w w.heap.size A l) (h1:isR l=true) (h2:(fdPut r).1=0) (h3:findE l r.key=0):Calls Tryz.prog 11 #[.slice A n c, .agg #[.int .i64 r.t.ser, .int .i64 r.t.kind, .int .i64 r.t.frm, .int .i64 r.t.till, .int .i64 r.t.cls, .int .i64 r.t.card, .int .i64 r.t.seat, .int .i64 r.t.day, .int .i64 r.t.days, .int .i64 r.t.uses, .int .i64 r.t.epoch, .int .i64 r.key, .int .i64 r.left, .int .i64 r.inn, .int .i64 r.ver]] w fun e w'=> ∃A' c',e= .returned (.tuple #[.slice A' (p.length:Nat) c', .int .i64 (E:Int)])∧Bs w' w'.heap.size p A' c'∧Below w.heap.size w w':=by
 have h1': ¬isR l=false:=by rw[h1];decide
 obtain⟨P,hP⟩: ∃P,fdPut r=(0,P):=⟨(fdPut r).2,by rw[←h2]⟩
 obtain⟨q,hq⟩: ∃q,q=findK l r.key:=⟨_,rfl⟩
 obtain⟨b,hb⟩: ∃b,putT P=b:=⟨_,rfl⟩
 obtain⟨T,hTg⟩: ∃T,tagB q.sec b=T:=⟨_,rfl⟩
 obtain⟨L,hL⟩: ∃L,b++T=L:=⟨_,rfl⟩
 obtain⟨F,hF⟩: ∃F:Array Value,F=(U8 T).toArray:=⟨_,rfl⟩
 obtain⟨rfl,hX⟩:E=0∧putF L=p:=by
  rw[ecB,if_neg h1',if_neg (by omega),if_neg (by omega),wholeB,bodyB,hP, ←hq]at hE
  simp only at hE
  rw[hb,hTg,hL]at hE
  exact⟨(Prod.mk.inj hE).1.symm,(Prod.mk.inj hE).2⟩
 have hbl:b.length≤117:=by rw[←hb];exact body_len hP
 have hTL:T.length=32:=by rw[←hTg];exact tagB_len _ _
 have hTT: ∀x∈T,x<256:=by rw[←hTg];exact tagB_lt _ _
 obtain⟨k,hk⟩: ∃k,k=L.length:=⟨_,rfl⟩
 have hk2:0<k∧k≤149:=by rw[hk, ←hL,List.length_append];omega
 have H1:=Lib.hid h1
 have HP:=Lib.hid hP
 have HQ:=Lib.hid hq
 have HF3:=Lib.hid h3.symm
 have HS64:=Lib.hid (show q.sec.length≤64 by rw[hq];exact find_sec h3)
 have HOUT:=Lib.hid (show outT P=(0,b) by rw[←hb];exact outT_ok (get_put hP).1)
 have HL:=Lib.hid hL
 have HX0:=Lib.hid hX
 have HFB:=Lib.hid (show F=(U8 (tagB q.sec b)).toArray by rw[hTg];exact hF)
 have HIS:=Lib.hid (isArr32 hF hTL)
 have HFT:=Lib.hid hF
 have HTL:=Lib.hid hTL
 have HTT:=Lib.hid hTT
 have HK:=Lib.hid hk
 have HK2:=Lib.hid hk2
 have HBL9:=Lib.hid hbl
 obtain⟨m,hm⟩: ∃m,b.length=m:=⟨_,rfl⟩
 rw[hm]at hbl
 have HM:=Lib.hid hm
 clear hE h1 h2 h1' h3 hP hq hb hTg hL hF hX hTL hTT hk hk2 hm
 have HN:=Lib.hid hn
 have HT:=Lib.hid hT
 have HA:=Lib.hid hA
 clear hn hT hA
 have HBL:=Lib.hid (Below.refl w.heap.size w)
 go_enter Tryz.func11, Tryz.ntmps11
 go_wp2_with fail
 obtain⟨w1,hw⟩: ∃w1,w1=w.alloc (.cells #[.int .i64 r.t.ser, .int .i64 r.t.kind, .int .i64 r.t.frm, .int .i64 r.t.till, .int .i64 r.t.cls, .int .i64 r.t.card, .int .i64 r.t.seat, .int .i64 r.t.day, .int .i64 r.t.days, .int .i64 r.t.uses, .int .i64 r.t.epoch, .int .i64 r.key, .int .i64 r.left, .int .i64 r.inn, .int .i64 r.ver] 28):=⟨_,rfl⟩
 rw[←hw]
 have hx:RBox w1 w.heap.size r:=by rw[hw];exact RBox.new w r
 have hb:Below w.heap.size w w1:=by rw[hw];exact below_lit w _ _
 replace HT:=Lib.hid (HT.out.next hb)
 replace HA:=Lib.hid (HA.out.next hb)
 replace HBL:=Lib.hid (HBL.out.trans (hb.mono HBL.out.size))
 have X1:=Lib.hid hx
 clear hx hb hw
 obtain⟨B1,hB⟩: ∃B,B=w.heap.size:=⟨_,rfl⟩
 rw[←hB]at X1⊢
 clear hB
 refine(pis_named l n HN.out true H1.out A c w1 HA.out hn3).mono ?_
 rintro e w2 ⟨rfl,hb⟩
 replace HT:=Lib.hid (HT.out.next hb)
 replace HA:=Lib.hid (HA.out.next hb)
 replace X1:=Lib.hid (X1.out.next hb)
 replace HBL:=Lib.hid (HBL.out.trans (hb.mono HBL.out.size))
 clear hb
 obtain⟨c0,c1,c2,c3,c4,c5,c6,c7,c8,c9,c10,c11,c12,c13,c14⟩:=X1.out.cells
 go_wp2_with fail
 refine(fput_any r 0 P HP.out w2).mono ?_
 rintro e w3 ⟨AP1,cP1,rfl,hs,hb⟩
 clear c0 c1 c2 c3 c4 c5 c6 c7 c8 c9 c10 c11 c12 c13 c14
 replace HT:=Lib.hid (HT.out.next hb)
 replace HA:=Lib.hid (HA.out.next hb)
 replace X1:=Lib.hid (X1.out.next hb)
 replace HBL:=Lib.hid (HBL.out.trans (hb.mono HBL.out.size))
 have P1:=Lib.hid hs
 clear hb hs
 obtain⟨c0,c1,c2,c3,c4,c5,c6,c7,c8,c9,c10,c11,c12,c13,c14⟩:=X1.out.cells
 go_wp2_with fail
 refine(pfind_any l n HN.out r.key A c w3 HA.out hn3 q 0 HQ.out HF3.out).mono ?_
 rintro e w4 ⟨S,cc,rfl,hs,hb⟩
 clear c0 c1 c2 c3 c4 c5 c6 c7 c8 c9 c10 c11 c12 c13 c14
 replace HT:=Lib.hid (HT.out.next hb)
 replace HA:=Lib.hid (HA.out.next hb)
 replace X1:=Lib.hid (X1.out.next hb)
 replace P1:=Lib.hid (P1.out.next hb)
 replace HBL:=Lib.hid (HBL.out.trans (hb.mono HBL.out.size))
 have FS:=Lib.hid hs
 clear hb hs
 go_wp2_with fail
 obtain⟨w5,hw⟩: ∃w5,w5=w4.alloc (.cells #[.int .i64 q.id, .slice S q.sec.length cc, .int .i64 q.frm, .int .i64 q.til] 48):=⟨_,rfl⟩
 rw[←hw]
 have hx:Box w5 w4.heap.size ⟨q,S,cc⟩:=by rw[hw];exact(box_lit w4 ⟨q,S,cc⟩ FS.out).1
 have hb:Below w4.heap.size w4 w5:=by rw[hw];exact below_lit w4 _ _
 replace HT:=Lib.hid (HT.out.next hb)
 replace HA:=Lib.hid (HA.out.next hb)
 replace X1:=Lib.hid (X1.out.next hb)
 replace P1:=Lib.hid (P1.out.next hb)
 replace FS:=Lib.hid (FS.out.next hb)
 replace HBL:=Lib.hid (HBL.out.trans (hb.mono HBL.out.size))
 have HX:=Lib.hid hx
 clear hx hb hw
 obtain⟨X,hB⟩: ∃B,B=w4.heap.size:=⟨_,rfl⟩
 rw[←hB]at HX⊢
 clear hB
 refine(pput_tlv P P.length rfl 0 b HOUT.out AP1 cP1 w5 P1.out).mono ?_
 rintro e w6 ⟨AY1,cY1,rfl,hs,hb⟩
 replace HT:=Lib.hid (HT.out.next hb)
 replace HA:=Lib.hid (HA.out.next hb)
 replace X1:=Lib.hid (X1.out.next hb)
 replace P1:=Lib.hid (P1.out.next hb)
 replace FS:=Lib.hid (FS.out.next hb)
 replace HX:=Lib.hid (HX.out.next hb)
 replace HBL:=Lib.hid (HBL.out.trans (hb.mono HBL.out.size))
 have Y1:=Lib.hid hs
 clear hb hs
 rw[HM.out]
 have k1:=cell_of_row _ _ 1 _ _ _ HX.out.1
 go_wp2_with fail
 refine(btag_any q.sec b q.sec.length m rfl HM.out.symm S AY1 cc cY1 w6 HT.out FS.out Y1.out (by have:=HS64.out;omega) (by omega) F HFB.out).mono ?_
 rintro e w7 ⟨rfl,hb⟩
 clear k1
 replace HT:=Lib.hid (HT.out.next hb)
 replace HA:=Lib.hid (HA.out.next hb)
 replace X1:=Lib.hid (X1.out.next hb)
 replace P1:=Lib.hid (P1.out.next hb)
 replace FS:=Lib.hid (FS.out.next hb)
 replace HX:=Lib.hid (HX.out.next hb)
 replace Y1:=Lib.hid (Y1.out.next hb)
 replace HBL:=Lib.hid (HBL.out.trans (hb.mono HBL.out.size))
 clear hb
 go_wp2_with ((with_reducible refine at_store 10 ?_);refine wpList_store_named (o:=⟨none, .store 42 (.tmp 10) (.tmp 43),_,_,_,_⟩) rfl 42 (.tmp 10) (.tmp 43) rfl w7.heap.size F rfl rfl 42 b32 (heap_alloc_new w7 _) HIS.out.1 HIS.out.2.1 HIS.out.2.2 ?_;intro w20 hw20;have HR4:=Lib.hid (row_made hw20.out))
 have hb:=HR4.out.2.2
 replace HT:=Lib.hid (HT.out.next hb)
 replace HA:=Lib.hid (HA.out.next hb)
 replace X1:=Lib.hid (X1.out.next hb)
 replace P1:=Lib.hid (P1.out.next hb)
 replace FS:=Lib.hid (FS.out.next hb)
 replace HX:=Lib.hid (HX.out.next hb)
 replace Y1:=Lib.hid (Y1.out.next hb)
 replace HBL:=Lib.hid (HBL.out.trans (hb.mono HBL.out.size))
 clear hb
 have HRT:=Lib.hid (rd_row HR4.out.2.1 HFT.out)
 refine(concat2 b T L HL.out m 32 k HM.out.symm HTL.out.symm HK.out AY1 _ cY1 32 w20 Y1.out.rd HRT.out Y1.out.nil (fun h=>by cases h) Y1.out.lt HTT.out HK2.out.1 (by have:=HK2.out;omega)).mono ?_
 rintro e w8 ⟨ALL,cLL,rfl,hs,hb⟩
 replace HT:=Lib.hid (HT.out.next hb)
 replace HA:=Lib.hid (HA.out.next hb)
 replace X1:=Lib.hid (X1.out.next hb)
 replace P1:=Lib.hid (P1.out.next hb)
 replace FS:=Lib.hid (FS.out.next hb)
 replace HX:=Lib.hid (HX.out.next hb)
 replace Y1:=Lib.hid (Y1.out.next hb)
 replace HBL:=Lib.hid (HBL.out.trans (hb.mono HBL.out.size))
 have LL:=Lib.hid hs
 clear hb hs
 go_wp2_with fail
 refine(pput_forty L k HK.out (by have:=HK2.out;omega) p HX0.out ALL cLL w8 LL.out).mono ?_
 rintro e w9 ⟨AO,cO,rfl,hs,hb⟩
 replace HT:=Lib.hid (HT.out.next hb)
 replace HA:=Lib.hid (HA.out.next hb)
 replace X1:=Lib.hid (X1.out.next hb)
 replace P1:=Lib.hid (P1.out.next hb)
 replace FS:=Lib.hid (FS.out.next hb)
 replace HX:=Lib.hid (HX.out.next hb)
 replace Y1:=Lib.hid (Y1.out.next hb)
 replace LL:=Lib.hid (LL.out.next hb)
 replace HBL:=Lib.hid (HBL.out.trans (hb.mono HBL.out.size))
 have O:=Lib.hid hs
 clear hb hs
 go_wp2
 go_ret2
 exact⟨_,_,rfl,O.out,HBL.out⟩
theorem benc_any (l:List K) (n:Nat) (hn:n=l.length) (hn3:n≤9223372036854775807) (A:Option Addr) (c:Nat) (r:Rg) (E:Nat) (p:List Nat) (hE:ecB l r=(E,p)) (w:World) (hT:Tabs w) (hA:Ks w w.heap.size A l):Calls Tryz.prog 11 #[.slice A n c, .agg #[.int .i64 r.t.ser, .int .i64 r.t.kind, .int .i64 r.t.frm, .int .i64 r.t.till, .int .i64 r.t.cls, .int .i64 r.t.card, .int .i64 r.t.seat, .int .i64 r.t.day, .int .i64 r.t.days, .int .i64 r.t.uses, .int .i64 r.t.epoch, .int .i64 r.key, .int .i64 r.left, .int .i64 r.inn, .int .i64 r.ver]] w fun e w'=> ∃A' c',e= .returned (.tuple #[.slice A' (p.length:Nat) c', .int .i64 (E:Int)])∧Bs w' w'.heap.size p A' c'∧Below w.heap.size w w':=by
 cases h1:isR l
 ·exact benc_a l n hn hn3 A c r E p hE w hT hA h1
 ·by_cases h2:(fdPut r).1=0
  ·by_cases h3:findE l r.key=0
   ·exact benc_d l n hn hn3 A c r E p hE w hT hA h1 h2 h3
   ·exact benc_c l n hn hn3 A c r E p hE w hT hA h1 h2 h3
  ·exact benc_b l n hn hn3 A c r E p hE w hT hA h1 h2
end Go.Proofs.YtcnglbliidjnfaaGreatDoor
end
section
namespace Go.Proofs.YtcnglbliidjnfaaGreatDoor
set_option maxRecDepth 100000
set_option linter.unusedVariables false
open Go.ChangeShapes Go.WideShapes Go.ChangeAt Go.RowKit
theorem punless_yes (E:Int) (w:World):Calls Tryz.prog 36 #[.bool true, .int .i64 E] w fun e w'=>e= .returned (.int .i64 0)∧w=w':=by
 go_enter Tryz.func36, Tryz.ntmps36
 go_wp2
 go_ret
 exact⟨rfl,rfl⟩
theorem punless_no (E:Int) (w:World):Calls Tryz.prog 36 #[.bool false, .int .i64 E] w fun e w'=>e= .returned (.int .i64 E)∧w=w':=by
 go_enter Tryz.func36, Tryz.ntmps36
 go_wp2
 go_ret
 exact⟨rfl,rfl⟩
theorem punless_any (b:Bool) (E V:Int) (hV:(if b=true then 0 else E)=V) (w:World):Calls Tryz.prog 36 #[.bool b, .int .i64 E] w fun e w'=>e= .returned (.int .i64 V)∧w=w':=by
 subst hV
 cases b
 ·exact punless_no E w
 ·exact punless_yes E w
def StepOK (Q Q':World→Prop) (R:Int→World→Prop) (v:Value):Prop:= ∃K cap,v= .func (.func K) #[] cap∧(∀args w,(callFunc K args).run Tryz.prog w= .ok (.enter K args) w)∧
 ∀w,Q w→Calls Tryz.prog K cap w fun e w'=>(e= .returned (.int .i64 0)∧Q' w')∨ ∃E:Int,E≠0∧e= .returned (.int .i64 E)∧R E w'
set_option maxHeartbeats 1600000 in
theorem inorder_any (Q:Nat→World→Prop) (R:Int→World→Prop) (vs:List Value) (n:Nat) (hn:n=vs.length) (A:Option Addr) (c:Nat) (h63:n≤9223372036854775807) (hrd: ∀k w,k<n→Q k w→ ∃B,Rd w B A vs) (hst: ∀k v,vs[k]?=some v→StepOK (Q k) (Q (k+1)) R v) (w:World) (h0:Q 0 w):
  Calls Tryz.prog 41 #[.slice A n c] w fun e w'=>(e= .returned (.int .i64 0)∧Q n w')∨ ∃E:Int,E≠0∧e= .returned (.int .i64 E)∧R E w':=by
 have HN:=Lib.hid hn
 have HRD:=Lib.hid hrd
 have HST:=Lib.hid hst
 have H0:=Lib.hid h0
 clear hn hrd hst h0
 go_enter Tryz.func41, Tryz.ntmps41
 go_wp2_with fail
 go_loopw [8] (fun i wr=> ∃k:Nat,k≤n∧i= .int .i64 k∧Q k wr) (fun i _=>n - (intOf i).toNat)
 case atStart=>exact⟨0,Nat.zero_le _,rfl,H0.out⟩
 case round=>
  obtain⟨k,hk,rfl,hq⟩:=hrel
  have HQ:=Lib.hid hq
  clear hq H0
  by_cases hlt:k<n
  ·have hkl:k<vs.length:=by rw[←HN.out];exact hlt
   obtain⟨v,hv⟩: ∃v,vs[k]?=some v:=⟨_,List.getElem?_eq_getElem hkl⟩
   obtain⟨K,cap,rfl,hent,hcon⟩:=HST.out k v hv
   obtain⟨B,hrd⟩:=HRD.out k wr hlt HQ.out
   obtain⟨ad,rfl,hb,hc⟩:=hrd k _ hv
   have HC:=Lib.hid (hcon wr HQ.out)
   have b1:(0:Int)≤(k:Int):=by omega
   have b2:(k:Int)<(n:Int):=by omega
   clear hkl hv hcon hrd
   go_wp2_with fail
   refine HC.out.mono ?_
   rintro e w1 (⟨rfl,hq1⟩|⟨E,hE,rfl,hr⟩)
   ·have HQ1:=Lib.hid hq1
    clear hq1
    go_wp2
    go_roundw
    case rel=>exact⟨k+1,by omega,by go_num,HQ1.out⟩
    case measure=>simp[intOf];omega
   ·have s1:(E==0)=false:=by rw[beq_eq_false_iff_ne];exact hE
    have s2:(E !=0)=true:=by rw[bne_iff_ne];exact hE
    have HR:=Lib.hid hr
    have HE:=Lib.hid hE
    clear hr hE
    go_wp2
    go_ret
    exact .inr ⟨E,HE.out,rfl,HR.out⟩
  ·have e1:k=n:=by omega
   subst e1
   go_wp2
   go_ret
   exact .inl ⟨rfl,HQ.out⟩
end Go.Proofs.YtcnglbliidjnfaaGreatDoor
end
section
namespace Go.Proofs.YtcnglbliidjnfaaGreatDoor
set_option linter.unusedVariables false
open Go.ChangeShapes Go.WideShapes Go.ChangeAt Go.RowKit
theorem addr_twice (ad:Addr) (a b:Nat):(ad.add a).add b=ad.add (a+b):=by
 unfold Addr.add
 by_cases ha:a=0
 ·subst ha;simp
 ·by_cases hb:b=0
  ·subst hb;simp[ha]
  ·simp[ha,hb,Nat.add_assoc]
theorem Bs.split {w:World} {B:Nat} {s:List Nat} {a:Addr} {c:Nat} (h:Bs w B s (some a) c) (m:Nat) (hm:m≤s.length):Bs w B (s.take m) (some a) c∧Bs w B (s.drop m) (some (a.add m)) (c - m):=by
 have h1:=h.len
 have h2:=h.cap
 refine⟨⟨?_,(fun e=>by cases e),(by rw[List.length_take];omega),h2,fun x hx=>h.lt x (List.mem_of_mem_take hx)⟩,⟨?_,(fun e=>by cases e),(by rw[List.length_drop];omega),(by omega),fun x hx=>h.lt x (List.mem_of_mem_drop hx)⟩⟩
 ·intro k u hu
  refine h.rd k u ?_
  rw[U8,List.getElem?_map]at hu⊢
  rw[List.getElem?_take]at hu
  split at hu
  ·exact hu
  ·simp at hu
 ·intro k u hu
  obtain⟨ad,e,hlt,hc⟩:=h.rd (m+k) u (by
   rw[U8,List.getElem?_map]at hu⊢
   rw[List.getElem?_drop]at hu
   exact hu)
  cases e
  exact⟨_,rfl,by rw[add_block];exact hlt,by rw[addr_twice];exact hc⟩
end Go.Proofs.YtcnglbliidjnfaaGreatDoor
end
section
namespace Go.Proofs.YtcnglbliidjnfaaGreatDoor
set_option linter.unusedVariables false
set_option linter.unusedSimpArgs false
open Go.ChangeShapes Go.WideShapes Go.ChangeAt Go.RowKit
def sD {H:Type} :Nat→DataW H
 |0=> .map []
 |k+1=>(sD k).put (.int .u8 ((sg k:Nat):Int)) (.lit (.int .i64 (k:Int)))
theorem sD_map {H:Type} : ∀k,Maps.IsMap (sD (H:=H) k)
 |0=>Maps.isMap_empty
 |k+1=>(sD_map k).put _ _
theorem skey_ne {s x:Nat} (h:s≠x):Lit.int .u8 (s:Int)≠Lit.int .u8 (x:Int):=by
 intro e
 injection e with _ e
 exact h (by omega)
theorem sD_at {H:Type} (c:Nat) (z:DataW H): ∀k,k≤45→vl c<k→(sD k).atKey (.int .u8 (c:Int)) z= .lit (.int .i64 ((vl c:Nat):Int))
 |0,_,h=>absurd h (by omega)
 |k+1,hk,h=>by
  by_cases e:vl c=k
  ·have hs:sg k=c:=by rw[←e];exact sg_vl (by omega)
   rw[sD,hs,e]
   exact Maps.atKey_put_same (sD_map k) (by simp[WideAt.IsKeyLit]) _ _
  ·have hs:c≠sg k:=by rintro rfl;exact e (vl_sg k (by omega))
   rw[sD]
   exact(Maps.atKey_put_other (skey_ne hs) _ _).trans (sD_at c z k (by omega) (by omega))
theorem sD_has {H:Type} (c:Nat): ∀k,k≤45→Maps.has (sD (H:=H) k) (.int .u8 (c:Int))=decide (vl c<k)
 |0,_=>rfl
 |k+1,hk=>by
  by_cases e:vl c=k
  ·have hs:sg k=c:=by rw[←e];exact sg_vl (by omega)
   rw[sD,hs,Maps.has_put_same (sD_map k) (by simp[WideAt.IsKeyLit]),e]
   simp
  ·have hs:c≠sg k:=by rintro rfl;exact e (vl_sg k (by omega))
   rw[sD,Maps.has_put_other (skey_ne hs),sD_has c k (by omega)]
   have:(vl c<k)=(vl c<k+1):=by apply propext;omega
   simp only[this]
def sMap {H:Type} :DataW H:=sD 45
theorem sMap_has {H:Type} (c:Nat):Maps.has (sMap (H:=H)) (.int .u8 (c:Int))=fokS c:=sD_has c 45 (Nat.le_refl _)
theorem sMap_at {H:Type} {c:Nat} (h:fokS c=true) (z:DataW H):(sMap (H:=H)).atKey (.int .u8 (c:Int)) z= .lit (.int .i64 ((vl c:Nat):Int)):=sD_at c z 45 (Nat.le_refl _) (okS_lt h)
theorem u8_wf {s:Nat} (h:s<256):(Lit.int .u8 (s:Int)).wf=true:=by
 simp[Lit.wf,IntKind.min,IntKind.max,IntKind.signed,IntKind.bits]
 omega
theorem si64_wf {s:Nat} (h:s<9223372036854775808):(Lit.int .i64 (s:Int)).wf=true:=by
 simp only[Lit.wf,IntKind.min,IntKind.max,IntKind.signed,IntKind.bits,Bool.and_eq_true,decide_eq_true_eq,if_true]
 omega
abbrev SMap (w:World) (g:Nat):Prop:=w.ownsMap Tryz.prog 5 (plainElem (H:=Unit) Tryz.prog 3) g 45 sMap
set_option maxRecDepth 100000 in
set_option maxHeartbeats 1600000 in
theorem pvalues_any (w:World):Calls Tryz.prog 51 #[] w fun e w'=>e= .returned (.map (some w.heap.size))∧SMap w' w.heap.size∧Below w.heap.size w w':=by
 have hmm:= @run_makeMap Tryz.prog
 go_enter Tryz.func51, Tryz.ntmps51
 go_wp2
 go_loopw [4] (fun i wr=> ∃k:Nat,k≤45∧i= .int .i64 (k:Int)∧wr.ownsMap Tryz.prog 5 (plainElem (H:=Unit) Tryz.prog 3) w.heap.size k (sD k)∧Below w.heap.size w wr) (fun i _=>45 - (intOf i).toNat)
 case atStart=>exact⟨0,by omega,rfl,World.ownsMap_made w Tryz.prog 5 (plainElem (H:=Unit) Tryz.prog 3),(Below.refl _ w).alloc (Nat.le_refl _) _⟩
 case round=>
  obtain⟨k,hk,rfl,hown,hbel⟩:=hrel
  by_cases hlt:k<45
  ·have hkey:=Maps.keyOf_int_mk (P:= Tryz.prog) Tryz.underlying5 (u8_wf (sg_lt k))
   have hix:=run_index_sg k hlt
   have hwf:=si64_wf (s:=k) (by omega)
   have HBL:=Lib.hid hbel
   clear hbel
   go_wp2_with (at_mapUpdate;refine wpList_mapUpdate_own _ rfl _ _ _ 78 rfl 5 3 (Maps.int_keyed Tryz.underlying5) Tryz.underlying78 _ w.heap.size k _ rfl hown (by unfold maxLen;omega) _ _ _ rfl rfl hkey _ [] (plainElem_int Tryz.underlying3 hwf) ?_;intro w1 hown1 hgrow1)
   have HO:=Lib.hid hown1
   have HB:=Lib.hid (HBL.out.grown hgrow1 HBL.out.size (fun k e=>by cases e;exact Nat.le_refl _))
   clear hown1 hgrow1 hown HBL
   go_wp2
   go_roundw
   case rel=>exact⟨k+1,by omega,by go_num,HO.out,HB.out⟩
   case measure=>simp[intOf];omega
  ·obtain rfl:k=45:=by omega
   have HO:=Lib.hid hown
   have HB:=Lib.hid hbel
   clear hown hbel
   go_wp2
   go_ret
   exact⟨rfl,HO.out,HB.out⟩
def nS:List Nat→Nat
 |[]=>0
 |c::r=>vl c+45*nS r
def okL (l:List Nat):Bool:=l.all fokS
theorem nS_snoc: ∀(l:List Nat) (c:Nat),nS (l++ [c])=nS l+45^l.length*vl c
 |[],c=>by simp[nS]
 |x::l,c=>by
  rw[List.cons_append,nS,nS,nS_snoc l c,List.length_cons,Nat.pow_succ,Nat.mul_add, ←Nat.add_assoc, ←Nat.mul_assoc,Nat.mul_comm 45 (45^l.length)]
theorem nS_lt: ∀(l:List Nat),l.length≤3→nS l<100000
 |[],_=>by decide
 |[a],_=>by have:=vl_le a;simp[nS];omega
 |[a,b],_=>by have:=vl_le a;have:=vl_le b;simp[nS];omega
 |[a,b,c],_=>by have:=vl_le a;have:=vl_le b;have:=vl_le c;simp[nS];omega
 |_::_::_::_::_,h=>by simp at h
theorem okL_snoc (l:List Nat) (c:Nat):okL (l++ [c])=(okL l&&fokS c):=by simp[okL]
theorem okL_bad {l:List Nat} {k c:Nat} (h:l[k]?=some c) (hc:fokS c=false):okL l=false:=by
 cases h1:okL l with
 |false=>rfl
 |true=>rw[okL,List.all_eq_true]at h1;rw[h1 c (List.mem_of_getElem? h)]at hc;cases hc
set_option maxRecDepth 100000 in
set_option maxHeartbeats 1600000 in
theorem pofSigns_any (l:List Nat) (n:Nat) (hn:n=l.length) (h3:n≤3) (E:Bool) (N:Nat) (hE:okL l=E) (hN:(if E then nS l else 0)=N) (A:Option Addr) (c g:Nat) (w:World) (hA:Bs w w.heap.size l A c) (hown:SMap w g):
  Calls Tryz.prog 53 #[.slice A n c, .map (some g)] w fun e w'=>e= .returned (.tuple #[.int .i64 N, .bool E])∧w=w':=by
 have HN:=Lib.hid hn
 have HA:=Lib.hid hA
 have HE:=Lib.hid hE
 have HNN:=Lib.hid hN
 clear hn hA hE hN
 go_enter Tryz.func53, Tryz.ntmps53
 go_wp2
 go_loop [6,7,9,14] (fun t p _ i=> ∃k:Nat,k≤n∧i= .int .i64 k∧t= .int .i64 (nS (l.take k):Nat)∧p= .int .i64 (45^k:Nat)∧okL (l.take k)=true) (fun _ _ _ i=>n - (intOf i).toNat)
 case atStart=>exact⟨0,Nat.zero_le _,rfl,rfl,rfl,rfl⟩
 case round=>
  obtain⟨k,hk,rfl,rfl,rfl,hok⟩:=hrel
  have HOK:=Lib.hid hok
  clear hok
  by_cases hlt:k<n
  ·have hkl:k<l.length:=by rw[←HN.out];exact hlt
   obtain⟨x,hx⟩: ∃x,l[k]?=some x:=⟨_,List.getElem?_eq_getElem hkl⟩
   obtain⟨ad,rfl,hb,hc⟩:=HA.out.rd k (.int .u8 (x:Int)) (by rw[U8,List.getElem?_map,hx];rfl)
   have hx2:x<256:=HA.out.lt x (List.mem_of_getElem? hx)
   have hkey:=Maps.keyOf_int_mk (P:= Tryz.prog) Tryz.underlying5 (u8_wf hx2)
   have HK:=Lib.hid hkey
   have HX:=Lib.hid hx
   have b1:(0:Int)≤(k:Int):=by omega
   have b2:(k:Int)<(n:Int):=by omega
   have hl:=nS_lt (l.take k) (by rw[List.length_take];omega)
   have hl2:=nS_lt (l.take (k+1)) (by rw[List.length_take];omega)
   have hst:nS (l.take (k+1))=nS (l.take k)+45^k*vl x:=by rw[take_snoc' hx,nS_snoc,List.length_take,Nat.min_eq_left (by omega)]
   have hp:45^k≤2025:=Nat.le_trans (Nat.pow_le_pow_right (by omega) (show k≤2 by omega)) (by decide)
   have hp2:45^(k+1)=45^k*45:=Nat.pow_succ 45 k
   have hokn:okL (l.take (k+1))=fokS x:=by rw[take_snoc' hx,okL_snoc,HOK.out,Bool.true_and]
   have HOKN:=Lib.hid hokn
   have HP2:=Lib.hid hp2
   rw[hst]at hl2
   have HST:=Lib.hid hst
   clear hkey hx hkl hst hp2 hokn
   generalize nS (l.take k)=a at*
   generalize 45^k=p at*
   cases hs:fokS x with
   |true=>
    have hh:Maps.has (sMap (H:=Unit)) (.int .u8 (x:Int))=true:=by rw[sMap_has,hs]
    have ha:=sMap_at (H:=Unit) hs (.lit (.int .i64 0))
    have hvl:=okS_lt hs
    have HS:=Lib.hid hs
    generalize vl x=y at*
    have HAT:=Lib.hid ha
    obtain⟨m,hm⟩: ∃m,m=p*y:=⟨_,rfl⟩
    rw[←hm]at HST hl2
    have hpm:(p:Int)*(y:Int)=(m:Int):=by rw[hm];push_cast;rfl
    have w1:IntKind.i64.wrap (m:Int)=(m:Int):=IntWalk.i64_in _ (by omega)
    have w2:IntKind.i64.wrap ((a:Int)+(m:Int))=(a:Int)+(m:Int):=IntWalk.i64_in _ (by omega)
    have w3:IntKind.i64.wrap ((p:Int)*45)=(p:Int)*45:=IntWalk.i64_in _ (by omega)
    clear hs ha hm
    go_wp2_with (at_lookup;refine wpList_lookup_own_ok_int _ rfl _ _ 78 rfl 5 3 .i64 (Maps.int_keyed Tryz.underlying5) Tryz.underlying78 Tryz.underlying3 (Tryz.zeroValue3 _) g 45 _ rfl hown _ _ rfl HK.out ?_;intro c hat hwc;obtain rfl:(y:Int)=c:=(by have:=HAT.out.symm.trans hat;simpa using this);rw[hh];clear hat hwc)
    go_round
    case rel=>exact⟨k+1,by omega,by go_num,by rw[HST.out];go_num,by rw[HP2.out];go_num,by rw[HOKN.out];exact HS.out⟩
    case measure=>simp[intOf];omega
   |false=>
    have hh:Maps.has (sMap (H:=Unit)) (.int .u8 (x:Int))=false:=by rw[sMap_has,hs]
    obtain rfl:E=false:=by rw[←HE.out];exact okL_bad HX.out hs
    obtain rfl:N=0:=by rw[←HNN.out];rfl
    clear hs HE HNN HST HP2 HOKN
    go_wp2_with (at_lookup;refine wpList_lookup_own_ok_int _ rfl _ _ 78 rfl 5 3 .i64 (Maps.int_keyed Tryz.underlying5) Tryz.underlying78 Tryz.underlying3 (Tryz.zeroValue3 _) g 45 _ rfl hown _ _ rfl HK.out ?_;intro c hat hwc;rw[hh];clear hat hwc)
    go_ret2
    exact⟨rfl,rfl⟩
  ·obtain rfl:k=n:=by omega
   have e:l.take k=l:=List.take_of_length_le (by rw[←HN.out];omega)
   have h1:=HOK.out
   rw[e]at h1⊢
   obtain rfl:E=true:=by rw[←HE.out];exact h1
   have h2:nS l=N:=by rw[←HNN.out];rfl
   rw[h2]
   clear e h1 h2 HE HNN HOK
   go_wp2
   go_ret2
   exact⟨rfl,rfl⟩
end Go.Proofs.YtcnglbliidjnfaaGreatDoor
end
