import Derived.Test.YtcnglbliidjnfaaGreatDoorBarCoded
import Derived.Test.YtcnglbliidjnfaaGreatDoorRingPAdd
import Derived.Test.YtcnglbliidjnfaaGreatDoorRingLast
namespace Go.Proofs.YtcnglbliidjnfaaGreatDoor
set_option linter.unusedVariables false
open Go.ChangeShapes Go.WideShapes Go.ChangeAt Go.RowKit
set_option maxRecDepth 100000 in
set_option maxHeartbeats 1600000 in
theorem keys19_a (l:List K) (n:Nat) (hn:n=l.length) (hn3:n≤9223372036854775807) (A:Option Addr) (c:Nat) (hsl:Sl A n c) (b:List Nat) (m:Nat) (hm:m=b.length) (B:Option Addr) (d:Nat) (q:KV) (R:List K) (E:Int) (j:Nat) (hR:R=addK l q.k) (hE:E=addE l q.k) (hj:j=R.length) (hbig:bigR l=true) (w:World) (hT:Tabs w) (hA:Ks w w.heap.size A l) (hB:Bs w w.heap.size b B d) (hq:Bs w w.heap.size q.k.sec q.S q.c):Calls Tryz.prog 9 #[.slice A n c, .slice B m d, .agg #[.int .i64 q.k.id, .slice q.S q.k.sec.length q.c, .int .i64 q.k.frm, .int .i64 q.k.til]] w fun e w'=>e= .returned (.bool true)∧Below w.heap.size w w':=by
 have h1:=hB.len
 have h2:=hB.cap
 have hm3:m≤9223372036854775807:=by omega
 have h3:=hq.len
 have h4:=hq.cap
 have hk3:q.k.sec.length≤9223372036854775807:=by omega
 clear h1 h2 h3 h4
 have HN:=Lib.hid hn
 have HS:=Lib.hid hsl
 have HM:=Lib.hid hm
 have HT:=Lib.hid hT
 have HA:=Lib.hid hA
 have HB:=Lib.hid hB
 have HQ:=Lib.hid hq
 have HR:=Lib.hid hR
 have HE:=Lib.hid hE
 have HJ:=Lib.hid hj
 have HBIG:=Lib.hid hbig
 clear hn hsl hm hT hA hB hq hR hE hj hbig
 have HBL:=Lib.hid (Below.refl w.heap.size w)
 go_enter Tryz.func9, Tryz.ntmps9
 go_wp2_with fail
 obtain⟨w1,hw⟩: ∃w1,w1=w.alloc (.cells #[.int .i64 q.k.id, .slice q.S q.k.sec.length q.c, .int .i64 q.k.frm, .int .i64 q.k.til] 48):=⟨_,rfl⟩
 rw[←hw]
 have hx:Box w1 w.heap.size q:=by rw[hw];exact(box_lit w q HQ.out).1
 have hb:Below w.heap.size w w1:=by rw[hw];exact below_lit w _ _
 replace HT:=Lib.hid (HT.out.next hb)
 replace HA:=Lib.hid (HA.out.next hb)
 replace HB:=Lib.hid (HB.out.next hb)
 replace HQ:=Lib.hid (HQ.out.next hb)
 replace HBL:=Lib.hid (HBL.out.trans (hb.mono HBL.out.size))
 have HX:=Lib.hid hx
 clear hx hb hw
 obtain⟨X,hXe⟩: ∃X,X=w.heap.size:=⟨_,rfl⟩
 rw[←hXe]at HX⊢
 clear hXe
 refine(padd_any l q n A c w1 R E j HN.out HR.out HE.out HJ.out HS.out HA.out HQ.out).mono ?_
 rintro e w2 ⟨A2,c2,rfl,hs,hsl2,hb⟩
 replace HT:=Lib.hid (HT.out.next hb)
 replace HA:=Lib.hid (HA.out.next hb)
 replace HB:=Lib.hid (HB.out.next hb)
 replace HQ:=Lib.hid (HQ.out.next hb)
 replace HX:=Lib.hid (HX.out.next hb)
 replace HBL:=Lib.hid (HBL.out.trans (hb.mono HBL.out.size))
 have KR:=Lib.hid hs
 clear hb hs
 have SL2:=Lib.hid hsl2
 clear hsl2
 have k1:_=some (Value.slice q.S q.k.sec.length q.c):=cell_of_row _ _ 1 _ _ _ HX.out.1
 go_wp2_with fail
 refine(refbig_named l n HN.out true HBIG.out A c w2 HA.out hn3).mono ?_
 rintro e w3 ⟨rfl,hb⟩
 clear k1
 replace HT:=Lib.hid (HT.out.next hb)
 replace HA:=Lib.hid (HA.out.next hb)
 replace HB:=Lib.hid (HB.out.next hb)
 replace HQ:=Lib.hid (HQ.out.next hb)
 replace HX:=Lib.hid (HX.out.next hb)
 replace KR:=Lib.hid (KR.out.next hb)
 replace HBL:=Lib.hid (HBL.out.trans (hb.mono HBL.out.size))
 clear hb
 go_wp2_with fail
 refine(coded19_any w3 HT.out).mono ?_
 rintro e w4 ⟨rfl,hb⟩
 replace HT:=Lib.hid (HT.out.next hb)
 replace HA:=Lib.hid (HA.out.next hb)
 replace HB:=Lib.hid (HB.out.next hb)
 replace HQ:=Lib.hid (HQ.out.next hb)
 replace HX:=Lib.hid (HX.out.next hb)
 replace KR:=Lib.hid (KR.out.next hb)
 replace HBL:=Lib.hid (HBL.out.trans (hb.mono HBL.out.size))
 clear hb
 go_wp2
 go_ret
 exact⟨rfl,HBL.out⟩
set_option maxRecDepth 100000 in
set_option maxHeartbeats 1600000 in
theorem keys19_b (l:List K) (n:Nat) (hn:n=l.length) (hn3:n≤9223372036854775807) (A:Option Addr) (c:Nat) (hsl:Sl A n c) (b:List Nat) (m:Nat) (hm:m=b.length) (B:Option Addr) (d:Nat) (q:KV) (R:List K) (E:Int) (j:Nat) (hR:R=addK l q.k) (hE:E=addE l q.k) (hj:j=R.length) (hbig:bigR l=false) (q0:2000<m) (w:World) (hT:Tabs w) (hA:Ks w w.heap.size A l) (hB:Bs w w.heap.size b B d) (hq:Bs w w.heap.size q.k.sec q.S q.c):Calls Tryz.prog 9 #[.slice A n c, .slice B m d, .agg #[.int .i64 q.k.id, .slice q.S q.k.sec.length q.c, .int .i64 q.k.frm, .int .i64 q.k.til]] w fun e w'=>e= .returned (.bool true)∧Below w.heap.size w w':=by
 have p0:(2000:Int)<(m:Int):=by omega
 have h1:=hB.len
 have h2:=hB.cap
 have hm3:m≤9223372036854775807:=by omega
 have h3:=hq.len
 have h4:=hq.cap
 have hk3:q.k.sec.length≤9223372036854775807:=by omega
 clear h1 h2 h3 h4
 have HN:=Lib.hid hn
 have HS:=Lib.hid hsl
 have HM:=Lib.hid hm
 have HT:=Lib.hid hT
 have HA:=Lib.hid hA
 have HB:=Lib.hid hB
 have HQ:=Lib.hid hq
 have HR:=Lib.hid hR
 have HE:=Lib.hid hE
 have HJ:=Lib.hid hj
 have HBIG:=Lib.hid hbig
 clear hn hsl hm hT hA hB hq hR hE hj hbig
 have HBL:=Lib.hid (Below.refl w.heap.size w)
 go_enter Tryz.func9, Tryz.ntmps9
 go_wp2_with fail
 obtain⟨w1,hw⟩: ∃w1,w1=w.alloc (.cells #[.int .i64 q.k.id, .slice q.S q.k.sec.length q.c, .int .i64 q.k.frm, .int .i64 q.k.til] 48):=⟨_,rfl⟩
 rw[←hw]
 have hx:Box w1 w.heap.size q:=by rw[hw];exact(box_lit w q HQ.out).1
 have hb:Below w.heap.size w w1:=by rw[hw];exact below_lit w _ _
 replace HT:=Lib.hid (HT.out.next hb)
 replace HA:=Lib.hid (HA.out.next hb)
 replace HB:=Lib.hid (HB.out.next hb)
 replace HQ:=Lib.hid (HQ.out.next hb)
 replace HBL:=Lib.hid (HBL.out.trans (hb.mono HBL.out.size))
 have HX:=Lib.hid hx
 clear hx hb hw
 obtain⟨X,hXe⟩: ∃X,X=w.heap.size:=⟨_,rfl⟩
 rw[←hXe]at HX⊢
 clear hXe
 refine(padd_any l q n A c w1 R E j HN.out HR.out HE.out HJ.out HS.out HA.out HQ.out).mono ?_
 rintro e w2 ⟨A2,c2,rfl,hs,hsl2,hb⟩
 replace HT:=Lib.hid (HT.out.next hb)
 replace HA:=Lib.hid (HA.out.next hb)
 replace HB:=Lib.hid (HB.out.next hb)
 replace HQ:=Lib.hid (HQ.out.next hb)
 replace HX:=Lib.hid (HX.out.next hb)
 replace HBL:=Lib.hid (HBL.out.trans (hb.mono HBL.out.size))
 have KR:=Lib.hid hs
 clear hb hs
 have SL2:=Lib.hid hsl2
 clear hsl2
 have k1:_=some (Value.slice q.S q.k.sec.length q.c):=cell_of_row _ _ 1 _ _ _ HX.out.1
 go_wp2_with fail
 refine(refbig_named l n HN.out false HBIG.out A c w2 HA.out hn3).mono ?_
 rintro e w3 ⟨rfl,hb⟩
 clear k1
 replace HT:=Lib.hid (HT.out.next hb)
 replace HA:=Lib.hid (HA.out.next hb)
 replace HB:=Lib.hid (HB.out.next hb)
 replace HQ:=Lib.hid (HQ.out.next hb)
 replace HX:=Lib.hid (HX.out.next hb)
 replace KR:=Lib.hid (KR.out.next hb)
 replace HBL:=Lib.hid (HBL.out.trans (hb.mono HBL.out.size))
 clear hb
 have k2:_=some (Value.slice q.S q.k.sec.length q.c):=cell_of_row _ _ 1 _ _ _ HX.out.1
 go_wp2_with fail
 refine(coded19_any w3 HT.out).mono ?_
 rintro e w4 ⟨rfl,hb⟩
 clear k2
 replace HT:=Lib.hid (HT.out.next hb)
 replace HA:=Lib.hid (HA.out.next hb)
 replace HB:=Lib.hid (HB.out.next hb)
 replace HQ:=Lib.hid (HQ.out.next hb)
 replace HX:=Lib.hid (HX.out.next hb)
 replace KR:=Lib.hid (KR.out.next hb)
 replace HBL:=Lib.hid (HBL.out.trans (hb.mono HBL.out.size))
 clear hb
 go_wp2
 go_ret
 exact⟨rfl,HBL.out⟩
set_option maxRecDepth 100000 in
set_option maxHeartbeats 1600000 in
theorem keys19_c (l:List K) (n:Nat) (hn:n=l.length) (hn3:n≤9223372036854775807) (A:Option Addr) (c:Nat) (hsl:Sl A n c) (b:List Nat) (m:Nat) (hm:m=b.length) (B:Option Addr) (d:Nat) (q:KV) (R:List K) (E:Int) (j:Nat) (hR:R=addK l q.k) (hE:E=addE l q.k) (hj:j=R.length) (hbig:bigR l=false) (q0: ¬2000<m) (q1:200<q.k.sec.length) (w:World) (hT:Tabs w) (hA:Ks w w.heap.size A l) (hB:Bs w w.heap.size b B d) (hq:Bs w w.heap.size q.k.sec q.S q.c):Calls Tryz.prog 9 #[.slice A n c, .slice B m d, .agg #[.int .i64 q.k.id, .slice q.S q.k.sec.length q.c, .int .i64 q.k.frm, .int .i64 q.k.til]] w fun e w'=>e= .returned (.bool true)∧Below w.heap.size w w':=by
 have p0: ¬((2000:Int)<(m:Int)):=by omega
 have p1:(200:Int)<(q.k.sec.length:Int):=by omega
 have h1:=hB.len
 have h2:=hB.cap
 have hm3:m≤9223372036854775807:=by omega
 have h3:=hq.len
 have h4:=hq.cap
 have hk3:q.k.sec.length≤9223372036854775807:=by omega
 clear h1 h2 h3 h4
 have HN:=Lib.hid hn
 have HS:=Lib.hid hsl
 have HM:=Lib.hid hm
 have HT:=Lib.hid hT
 have HA:=Lib.hid hA
 have HB:=Lib.hid hB
 have HQ:=Lib.hid hq
 have HR:=Lib.hid hR
 have HE:=Lib.hid hE
 have HJ:=Lib.hid hj
 have HBIG:=Lib.hid hbig
 clear hn hsl hm hT hA hB hq hR hE hj hbig
 have HBL:=Lib.hid (Below.refl w.heap.size w)
 go_enter Tryz.func9, Tryz.ntmps9
 go_wp2_with fail
 obtain⟨w1,hw⟩: ∃w1,w1=w.alloc (.cells #[.int .i64 q.k.id, .slice q.S q.k.sec.length q.c, .int .i64 q.k.frm, .int .i64 q.k.til] 48):=⟨_,rfl⟩
 rw[←hw]
 have hx:Box w1 w.heap.size q:=by rw[hw];exact(box_lit w q HQ.out).1
 have hb:Below w.heap.size w w1:=by rw[hw];exact below_lit w _ _
 replace HT:=Lib.hid (HT.out.next hb)
 replace HA:=Lib.hid (HA.out.next hb)
 replace HB:=Lib.hid (HB.out.next hb)
 replace HQ:=Lib.hid (HQ.out.next hb)
 replace HBL:=Lib.hid (HBL.out.trans (hb.mono HBL.out.size))
 have HX:=Lib.hid hx
 clear hx hb hw
 obtain⟨X,hXe⟩: ∃X,X=w.heap.size:=⟨_,rfl⟩
 rw[←hXe]at HX⊢
 clear hXe
 refine(padd_any l q n A c w1 R E j HN.out HR.out HE.out HJ.out HS.out HA.out HQ.out).mono ?_
 rintro e w2 ⟨A2,c2,rfl,hs,hsl2,hb⟩
 replace HT:=Lib.hid (HT.out.next hb)
 replace HA:=Lib.hid (HA.out.next hb)
 replace HB:=Lib.hid (HB.out.next hb)
 replace HQ:=Lib.hid (HQ.out.next hb)
 replace HX:=Lib.hid (HX.out.next hb)
 replace HBL:=Lib.hid (HBL.out.trans (hb.mono HBL.out.size))
 have KR:=Lib.hid hs
 clear hb hs
 have SL2:=Lib.hid hsl2
 clear hsl2
 have k1:_=some (Value.slice q.S q.k.sec.length q.c):=cell_of_row _ _ 1 _ _ _ HX.out.1
 go_wp2_with fail
 refine(refbig_named l n HN.out false HBIG.out A c w2 HA.out hn3).mono ?_
 rintro e w3 ⟨rfl,hb⟩
 clear k1
 replace HT:=Lib.hid (HT.out.next hb)
 replace HA:=Lib.hid (HA.out.next hb)
 replace HB:=Lib.hid (HB.out.next hb)
 replace HQ:=Lib.hid (HQ.out.next hb)
 replace HX:=Lib.hid (HX.out.next hb)
 replace KR:=Lib.hid (KR.out.next hb)
 replace HBL:=Lib.hid (HBL.out.trans (hb.mono HBL.out.size))
 clear hb
 have k2:_=some (Value.slice q.S q.k.sec.length q.c):=cell_of_row _ _ 1 _ _ _ HX.out.1
 go_wp2_with fail
 refine(coded19_any w3 HT.out).mono ?_
 rintro e w4 ⟨rfl,hb⟩
 clear k2
 replace HT:=Lib.hid (HT.out.next hb)
 replace HA:=Lib.hid (HA.out.next hb)
 replace HB:=Lib.hid (HB.out.next hb)
 replace HQ:=Lib.hid (HQ.out.next hb)
 replace HX:=Lib.hid (HX.out.next hb)
 replace KR:=Lib.hid (KR.out.next hb)
 replace HBL:=Lib.hid (HBL.out.trans (hb.mono HBL.out.size))
 clear hb
 go_wp2
 go_ret
 exact⟨rfl,HBL.out⟩
set_option maxRecDepth 100000 in
set_option maxHeartbeats 1600000 in
theorem keys19_d (l:List K) (n:Nat) (hn:n=l.length) (hn3:n≤9223372036854775807) (A:Option Addr) (c:Nat) (hsl:Sl A n c) (b:List Nat) (m:Nat) (hm:m=b.length) (B:Option Addr) (d:Nat) (q:KV) (R:List K) (E:Int) (j:Nat) (hR:R=addK l q.k) (hE:E=addE l q.k) (hj:j=R.length) (hbig:bigR l=false) (q0: ¬2000<m) (q1: ¬200<q.k.sec.length) (h0:E≠0) (w:World) (hT:Tabs w) (hA:Ks w w.heap.size A l) (hB:Bs w w.heap.size b B d) (hq:Bs w w.heap.size q.k.sec q.S q.c):Calls Tryz.prog 9 #[.slice A n c, .slice B m d, .agg #[.int .i64 q.k.id, .slice q.S q.k.sec.length q.c, .int .i64 q.k.frm, .int .i64 q.k.til]] w fun e w'=>e= .returned (.bool true)∧Below w.heap.size w w':=by
 have p0: ¬((2000:Int)<(m:Int)):=by omega
 have p1: ¬((200:Int)<(q.k.sec.length:Int)):=by omega
 have s1:(E==0)=false:=by rw[beq_eq_false_iff_ne];exact h0
 have s2:(E !=0)=true:=by rw[bne_iff_ne];exact h0
 clear h0
 have h1:=hB.len
 have h2:=hB.cap
 have hm3:m≤9223372036854775807:=by omega
 have h3:=hq.len
 have h4:=hq.cap
 have hk3:q.k.sec.length≤9223372036854775807:=by omega
 clear h1 h2 h3 h4
 have HN:=Lib.hid hn
 have HS:=Lib.hid hsl
 have HM:=Lib.hid hm
 have HT:=Lib.hid hT
 have HA:=Lib.hid hA
 have HB:=Lib.hid hB
 have HQ:=Lib.hid hq
 have HR:=Lib.hid hR
 have HE:=Lib.hid hE
 have HJ:=Lib.hid hj
 have HBIG:=Lib.hid hbig
 clear hn hsl hm hT hA hB hq hR hE hj hbig
 have HBL:=Lib.hid (Below.refl w.heap.size w)
 go_enter Tryz.func9, Tryz.ntmps9
 go_wp2_with fail
 obtain⟨w1,hw⟩: ∃w1,w1=w.alloc (.cells #[.int .i64 q.k.id, .slice q.S q.k.sec.length q.c, .int .i64 q.k.frm, .int .i64 q.k.til] 48):=⟨_,rfl⟩
 rw[←hw]
 have hx:Box w1 w.heap.size q:=by rw[hw];exact(box_lit w q HQ.out).1
 have hb:Below w.heap.size w w1:=by rw[hw];exact below_lit w _ _
 replace HT:=Lib.hid (HT.out.next hb)
 replace HA:=Lib.hid (HA.out.next hb)
 replace HB:=Lib.hid (HB.out.next hb)
 replace HQ:=Lib.hid (HQ.out.next hb)
 replace HBL:=Lib.hid (HBL.out.trans (hb.mono HBL.out.size))
 have HX:=Lib.hid hx
 clear hx hb hw
 obtain⟨X,hXe⟩: ∃X,X=w.heap.size:=⟨_,rfl⟩
 rw[←hXe]at HX⊢
 clear hXe
 refine(padd_any l q n A c w1 R E j HN.out HR.out HE.out HJ.out HS.out HA.out HQ.out).mono ?_
 rintro e w2 ⟨A2,c2,rfl,hs,hsl2,hb⟩
 replace HT:=Lib.hid (HT.out.next hb)
 replace HA:=Lib.hid (HA.out.next hb)
 replace HB:=Lib.hid (HB.out.next hb)
 replace HQ:=Lib.hid (HQ.out.next hb)
 replace HX:=Lib.hid (HX.out.next hb)
 replace HBL:=Lib.hid (HBL.out.trans (hb.mono HBL.out.size))
 have KR:=Lib.hid hs
 clear hb hs
 have SL2:=Lib.hid hsl2
 clear hsl2
 have k1:_=some (Value.slice q.S q.k.sec.length q.c):=cell_of_row _ _ 1 _ _ _ HX.out.1
 go_wp2_with fail
 refine(refbig_named l n HN.out false HBIG.out A c w2 HA.out hn3).mono ?_
 rintro e w3 ⟨rfl,hb⟩
 clear k1
 replace HT:=Lib.hid (HT.out.next hb)
 replace HA:=Lib.hid (HA.out.next hb)
 replace HB:=Lib.hid (HB.out.next hb)
 replace HQ:=Lib.hid (HQ.out.next hb)
 replace HX:=Lib.hid (HX.out.next hb)
 replace KR:=Lib.hid (KR.out.next hb)
 replace HBL:=Lib.hid (HBL.out.trans (hb.mono HBL.out.size))
 clear hb
 have k2:_=some (Value.slice q.S q.k.sec.length q.c):=cell_of_row _ _ 1 _ _ _ HX.out.1
 go_wp2_with fail
 refine(coded19_any w3 HT.out).mono ?_
 rintro e w4 ⟨rfl,hb⟩
 clear k2
 replace HT:=Lib.hid (HT.out.next hb)
 replace HA:=Lib.hid (HA.out.next hb)
 replace HB:=Lib.hid (HB.out.next hb)
 replace HQ:=Lib.hid (HQ.out.next hb)
 replace HX:=Lib.hid (HX.out.next hb)
 replace KR:=Lib.hid (KR.out.next hb)
 replace HBL:=Lib.hid (HBL.out.trans (hb.mono HBL.out.size))
 clear hb
 go_wp2
 go_ret
 exact⟨rfl,HBL.out⟩
set_option maxRecDepth 100000 in
set_option maxHeartbeats 1600000 in
theorem keys19_e (l:List K) (n:Nat) (hn:n=l.length) (hn3:n≤9223372036854775807) (A:Option Addr) (c:Nat) (hsl:Sl A n c) (b:List Nat) (m:Nat) (hm:m=b.length) (B:Option Addr) (d:Nat) (q:KV) (R:List K) (j:Nat) (hR:R=addK l q.k) (hE:0=addE l q.k) (hj:j=R.length) (hbig:bigR l=false) (q0: ¬2000<m) (q1: ¬200<q.k.sec.length) (r1:Rg) (hD1:decB l b=(10,r1)) (r2:Rg) (hD2:decB R b=(10,r2)) (w:World) (hT:Tabs w) (hA:Ks w w.heap.size A l) (hB:Bs w w.heap.size b B d) (hq:Bs w w.heap.size q.k.sec q.S q.c):Calls Tryz.prog 9 #[.slice A n c, .slice B m d, .agg #[.int .i64 q.k.id, .slice q.S q.k.sec.length q.c, .int .i64 q.k.frm, .int .i64 q.k.til]] w fun e w'=>e= .returned (.bool true)∧Below w.heap.size w w':=by
 have p0: ¬((2000:Int)<(m:Int)):=by omega
 have p1: ¬((200:Int)<(q.k.sec.length:Int)):=by omega
 have HD1:=Lib.hid hD1
 have HD2:=Lib.hid hD2
 clear hD1 hD2
 have h1:=hB.len
 have h2:=hB.cap
 have hm3:m≤9223372036854775807:=by omega
 have h3:=hq.len
 have h4:=hq.cap
 have hk3:q.k.sec.length≤9223372036854775807:=by omega
 clear h1 h2 h3 h4
 have HN:=Lib.hid hn
 have HS:=Lib.hid hsl
 have HM:=Lib.hid hm
 have HT:=Lib.hid hT
 have HA:=Lib.hid hA
 have HB:=Lib.hid hB
 have HQ:=Lib.hid hq
 have HR:=Lib.hid hR
 have HE:=Lib.hid hE
 have HJ:=Lib.hid hj
 have HBIG:=Lib.hid hbig
 clear hn hsl hm hT hA hB hq hR hE hj hbig
 have HBL:=Lib.hid (Below.refl w.heap.size w)
 go_enter Tryz.func9, Tryz.ntmps9
 go_wp2_with fail
 obtain⟨w1,hw⟩: ∃w1,w1=w.alloc (.cells #[.int .i64 q.k.id, .slice q.S q.k.sec.length q.c, .int .i64 q.k.frm, .int .i64 q.k.til] 48):=⟨_,rfl⟩
 rw[←hw]
 have hx:Box w1 w.heap.size q:=by rw[hw];exact(box_lit w q HQ.out).1
 have hb:Below w.heap.size w w1:=by rw[hw];exact below_lit w _ _
 replace HT:=Lib.hid (HT.out.next hb)
 replace HA:=Lib.hid (HA.out.next hb)
 replace HB:=Lib.hid (HB.out.next hb)
 replace HQ:=Lib.hid (HQ.out.next hb)
 replace HBL:=Lib.hid (HBL.out.trans (hb.mono HBL.out.size))
 have HX:=Lib.hid hx
 clear hx hb hw
 obtain⟨X,hXe⟩: ∃X,X=w.heap.size:=⟨_,rfl⟩
 rw[←hXe]at HX⊢
 clear hXe
 refine(padd_any l q n A c w1 R 0 j HN.out HR.out HE.out HJ.out HS.out HA.out HQ.out).mono ?_
 rintro e w2 ⟨A2,c2,rfl,hs,hsl2,hb⟩
 replace HT:=Lib.hid (HT.out.next hb)
 replace HA:=Lib.hid (HA.out.next hb)
 replace HB:=Lib.hid (HB.out.next hb)
 replace HQ:=Lib.hid (HQ.out.next hb)
 replace HX:=Lib.hid (HX.out.next hb)
 replace HBL:=Lib.hid (HBL.out.trans (hb.mono HBL.out.size))
 have KR:=Lib.hid hs
 clear hb hs
 have SL2:=Lib.hid hsl2
 clear hsl2
 have k1:_=some (Value.slice q.S q.k.sec.length q.c):=cell_of_row _ _ 1 _ _ _ HX.out.1
 go_wp2_with fail
 refine(refbig_named l n HN.out false HBIG.out A c w2 HA.out hn3).mono ?_
 rintro e w3 ⟨rfl,hb⟩
 clear k1
 replace HT:=Lib.hid (HT.out.next hb)
 replace HA:=Lib.hid (HA.out.next hb)
 replace HB:=Lib.hid (HB.out.next hb)
 replace HQ:=Lib.hid (HQ.out.next hb)
 replace HX:=Lib.hid (HX.out.next hb)
 replace KR:=Lib.hid (KR.out.next hb)
 replace HBL:=Lib.hid (HBL.out.trans (hb.mono HBL.out.size))
 clear hb
 have k2:_=some (Value.slice q.S q.k.sec.length q.c):=cell_of_row _ _ 1 _ _ _ HX.out.1
 go_wp2_with fail
 refine(bdec_any l n HN.out hn3 b m HM.out (by omega) A c B d 10 r1 HD1.out w3 HT.out HA.out HB.out).mono ?_
 rintro e w4 ⟨rfl,hb⟩
 clear k2
 replace HT:=Lib.hid (HT.out.next hb)
 replace HA:=Lib.hid (HA.out.next hb)
 replace HB:=Lib.hid (HB.out.next hb)
 replace HQ:=Lib.hid (HQ.out.next hb)
 replace HX:=Lib.hid (HX.out.next hb)
 replace KR:=Lib.hid (KR.out.next hb)
 replace HBL:=Lib.hid (HBL.out.trans (hb.mono HBL.out.size))
 clear hb
 go_wp2_with fail
 obtain⟨w5,hw⟩: ∃w5,w5=w4.alloc (.cells #[.int .i64 r1.t.ser, .int .i64 r1.t.kind, .int .i64 r1.t.frm, .int .i64 r1.t.till, .int .i64 r1.t.cls, .int .i64 r1.t.card, .int .i64 r1.t.seat, .int .i64 r1.t.day, .int .i64 r1.t.days, .int .i64 r1.t.uses, .int .i64 r1.t.epoch, .int .i64 r1.key, .int .i64 r1.left, .int .i64 r1.inn, .int .i64 r1.ver] 28):=⟨_,rfl⟩
 rw[←hw]
 have hx:RBox w5 w4.heap.size r1:=by rw[hw];exact RBox.new w4 r1
 have hb:Below w4.heap.size w4 w5:=by rw[hw];exact below_lit w4 _ _
 replace HT:=Lib.hid (HT.out.next hb)
 replace HA:=Lib.hid (HA.out.next hb)
 replace HB:=Lib.hid (HB.out.next hb)
 replace HQ:=Lib.hid (HQ.out.next hb)
 replace HX:=Lib.hid (HX.out.next hb)
 replace KR:=Lib.hid (KR.out.next hb)
 replace HBL:=Lib.hid (HBL.out.trans (hb.mono HBL.out.size))
 have X1:=Lib.hid hx
 clear hx hb hw
 obtain⟨B1,hB⟩: ∃B,B=w4.heap.size:=⟨_,rfl⟩
 rw[←hB]at X1⊢
 clear hB
 refine(bdec_any R j HJ.out (Nat.le_trans SL2.out.1 SL2.out.2.1) b m HM.out (by omega) A2 c2 B d 10 r2 HD2.out w5 HT.out KR.out HB.out).mono ?_
 rintro e w6 ⟨rfl,hb⟩
 replace HT:=Lib.hid (HT.out.next hb)
 replace HA:=Lib.hid (HA.out.next hb)
 replace HB:=Lib.hid (HB.out.next hb)
 replace HQ:=Lib.hid (HQ.out.next hb)
 replace HX:=Lib.hid (HX.out.next hb)
 replace KR:=Lib.hid (KR.out.next hb)
 replace X1:=Lib.hid (X1.out.next hb)
 replace HBL:=Lib.hid (HBL.out.trans (hb.mono HBL.out.size))
 clear hb
 go_wp2_with fail
 obtain⟨w7,hw⟩: ∃w7,w7=w6.alloc (.cells #[.int .i64 r2.t.ser, .int .i64 r2.t.kind, .int .i64 r2.t.frm, .int .i64 r2.t.till, .int .i64 r2.t.cls, .int .i64 r2.t.card, .int .i64 r2.t.seat, .int .i64 r2.t.day, .int .i64 r2.t.days, .int .i64 r2.t.uses, .int .i64 r2.t.epoch, .int .i64 r2.key, .int .i64 r2.left, .int .i64 r2.inn, .int .i64 r2.ver] 28):=⟨_,rfl⟩
 rw[←hw]
 have hx:RBox w7 w6.heap.size r2:=by rw[hw];exact RBox.new w6 r2
 have hb:Below w6.heap.size w6 w7:=by rw[hw];exact below_lit w6 _ _
 replace HT:=Lib.hid (HT.out.next hb)
 replace HA:=Lib.hid (HA.out.next hb)
 replace HB:=Lib.hid (HB.out.next hb)
 replace HQ:=Lib.hid (HQ.out.next hb)
 replace HX:=Lib.hid (HX.out.next hb)
 replace KR:=Lib.hid (KR.out.next hb)
 replace X1:=Lib.hid (X1.out.next hb)
 replace HBL:=Lib.hid (HBL.out.trans (hb.mono HBL.out.size))
 have X2:=Lib.hid hx
 clear hx hb hw
 obtain⟨B2,hB⟩: ∃B,B=w6.heap.size:=⟨_,rfl⟩
 rw[←hB]at X2⊢
 clear hB
 refine(coded19_any w7 HT.out).mono ?_
 rintro e w8 ⟨rfl,hb⟩
 replace HT:=Lib.hid (HT.out.next hb)
 replace HA:=Lib.hid (HA.out.next hb)
 replace HB:=Lib.hid (HB.out.next hb)
 replace HQ:=Lib.hid (HQ.out.next hb)
 replace HX:=Lib.hid (HX.out.next hb)
 replace KR:=Lib.hid (KR.out.next hb)
 replace X1:=Lib.hid (X1.out.next hb)
 replace X2:=Lib.hid (X2.out.next hb)
 replace HBL:=Lib.hid (HBL.out.trans (hb.mono HBL.out.size))
 clear hb
 obtain⟨e0,e1,e2,e3,e4,e5,e6,e7,e8,e9,e10,e11,e12,e13,e14⟩:=X2.out.cells
 have kid:_=some (Value.int .i64 q.k.id):=cell_of_row _ _ 0 _ _ _ HX.out.1
 go_wp2
 go_ret
 exact⟨rfl,HBL.out⟩
set_option maxRecDepth 100000 in
set_option maxHeartbeats 1600000 in
theorem keys19_f (l:List K) (n:Nat) (hn:n=l.length) (hn3:n≤9223372036854775807) (A:Option Addr) (c:Nat) (hsl:Sl A n c) (b:List Nat) (m:Nat) (hm:m=b.length) (B:Option Addr) (d:Nat) (q:KV) (R:List K) (j:Nat) (hR:R=addK l q.k) (hE:0=addE l q.k) (hj:j=R.length) (hbig:bigR l=false) (q0: ¬2000<m) (q1: ¬200<q.k.sec.length) (r1:Rg) (hD1:decB l b=(10,r1)) (r2:Rg) (hD2:decB R b=(11,r2)) (w:World) (hT:Tabs w) (hA:Ks w w.heap.size A l) (hB:Bs w w.heap.size b B d) (hq:Bs w w.heap.size q.k.sec q.S q.c):Calls Tryz.prog 9 #[.slice A n c, .slice B m d, .agg #[.int .i64 q.k.id, .slice q.S q.k.sec.length q.c, .int .i64 q.k.frm, .int .i64 q.k.til]] w fun e w'=>e= .returned (.bool true)∧Below w.heap.size w w':=by
 have p0: ¬((2000:Int)<(m:Int)):=by omega
 have p1: ¬((200:Int)<(q.k.sec.length:Int)):=by omega
 have HD1:=Lib.hid hD1
 have HD2:=Lib.hid hD2
 clear hD1 hD2
 have h1:=hB.len
 have h2:=hB.cap
 have hm3:m≤9223372036854775807:=by omega
 have h3:=hq.len
 have h4:=hq.cap
 have hk3:q.k.sec.length≤9223372036854775807:=by omega
 clear h1 h2 h3 h4
 have HN:=Lib.hid hn
 have HS:=Lib.hid hsl
 have HM:=Lib.hid hm
 have HT:=Lib.hid hT
 have HA:=Lib.hid hA
 have HB:=Lib.hid hB
 have HQ:=Lib.hid hq
 have HR:=Lib.hid hR
 have HE:=Lib.hid hE
 have HJ:=Lib.hid hj
 have HBIG:=Lib.hid hbig
 clear hn hsl hm hT hA hB hq hR hE hj hbig
 have HBL:=Lib.hid (Below.refl w.heap.size w)
 go_enter Tryz.func9, Tryz.ntmps9
 go_wp2_with fail
 obtain⟨w1,hw⟩: ∃w1,w1=w.alloc (.cells #[.int .i64 q.k.id, .slice q.S q.k.sec.length q.c, .int .i64 q.k.frm, .int .i64 q.k.til] 48):=⟨_,rfl⟩
 rw[←hw]
 have hx:Box w1 w.heap.size q:=by rw[hw];exact(box_lit w q HQ.out).1
 have hb:Below w.heap.size w w1:=by rw[hw];exact below_lit w _ _
 replace HT:=Lib.hid (HT.out.next hb)
 replace HA:=Lib.hid (HA.out.next hb)
 replace HB:=Lib.hid (HB.out.next hb)
 replace HQ:=Lib.hid (HQ.out.next hb)
 replace HBL:=Lib.hid (HBL.out.trans (hb.mono HBL.out.size))
 have HX:=Lib.hid hx
 clear hx hb hw
 obtain⟨X,hXe⟩: ∃X,X=w.heap.size:=⟨_,rfl⟩
 rw[←hXe]at HX⊢
 clear hXe
 refine(padd_any l q n A c w1 R 0 j HN.out HR.out HE.out HJ.out HS.out HA.out HQ.out).mono ?_
 rintro e w2 ⟨A2,c2,rfl,hs,hsl2,hb⟩
 replace HT:=Lib.hid (HT.out.next hb)
 replace HA:=Lib.hid (HA.out.next hb)
 replace HB:=Lib.hid (HB.out.next hb)
 replace HQ:=Lib.hid (HQ.out.next hb)
 replace HX:=Lib.hid (HX.out.next hb)
 replace HBL:=Lib.hid (HBL.out.trans (hb.mono HBL.out.size))
 have KR:=Lib.hid hs
 clear hb hs
 have SL2:=Lib.hid hsl2
 clear hsl2
 have k1:_=some (Value.slice q.S q.k.sec.length q.c):=cell_of_row _ _ 1 _ _ _ HX.out.1
 go_wp2_with fail
 refine(refbig_named l n HN.out false HBIG.out A c w2 HA.out hn3).mono ?_
 rintro e w3 ⟨rfl,hb⟩
 clear k1
 replace HT:=Lib.hid (HT.out.next hb)
 replace HA:=Lib.hid (HA.out.next hb)
 replace HB:=Lib.hid (HB.out.next hb)
 replace HQ:=Lib.hid (HQ.out.next hb)
 replace HX:=Lib.hid (HX.out.next hb)
 replace KR:=Lib.hid (KR.out.next hb)
 replace HBL:=Lib.hid (HBL.out.trans (hb.mono HBL.out.size))
 clear hb
 have k2:_=some (Value.slice q.S q.k.sec.length q.c):=cell_of_row _ _ 1 _ _ _ HX.out.1
 go_wp2_with fail
 refine(bdec_any l n HN.out hn3 b m HM.out (by omega) A c B d 10 r1 HD1.out w3 HT.out HA.out HB.out).mono ?_
 rintro e w4 ⟨rfl,hb⟩
 clear k2
 replace HT:=Lib.hid (HT.out.next hb)
 replace HA:=Lib.hid (HA.out.next hb)
 replace HB:=Lib.hid (HB.out.next hb)
 replace HQ:=Lib.hid (HQ.out.next hb)
 replace HX:=Lib.hid (HX.out.next hb)
 replace KR:=Lib.hid (KR.out.next hb)
 replace HBL:=Lib.hid (HBL.out.trans (hb.mono HBL.out.size))
 clear hb
 go_wp2_with fail
 obtain⟨w5,hw⟩: ∃w5,w5=w4.alloc (.cells #[.int .i64 r1.t.ser, .int .i64 r1.t.kind, .int .i64 r1.t.frm, .int .i64 r1.t.till, .int .i64 r1.t.cls, .int .i64 r1.t.card, .int .i64 r1.t.seat, .int .i64 r1.t.day, .int .i64 r1.t.days, .int .i64 r1.t.uses, .int .i64 r1.t.epoch, .int .i64 r1.key, .int .i64 r1.left, .int .i64 r1.inn, .int .i64 r1.ver] 28):=⟨_,rfl⟩
 rw[←hw]
 have hx:RBox w5 w4.heap.size r1:=by rw[hw];exact RBox.new w4 r1
 have hb:Below w4.heap.size w4 w5:=by rw[hw];exact below_lit w4 _ _
 replace HT:=Lib.hid (HT.out.next hb)
 replace HA:=Lib.hid (HA.out.next hb)
 replace HB:=Lib.hid (HB.out.next hb)
 replace HQ:=Lib.hid (HQ.out.next hb)
 replace HX:=Lib.hid (HX.out.next hb)
 replace KR:=Lib.hid (KR.out.next hb)
 replace HBL:=Lib.hid (HBL.out.trans (hb.mono HBL.out.size))
 have X1:=Lib.hid hx
 clear hx hb hw
 obtain⟨B1,hB⟩: ∃B,B=w4.heap.size:=⟨_,rfl⟩
 rw[←hB]at X1⊢
 clear hB
 refine(bdec_any R j HJ.out (Nat.le_trans SL2.out.1 SL2.out.2.1) b m HM.out (by omega) A2 c2 B d 11 r2 HD2.out w5 HT.out KR.out HB.out).mono ?_
 rintro e w6 ⟨rfl,hb⟩
 replace HT:=Lib.hid (HT.out.next hb)
 replace HA:=Lib.hid (HA.out.next hb)
 replace HB:=Lib.hid (HB.out.next hb)
 replace HQ:=Lib.hid (HQ.out.next hb)
 replace HX:=Lib.hid (HX.out.next hb)
 replace KR:=Lib.hid (KR.out.next hb)
 replace X1:=Lib.hid (X1.out.next hb)
 replace HBL:=Lib.hid (HBL.out.trans (hb.mono HBL.out.size))
 clear hb
 go_wp2_with fail
 obtain⟨w7,hw⟩: ∃w7,w7=w6.alloc (.cells #[.int .i64 r2.t.ser, .int .i64 r2.t.kind, .int .i64 r2.t.frm, .int .i64 r2.t.till, .int .i64 r2.t.cls, .int .i64 r2.t.card, .int .i64 r2.t.seat, .int .i64 r2.t.day, .int .i64 r2.t.days, .int .i64 r2.t.uses, .int .i64 r2.t.epoch, .int .i64 r2.key, .int .i64 r2.left, .int .i64 r2.inn, .int .i64 r2.ver] 28):=⟨_,rfl⟩
 rw[←hw]
 have hx:RBox w7 w6.heap.size r2:=by rw[hw];exact RBox.new w6 r2
 have hb:Below w6.heap.size w6 w7:=by rw[hw];exact below_lit w6 _ _
 replace HT:=Lib.hid (HT.out.next hb)
 replace HA:=Lib.hid (HA.out.next hb)
 replace HB:=Lib.hid (HB.out.next hb)
 replace HQ:=Lib.hid (HQ.out.next hb)
 replace HX:=Lib.hid (HX.out.next hb)
 replace KR:=Lib.hid (KR.out.next hb)
 replace X1:=Lib.hid (X1.out.next hb)
 replace HBL:=Lib.hid (HBL.out.trans (hb.mono HBL.out.size))
 have X2:=Lib.hid hx
 clear hx hb hw
 obtain⟨B2,hB⟩: ∃B,B=w6.heap.size:=⟨_,rfl⟩
 rw[←hB]at X2⊢
 clear hB
 refine(coded19_any w7 HT.out).mono ?_
 rintro e w8 ⟨rfl,hb⟩
 replace HT:=Lib.hid (HT.out.next hb)
 replace HA:=Lib.hid (HA.out.next hb)
 replace HB:=Lib.hid (HB.out.next hb)
 replace HQ:=Lib.hid (HQ.out.next hb)
 replace HX:=Lib.hid (HX.out.next hb)
 replace KR:=Lib.hid (KR.out.next hb)
 replace X1:=Lib.hid (X1.out.next hb)
 replace X2:=Lib.hid (X2.out.next hb)
 replace HBL:=Lib.hid (HBL.out.trans (hb.mono HBL.out.size))
 clear hb
 obtain⟨e0,e1,e2,e3,e4,e5,e6,e7,e8,e9,e10,e11,e12,e13,e14⟩:=X2.out.cells
 have kid:_=some (Value.int .i64 q.k.id):=cell_of_row _ _ 0 _ _ _ HX.out.1
 go_wp2
 go_ret
 exact⟨rfl,HBL.out⟩
set_option maxRecDepth 100000 in
set_option maxHeartbeats 1600000 in
theorem keys19_g (l:List K) (n:Nat) (hn:n=l.length) (hn3:n≤9223372036854775807) (A:Option Addr) (c:Nat) (hsl:Sl A n c) (b:List Nat) (m:Nat) (hm:m=b.length) (B:Option Addr) (d:Nat) (q:KV) (R:List K) (j:Nat) (hR:R=addK l q.k) (hE:0=addE l q.k) (hj:j=R.length) (hbig:bigR l=false) (q0: ¬2000<m) (q1: ¬200<q.k.sec.length) (r1:Rg) (hD1:decB l b=(10,r1)) (r2:Rg) (hD2:decB R b=(0,r2)) (hid2:r2.key=q.k.id) (w:World) (hT:Tabs w) (hA:Ks w w.heap.size A l) (hB:Bs w w.heap.size b B d) (hq:Bs w w.heap.size q.k.sec q.S q.c):Calls Tryz.prog 9 #[.slice A n c, .slice B m d, .agg #[.int .i64 q.k.id, .slice q.S q.k.sec.length q.c, .int .i64 q.k.frm, .int .i64 q.k.til]] w fun e w'=>e= .returned (.bool true)∧Below w.heap.size w w':=by
 have p0: ¬((2000:Int)<(m:Int)):=by omega
 have p1: ¬((200:Int)<(q.k.sec.length:Int)):=by omega
 have HID2:=Lib.hid hid2
 clear hid2
 have HD1:=Lib.hid hD1
 have HD2:=Lib.hid hD2
 clear hD1 hD2
 have h1:=hB.len
 have h2:=hB.cap
 have hm3:m≤9223372036854775807:=by omega
 have h3:=hq.len
 have h4:=hq.cap
 have hk3:q.k.sec.length≤9223372036854775807:=by omega
 clear h1 h2 h3 h4
 have HN:=Lib.hid hn
 have HS:=Lib.hid hsl
 have HM:=Lib.hid hm
 have HT:=Lib.hid hT
 have HA:=Lib.hid hA
 have HB:=Lib.hid hB
 have HQ:=Lib.hid hq
 have HR:=Lib.hid hR
 have HE:=Lib.hid hE
 have HJ:=Lib.hid hj
 have HBIG:=Lib.hid hbig
 clear hn hsl hm hT hA hB hq hR hE hj hbig
 have HBL:=Lib.hid (Below.refl w.heap.size w)
 go_enter Tryz.func9, Tryz.ntmps9
 go_wp2_with fail
 obtain⟨w1,hw⟩: ∃w1,w1=w.alloc (.cells #[.int .i64 q.k.id, .slice q.S q.k.sec.length q.c, .int .i64 q.k.frm, .int .i64 q.k.til] 48):=⟨_,rfl⟩
 rw[←hw]
 have hx:Box w1 w.heap.size q:=by rw[hw];exact(box_lit w q HQ.out).1
 have hb:Below w.heap.size w w1:=by rw[hw];exact below_lit w _ _
 replace HT:=Lib.hid (HT.out.next hb)
 replace HA:=Lib.hid (HA.out.next hb)
 replace HB:=Lib.hid (HB.out.next hb)
 replace HQ:=Lib.hid (HQ.out.next hb)
 replace HBL:=Lib.hid (HBL.out.trans (hb.mono HBL.out.size))
 have HX:=Lib.hid hx
 clear hx hb hw
 obtain⟨X,hXe⟩: ∃X,X=w.heap.size:=⟨_,rfl⟩
 rw[←hXe]at HX⊢
 clear hXe
 refine(padd_any l q n A c w1 R 0 j HN.out HR.out HE.out HJ.out HS.out HA.out HQ.out).mono ?_
 rintro e w2 ⟨A2,c2,rfl,hs,hsl2,hb⟩
 replace HT:=Lib.hid (HT.out.next hb)
 replace HA:=Lib.hid (HA.out.next hb)
 replace HB:=Lib.hid (HB.out.next hb)
 replace HQ:=Lib.hid (HQ.out.next hb)
 replace HX:=Lib.hid (HX.out.next hb)
 replace HBL:=Lib.hid (HBL.out.trans (hb.mono HBL.out.size))
 have KR:=Lib.hid hs
 clear hb hs
 have SL2:=Lib.hid hsl2
 clear hsl2
 have k1:_=some (Value.slice q.S q.k.sec.length q.c):=cell_of_row _ _ 1 _ _ _ HX.out.1
 go_wp2_with fail
 refine(refbig_named l n HN.out false HBIG.out A c w2 HA.out hn3).mono ?_
 rintro e w3 ⟨rfl,hb⟩
 clear k1
 replace HT:=Lib.hid (HT.out.next hb)
 replace HA:=Lib.hid (HA.out.next hb)
 replace HB:=Lib.hid (HB.out.next hb)
 replace HQ:=Lib.hid (HQ.out.next hb)
 replace HX:=Lib.hid (HX.out.next hb)
 replace KR:=Lib.hid (KR.out.next hb)
 replace HBL:=Lib.hid (HBL.out.trans (hb.mono HBL.out.size))
 clear hb
 have k2:_=some (Value.slice q.S q.k.sec.length q.c):=cell_of_row _ _ 1 _ _ _ HX.out.1
 go_wp2_with fail
 refine(bdec_any l n HN.out hn3 b m HM.out (by omega) A c B d 10 r1 HD1.out w3 HT.out HA.out HB.out).mono ?_
 rintro e w4 ⟨rfl,hb⟩
 clear k2
 replace HT:=Lib.hid (HT.out.next hb)
 replace HA:=Lib.hid (HA.out.next hb)
 replace HB:=Lib.hid (HB.out.next hb)
 replace HQ:=Lib.hid (HQ.out.next hb)
 replace HX:=Lib.hid (HX.out.next hb)
 replace KR:=Lib.hid (KR.out.next hb)
 replace HBL:=Lib.hid (HBL.out.trans (hb.mono HBL.out.size))
 clear hb
 go_wp2_with fail
 obtain⟨w5,hw⟩: ∃w5,w5=w4.alloc (.cells #[.int .i64 r1.t.ser, .int .i64 r1.t.kind, .int .i64 r1.t.frm, .int .i64 r1.t.till, .int .i64 r1.t.cls, .int .i64 r1.t.card, .int .i64 r1.t.seat, .int .i64 r1.t.day, .int .i64 r1.t.days, .int .i64 r1.t.uses, .int .i64 r1.t.epoch, .int .i64 r1.key, .int .i64 r1.left, .int .i64 r1.inn, .int .i64 r1.ver] 28):=⟨_,rfl⟩
 rw[←hw]
 have hx:RBox w5 w4.heap.size r1:=by rw[hw];exact RBox.new w4 r1
 have hb:Below w4.heap.size w4 w5:=by rw[hw];exact below_lit w4 _ _
 replace HT:=Lib.hid (HT.out.next hb)
 replace HA:=Lib.hid (HA.out.next hb)
 replace HB:=Lib.hid (HB.out.next hb)
 replace HQ:=Lib.hid (HQ.out.next hb)
 replace HX:=Lib.hid (HX.out.next hb)
 replace KR:=Lib.hid (KR.out.next hb)
 replace HBL:=Lib.hid (HBL.out.trans (hb.mono HBL.out.size))
 have X1:=Lib.hid hx
 clear hx hb hw
 obtain⟨B1,hB⟩: ∃B,B=w4.heap.size:=⟨_,rfl⟩
 rw[←hB]at X1⊢
 clear hB
 refine(bdec_any R j HJ.out (Nat.le_trans SL2.out.1 SL2.out.2.1) b m HM.out (by omega) A2 c2 B d 0 r2 HD2.out w5 HT.out KR.out HB.out).mono ?_
 rintro e w6 ⟨rfl,hb⟩
 replace HT:=Lib.hid (HT.out.next hb)
 replace HA:=Lib.hid (HA.out.next hb)
 replace HB:=Lib.hid (HB.out.next hb)
 replace HQ:=Lib.hid (HQ.out.next hb)
 replace HX:=Lib.hid (HX.out.next hb)
 replace KR:=Lib.hid (KR.out.next hb)
 replace X1:=Lib.hid (X1.out.next hb)
 replace HBL:=Lib.hid (HBL.out.trans (hb.mono HBL.out.size))
 clear hb
 go_wp2_with fail
 obtain⟨w7,hw⟩: ∃w7,w7=w6.alloc (.cells #[.int .i64 r2.t.ser, .int .i64 r2.t.kind, .int .i64 r2.t.frm, .int .i64 r2.t.till, .int .i64 r2.t.cls, .int .i64 r2.t.card, .int .i64 r2.t.seat, .int .i64 r2.t.day, .int .i64 r2.t.days, .int .i64 r2.t.uses, .int .i64 r2.t.epoch, .int .i64 r2.key, .int .i64 r2.left, .int .i64 r2.inn, .int .i64 r2.ver] 28):=⟨_,rfl⟩
 rw[←hw]
 have hx:RBox w7 w6.heap.size r2:=by rw[hw];exact RBox.new w6 r2
 have hb:Below w6.heap.size w6 w7:=by rw[hw];exact below_lit w6 _ _
 replace HT:=Lib.hid (HT.out.next hb)
 replace HA:=Lib.hid (HA.out.next hb)
 replace HB:=Lib.hid (HB.out.next hb)
 replace HQ:=Lib.hid (HQ.out.next hb)
 replace HX:=Lib.hid (HX.out.next hb)
 replace KR:=Lib.hid (KR.out.next hb)
 replace X1:=Lib.hid (X1.out.next hb)
 replace HBL:=Lib.hid (HBL.out.trans (hb.mono HBL.out.size))
 have X2:=Lib.hid hx
 clear hx hb hw
 obtain⟨B2,hB⟩: ∃B,B=w6.heap.size:=⟨_,rfl⟩
 rw[←hB]at X2⊢
 clear hB
 refine(coded19_any w7 HT.out).mono ?_
 rintro e w8 ⟨rfl,hb⟩
 replace HT:=Lib.hid (HT.out.next hb)
 replace HA:=Lib.hid (HA.out.next hb)
 replace HB:=Lib.hid (HB.out.next hb)
 replace HQ:=Lib.hid (HQ.out.next hb)
 replace HX:=Lib.hid (HX.out.next hb)
 replace KR:=Lib.hid (KR.out.next hb)
 replace X1:=Lib.hid (X1.out.next hb)
 replace X2:=Lib.hid (X2.out.next hb)
 replace HBL:=Lib.hid (HBL.out.trans (hb.mono HBL.out.size))
 clear hb
 obtain⟨e0,e1,e2,e3,e4,e5,e6,e7,e8,e9,e10,e11,e12,e13,e14⟩:=X2.out.cells
 have hid2:=HID2.out
 have kid:_=some (Value.int .i64 q.k.id):=cell_of_row _ _ 0 _ _ _ HX.out.1
 go_wp2
 go_ret
 exact⟨rfl,HBL.out⟩
set_option maxRecDepth 100000 in
set_option maxHeartbeats 1600000 in
theorem keys19_h (l:List K) (n:Nat) (hn:n=l.length) (hn3:n≤9223372036854775807) (A:Option Addr) (c:Nat) (hsl:Sl A n c) (b:List Nat) (m:Nat) (hm:m=b.length) (B:Option Addr) (d:Nat) (q:KV) (R:List K) (j:Nat) (hR:R=addK l q.k) (hE:0=addE l q.k) (hj:j=R.length) (hbig:bigR l=false) (q0: ¬2000<m) (q1: ¬200<q.k.sec.length) (E1:Nat) (r1:Rg) (hD1:decB l b=(E1,r1)) (hD2:decB R b=(E1,r1)) (h10:E1≠10) (w:World) (hT:Tabs w) (hA:Ks w w.heap.size A l) (hB:Bs w w.heap.size b B d) (hq:Bs w w.heap.size q.k.sec q.S q.c):Calls Tryz.prog 9 #[.slice A n c, .slice B m d, .agg #[.int .i64 q.k.id, .slice q.S q.k.sec.length q.c, .int .i64 q.k.frm, .int .i64 q.k.til]] w fun e w'=>e= .returned (.bool true)∧Below w.heap.size w w':=by
 have p0: ¬((2000:Int)<(m:Int)):=by omega
 have p1: ¬((200:Int)<(q.k.sec.length:Int)):=by omega
 have t1:((E1:Int)==10)=false:=by rw[beq_eq_false_iff_ne];omega
 have t2: ¬(E1:Int)=10:=by omega
 have t3:(E1==10)=false:=by rw[beq_eq_false_iff_ne];exact h10
 have t4: ¬E1=10:=h10
 clear h10
 have HD1:=Lib.hid hD1
 have HD2:=Lib.hid hD2
 clear hD1 hD2
 have h1:=hB.len
 have h2:=hB.cap
 have hm3:m≤9223372036854775807:=by omega
 have h3:=hq.len
 have h4:=hq.cap
 have hk3:q.k.sec.length≤9223372036854775807:=by omega
 clear h1 h2 h3 h4
 have HN:=Lib.hid hn
 have HS:=Lib.hid hsl
 have HM:=Lib.hid hm
 have HT:=Lib.hid hT
 have HA:=Lib.hid hA
 have HB:=Lib.hid hB
 have HQ:=Lib.hid hq
 have HR:=Lib.hid hR
 have HE:=Lib.hid hE
 have HJ:=Lib.hid hj
 have HBIG:=Lib.hid hbig
 clear hn hsl hm hT hA hB hq hR hE hj hbig
 have HBL:=Lib.hid (Below.refl w.heap.size w)
 go_enter Tryz.func9, Tryz.ntmps9
 go_wp2_with fail
 obtain⟨w1,hw⟩: ∃w1,w1=w.alloc (.cells #[.int .i64 q.k.id, .slice q.S q.k.sec.length q.c, .int .i64 q.k.frm, .int .i64 q.k.til] 48):=⟨_,rfl⟩
 rw[←hw]
 have hx:Box w1 w.heap.size q:=by rw[hw];exact(box_lit w q HQ.out).1
 have hb:Below w.heap.size w w1:=by rw[hw];exact below_lit w _ _
 replace HT:=Lib.hid (HT.out.next hb)
 replace HA:=Lib.hid (HA.out.next hb)
 replace HB:=Lib.hid (HB.out.next hb)
 replace HQ:=Lib.hid (HQ.out.next hb)
 replace HBL:=Lib.hid (HBL.out.trans (hb.mono HBL.out.size))
 have HX:=Lib.hid hx
 clear hx hb hw
 obtain⟨X,hXe⟩: ∃X,X=w.heap.size:=⟨_,rfl⟩
 rw[←hXe]at HX⊢
 clear hXe
 refine(padd_any l q n A c w1 R 0 j HN.out HR.out HE.out HJ.out HS.out HA.out HQ.out).mono ?_
 rintro e w2 ⟨A2,c2,rfl,hs,hsl2,hb⟩
 replace HT:=Lib.hid (HT.out.next hb)
 replace HA:=Lib.hid (HA.out.next hb)
 replace HB:=Lib.hid (HB.out.next hb)
 replace HQ:=Lib.hid (HQ.out.next hb)
 replace HX:=Lib.hid (HX.out.next hb)
 replace HBL:=Lib.hid (HBL.out.trans (hb.mono HBL.out.size))
 have KR:=Lib.hid hs
 clear hb hs
 have SL2:=Lib.hid hsl2
 clear hsl2
 have k1:_=some (Value.slice q.S q.k.sec.length q.c):=cell_of_row _ _ 1 _ _ _ HX.out.1
 go_wp2_with fail
 refine(refbig_named l n HN.out false HBIG.out A c w2 HA.out hn3).mono ?_
 rintro e w3 ⟨rfl,hb⟩
 clear k1
 replace HT:=Lib.hid (HT.out.next hb)
 replace HA:=Lib.hid (HA.out.next hb)
 replace HB:=Lib.hid (HB.out.next hb)
 replace HQ:=Lib.hid (HQ.out.next hb)
 replace HX:=Lib.hid (HX.out.next hb)
 replace KR:=Lib.hid (KR.out.next hb)
 replace HBL:=Lib.hid (HBL.out.trans (hb.mono HBL.out.size))
 clear hb
 have k2:_=some (Value.slice q.S q.k.sec.length q.c):=cell_of_row _ _ 1 _ _ _ HX.out.1
 go_wp2_with fail
 refine(bdec_any l n HN.out hn3 b m HM.out (by omega) A c B d E1 r1 HD1.out w3 HT.out HA.out HB.out).mono ?_
 rintro e w4 ⟨rfl,hb⟩
 clear k2
 replace HT:=Lib.hid (HT.out.next hb)
 replace HA:=Lib.hid (HA.out.next hb)
 replace HB:=Lib.hid (HB.out.next hb)
 replace HQ:=Lib.hid (HQ.out.next hb)
 replace HX:=Lib.hid (HX.out.next hb)
 replace KR:=Lib.hid (KR.out.next hb)
 replace HBL:=Lib.hid (HBL.out.trans (hb.mono HBL.out.size))
 clear hb
 go_wp2_with fail
 obtain⟨w5,hw⟩: ∃w5,w5=w4.alloc (.cells #[.int .i64 r1.t.ser, .int .i64 r1.t.kind, .int .i64 r1.t.frm, .int .i64 r1.t.till, .int .i64 r1.t.cls, .int .i64 r1.t.card, .int .i64 r1.t.seat, .int .i64 r1.t.day, .int .i64 r1.t.days, .int .i64 r1.t.uses, .int .i64 r1.t.epoch, .int .i64 r1.key, .int .i64 r1.left, .int .i64 r1.inn, .int .i64 r1.ver] 28):=⟨_,rfl⟩
 rw[←hw]
 have hx:RBox w5 w4.heap.size r1:=by rw[hw];exact RBox.new w4 r1
 have hb:Below w4.heap.size w4 w5:=by rw[hw];exact below_lit w4 _ _
 replace HT:=Lib.hid (HT.out.next hb)
 replace HA:=Lib.hid (HA.out.next hb)
 replace HB:=Lib.hid (HB.out.next hb)
 replace HQ:=Lib.hid (HQ.out.next hb)
 replace HX:=Lib.hid (HX.out.next hb)
 replace KR:=Lib.hid (KR.out.next hb)
 replace HBL:=Lib.hid (HBL.out.trans (hb.mono HBL.out.size))
 have X1:=Lib.hid hx
 clear hx hb hw
 obtain⟨B1,hB⟩: ∃B,B=w4.heap.size:=⟨_,rfl⟩
 rw[←hB]at X1⊢
 clear hB
 refine(bdec_any R j HJ.out (Nat.le_trans SL2.out.1 SL2.out.2.1) b m HM.out (by omega) A2 c2 B d E1 r1 HD2.out w5 HT.out KR.out HB.out).mono ?_
 rintro e w6 ⟨rfl,hb⟩
 replace HT:=Lib.hid (HT.out.next hb)
 replace HA:=Lib.hid (HA.out.next hb)
 replace HB:=Lib.hid (HB.out.next hb)
 replace HQ:=Lib.hid (HQ.out.next hb)
 replace HX:=Lib.hid (HX.out.next hb)
 replace KR:=Lib.hid (KR.out.next hb)
 replace X1:=Lib.hid (X1.out.next hb)
 replace HBL:=Lib.hid (HBL.out.trans (hb.mono HBL.out.size))
 clear hb
 go_wp2_with fail
 obtain⟨w7,hw⟩: ∃w7,w7=w6.alloc (.cells #[.int .i64 r1.t.ser, .int .i64 r1.t.kind, .int .i64 r1.t.frm, .int .i64 r1.t.till, .int .i64 r1.t.cls, .int .i64 r1.t.card, .int .i64 r1.t.seat, .int .i64 r1.t.day, .int .i64 r1.t.days, .int .i64 r1.t.uses, .int .i64 r1.t.epoch, .int .i64 r1.key, .int .i64 r1.left, .int .i64 r1.inn, .int .i64 r1.ver] 28):=⟨_,rfl⟩
 rw[←hw]
 have hx:RBox w7 w6.heap.size r1:=by rw[hw];exact RBox.new w6 r1
 have hb:Below w6.heap.size w6 w7:=by rw[hw];exact below_lit w6 _ _
 replace HT:=Lib.hid (HT.out.next hb)
 replace HA:=Lib.hid (HA.out.next hb)
 replace HB:=Lib.hid (HB.out.next hb)
 replace HQ:=Lib.hid (HQ.out.next hb)
 replace HX:=Lib.hid (HX.out.next hb)
 replace KR:=Lib.hid (KR.out.next hb)
 replace X1:=Lib.hid (X1.out.next hb)
 replace HBL:=Lib.hid (HBL.out.trans (hb.mono HBL.out.size))
 have X2:=Lib.hid hx
 clear hx hb hw
 obtain⟨B2,hB⟩: ∃B,B=w6.heap.size:=⟨_,rfl⟩
 rw[←hB]at X2⊢
 clear hB
 refine(coded19_any w7 HT.out).mono ?_
 rintro e w8 ⟨rfl,hb⟩
 replace HT:=Lib.hid (HT.out.next hb)
 replace HA:=Lib.hid (HA.out.next hb)
 replace HB:=Lib.hid (HB.out.next hb)
 replace HQ:=Lib.hid (HQ.out.next hb)
 replace HX:=Lib.hid (HX.out.next hb)
 replace KR:=Lib.hid (KR.out.next hb)
 replace X1:=Lib.hid (X1.out.next hb)
 replace X2:=Lib.hid (X2.out.next hb)
 replace HBL:=Lib.hid (HBL.out.trans (hb.mono HBL.out.size))
 clear hb
 obtain⟨e0,e1,e2,e3,e4,e5,e6,e7,e8,e9,e10,e11,e12,e13,e14⟩:=X2.out.cells
 obtain⟨f0,f1,f2,f3,f4,f5,f6,f7,f8,f9,f10,f11,f12,f13,f14⟩:=X1.out.cells
 have heq:=read_eq r1 r1
 rw[rgB_self]at heq
 go_wp2
 go_ret
 exact⟨rfl,HBL.out⟩
set_option maxRecDepth 100000 in
set_option maxHeartbeats 1600000 in
theorem keys19_any (l:List K) (n:Nat) (hn:n=l.length) (hn3:n≤9223372036854775807) (A:Option Addr) (c:Nat) (hsl:Sl A n c) (b:List Nat) (m:Nat) (hm:m=b.length) (B:Option Addr) (d:Nat) (q:KV) (w:World) (hT:Tabs w) (hA:Ks w w.heap.size A l) (hB:Bs w w.heap.size b B d) (hq:Bs w w.heap.size q.k.sec q.S q.c):Calls Tryz.prog 9 #[.slice A n c, .slice B m d, .agg #[.int .i64 q.k.id, .slice q.S q.k.sec.length q.c, .int .i64 q.k.frm, .int .i64 q.k.til]] w fun e w'=>e= .returned (.bool true)∧Below w.heap.size w w':=by
 cases hbig:bigR l
 ·by_cases q0:2000<m
  ·exact keys19_b l n hn hn3 A c hsl b m hm B d q _ _ _ rfl rfl rfl hbig q0 w hT hA hB hq
  ·by_cases q1:200<q.k.sec.length
   ·exact keys19_c l n hn hn3 A c hsl b m hm B d q _ _ _ rfl rfl rfl hbig q0 q1 w hT hA hB hq
   ·by_cases h0:addE l q.k=0
    ·rcases decB_key b h0.symm with⟨h1,h2⟩|⟨h1,h2|h2|⟨h2,h3⟩⟩
     ·exact keys19_h l n hn hn3 A c hsl b m hm B d q _ _ rfl h0.symm rfl hbig q0 q1 _ _ rfl h2 h1 w hT hA hB hq
     ·exact keys19_e l n hn hn3 A c hsl b m hm B d q _ _ rfl h0.symm rfl hbig q0 q1 _ (by rw[←h1]) _ (by rw[←h2]) w hT hA hB hq
     ·exact keys19_f l n hn hn3 A c hsl b m hm B d q _ _ rfl h0.symm rfl hbig q0 q1 _ (by rw[←h1]) _ (by rw[←h2]) w hT hA hB hq
     ·exact keys19_g l n hn hn3 A c hsl b m hm B d q _ _ rfl h0.symm rfl hbig q0 q1 _ (by rw[←h1]) _ (by rw[←h2]) h3 w hT hA hB hq
    ·exact keys19_d l n hn hn3 A c hsl b m hm B d q _ _ _ rfl rfl rfl hbig q0 q1 h0 w hT hA hB hq
 ·exact keys19_a l n hn hn3 A c hsl b m hm B d q _ _ _ rfl rfl rfl hbig w hT hA hB hq
end Go.Proofs.YtcnglbliidjnfaaGreatDoor
