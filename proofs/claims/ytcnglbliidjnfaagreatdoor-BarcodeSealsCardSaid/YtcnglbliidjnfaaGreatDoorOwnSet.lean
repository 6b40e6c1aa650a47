import Derived.Test.YtcnglbliidjnfaaGreatDoorMem
import Derived.Test.YtcnglbliidjnfaaGreatDoorBarCoded
import Derived.Test.YtcnglbliidjnfaaGreatDoorRingLast
import Derived.Test.YtcnglbliidjnfaaGreatDoorBarPChain
import Derived.Test.YtcnglbliidjnfaaGreatDoorFortyPPut
import Derived.Test.YtcnglbliidjnfaaGreatDoorFortyPGet
section
namespace Go.Proofs.YtcnglbliidjnfaaGreatDoor
set_option linter.unusedVariables false
open Go.ChangeShapes Go.WideShapes Go.ChangeAt Go.RowKit
theorem own_set {w:World} {base:Nat} {g cap n:Nat} {l:List Nat} (i y:Nat) (h:w.ownsRow base 5 1 (.slice (some ⟨g,0,none⟩) n cap) n (U8 l)) (hi:i<n):
  (∃v,w.cell? ⟨g,i,none⟩=some v)∧w.frozen? ⟨g,i,none⟩=false∧Rd (w.setCell ⟨g,i,none⟩ (.int .u8 (y:Int))) (w.setCell ⟨g,i,none⟩ (.int .u8 (y:Int))).heap.size (some ⟨g,0,none⟩) (U8 (l.set i y)):=by
 have hlen:(U8 l).length=n:=by have:=h.1;simpa using this
 have hl:l.length=n:=by simpa[U8]using hlen
 refine⟨?_,h.frozenAt i, ?_⟩
 ·rw[h.cellAt i (by omega),U8,List.getElem?_map,List.getElem?_eq_getElem (by omega)]
  exact⟨_,rfl⟩
 ·have hst:=(h.stored i (.int .u8 (y:Int))).1
  have e:(U8 l).set i (.int .u8 (y:Int))=U8 (l.set i y):=by rw[U8,U8,List.map_set]
  rw[e]at hst
  exact Rd.of_own hst
end Go.Proofs.YtcnglbliidjnfaaGreatDoor
end
section
namespace Go.Proofs.YtcnglbliidjnfaaGreatDoor
set_option linter.unusedVariables false
open Go.ChangeShapes Go.WideShapes Go.ChangeAt Go.RowKit
theorem ecB_bad {l:List K} {r:Rg} {E:Nat} {p:List Nat} (h:ecB l r=(E,p)) (h0:E≠0):p=[]:=by
 rw[ecB]at h
 split at h
 ·exact(Prod.mk.inj h).2.symm
 ·split at h
  ·exact(Prod.mk.inj h).2.symm
  ·split at h
   ·exact(Prod.mk.inj h).2.symm
   ·exact absurd (Prod.mk.inj h).1.symm h0
theorem xor_ne {y x:Nat} (h:x≠0):y^^^x≠y:=by
 intro e
 apply h
 have:y^^^(y^^^x)=y^^^y:=by rw[e]
 rwa[←Nat.xor_assoc,Nat.xor_self,Nat.zero_xor]at this
theorem bdec_zero (l:List K) (n:Nat) (hn:n=l.length) (hn3:n≤9223372036854775807) (b:List Nat) (m:Nat) (hm:m=b.length) (h47:m≤140737488355328) (A:Option Addr) (c:Nat) (B:Option Addr) (d:Nat) (E:Nat) (hE:decB l b=(E,zeroR)) (w:World) (hT:Tabs w) (hA:Ks w w.heap.size A l) (hB:Bs w w.heap.size b B d):Calls Tryz.prog 15 #[.slice A n c, .slice B m d] w fun e w'=>e= .returned (.tuple #[.agg #[.int .i64 0, .int .i64 0, .int .i64 0, .int .i64 0, .int .i64 0, .int .i64 0, .int .i64 0, .int .i64 0, .int .i64 0, .int .i64 0, .int .i64 0, .int .i64 0, .int .i64 0, .int .i64 0, .int .i64 0], .int .i64 (E:Int)])∧Below w.heap.size w w':=bdec_any l n hn hn3 b m hm h47 A c B d E zeroR hE w hT hA hB
set_option maxRecDepth 100000 in
set_option maxHeartbeats 1600000 in
theorem seals19_a (l:List K) (n:Nat) (hn:n=l.length) (hn3:n≤9223372036854775807) (A:Option Addr) (c:Nat) (r:Rg) (i:Int) (x:Nat) (hx:x<256) (E:Nat) (p:List Nat) (hE:ecB l r=(E,p)) (hpl:p.length≤224) (hbig:bigR l=true) (w:World) (hT:Tabs w) (hA:Ks w w.heap.size A l):Calls Tryz.prog 8 #[.slice A n c, .agg #[.int .i64 r.t.ser, .int .i64 r.t.kind, .int .i64 r.t.frm, .int .i64 r.t.till, .int .i64 r.t.cls, .int .i64 r.t.card, .int .i64 r.t.seat, .int .i64 r.t.day, .int .i64 r.t.days, .int .i64 r.t.uses, .int .i64 r.t.epoch, .int .i64 r.key, .int .i64 r.left, .int .i64 r.inn, .int .i64 r.ver], .int .i64 i, .int .u8 (x:Int)] w fun e w'=>e= .returned (.bool true)∧Below w.heap.size w w':=by
 obtain⟨F,W,hG⟩: ∃F W,fgetX p=(F,W):=⟨_,_,rfl⟩
 have HE:=Lib.hid hE
 have HPL:=Lib.hid hpl
 have HG:=Lib.hid hG
 have HBIG:=Lib.hid hbig
 clear hE hpl hG hbig
 have HN:=Lib.hid hn
 have HT:=Lib.hid hT
 have HA:=Lib.hid hA
 clear hn hT hA
 have HBL:=Lib.hid (Below.refl w.heap.size w)
 go_enter Tryz.func8, Tryz.ntmps8
 go_wp2_with fail
 obtain⟨w1,hw⟩: ∃w1,w1=w.alloc (.cells #[.int .i64 r.t.ser, .int .i64 r.t.kind, .int .i64 r.t.frm, .int .i64 r.t.till, .int .i64 r.t.cls, .int .i64 r.t.card, .int .i64 r.t.seat, .int .i64 r.t.day, .int .i64 r.t.days, .int .i64 r.t.uses, .int .i64 r.t.epoch, .int .i64 r.key, .int .i64 r.left, .int .i64 r.inn, .int .i64 r.ver] 28):=⟨_,rfl⟩
 rw[←hw]
 have hx:RBox w1 w.heap.size r:=by rw[hw];exact RBox.new w r
 have hb:Below w.heap.size w w1:=by rw[hw];exact below_lit w _ _
 replace HT:=Lib.hid (HT.out.next hb)
 replace HA:=Lib.hid (HA.out.next hb)
 replace HBL:=Lib.hid (HBL.out.trans (hb.mono HBL.out.size))
 have X1:=Lib.hid hx
 clear hx hb hw
 obtain⟨B1,hB⟩: ∃B,B=w.heap.size:=⟨_,rfl⟩
 rw[←hB]at X1⊢
 clear hB
 refine(benc_any l n HN.out hn3 A c r E p HE.out w1 HT.out HA.out).mono ?_
 rintro e w2 ⟨AP1,cP1,rfl,hs,hb⟩
 replace HT:=Lib.hid (HT.out.next hb)
 replace HA:=Lib.hid (HA.out.next hb)
 replace X1:=Lib.hid (X1.out.next hb)
 replace HBL:=Lib.hid (HBL.out.trans (hb.mono HBL.out.size))
 have P1:=Lib.hid hs
 clear hb hs
 go_wp2_with fail
 refine(pget_forty p p.length rfl (by have:=HPL.out;omega) F W HG.out AP1 cP1 w2 P1.out).mono ?_
 rintro e w3 ⟨AY1,cY1,rfl,hs,hb⟩
 replace HT:=Lib.hid (HT.out.next hb)
 replace HA:=Lib.hid (HA.out.next hb)
 replace X1:=Lib.hid (X1.out.next hb)
 replace P1:=Lib.hid (P1.out.next hb)
 replace HBL:=Lib.hid (HBL.out.trans (hb.mono HBL.out.size))
 have Y1:=Lib.hid hs
 clear hb hs
 go_wp2_with fail
 refine(refbig_named l n HN.out true HBIG.out A c w3 HA.out hn3).mono ?_
 rintro e w4 ⟨rfl,hb⟩
 replace HT:=Lib.hid (HT.out.next hb)
 replace HA:=Lib.hid (HA.out.next hb)
 replace X1:=Lib.hid (X1.out.next hb)
 replace P1:=Lib.hid (P1.out.next hb)
 replace Y1:=Lib.hid (Y1.out.next hb)
 replace HBL:=Lib.hid (HBL.out.trans (hb.mono HBL.out.size))
 clear hb
 go_wp2_with fail
 refine(coded19_any w4 HT.out).mono ?_
 rintro e w5 ⟨rfl,hb⟩
 replace HT:=Lib.hid (HT.out.next hb)
 replace HA:=Lib.hid (HA.out.next hb)
 replace X1:=Lib.hid (X1.out.next hb)
 replace P1:=Lib.hid (P1.out.next hb)
 replace Y1:=Lib.hid (Y1.out.next hb)
 replace HBL:=Lib.hid (HBL.out.trans (hb.mono HBL.out.size))
 clear hb
 go_wp2
 go_ret
 exact⟨rfl,HBL.out⟩
set_option maxRecDepth 100000 in
set_option maxHeartbeats 1600000 in
theorem seals19_b (l:List K) (n:Nat) (hn:n=l.length) (hn3:n≤9223372036854775807) (A:Option Addr) (c:Nat) (r:Rg) (i:Int) (x:Nat) (hx:x<256) (E:Nat) (p:List Nat) (hE:ecB l r=(E,p)) (hpl:p.length≤224) (h0:E≠0) (hbig:bigR l=false) (w:World) (hT:Tabs w) (hA:Ks w w.heap.size A l):Calls Tryz.prog 8 #[.slice A n c, .agg #[.int .i64 r.t.ser, .int .i64 r.t.kind, .int .i64 r.t.frm, .int .i64 r.t.till, .int .i64 r.t.cls, .int .i64 r.t.card, .int .i64 r.t.seat, .int .i64 r.t.day, .int .i64 r.t.days, .int .i64 r.t.uses, .int .i64 r.t.epoch, .int .i64 r.key, .int .i64 r.left, .int .i64 r.inn, .int .i64 r.ver], .int .i64 i, .int .u8 (x:Int)] w fun e w'=>e= .returned (.bool true)∧Below w.heap.size w w':=by
 obtain⟨F,W,hG⟩: ∃F W,fgetX p=(F,W):=⟨_,_,rfl⟩
 have s1:((E:Int)==0)=false:=by rw[beq_eq_false_iff_ne];omega
 have s2:((E:Int) !=0)=true:=by rw[bne_iff_ne];omega
 have s3:(E==0)=false:=by rw[beq_eq_false_iff_ne];exact h0
 have s4:(E !=0)=true:=by rw[bne_iff_ne];exact h0
 clear h0
 have HE:=Lib.hid hE
 have HPL:=Lib.hid hpl
 have HG:=Lib.hid hG
 have HBIG:=Lib.hid hbig
 clear hE hpl hG hbig
 have HN:=Lib.hid hn
 have HT:=Lib.hid hT
 have HA:=Lib.hid hA
 clear hn hT hA
 have HBL:=Lib.hid (Below.refl w.heap.size w)
 go_enter Tryz.func8, Tryz.ntmps8
 go_wp2_with fail
 obtain⟨w1,hw⟩: ∃w1,w1=w.alloc (.cells #[.int .i64 r.t.ser, .int .i64 r.t.kind, .int .i64 r.t.frm, .int .i64 r.t.till, .int .i64 r.t.cls, .int .i64 r.t.card, .int .i64 r.t.seat, .int .i64 r.t.day, .int .i64 r.t.days, .int .i64 r.t.uses, .int .i64 r.t.epoch, .int .i64 r.key, .int .i64 r.left, .int .i64 r.inn, .int .i64 r.ver] 28):=⟨_,rfl⟩
 rw[←hw]
 have hx:RBox w1 w.heap.size r:=by rw[hw];exact RBox.new w r
 have hb:Below w.heap.size w w1:=by rw[hw];exact below_lit w _ _
 replace HT:=Lib.hid (HT.out.next hb)
 replace HA:=Lib.hid (HA.out.next hb)
 replace HBL:=Lib.hid (HBL.out.trans (hb.mono HBL.out.size))
 have X1:=Lib.hid hx
 clear hx hb hw
 obtain⟨B1,hB⟩: ∃B,B=w.heap.size:=⟨_,rfl⟩
 rw[←hB]at X1⊢
 clear hB
 refine(benc_any l n HN.out hn3 A c r E p HE.out w1 HT.out HA.out).mono ?_
 rintro e w2 ⟨AP1,cP1,rfl,hs,hb⟩
 replace HT:=Lib.hid (HT.out.next hb)
 replace HA:=Lib.hid (HA.out.next hb)
 replace X1:=Lib.hid (X1.out.next hb)
 replace HBL:=Lib.hid (HBL.out.trans (hb.mono HBL.out.size))
 have P1:=Lib.hid hs
 clear hb hs
 go_wp2_with fail
 refine(pget_forty p p.length rfl (by have:=HPL.out;omega) F W HG.out AP1 cP1 w2 P1.out).mono ?_
 rintro e w3 ⟨AY1,cY1,rfl,hs,hb⟩
 replace HT:=Lib.hid (HT.out.next hb)
 replace HA:=Lib.hid (HA.out.next hb)
 replace X1:=Lib.hid (X1.out.next hb)
 replace P1:=Lib.hid (P1.out.next hb)
 replace HBL:=Lib.hid (HBL.out.trans (hb.mono HBL.out.size))
 have Y1:=Lib.hid hs
 clear hb hs
 go_wp2_with fail
 refine(refbig_named l n HN.out false HBIG.out A c w3 HA.out hn3).mono ?_
 rintro e w4 ⟨rfl,hb⟩
 replace HT:=Lib.hid (HT.out.next hb)
 replace HA:=Lib.hid (HA.out.next hb)
 replace X1:=Lib.hid (X1.out.next hb)
 replace P1:=Lib.hid (P1.out.next hb)
 replace Y1:=Lib.hid (Y1.out.next hb)
 replace HBL:=Lib.hid (HBL.out.trans (hb.mono HBL.out.size))
 clear hb
 go_wp2_with fail
 refine(coded19_any w4 HT.out).mono ?_
 rintro e w5 ⟨rfl,hb⟩
 replace HT:=Lib.hid (HT.out.next hb)
 replace HA:=Lib.hid (HA.out.next hb)
 replace X1:=Lib.hid (X1.out.next hb)
 replace P1:=Lib.hid (P1.out.next hb)
 replace Y1:=Lib.hid (Y1.out.next hb)
 replace HBL:=Lib.hid (HBL.out.trans (hb.mono HBL.out.size))
 clear hb
 go_wp2
 go_ret
 exact⟨rfl,HBL.out⟩
set_option maxRecDepth 100000 in
set_option maxHeartbeats 1600000 in
theorem seals19_c (l:List K) (n:Nat) (hn:n=l.length) (hn3:n≤9223372036854775807) (A:Option Addr) (c:Nat) (r:Rg) (i:Int) (x:Nat) (hx:x<256) (p W:List Nat) (hE:ecB l r=(0,p)) (hpl:p.length≤224) (hG:fgetX p=(0,W)) (k j:Nat) (hk:W.length=k) (hkj:k=j+32) (hk9:k≤149) (hbig:bigR l=false) (h1:i<(j:Int)) (w:World) (hT:Tabs w) (hA:Ks w w.heap.size A l):Calls Tryz.prog 8 #[.slice A n c, .agg #[.int .i64 r.t.ser, .int .i64 r.t.kind, .int .i64 r.t.frm, .int .i64 r.t.till, .int .i64 r.t.cls, .int .i64 r.t.card, .int .i64 r.t.seat, .int .i64 r.t.day, .int .i64 r.t.days, .int .i64 r.t.uses, .int .i64 r.t.epoch, .int .i64 r.key, .int .i64 r.left, .int .i64 r.inn, .int .i64 r.ver], .int .i64 i, .int .u8 (x:Int)] w fun e w'=>e= .returned (.bool true)∧Below w.heap.size w w':=by
 have wz:IntKind.i64.wrap ((k:Int) - 32)=(j:Int):=by
  rw[show(k:Int) - 32=(j:Int) by omega]
  exact IntWalk.i64_in _ (by omega)
 have k0: ¬((k:Int)<32):=by omega
 have p1:i<(j:Int):=h1
 have HE:=Lib.hid hE
 have HPL:=Lib.hid hpl
 have HG:=Lib.hid hG
 have HK:=Lib.hid hk
 have HKJ:=Lib.hid hkj
 have HBIG:=Lib.hid hbig
 clear hE hpl hG hk hkj hbig
 have HN:=Lib.hid hn
 have HT:=Lib.hid hT
 have HA:=Lib.hid hA
 clear hn hT hA
 have HBL:=Lib.hid (Below.refl w.heap.size w)
 go_enter Tryz.func8, Tryz.ntmps8
 go_wp2_with fail
 obtain⟨w1,hw⟩: ∃w1,w1=w.alloc (.cells #[.int .i64 r.t.ser, .int .i64 r.t.kind, .int .i64 r.t.frm, .int .i64 r.t.till, .int .i64 r.t.cls, .int .i64 r.t.card, .int .i64 r.t.seat, .int .i64 r.t.day, .int .i64 r.t.days, .int .i64 r.t.uses, .int .i64 r.t.epoch, .int .i64 r.key, .int .i64 r.left, .int .i64 r.inn, .int .i64 r.ver] 28):=⟨_,rfl⟩
 rw[←hw]
 have hx:RBox w1 w.heap.size r:=by rw[hw];exact RBox.new w r
 have hb:Below w.heap.size w w1:=by rw[hw];exact below_lit w _ _
 replace HT:=Lib.hid (HT.out.next hb)
 replace HA:=Lib.hid (HA.out.next hb)
 replace HBL:=Lib.hid (HBL.out.trans (hb.mono HBL.out.size))
 have X1:=Lib.hid hx
 clear hx hb hw
 obtain⟨B1,hB⟩: ∃B,B=w.heap.size:=⟨_,rfl⟩
 rw[←hB]at X1⊢
 clear hB
 refine(benc_any l n HN.out hn3 A c r 0 p HE.out w1 HT.out HA.out).mono ?_
 rintro e w2 ⟨AP1,cP1,rfl,hs,hb⟩
 replace HT:=Lib.hid (HT.out.next hb)
 replace HA:=Lib.hid (HA.out.next hb)
 replace X1:=Lib.hid (X1.out.next hb)
 replace HBL:=Lib.hid (HBL.out.trans (hb.mono HBL.out.size))
 have P1:=Lib.hid hs
 clear hb hs
 go_wp2_with fail
 refine(pget_forty p p.length rfl (by have:=HPL.out;omega) 0 W HG.out AP1 cP1 w2 P1.out).mono ?_
 rintro e w3 ⟨AY1,cY1,rfl,hs,hb⟩
 replace HT:=Lib.hid (HT.out.next hb)
 replace HA:=Lib.hid (HA.out.next hb)
 replace X1:=Lib.hid (X1.out.next hb)
 replace P1:=Lib.hid (P1.out.next hb)
 replace HBL:=Lib.hid (HBL.out.trans (hb.mono HBL.out.size))
 have Y1:=Lib.hid hs
 clear hb hs
 rw[HK.out]
 go_wp2_with fail
 refine(refbig_named l n HN.out false HBIG.out A c w3 HA.out hn3).mono ?_
 rintro e w4 ⟨rfl,hb⟩
 replace HT:=Lib.hid (HT.out.next hb)
 replace HA:=Lib.hid (HA.out.next hb)
 replace X1:=Lib.hid (X1.out.next hb)
 replace P1:=Lib.hid (P1.out.next hb)
 replace Y1:=Lib.hid (Y1.out.next hb)
 replace HBL:=Lib.hid (HBL.out.trans (hb.mono HBL.out.size))
 clear hb
 go_wp2_with fail
 refine(coded19_any w4 HT.out).mono ?_
 rintro e w5 ⟨rfl,hb⟩
 replace HT:=Lib.hid (HT.out.next hb)
 replace HA:=Lib.hid (HA.out.next hb)
 replace X1:=Lib.hid (X1.out.next hb)
 replace P1:=Lib.hid (P1.out.next hb)
 replace Y1:=Lib.hid (Y1.out.next hb)
 replace HBL:=Lib.hid (HBL.out.trans (hb.mono HBL.out.size))
 clear hb
 go_wp2
 go_ret
 exact⟨rfl,HBL.out⟩
set_option maxRecDepth 100000 in
set_option maxHeartbeats 1600000 in
theorem seals19_d (l:List K) (n:Nat) (hn:n=l.length) (hn3:n≤9223372036854775807) (A:Option Addr) (c:Nat) (r:Rg) (i:Int) (x:Nat) (hx:x<256) (p W:List Nat) (hE:ecB l r=(0,p)) (hpl:p.length≤224) (hG:fgetX p=(0,W)) (k j:Nat) (hk:W.length=k) (hkj:k=j+32) (hk9:k≤149) (hbig:bigR l=false) (h1: ¬i<(j:Int)) (h2:(k:Int)≤i) (w:World) (hT:Tabs w) (hA:Ks w w.heap.size A l):Calls Tryz.prog 8 #[.slice A n c, .agg #[.int .i64 r.t.ser, .int .i64 r.t.kind, .int .i64 r.t.frm, .int .i64 r.t.till, .int .i64 r.t.cls, .int .i64 r.t.card, .int .i64 r.t.seat, .int .i64 r.t.day, .int .i64 r.t.days, .int .i64 r.t.uses, .int .i64 r.t.epoch, .int .i64 r.key, .int .i64 r.left, .int .i64 r.inn, .int .i64 r.ver], .int .i64 i, .int .u8 (x:Int)] w fun e w'=>e= .returned (.bool true)∧Below w.heap.size w w':=by
 have wz:IntKind.i64.wrap ((k:Int) - 32)=(j:Int):=by
  rw[show(k:Int) - 32=(j:Int) by omega]
  exact IntWalk.i64_in _ (by omega)
 have k0: ¬((k:Int)<32):=by omega
 have p1: ¬(i<(j:Int)):=h1
 have p2:(k:Int)≤i:=h2
 have HE:=Lib.hid hE
 have HPL:=Lib.hid hpl
 have HG:=Lib.hid hG
 have HK:=Lib.hid hk
 have HKJ:=Lib.hid hkj
 have HBIG:=Lib.hid hbig
 clear hE hpl hG hk hkj hbig
 have HN:=Lib.hid hn
 have HT:=Lib.hid hT
 have HA:=Lib.hid hA
 clear hn hT hA
 have HBL:=Lib.hid (Below.refl w.heap.size w)
 go_enter Tryz.func8, Tryz.ntmps8
 go_wp2_with fail
 obtain⟨w1,hw⟩: ∃w1,w1=w.alloc (.cells #[.int .i64 r.t.ser, .int .i64 r.t.kind, .int .i64 r.t.frm, .int .i64 r.t.till, .int .i64 r.t.cls, .int .i64 r.t.card, .int .i64 r.t.seat, .int .i64 r.t.day, .int .i64 r.t.days, .int .i64 r.t.uses, .int .i64 r.t.epoch, .int .i64 r.key, .int .i64 r.left, .int .i64 r.inn, .int .i64 r.ver] 28):=⟨_,rfl⟩
 rw[←hw]
 have hx:RBox w1 w.heap.size r:=by rw[hw];exact RBox.new w r
 have hb:Below w.heap.size w w1:=by rw[hw];exact below_lit w _ _
 replace HT:=Lib.hid (HT.out.next hb)
 replace HA:=Lib.hid (HA.out.next hb)
 replace HBL:=Lib.hid (HBL.out.trans (hb.mono HBL.out.size))
 have X1:=Lib.hid hx
 clear hx hb hw
 obtain⟨B1,hB⟩: ∃B,B=w.heap.size:=⟨_,rfl⟩
 rw[←hB]at X1⊢
 clear hB
 refine(benc_any l n HN.out hn3 A c r 0 p HE.out w1 HT.out HA.out).mono ?_
 rintro e w2 ⟨AP1,cP1,rfl,hs,hb⟩
 replace HT:=Lib.hid (HT.out.next hb)
 replace HA:=Lib.hid (HA.out.next hb)
 replace X1:=Lib.hid (X1.out.next hb)
 replace HBL:=Lib.hid (HBL.out.trans (hb.mono HBL.out.size))
 have P1:=Lib.hid hs
 clear hb hs
 go_wp2_with fail
 refine(pget_forty p p.length rfl (by have:=HPL.out;omega) 0 W HG.out AP1 cP1 w2 P1.out).mono ?_
 rintro e w3 ⟨AY1,cY1,rfl,hs,hb⟩
 replace HT:=Lib.hid (HT.out.next hb)
 replace HA:=Lib.hid (HA.out.next hb)
 replace X1:=Lib.hid (X1.out.next hb)
 replace P1:=Lib.hid (P1.out.next hb)
 replace HBL:=Lib.hid (HBL.out.trans (hb.mono HBL.out.size))
 have Y1:=Lib.hid hs
 clear hb hs
 rw[HK.out]
 go_wp2_with fail
 refine(refbig_named l n HN.out false HBIG.out A c w3 HA.out hn3).mono ?_
 rintro e w4 ⟨rfl,hb⟩
 replace HT:=Lib.hid (HT.out.next hb)
 replace HA:=Lib.hid (HA.out.next hb)
 replace X1:=Lib.hid (X1.out.next hb)
 replace P1:=Lib.hid (P1.out.next hb)
 replace Y1:=Lib.hid (Y1.out.next hb)
 replace HBL:=Lib.hid (HBL.out.trans (hb.mono HBL.out.size))
 clear hb
 go_wp2_with fail
 refine(coded19_any w4 HT.out).mono ?_
 rintro e w5 ⟨rfl,hb⟩
 replace HT:=Lib.hid (HT.out.next hb)
 replace HA:=Lib.hid (HA.out.next hb)
 replace X1:=Lib.hid (X1.out.next hb)
 replace P1:=Lib.hid (P1.out.next hb)
 replace Y1:=Lib.hid (Y1.out.next hb)
 replace HBL:=Lib.hid (HBL.out.trans (hb.mono HBL.out.size))
 clear hb
 go_wp2
 go_ret
 exact⟨rfl,HBL.out⟩
set_option maxRecDepth 100000 in
set_option maxHeartbeats 1600000 in
theorem seals19_e (l:List K) (n:Nat) (hn:n=l.length) (hn3:n≤9223372036854775807) (A:Option Addr) (c:Nat) (r:Rg) (i:Int) (x:Nat) (hx:x<256) (p W:List Nat) (hE:ecB l r=(0,p)) (hpl:p.length≤224) (hG:fgetX p=(0,W)) (k j:Nat) (hk:W.length=k) (hkj:k=j+32) (hk9:k≤149) (hbig:bigR l=false) (h1: ¬i<(j:Int)) (h2: ¬(k:Int)≤i) (h3:x=0) (w:World) (hT:Tabs w) (hA:Ks w w.heap.size A l):Calls Tryz.prog 8 #[.slice A n c, .agg #[.int .i64 r.t.ser, .int .i64 r.t.kind, .int .i64 r.t.frm, .int .i64 r.t.till, .int .i64 r.t.cls, .int .i64 r.t.card, .int .i64 r.t.seat, .int .i64 r.t.day, .int .i64 r.t.days, .int .i64 r.t.uses, .int .i64 r.t.epoch, .int .i64 r.key, .int .i64 r.left, .int .i64 r.inn, .int .i64 r.ver], .int .i64 i, .int .u8 (x:Int)] w fun e w'=>e= .returned (.bool true)∧Below w.heap.size w w':=by
 have wz:IntKind.i64.wrap ((k:Int) - 32)=(j:Int):=by
  rw[show(k:Int) - 32=(j:Int) by omega]
  exact IntWalk.i64_in _ (by omega)
 have k0: ¬((k:Int)<32):=by omega
 have p1: ¬(i<(j:Int)):=h1
 have p2: ¬((k:Int)≤i):=h2
 subst h3
 have HE:=Lib.hid hE
 have HPL:=Lib.hid hpl
 have HG:=Lib.hid hG
 have HK:=Lib.hid hk
 have HKJ:=Lib.hid hkj
 have HBIG:=Lib.hid hbig
 clear hE hpl hG hk hkj hbig
 have HN:=Lib.hid hn
 have HT:=Lib.hid hT
 have HA:=Lib.hid hA
 clear hn hT hA
 have HBL:=Lib.hid (Below.refl w.heap.size w)
 go_enter Tryz.func8, Tryz.ntmps8
 go_wp2_with fail
 obtain⟨w1,hw⟩: ∃w1,w1=w.alloc (.cells #[.int .i64 r.t.ser, .int .i64 r.t.kind, .int .i64 r.t.frm, .int .i64 r.t.till, .int .i64 r.t.cls, .int .i64 r.t.card, .int .i64 r.t.seat, .int .i64 r.t.day, .int .i64 r.t.days, .int .i64 r.t.uses, .int .i64 r.t.epoch, .int .i64 r.key, .int .i64 r.left, .int .i64 r.inn, .int .i64 r.ver] 28):=⟨_,rfl⟩
 rw[←hw]
 have hx:RBox w1 w.heap.size r:=by rw[hw];exact RBox.new w r
 have hb:Below w.heap.size w w1:=by rw[hw];exact below_lit w _ _
 replace HT:=Lib.hid (HT.out.next hb)
 replace HA:=Lib.hid (HA.out.next hb)
 replace HBL:=Lib.hid (HBL.out.trans (hb.mono HBL.out.size))
 have X1:=Lib.hid hx
 clear hx hb hw
 obtain⟨B1,hB⟩: ∃B,B=w.heap.size:=⟨_,rfl⟩
 rw[←hB]at X1⊢
 clear hB
 refine(benc_any l n HN.out hn3 A c r 0 p HE.out w1 HT.out HA.out).mono ?_
 rintro e w2 ⟨AP1,cP1,rfl,hs,hb⟩
 replace HT:=Lib.hid (HT.out.next hb)
 replace HA:=Lib.hid (HA.out.next hb)
 replace X1:=Lib.hid (X1.out.next hb)
 replace HBL:=Lib.hid (HBL.out.trans (hb.mono HBL.out.size))
 have P1:=Lib.hid hs
 clear hb hs
 go_wp2_with fail
 refine(pget_forty p p.length rfl (by have:=HPL.out;omega) 0 W HG.out AP1 cP1 w2 P1.out).mono ?_
 rintro e w3 ⟨AY1,cY1,rfl,hs,hb⟩
 replace HT:=Lib.hid (HT.out.next hb)
 replace HA:=Lib.hid (HA.out.next hb)
 replace X1:=Lib.hid (X1.out.next hb)
 replace P1:=Lib.hid (P1.out.next hb)
 replace HBL:=Lib.hid (HBL.out.trans (hb.mono HBL.out.size))
 have Y1:=Lib.hid hs
 clear hb hs
 rw[HK.out]
 go_wp2_with fail
 refine(refbig_named l n HN.out false HBIG.out A c w3 HA.out hn3).mono ?_
 rintro e w4 ⟨rfl,hb⟩
 replace HT:=Lib.hid (HT.out.next hb)
 replace HA:=Lib.hid (HA.out.next hb)
 replace X1:=Lib.hid (X1.out.next hb)
 replace P1:=Lib.hid (P1.out.next hb)
 replace Y1:=Lib.hid (Y1.out.next hb)
 replace HBL:=Lib.hid (HBL.out.trans (hb.mono HBL.out.size))
 clear hb
 go_wp2_with fail
 refine(coded19_any w4 HT.out).mono ?_
 rintro e w5 ⟨rfl,hb⟩
 replace HT:=Lib.hid (HT.out.next hb)
 replace HA:=Lib.hid (HA.out.next hb)
 replace X1:=Lib.hid (X1.out.next hb)
 replace P1:=Lib.hid (P1.out.next hb)
 replace Y1:=Lib.hid (Y1.out.next hb)
 replace HBL:=Lib.hid (HBL.out.trans (hb.mono HBL.out.size))
 clear hb
 go_wp2
 go_ret
 exact⟨rfl,HBL.out⟩
set_option maxRecDepth 100000 in
set_option maxHeartbeats 1600000 in
theorem seals19_f (l:List K) (n:Nat) (hn:n=l.length) (hn3:n≤9223372036854775807) (A:Option Addr) (c:Nat) (r:Rg) (q:Nat) (x:Nat) (hx:x<256) (p W:List Nat) (hE:ecB l r=(0,p)) (hpl:p.length≤224) (hG:fgetX p=(0,W)) (k j:Nat) (hk:W.length=k) (hkj:k=j+32) (hk9:k≤149) (hbig:bigR l=false) (h1:j≤q) (h2:q<k) (h3:x≠0) (w:World) (hT:Tabs w) (hA:Ks w w.heap.size A l):Calls Tryz.prog 8 #[.slice A n c, .agg #[.int .i64 r.t.ser, .int .i64 r.t.kind, .int .i64 r.t.frm, .int .i64 r.t.till, .int .i64 r.t.cls, .int .i64 r.t.card, .int .i64 r.t.seat, .int .i64 r.t.day, .int .i64 r.t.days, .int .i64 r.t.uses, .int .i64 r.t.epoch, .int .i64 r.key, .int .i64 r.left, .int .i64 r.inn, .int .i64 r.ver], .int .i64 (q:Int), .int .u8 (x:Int)] w fun e w'=>e= .returned (.bool true)∧Below w.heap.size w w':=by
 have wz:IntKind.i64.wrap ((k:Int) - 32)=(j:Int):=by
  rw[show(k:Int) - 32=(j:Int) by omega]
  exact IntWalk.i64_in _ (by omega)
 have k0: ¬((k:Int)<32):=by omega
 obtain⟨i0,hi,hz0,hz1,hz2⟩:=info_parts infoU8
 have p1: ¬((q:Int)<(j:Int)):=by omega
 have p2: ¬((k:Int)≤(q:Int)):=by omega
 have p3:((x:Int)==0)=false:=by rw[beq_eq_false_iff_ne];omega
 have p4:(x==0)=false:=by rw[beq_eq_false_iff_ne];exact h3
 have bi0:(0:Int)≤(q:Int):=by omega
 have bi1:(q:Int)<(k:Int):=by omega
 have hW: ∀z∈W,z<256:=(putF_getX hG).2
 obtain⟨y,hy⟩: ∃y,W.getD q 0=y:=⟨_,rfl⟩
 have hy8:y<256:=by rw[←hy];exact seal_getD_lt hW q
 have hxy:y^^^x<256:=Nat.xor_lt_two_pow (n:=8) hy8 hx
 have hdec:decB l (putF (W.set q (y^^^x)))=(11,zeroR):=ecB_turn hE hG q (y^^^x) (by omega) (by omega) hxy (by rw[hy];exact xor_ne h3)
 obtain⟨V,hV⟩: ∃V,W.set q (y^^^x)=V:=⟨_,rfl⟩
 have hVB: ∀z∈V,z<256:=by
  rw[←hV];intro z hz
  rcases List.mem_or_eq_of_mem_set hz with h|h
  ·exact hW z h
  ·rw[h];exact hxy
 have HVK:=Lib.hid (show k=V.length by rw[←hV,List.length_set,hk])
 have HVB:=Lib.hid hVB
 have HDEC:=Lib.hid (show decB l (putF V)=(11,zeroR) by rw[←hV];exact hdec)
 have HVE:=Lib.hid hV
 have HY:=Lib.hid hy
 have HPV:=Lib.hid (show(putF V).length≤300 by rw[putF_len, ←hV,List.length_set];omega)
 have HXO:=Lib.hid (u8_xor_nat y x hy8 hx)
 have h64:0+k≤maxLen:=by unfold maxLen;omega
 clear hW hy8 hxy hdec hV hVB hy h3
 have HE:=Lib.hid hE
 have HPL:=Lib.hid hpl
 have HG:=Lib.hid hG
 have HK:=Lib.hid hk
 have HKJ:=Lib.hid hkj
 have HBIG:=Lib.hid hbig
 clear hE hpl hG hk hkj hbig
 have HN:=Lib.hid hn
 have HT:=Lib.hid hT
 have HA:=Lib.hid hA
 clear hn hT hA
 have HBL:=Lib.hid (Below.refl w.heap.size w)
 go_enter Tryz.func8, Tryz.ntmps8
 go_wp2_with fail
 obtain⟨w1,hw⟩: ∃w1,w1=w.alloc (.cells #[.int .i64 r.t.ser, .int .i64 r.t.kind, .int .i64 r.t.frm, .int .i64 r.t.till, .int .i64 r.t.cls, .int .i64 r.t.card, .int .i64 r.t.seat, .int .i64 r.t.day, .int .i64 r.t.days, .int .i64 r.t.uses, .int .i64 r.t.epoch, .int .i64 r.key, .int .i64 r.left, .int .i64 r.inn, .int .i64 r.ver] 28):=⟨_,rfl⟩
 rw[←hw]
 have hx:RBox w1 w.heap.size r:=by rw[hw];exact RBox.new w r
 have hb:Below w.heap.size w w1:=by rw[hw];exact below_lit w _ _
 replace HT:=Lib.hid (HT.out.next hb)
 replace HA:=Lib.hid (HA.out.next hb)
 replace HBL:=Lib.hid (HBL.out.trans (hb.mono HBL.out.size))
 have X1:=Lib.hid hx
 clear hx hb hw
 obtain⟨B1,hB⟩: ∃B,B=w.heap.size:=⟨_,rfl⟩
 rw[←hB]at X1⊢
 clear hB
 refine(benc_any l n HN.out hn3 A c r 0 p HE.out w1 HT.out HA.out).mono ?_
 rintro e w2 ⟨AP1,cP1,rfl,hs,hb⟩
 replace HT:=Lib.hid (HT.out.next hb)
 replace HA:=Lib.hid (HA.out.next hb)
 replace X1:=Lib.hid (X1.out.next hb)
 replace HBL:=Lib.hid (HBL.out.trans (hb.mono HBL.out.size))
 have P1:=Lib.hid hs
 clear hb hs
 go_wp2_with fail
 refine(pget_forty p p.length rfl (by have:=HPL.out;omega) 0 W HG.out AP1 cP1 w2 P1.out).mono ?_
 rintro e w3 ⟨AY1,cY1,rfl,hs,hb⟩
 replace HT:=Lib.hid (HT.out.next hb)
 replace HA:=Lib.hid (HA.out.next hb)
 replace X1:=Lib.hid (X1.out.next hb)
 replace P1:=Lib.hid (P1.out.next hb)
 replace HBL:=Lib.hid (HBL.out.trans (hb.mono HBL.out.size))
 have Y1:=Lib.hid hs
 clear hb hs
 rw[HK.out]
 go_wp2_with fail
 refine(refbig_named l n HN.out false HBIG.out A c w3 HA.out hn3).mono ?_
 rintro e w4 ⟨rfl,hb⟩
 replace HT:=Lib.hid (HT.out.next hb)
 replace HA:=Lib.hid (HA.out.next hb)
 replace X1:=Lib.hid (X1.out.next hb)
 replace P1:=Lib.hid (P1.out.next hb)
 replace Y1:=Lib.hid (Y1.out.next hb)
 replace HBL:=Lib.hid (HBL.out.trans (hb.mono HBL.out.size))
 clear hb
 have HB0:=Lib.hid (below_lit w4 #[] 5)
 have HOWN:=Lib.hid (show(w4.alloc (.cells #[] 5)).ownsRow w4.heap.size 5 1 (.slice (some ⟨w4.heap.size,0,none⟩) 0 0) 0 []from World.ownsRow_lit w4 #[] 0 (Nat.le_refl _) (by decide) rfl)
 have HPW:=Lib.hid (Y1.out.next HB0.out)
 have hbs:=HB0.out.size
 go_wp2_with (at_builtin;go_loud (refine wpList_append_rd _ rfl (.tmp 61) (.tmp 62) 30 rfl w4.heap.size 5 i0 (.int .u8 0) 1 Tryz.underlying30 hi hz0 hz1 hz2 rfl (.slice (some ⟨w4.heap.size,0,none⟩) 0 0) 0 [] rfl HOWN.out _ AY1 k cY1 (U8 W) rfl HPW.out.rd (by simp[U8,HK.out]) HPW.out.nil (U8_one W) h64 (by omega) hbs ?_))
 intro v6 w60 hown6 hg6
 have hbl:Below w4.heap.size w4 w60:=HB0.out.grown hg6 hbs (fun p hp=>own_ge HOWN.out hp)
 obtain⟨g,cap,e1,_⟩:=hown6.form (by omega)
 subst e1
 have hgb:w4.heap.size≤g:=own_ge hown6 rfl
 have hown7:w60.ownsRow w4.heap.size 5 1 (.slice (some ⟨g,0,none⟩) k cap) k (U8 W):=by simpa using hown6
 have hcq:w60.cell? ⟨g,q,none⟩=some (.int .u8 (y:Int)):=by
  rw[hown7.cellAt q (by omega),U8,List.getElem?_map,List.getElem?_eq_getElem (by rw[HK.out];omega), ←HY.out,List.getD_eq_getElem?_getD,List.getElem?_eq_getElem (by rw[HK.out];omega)]
  rfl
 have hfz:=hown7.frozenAt q
 have hst:=(hown7.stored q (.int .u8 ((y^^^x:Nat):Int))).1
 have e2:(U8 W).set q (.int .u8 ((y^^^x:Nat):Int))=U8 V:=by rw[←HVE.out,U8,U8,List.map_set]
 rw[e2]at hst
 obtain⟨AV,cV,e3,hbv⟩:=bs_of_own hst HVB.out
 cases e3
 have HVS:=Lib.hid hbv
 have hb:=hbl.setCell (p:=⟨g,q,none⟩) hgb (.int .u8 ((y^^^x:Nat):Int))
 replace HT:=Lib.hid (HT.out.next hb)
 replace HA:=Lib.hid (HA.out.next hb)
 replace HBL:=Lib.hid (HBL.out.trans (hb.mono HBL.out.size))
 have HXO2:=HXO.out
 clear p1 p2 p3 p4 k0 wz
 clear hb hbl hown6 hown7 hst hbv hg6 e2 HB0 HOWN HPW
 go_wp2_with fail
 refine(pput_forty V k HVK.out (by omega) (putF V) rfl _ cap (w60.setCell ⟨g,q,none⟩ (.int .u8 ((y^^^x:Nat):Int))) HVS.out).mono ?_
 rintro e w5 ⟨AQ1,cQ1,rfl,hs,hb⟩
 replace HT:=Lib.hid (HT.out.next hb)
 replace HA:=Lib.hid (HA.out.next hb)
 replace HBL:=Lib.hid (HBL.out.trans (hb.mono HBL.out.size))
 have Q1:=Lib.hid hs
 clear hb hs
 go_wp2_with fail
 refine(bdec_zero l n HN.out hn3 (putF V) (putF V).length rfl (by have:=HPV.out;omega) A c AQ1 cQ1 11 HDEC.out w5 HT.out HA.out Q1.out).mono ?_
 rintro e w6 ⟨rfl,hb⟩
 replace HT:=Lib.hid (HT.out.next hb)
 replace HA:=Lib.hid (HA.out.next hb)
 replace Q1:=Lib.hid (Q1.out.next hb)
 replace HBL:=Lib.hid (HBL.out.trans (hb.mono HBL.out.size))
 clear hb
 go_wp2_with fail
 obtain⟨w7,hw⟩: ∃w7,w7=w6.alloc (.cells #[.int .i64 0, .int .i64 0, .int .i64 0, .int .i64 0, .int .i64 0, .int .i64 0, .int .i64 0, .int .i64 0, .int .i64 0, .int .i64 0, .int .i64 0, .int .i64 0, .int .i64 0, .int .i64 0, .int .i64 0] 28):=⟨_,rfl⟩
 rw[←hw]
 have hx:RBox w7 w6.heap.size zeroR:=by rw[hw];exact RBox.new w6 zeroR
 have hb:Below w6.heap.size w6 w7:=by rw[hw];exact below_lit w6 _ _
 replace HT:=Lib.hid (HT.out.next hb)
 replace HA:=Lib.hid (HA.out.next hb)
 replace Q1:=Lib.hid (Q1.out.next hb)
 replace HBL:=Lib.hid (HBL.out.trans (hb.mono HBL.out.size))
 have X9:=Lib.hid hx
 clear hx hb hw
 obtain⟨B9,hB⟩: ∃B,B=w6.heap.size:=⟨_,rfl⟩
 rw[←hB]at X9⊢
 clear hB
 refine(coded19_any w7 HT.out).mono ?_
 rintro e w8 ⟨rfl,hb⟩
 replace HT:=Lib.hid (HT.out.next hb)
 replace HA:=Lib.hid (HA.out.next hb)
 replace Q1:=Lib.hid (Q1.out.next hb)
 replace X9:=Lib.hid (X9.out.next hb)
 replace HBL:=Lib.hid (HBL.out.trans (hb.mono HBL.out.size))
 clear hb
 go_wp2
 go_ret
 exact⟨rfl,HBL.out⟩
set_option maxRecDepth 100000 in
set_option maxHeartbeats 1600000 in
theorem seals19_any (l:List K) (n:Nat) (hn:n=l.length) (hn3:n≤9223372036854775807) (A:Option Addr) (c:Nat) (r:Rg) (i:Int) (x:Nat) (hx:x<256) (w:World) (hT:Tabs w) (hA:Ks w w.heap.size A l):Calls Tryz.prog 8 #[.slice A n c, .agg #[.int .i64 r.t.ser, .int .i64 r.t.kind, .int .i64 r.t.frm, .int .i64 r.t.till, .int .i64 r.t.cls, .int .i64 r.t.card, .int .i64 r.t.seat, .int .i64 r.t.day, .int .i64 r.t.days, .int .i64 r.t.uses, .int .i64 r.t.epoch, .int .i64 r.key, .int .i64 r.left, .int .i64 r.inn, .int .i64 r.ver], .int .i64 i, .int .u8 (x:Int)] w fun e w'=>e= .returned (.bool true)∧Below w.heap.size w w':=by
 by_cases h0:(ecB l r).1=0
 ·have hE:ecB l r=(0,(ecB l r).2):=by rw[←h0]
  obtain⟨p,hp⟩: ∃p,(ecB l r).2=p:=⟨_,rfl⟩
  rw[hp]at hE
  obtain⟨e1,e2,e3,e4⟩:=ecB_ok hE
  have hG:fgetX p=(0,wholeB l r):=by rw[e4];exact getX_putF (whole_lt e2)
  have hpl:=(ecB_back hE).2.2.2.2
  obtain⟨n1,n2⟩:=whole_len (l:=l) e2
  cases hbig:bigR l
  ·by_cases h1:i<(((wholeB l r).length - 32:Nat):Int)
   ·exact seals19_c l n hn hn3 A c r i x hx p _ hE hpl hG _ _ rfl (by omega) n2 hbig h1 w hT hA
   ·by_cases h2:((wholeB l r).length:Int)≤i
    ·exact seals19_d l n hn hn3 A c r i x hx p _ hE hpl hG _ _ rfl (by omega) n2 hbig h1 h2 w hT hA
    ·by_cases h3:x=0
     ·exact seals19_e l n hn hn3 A c r i x hx p _ hE hpl hG _ _ rfl (by omega) n2 hbig h1 h2 h3 w hT hA
     ·obtain⟨q,rfl⟩: ∃q:Nat,i=(q:Int):=⟨i.toNat,by omega⟩
      exact seals19_f l n hn hn3 A c r q x hx p _ hE hpl hG _ ((wholeB l r).length - 32) rfl (by omega) n2 hbig (by omega) (by omega) h3 w hT hA
  ·exact seals19_a l n hn hn3 A c r i x hx 0 p hE hpl hbig w hT hA
 ·have hp:=ecB_bad (show ecB l r=((ecB l r).1,(ecB l r).2)from rfl) h0
  have hpl:(ecB l r).2.length≤224:=by rw[hp];simp
  cases hbig:bigR l
  ·exact seals19_b l n hn hn3 A c r i x hx _ _ rfl hpl h0 hbig w hT hA
  ·exact seals19_a l n hn hn3 A c r i x hx _ _ rfl hpl hbig w hT hA
end Go.Proofs.YtcnglbliidjnfaaGreatDoor
end
