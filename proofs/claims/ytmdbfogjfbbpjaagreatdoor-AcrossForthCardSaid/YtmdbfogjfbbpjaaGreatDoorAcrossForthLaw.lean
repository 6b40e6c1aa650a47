import Derived.Test.YtmdbfogjfbbpjaaGreatDoorAcrossCrossed
import Derived.Test.YtmdbfogjfbbpjaaGreatDoorRingAddMath
set_option maxHeartbeats 1600000
set_option maxRecDepth 100000
set_option linter.unusedVariables false
namespace Go.Proofs.YtmdbfogjfbbpjaaGreatDoor
open Go.ChangeShapes Go.WideShapes Go.ChangeAt Go.RowKit
theorem kH (C:XC) (l:List K) (n:Nat) (hn:n=l.length) (hn3:n≤9223372036854775807) (A:Option Addr) (c:Nat) (b:List Nat) (m:Nat) (hm:m=b.length) (B:Option Addr) (d:Nat) (i j k:Int) (hi:Cl i) (hj:Cl j) (hk:Cl k) (h47:m≤140737488355328) (w:World) (hT:Cx w) (hA:Ks w w.heap.size A l) (hB:Bs w w.heap.size b B d):Calls Tryz.prog 6 #[.slice A n c, .slice B m d, .agg #[.int .i64 i, .int .i64 j], .int .i64 k] w fun e w'=>e= .returned (.bool true)∧Below w.heap.size w w':=by
 have hm2:=hB.len
 have hm3:=hB.cap
 have hb256:=hB.lt
 have HN:=Lib.hid hn
 have HM:=Lib.hid hm
 have HT:=Lib.hid hT
 have HA:=Lib.hid hA
 have HB:=Lib.hid hB
 have HBT:=Lib.hid hb256
 clear hn hm hT hA hB hb256
 obtain⟨bb,hbb⟩: ∃bb,Ss l=bb:=⟨_,rfl⟩
 have HBB:=Lib.hid hbb
 clear hbb
 obtain⟨E,p,hE⟩: ∃E p,toS l b i j k=(E,p):=⟨_,_,rfl⟩
 have HE:=Lib.hid hE
 clear hE
 have HBL:=Lib.hid (Below.refl w.heap.size w)
 go_enter Tryz.func6, Tryz.ntmps6
 go_wp2_with fail
 obtain⟨w1,hw⟩: ∃w1,w1=w.alloc (.cells #[.int .i64 i, .int .i64 j] 26):=⟨_,rfl⟩
 rw[←hw]
 have hx:Cd w1 w.heap.size i j:=by rw[hw];exact Cd.new w i j
 have hb:Below w.heap.size w w1:=by rw[hw];exact Aa w _ _
 replace HT:=Lib.hid (HT.out.next hb)
 replace HA:=Lib.hid (HA.out.next hb)
 replace HB:=Lib.hid (HB.out.next hb)
 replace HBL:=Lib.hid (HBL.out.trans (hb.mono HBL.out.size))
 have J1:=Lib.hid hx
 clear hx hb hw
 obtain⟨B1,hB⟩: ∃B,B=w.heap.size:=⟨_,rfl⟩
 rw[←hB]at J1⊢
 clear hB
 obtain⟨e0,e1⟩:=J1.out.cells
 refine(C.tos l n b m A c B d i j k E p w1 HN.out hn3 HM.out h47 hi hj hk HE.out HT.out HA.out HB.out).mono ?_
 rintro e w2 ⟨AP1,cP1,rfl,hs,hb⟩
 clear e0 e1
 replace HT:=Lib.hid (HT.out.next hb)
 replace HA:=Lib.hid (HA.out.next hb)
 replace HB:=Lib.hid (HB.out.next hb)
 replace J1:=Lib.hid (J1.out.next hb)
 replace HBL:=Lib.hid (HBL.out.trans (hb.mono HBL.out.size))
 have P1:=Lib.hid hs
 clear hb hs
 go_wp2_with fail
 refine(Dd l n HN.out bb HBB.out A c w2 HA.out hn3).mono ?_
 rintro e w3 ⟨rfl,hb⟩
 replace HT:=Lib.hid (HT.out.next hb)
 replace HA:=Lib.hid (HA.out.next hb)
 replace HB:=Lib.hid (HB.out.next hb)
 replace J1:=Lib.hid (J1.out.next hb)
 replace P1:=Lib.hid (P1.out.next hb)
 replace HBL:=Lib.hid (HBL.out.trans (hb.mono HBL.out.size))
 clear hb
 cases bb
 rotate_left
 focus
  go_wp2_with fail
  refine(Az C w3 HT.out).mono ?_
  rintro e w4 ⟨rfl,hb⟩
  replace HT:=Lib.hid (HT.out.next hb)
  replace HA:=Lib.hid (HA.out.next hb)
  replace HB:=Lib.hid (HB.out.next hb)
  replace J1:=Lib.hid (J1.out.next hb)
  replace P1:=Lib.hid (P1.out.next hb)
  replace HBL:=Lib.hid (HBL.out.trans (hb.mono HBL.out.size))
  clear hb
  go_wp2
  go_ret
  exact⟨rfl,HBL.out⟩
 rotate_left
 focus
  by_cases q0:2000<m
  focus
   have p0:(2000:Int)<(m:Int):=by omega
   go_wp2_with fail
   refine(Az C w3 HT.out).mono ?_
   rintro e w4 ⟨rfl,hb⟩
   replace HT:=Lib.hid (HT.out.next hb)
   replace HA:=Lib.hid (HA.out.next hb)
   replace HB:=Lib.hid (HB.out.next hb)
   replace J1:=Lib.hid (J1.out.next hb)
   replace P1:=Lib.hid (P1.out.next hb)
   replace HBL:=Lib.hid (HBL.out.trans (hb.mono HBL.out.size))
   clear hb
   go_wp2
   go_ret
   exact⟨rfl,HBL.out⟩
  rotate_left
  focus
   have p0: ¬((2000:Int)<(m:Int)):=by omega
   by_cases h0:E≠0
   focus
    have s1:(E==0)=false:=by rw[beq_eq_false_iff_ne];exact h0
    have s2:(E !=0)=true:=by rw[bne_iff_ne];exact h0
    clear h0
    go_wp2_with fail
    refine(Az C w3 HT.out).mono ?_
    rintro e w4 ⟨rfl,hb⟩
    replace HT:=Lib.hid (HT.out.next hb)
    replace HA:=Lib.hid (HA.out.next hb)
    replace HB:=Lib.hid (HB.out.next hb)
    replace J1:=Lib.hid (J1.out.next hb)
    replace P1:=Lib.hid (P1.out.next hb)
    replace HBL:=Lib.hid (HBL.out.trans (hb.mono HBL.out.size))
    clear hb
    go_wp2
    go_ret
    exact⟨rfl,HBL.out⟩
   rotate_left
   focus
    obtain rfl:=Decidable.not_not.1 h0
    clear h0
    obtain⟨r,hr,hq⟩:=AcD HE.out
    have hin:Cl r.ver∧Cl r.key:=by have:=(Ez r).1 (Ql hr);unfold Cl;omega
    have hpl:p.length≤1048576:=by
     obtain⟨_,_,h2⟩:=nI HE.out
     have:=(Re h2).2.2.2
     omega
    have HR:=Lib.hid hr
    have HQ:=Lib.hid hq
    have HI:=Lib.hid hin
    clear hr hq hin
    go_wp2_with fail
    refine(Rq l n HN.out hn3 b m HM.out h47 A c B d 0 r HR.out w3 HT.out HA.out HB.out).mono ?_
    rintro e w4 ⟨rfl,hb⟩
    replace HT:=Lib.hid (HT.out.next hb)
    replace HA:=Lib.hid (HA.out.next hb)
    replace HB:=Lib.hid (HB.out.next hb)
    replace J1:=Lib.hid (J1.out.next hb)
    replace P1:=Lib.hid (P1.out.next hb)
    replace HBL:=Lib.hid (HBL.out.trans (hb.mono HBL.out.size))
    clear hb
    go_wp2_with fail
    obtain⟨w5,hw,hx,hb⟩:=El w4 r
    rw[←hw]
    replace HT:=Lib.hid (HT.out.next hb)
    replace HA:=Lib.hid (HA.out.next hb)
    replace HB:=Lib.hid (HB.out.next hb)
    replace J1:=Lib.hid (J1.out.next hb)
    replace P1:=Lib.hid (P1.out.next hb)
    replace HBL:=Lib.hid (HBL.out.trans (hb.mono HBL.out.size))
    have X1:=Lib.hid hx
    clear hx hb hw
    obtain⟨B2,hB⟩: ∃B,B=w4.heap.size:=⟨_,rfl⟩
    rw[←hB]at X1⊢
    clear hB
    obtain⟨c0,c1,c2,c3,c4,c5,c6,c7,c8,c9,c10,c11,c12,c13,c14⟩:=X1.out.cells
    refine(C.tob l n p p.length A c AP1 cP1 r.ver r.key 0 b i j w5 HN.out hn3 rfl hpl HI.out.1 HI.out.2 HQ.out HT.out HA.out P1.out).mono ?_
    rintro e w6 ⟨AP2,cP2,rfl,hs,hb⟩
    clear c0 c1 c2 c3 c4 c5 c6 c7 c8 c9 c10 c11 c12 c13 c14
    replace HT:=Lib.hid (HT.out.next hb)
    replace HA:=Lib.hid (HA.out.next hb)
    replace HB:=Lib.hid (HB.out.next hb)
    replace J1:=Lib.hid (J1.out.next hb)
    replace P1:=Lib.hid (P1.out.next hb)
    replace X1:=Lib.hid (X1.out.next hb)
    replace HBL:=Lib.hid (HBL.out.trans (hb.mono HBL.out.size))
    have P2:=Lib.hid hs
    clear hb hs
    go_wp2_with fail
    obtain⟨w7,hw⟩: ∃w7,w7=w6.alloc (.cells #[.int .i64 i, .int .i64 j] 26):=⟨_,rfl⟩
    rw[←hw]
    have hx:Cd w7 w6.heap.size i j:=by rw[hw];exact Cd.new w6 i j
    have hb:Below w6.heap.size w6 w7:=by rw[hw];exact Aa w6 _ _
    replace HT:=Lib.hid (HT.out.next hb)
    replace HA:=Lib.hid (HA.out.next hb)
    replace HB:=Lib.hid (HB.out.next hb)
    replace J1:=Lib.hid (J1.out.next hb)
    replace P1:=Lib.hid (P1.out.next hb)
    replace X1:=Lib.hid (X1.out.next hb)
    replace P2:=Lib.hid (P2.out.next hb)
    replace HBL:=Lib.hid (HBL.out.trans (hb.mono HBL.out.size))
    have J2:=Lib.hid hx
    clear hx hb hw
    obtain⟨B3,hB⟩: ∃B,B=w6.heap.size:=⟨_,rfl⟩
    rw[←hB]at J2⊢
    clear hB
    refine(Az C w7 HT.out).mono ?_
    rintro e w8 ⟨rfl,hb⟩
    replace HT:=Lib.hid (HT.out.next hb)
    replace HA:=Lib.hid (HA.out.next hb)
    replace HB:=Lib.hid (HB.out.next hb)
    replace J1:=Lib.hid (J1.out.next hb)
    replace P1:=Lib.hid (P1.out.next hb)
    replace X1:=Lib.hid (X1.out.next hb)
    replace P2:=Lib.hid (P2.out.next hb)
    replace J2:=Lib.hid (J2.out.next hb)
    replace HBL:=Lib.hid (HBL.out.trans (hb.mono HBL.out.size))
    clear hb
    obtain⟨e0,e1⟩:=J1.out.cells
    obtain⟨f0,f1⟩:=J2.out.cells
    have hjj:=sU i j
    go_wp2_with fail
    refine(Iv b m b.length HM.out rfl B AP2 d cP2 w8 HB.out P2.out).mono ?_
    rintro e w9 ⟨rfl,hb⟩
    clear e0 e1 f0 f1
    replace HT:=Lib.hid (HT.out.next hb)
    replace HA:=Lib.hid (HA.out.next hb)
    replace HB:=Lib.hid (HB.out.next hb)
    replace J1:=Lib.hid (J1.out.next hb)
    replace P1:=Lib.hid (P1.out.next hb)
    replace X1:=Lib.hid (X1.out.next hb)
    replace P2:=Lib.hid (P2.out.next hb)
    replace J2:=Lib.hid (J2.out.next hb)
    replace HBL:=Lib.hid (HBL.out.trans (hb.mono HBL.out.size))
    clear hb
    go_wp2
    go_ret
    exact⟨rfl,HBL.out⟩
end Go.Proofs.YtmdbfogjfbbpjaaGreatDoor
