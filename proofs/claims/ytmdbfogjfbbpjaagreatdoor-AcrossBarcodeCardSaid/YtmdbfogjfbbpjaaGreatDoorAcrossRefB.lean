import Derived.Test.YtmdbfogjfbbpjaaGreatDoorFieldsPGet
import Derived.Test.YtmdbfogjfbbpjaaGreatDoorAcrossCrossed
import Derived.Test.YtmdbfogjfbbpjaaGreatDoorSwipeRefRead
import Derived.BigRegion
set_option maxHeartbeats 1600000
set_option maxRecDepth 100000
set_option linter.unusedVariables false
namespace Go.Proofs.YtmdbfogjfbbpjaaGreatDoor
open Go.ChangeShapes Go.WideShapes Go.ChangeAt Go.RowKit
theorem AaT (l:List K) (n:Nat) (hn:n=l.length) (hn3:n≤9223372036854775807) (b:List Nat) (m:Nat) (hm:m=b.length) (hm2:m≤1000) (A:Option Addr) (c:Nat) (B:Option Addr) (d:Nat) (v k E:Int) (p:List Nat) (i j:Int) (hE:toB l b v k=(E,p,i,j)) (w:World) (hA:Ks w w.heap.size A l) (hB:Bs w w.heap.size b B d):Calls Tryz.prog 10 #[.slice A n c, .slice B m d, .int .i64 v, .int .i64 k] w fun e w'=> ∃A' c',e= .returned (.tuple #[.slice A' (p.length:Nat) c', .agg #[.int .i64 i, .int .i64 j], .int .i64 E])∧Bs w' w'.heap.size p A' c'∧Below w.heap.size w w':=by
 obtain⟨G,r,hD⟩: ∃G r,Hn l b=(G,r):=⟨_,_,rfl⟩
 have HN:=Lib.hid hn
 have HM:=Lib.hid hm
 have HA:=Lib.hid hA
 have HB:=Lib.hid hB
 have HE:=Lib.hid hE
 have HD:=Lib.hid hD
 clear hn hm hA hB hE hD
 have HBL:=Lib.hid (Below.refl w.heap.size w)
 go_enter Tryz.func10, Tryz.ntmps10
 have HGE:=Lib.hid (Nat.le_refl w.heap.size)
 go_wp2_with fail
 obtain⟨w1,hw⟩: ∃w1,w1=w.alloc (.cells #[.int .i64 0, .int .i64 0] 26):=⟨_,rfl⟩
 rw[←hw]
 have hx:Cd w1 w.heap.size 0 0:=by rw[hw];exact Cd.new w 0 0
 have hb:Below w.heap.size w w1:=by rw[hw];exact Aa w _ _
 replace HA:=Lib.hid (HA.out.next hb)
 replace HB:=Lib.hid (HB.out.next hb)
 replace HBL:=Lib.hid (HBL.out.trans (hb.mono HBL.out.size))
 have JX:=Lib.hid hx
 clear hx hb hw
 obtain⟨BJ,hB⟩: ∃B,B=w.heap.size:=⟨_,rfl⟩
 rw[←hB]at JX⊢;have HGB:=Lib.hid (show w.heap.size≤BJ from Nat.le_of_eq hB.symm)
 clear hB
 refine(Aa1 l n HN.out hn3 b m HM.out hm2 A c B d G r HD.out w1 HA.out HB.out).mono ?_
 rintro e w2 ⟨rfl,hb⟩
 replace HA:=Lib.hid (HA.out.next hb)
 replace HB:=Lib.hid (HB.out.next hb)
 replace JX:=Lib.hid (JX.out.next hb)
 replace HBL:=Lib.hid (HBL.out.trans (hb.mono HBL.out.size))
 clear hb
 have hE:=HE.out
 clear HE
 by_cases h0:G≠0
 focus
  rw[toB,HD.out,if_pos h0]at hE
  have s1:(G==0)=false:=by rw[beq_eq_false_iff_ne];exact h0
  have s2:(G !=0)=true:=by rw[bne_iff_ne];exact h0
  obtain⟨rfl,h1⟩:=Prod.mk.inj hE
  obtain⟨rfl,h2⟩:=Prod.mk.inj h1
  obtain⟨rfl,rfl⟩:=Prod.mk.inj h2
  clear h0
  have JXa:=Lib.hid (JX.out.alloc (.cells #[.int .i64 r.t.ser, .int .i64 r.t.kind, .int .i64 r.t.frm, .int .i64 r.t.till, .int .i64 r.t.cls, .int .i64 r.t.card, .int .i64 r.t.seat, .int .i64 r.t.day, .int .i64 r.t.days, .int .i64 r.t.uses, .int .i64 r.t.epoch, .int .i64 r.key, .int .i64 r.left, .int .i64 r.inn, .int .i64 r.ver] 39))
  obtain⟨d0,d1⟩:=JXa.out.cells
  have jf:=JXa.out.frozen
  go_wp2
  obtain⟨w3,hw,hx,hb⟩:=El w2 r
  rw[←hw]
  clear d0 d1
  replace HA:=Lib.hid (HA.out.next hb)
  replace HB:=Lib.hid (HB.out.next hb)
  replace JX:=Lib.hid (JX.out.next hb)
  replace HBL:=Lib.hid (HBL.out.trans (hb.mono HBL.out.size))
  have X1:=Lib.hid hx
  clear hx hb hw
  obtain⟨B1,hB⟩: ∃B,B=w2.heap.size:=⟨_,rfl⟩
  rw[←hB]at X1⊢
  clear hB
  exact bodyPost_ret (Vk Tryz.results10 _ _ BJ _ _ rfl (fM JX.out 0 0)) rfl ⟨none,0,rfl,Bs.empty _ _,Rt HBL.out HGB.out _ _⟩
 rotate_left
 focus
  obtain rfl:=Decidable.not_not.1 h0
  rw[toB,HD.out,if_neg h0]at hE
  simp only at hE
  obtain⟨F,q,hF⟩: ∃F q,ecB l ⟨r.t,k,0,0,v⟩=(F,q):=⟨_,_,rfl⟩
  rw[hF]at hE
  simp only at hE
  have HF:=Lib.hid hF
  have HE:=Lib.hid hE
  clear hE hF h0
  go_wp2_with fail
  obtain⟨w3,hw,hx,hb⟩:=El w2 r
  rw[←hw]
  replace HA:=Lib.hid (HA.out.next hb)
  replace HB:=Lib.hid (HB.out.next hb)
  replace JX:=Lib.hid (JX.out.next hb)
  replace HBL:=Lib.hid (HBL.out.trans (hb.mono HBL.out.size))
  have X1:=Lib.hid hx
  clear hx hb hw
  obtain⟨B1,hB⟩: ∃B,B=w2.heap.size:=⟨_,rfl⟩
  rw[←hB]at X1⊢
  clear hB
  obtain⟨c0,c1,c2,c3,c4,c5,c6,c7,c8,c9,c10,c11,c12,c13,c14⟩:=X1.out.cells
  go_wp2_with fail
  refine(vE l n HN.out hn3 A c ⟨r.t,k,0,0,v⟩ F q HF.out w3 HA.out).mono ?_
  rintro e w4 ⟨AP1,cP1,rfl,hs,hb⟩
  clear c0 c1 c2 c3 c4 c5 c6 c7 c8 c9 c10 c11 c12 c13 c14
  replace HA:=Lib.hid (HA.out.next hb)
  replace HB:=Lib.hid (HB.out.next hb)
  replace JX:=Lib.hid (JX.out.next hb)
  replace X1:=Lib.hid (X1.out.next hb)
  replace HBL:=Lib.hid (HBL.out.trans (hb.mono HBL.out.size))
  have P1:=Lib.hid hs
  clear hb hs
  have hE:=HE.out
  clear HE
  by_cases h0:F≠0
  focus
   rw[if_pos h0]at hE
   have s1:((F:Int)==0)=false:=by rw[beq_eq_false_iff_ne];omega
   have s2:((F:Int) !=0)=true:=by rw[bne_iff_ne];omega
   have s3:(F==0)=false:=by rw[beq_eq_false_iff_ne];exact h0
   have s4:(F !=0)=true:=by rw[bne_iff_ne];exact h0
   obtain⟨rfl,h1⟩:=Prod.mk.inj hE
   obtain⟨rfl,h2⟩:=Prod.mk.inj h1
   obtain⟨rfl,rfl⟩:=Prod.mk.inj h2
   clear h0
   obtain⟨d0,d1⟩:=JX.out.cells
   have jf:=JX.out.frozen
   go_wp2
   exact bodyPost_ret (Vk Tryz.results10 _ _ BJ _ _ rfl (fM JX.out 0 0)) rfl ⟨none,0,rfl,Bs.empty _ _,Rt HBL.out HGB.out _ _⟩
  rotate_left
  focus
   obtain rfl:=Decidable.not_not.1 h0
   rw[if_neg h0]at hE
   obtain⟨rfl,h1⟩:=Prod.mk.inj hE
   obtain⟨rfl,h2⟩:=Prod.mk.inj h1
   obtain⟨rfl,rfl⟩:=Prod.mk.inj h2
   clear h0
   obtain⟨c0,c1,c2,c3,c4,c5,c6,c7,c8,c9,c10,c11,c12,c13,c14⟩:=X1.out.cells
   obtain⟨d0,d1⟩:=JX.out.cells
   have jf:=JX.out.frozen
   go_wp2
   go_region
   go_wp2
   exact bodyPost_ret (Vk Tryz.results10 _ _ BJ _ _ rfl (fM JX.out r.left r.inn)) rfl ⟨_,_,rfl,Bs.more (Bs.below (Ae0 P1.out JX.out _ _) (Ae (Below.refl _ _) 1)) (by simp),Ae (Rt HBL.out HGB.out _ _) 1⟩
theorem Zh (C:XC) (l:List K) (n:Nat) (hn:n=l.length) (hn3:n≤9223372036854775807) (A:Option Addr) (c:Nat) (b:List Nat) (m:Nat) (hm:m=b.length) (B:Option Addr) (d:Nat) (v k:Int) (hv:Cl v) (hk:Cl k) (w:World) (hT:Cx w) (hA:Ks w w.heap.size A l) (hB:Bs w w.heap.size b B d):Calls Tryz.prog 3 #[.slice A n c, .slice B m d, .int .i64 v, .int .i64 k] w fun e w'=>e= .returned (.bool true)∧Below w.heap.size w w':=by
 have hm2:=hB.len
 have hm3:=hB.cap
 have hb256:=hB.lt
 have HN:=Lib.hid hn
 have HM:=Lib.hid hm
 have HT:=Lib.hid hT
 have HA:=Lib.hid hA
 have HB:=Lib.hid hB
 have HBT:=Lib.hid hb256
 clear hn hm hT hA hB hb256
 obtain⟨bb,hbb⟩: ∃bb,Ss l=bb:=⟨_,rfl⟩
 have HBB:=Lib.hid hbb
 clear hbb
 obtain⟨E,p,i,j,hE⟩: ∃E p i j,toB l b v k=(E,p,i,j):=⟨_,_,_,_,rfl⟩
 have HE:=Lib.hid hE
 clear hE
 have HBL:=Lib.hid (Below.refl w.heap.size w)
 go_enter Tryz.func3, Tryz.ntmps3
 go_wp2_with fail
 refine(Dd l n HN.out bb HBB.out A c w HA.out hn3).mono ?_
 rintro e w1 ⟨rfl,hb⟩
 replace HT:=Lib.hid (HT.out.next hb)
 replace HA:=Lib.hid (HA.out.next hb)
 replace HB:=Lib.hid (HB.out.next hb)
 replace HBL:=Lib.hid (HBL.out.trans (hb.mono HBL.out.size))
 clear hb
 cases bb
 rotate_left
 focus
  go_wp2
  go_ret
  exact⟨rfl,HBL.out⟩
 rotate_left
 focus
  by_cases q0:1000<m
  focus
   have p0:(1000:Int)<(m:Int):=by omega
   go_wp2
   go_ret
   exact⟨rfl,HBL.out⟩
  rotate_left
  focus
   have p0: ¬((1000:Int)<(m:Int)):=by omega
   go_wp2_with fail
   refine(C.tob l n b m A c B d v k E p i j w1 HN.out hn3 HM.out (by omega) hv hk HE.out HT.out HA.out HB.out).mono ?_
   rintro e w2 ⟨AP1,cP1,rfl,hs,hb⟩
   replace HT:=Lib.hid (HT.out.next hb)
   replace HA:=Lib.hid (HA.out.next hb)
   replace HB:=Lib.hid (HB.out.next hb)
   replace HBL:=Lib.hid (HBL.out.trans (hb.mono HBL.out.size))
   have P1:=Lib.hid hs
   clear hb hs
   go_wp2_with fail
   obtain⟨w3,hw⟩: ∃w3,w3=w2.alloc (.cells #[.int .i64 i, .int .i64 j] 26):=⟨_,rfl⟩
   rw[←hw]
   have hx:Cd w3 w2.heap.size i j:=by rw[hw];exact Cd.new w2 i j
   have hb:Below w2.heap.size w2 w3:=by rw[hw];exact Aa w2 _ _
   replace HT:=Lib.hid (HT.out.next hb)
   replace HA:=Lib.hid (HA.out.next hb)
   replace HB:=Lib.hid (HB.out.next hb)
   replace P1:=Lib.hid (P1.out.next hb)
   replace HBL:=Lib.hid (HBL.out.trans (hb.mono HBL.out.size))
   have J1:=Lib.hid hx
   clear hx hb hw
   obtain⟨B1,hB⟩: ∃B,B=w2.heap.size:=⟨_,rfl⟩
   rw[←hB]at J1⊢
   clear hB
   refine(AaT l n HN.out hn3 b m HM.out (by omega) A c B d v k E p i j HE.out w3 HA.out HB.out).mono ?_
   rintro e w4 ⟨AP2,cP2,rfl,hs,hb⟩
   replace HT:=Lib.hid (HT.out.next hb)
   replace HA:=Lib.hid (HA.out.next hb)
   replace HB:=Lib.hid (HB.out.next hb)
   replace P1:=Lib.hid (P1.out.next hb)
   replace J1:=Lib.hid (J1.out.next hb)
   replace HBL:=Lib.hid (HBL.out.trans (hb.mono HBL.out.size))
   have P2:=Lib.hid hs
   clear hb hs
   go_wp2_with fail
   obtain⟨w5,hw⟩: ∃w5,w5=w4.alloc (.cells #[.int .i64 i, .int .i64 j] 26):=⟨_,rfl⟩
   rw[←hw]
   have hx:Cd w5 w4.heap.size i j:=by rw[hw];exact Cd.new w4 i j
   have hb:Below w4.heap.size w4 w5:=by rw[hw];exact Aa w4 _ _
   replace HT:=Lib.hid (HT.out.next hb)
   replace HA:=Lib.hid (HA.out.next hb)
   replace HB:=Lib.hid (HB.out.next hb)
   replace P1:=Lib.hid (P1.out.next hb)
   replace J1:=Lib.hid (J1.out.next hb)
   replace P2:=Lib.hid (P2.out.next hb)
   replace HBL:=Lib.hid (HBL.out.trans (hb.mono HBL.out.size))
   have J2:=Lib.hid hx
   clear hx hb hw
   obtain⟨B2,hB⟩: ∃B,B=w4.heap.size:=⟨_,rfl⟩
   rw[←hB]at J2⊢
   clear hB
   refine(Az C w5 HT.out).mono ?_
   rintro e w6 ⟨rfl,hb⟩
   replace HT:=Lib.hid (HT.out.next hb)
   replace HA:=Lib.hid (HA.out.next hb)
   replace HB:=Lib.hid (HB.out.next hb)
   replace P1:=Lib.hid (P1.out.next hb)
   replace J1:=Lib.hid (J1.out.next hb)
   replace P2:=Lib.hid (P2.out.next hb)
   replace J2:=Lib.hid (J2.out.next hb)
   replace HBL:=Lib.hid (HBL.out.trans (hb.mono HBL.out.size))
   clear hb
   go_wp2_with fail
   refine(Iv p p.length p.length rfl rfl AP1 AP2 cP1 cP2 w6 P1.out P2.out).mono ?_
   rintro e w7 ⟨rfl,hb⟩
   replace HT:=Lib.hid (HT.out.next hb)
   replace HA:=Lib.hid (HA.out.next hb)
   replace HB:=Lib.hid (HB.out.next hb)
   replace P1:=Lib.hid (P1.out.next hb)
   replace J1:=Lib.hid (J1.out.next hb)
   replace P2:=Lib.hid (P2.out.next hb)
   replace J2:=Lib.hid (J2.out.next hb)
   replace HBL:=Lib.hid (HBL.out.trans (hb.mono HBL.out.size))
   clear hb
   obtain⟨e0,e1⟩:=J1.out.cells
   obtain⟨f0,f1⟩:=J2.out.cells
   have hj:=sU i j
   go_wp2
   go_ret
   exact⟨rfl,HBL.out⟩
end Go.Proofs.YtmdbfogjfbbpjaaGreatDoor
