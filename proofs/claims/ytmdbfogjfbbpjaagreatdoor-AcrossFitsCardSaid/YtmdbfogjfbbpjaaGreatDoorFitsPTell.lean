import Derived.Test.YtmdbfogjfbbpjaaGreatDoorMem
import Derived.Test.YtmdbfogjfbbpjaaGreatDoorLineMath
import Derived.Test.YtmdbfogjfbbpjaaGreatDoorTicketPRightK
import Derived.Test.YtmdbfogjfbbpjaaGreatDoorTrackBackMath
import Derived.Test.YtmdbfogjfbbpjaaGreatDoorAcrossCrossed
import Derived.Test.YtmdbfogjfbbpjaaGreatDoorEqualBytes
import Derived.Test.YtmdbfogjfbbpjaaGreatDoorRingAddMath
set_option maxHeartbeats 1600000
set_option maxRecDepth 100000
set_option linter.unusedVariables false
namespace Go.Proofs.YtmdbfogjfbbpjaaGreatDoor
open Go.ChangeShapes Go.WideShapes Go.ChangeAt Go.RowKit

theorem Ly (t:Tk) (b:Bool) (hb:Ub t=b) (w:World):Calls Tryz.prog 19 #[.agg #[.int .i64 t.ser, .int .i64 t.kind, .int .i64 t.frm, .int .i64 t.till, .int .i64 t.cls, .int .i64 t.card, .int .i64 t.seat, .int .i64 t.day, .int .i64 t.days, .int .i64 t.uses, .int .i64 t.epoch]] w fun e w'=>e= .returned (.bool b)∧Below w.heap.size w w':=by
 have HBL:=Lib.hid (Below.refl w.heap.size w)
 have HB:=Lib.hid (show(okT t&&(decide (t.ser≤9999999)&&(t.seat==0)))=b from hb)
 clear hb
 cases h0:okT t<;>cases h1:decide (t.ser≤9999999)<;>cases h2:(t.seat==0)
 all_goals
  have hb:=HB.out
  rw[h0,h1,h2]at hb
  subst hb
  have H0:=Lib.hid h0
  clear h0
  go_enter Tryz.func19, Tryz.ntmps19
  go_wp2_with fail
  obtain⟨w1,hw,hx,hb⟩:=AeT w t
  rw[←hw]
  replace HBL:=Lib.hid (HBL.out.trans (hb.mono HBL.out.size))
  have X1:=Lib.hid hx
  clear hx hb hw
  obtain⟨B1,hB⟩: ∃B,B=w.heap.size:=⟨_,rfl⟩
  rw[←hB]at X1⊢
  clear hB
  refine(Kr t _ H0.out w1).mono ?_
  rintro e w2 ⟨rfl,hb⟩
  replace X1:=Lib.hid (X1.out.next hb)
  replace HBL:=Lib.hid (HBL.out.trans (hb.mono HBL.out.size))
  clear hb
  obtain⟨c0,c1,c2,c3,c4,c5,c6,c7,c8,c9,c10⟩:=X1.out.cells
  go_wp2
  go_ret
  exact⟨rfl,HBL.out⟩
theorem AfR (rs su d0 d1 f:Bool) (h1: ¬(rs=true∧su=true∧f=true)) (h2: ¬(su=true∧d0=true∧d1=true∧rs=false)):
  (su=false∧rs=false)∨(su=false∧rs=true)∨(su=true∧rs=false∧d0=false)∨(su=true∧rs=false∧d0=true∧d1=false)∨(su=true∧rs=true∧f=false∧d0=false)∨(su=true∧rs=true∧f=false∧d0=true∧d1=false)∨(su=true∧rs=true∧f=false∧d0=true∧d1=true):=by
 cases rs<;>cases su<;>cases d0<;>cases d1<;>cases f<;>simp_all
theorem qB (C:XC) (l:List K) (n:Nat) (hn:n=l.length) (hn3:n≤9223372036854775807) (A:Option Addr) (c:Nat) (b:List Nat) (m:Nat) (hm:m=b.length) (B:Option Addr) (d:Nat) (i j k:Int) (hi:Cl i) (hj:Cl j) (hk:Cl k) (h47:m≤140737488355328) (w:World) (hT:Cx w) (hA:Ks w w.heap.size A l) (hB:Bs w w.heap.size b B d):Calls Tryz.prog 7 #[.slice A n c, .slice B m d, .agg #[.int .i64 i, .int .i64 j], .int .i64 k] w fun e w'=>e= .returned (.bool true)∧Below w.heap.size w w':=by
 have hm2:=hB.len
 have hm3:=hB.cap
 have hb256:=hB.lt
 have HN:=Lib.hid hn
 have HM:=Lib.hid hm
 have HT:=Lib.hid hT
 have HA:=Lib.hid hA
 have HB:=Lib.hid hB
 have HBT:=Lib.hid hb256
 clear hn hm hT hA hB hb256
 obtain⟨bb,hbb⟩: ∃bb,Ss l=bb:=⟨_,rfl⟩
 have HBB:=Lib.hid hbb
 clear hbb
 obtain⟨G,r,hD⟩: ∃G r,Gs l b=(G,r):=⟨_,_,rfl⟩
 obtain⟨E,p,hE⟩: ∃E p,toS l b i j k=(E,p):=⟨_,_,rfl⟩
 have HE:=Lib.hid hE
 have HD:=Lib.hid hD
 clear hE hD
 have HBL:=Lib.hid (Below.refl w.heap.size w)
 go_enter Tryz.func7, Tryz.ntmps7
 go_wp2_with fail
 obtain⟨w1,hw⟩: ∃w1,w1=w.alloc (.cells #[.int .i64 i, .int .i64 j] 26):=⟨_,rfl⟩
 rw[←hw]
 have hx:Cd w1 w.heap.size i j:=by rw[hw];exact Cd.new w i j
 have hb:Below w.heap.size w w1:=by rw[hw];exact Aa w _ _
 replace HT:=Lib.hid (HT.out.next hb)
 replace HA:=Lib.hid (HA.out.next hb)
 replace HB:=Lib.hid (HB.out.next hb)
 replace HBL:=Lib.hid (HBL.out.trans (hb.mono HBL.out.size))
 have J1:=Lib.hid hx
 clear hx hb hw
 obtain⟨B1,hB⟩: ∃B,B=w.heap.size:=⟨_,rfl⟩
 rw[←hB]at J1⊢
 clear hB
 refine(Rq l n HN.out hn3 b m HM.out h47 A c B d G r HD.out w1 HT.out HA.out HB.out).mono ?_
 rintro e w2 ⟨rfl,hb⟩
 replace HT:=Lib.hid (HT.out.next hb)
 replace HA:=Lib.hid (HA.out.next hb)
 replace HB:=Lib.hid (HB.out.next hb)
 replace J1:=Lib.hid (J1.out.next hb)
 replace HBL:=Lib.hid (HBL.out.trans (hb.mono HBL.out.size))
 clear hb
 have J1a:=Lib.hid (J1.out.alloc (.cells #[.int .i64 r.t.ser, .int .i64 r.t.kind, .int .i64 r.t.frm, .int .i64 r.t.till, .int .i64 r.t.cls, .int .i64 r.t.card, .int .i64 r.t.seat, .int .i64 r.t.day, .int .i64 r.t.days, .int .i64 r.t.uses, .int .i64 r.t.epoch, .int .i64 r.key, .int .i64 r.left, .int .i64 r.inn, .int .i64 r.ver] 39))
 obtain⟨e0,e1⟩:=J1a.out.cells
 go_wp2_with fail
 obtain⟨w3,hw,hx,hb⟩:=El w2 r
 rw[←hw]
 clear e0 e1
 replace HT:=Lib.hid (HT.out.next hb)
 replace HA:=Lib.hid (HA.out.next hb)
 replace HB:=Lib.hid (HB.out.next hb)
 replace J1:=Lib.hid (J1.out.next hb)
 replace HBL:=Lib.hid (HBL.out.trans (hb.mono HBL.out.size))
 have X1:=Lib.hid hx
 clear hx hb hw
 obtain⟨B2,hB⟩: ∃B,B=w2.heap.size:=⟨_,rfl⟩
 rw[←hB]at X1⊢
 clear hB
 clear J1a
 refine(C.tos l n b m A c B d i j k E p w3 HN.out hn3 HM.out h47 hi hj hk HE.out HT.out HA.out HB.out).mono ?_
 rintro e w4 ⟨AP1,cP1,rfl,hs,hb⟩
 replace HT:=Lib.hid (HT.out.next hb)
 replace HA:=Lib.hid (HA.out.next hb)
 replace HB:=Lib.hid (HB.out.next hb)
 replace J1:=Lib.hid (J1.out.next hb)
 replace X1:=Lib.hid (X1.out.next hb)
 replace HBL:=Lib.hid (HBL.out.trans (hb.mono HBL.out.size))
 have P1:=Lib.hid hs
 clear hb hs
 go_wp2_with fail
 refine(Dd l n HN.out bb HBB.out A c w4 HA.out hn3).mono ?_
 rintro e w5 ⟨rfl,hb⟩
 replace HT:=Lib.hid (HT.out.next hb)
 replace HA:=Lib.hid (HA.out.next hb)
 replace HB:=Lib.hid (HB.out.next hb)
 replace J1:=Lib.hid (J1.out.next hb)
 replace X1:=Lib.hid (X1.out.next hb)
 replace P1:=Lib.hid (P1.out.next hb)
 replace HBL:=Lib.hid (HBL.out.trans (hb.mono HBL.out.size))
 clear hb
 cases bb
 rotate_left
 focus
  go_wp2_with fail
  refine(Az C w5 HT.out).mono ?_
  rintro e w6 ⟨rfl,hb⟩
  replace HT:=Lib.hid (HT.out.next hb)
  replace HA:=Lib.hid (HA.out.next hb)
  replace HB:=Lib.hid (HB.out.next hb)
  replace J1:=Lib.hid (J1.out.next hb)
  replace X1:=Lib.hid (X1.out.next hb)
  replace P1:=Lib.hid (P1.out.next hb)
  replace HBL:=Lib.hid (HBL.out.trans (hb.mono HBL.out.size))
  clear hb
  go_wp2_with fail
  refine(Dd l n HN.out true HBB.out A c w6 HA.out hn3).mono ?_
  rintro e w7 ⟨rfl,hb⟩
  replace HT:=Lib.hid (HT.out.next hb)
  replace HA:=Lib.hid (HA.out.next hb)
  replace HB:=Lib.hid (HB.out.next hb)
  replace J1:=Lib.hid (J1.out.next hb)
  replace X1:=Lib.hid (X1.out.next hb)
  replace P1:=Lib.hid (P1.out.next hb)
  replace HBL:=Lib.hid (HBL.out.trans (hb.mono HBL.out.size))
  clear hb
  go_wp2
  go_ret
  exact⟨rfl,HBL.out⟩
 rotate_left
 focus
  by_cases q0:2000<m
  focus
   have p0:(2000:Int)<(m:Int):=by omega
   go_wp2_with fail
   refine(Az C w5 HT.out).mono ?_
   rintro e w6 ⟨rfl,hb⟩
   replace HT:=Lib.hid (HT.out.next hb)
   replace HA:=Lib.hid (HA.out.next hb)
   replace HB:=Lib.hid (HB.out.next hb)
   replace J1:=Lib.hid (J1.out.next hb)
   replace X1:=Lib.hid (X1.out.next hb)
   replace P1:=Lib.hid (P1.out.next hb)
   replace HBL:=Lib.hid (HBL.out.trans (hb.mono HBL.out.size))
   clear hb
   go_wp2_with fail
   refine(Dd l n HN.out false HBB.out A c w6 HA.out hn3).mono ?_
   rintro e w7 ⟨rfl,hb⟩
   replace HT:=Lib.hid (HT.out.next hb)
   replace HA:=Lib.hid (HA.out.next hb)
   replace HB:=Lib.hid (HB.out.next hb)
   replace J1:=Lib.hid (J1.out.next hb)
   replace X1:=Lib.hid (X1.out.next hb)
   replace P1:=Lib.hid (P1.out.next hb)
   replace HBL:=Lib.hid (HBL.out.trans (hb.mono HBL.out.size))
   clear hb
   go_wp2
   go_ret
   exact⟨rfl,HBL.out⟩
  rotate_left
  focus
   have p0: ¬((2000:Int)<(m:Int)):=by omega
   by_cases h0:G≠0
   focus
    obtain⟨hEG,hp⟩:(G:Int)=E∧[]=p:=by have h:=HE.out;rw[toS,HD.out,if_pos h0]at h;exact Prod.mk.inj h
    subst hEG hp
    have s1:((G:Int)==0)=false:=by rw[beq_eq_false_iff_ne];omega
    have s2:((G:Int) !=0)=true:=by rw[bne_iff_ne];omega
    have s3:(G==0)=false:=by rw[beq_eq_false_iff_ne];exact h0
    have s4:(G !=0)=true:=by rw[bne_iff_ne];exact h0
    clear h0
    go_wp2_with fail
    refine(Az C w5 HT.out).mono ?_
    rintro e w6 ⟨rfl,hb⟩
    replace HT:=Lib.hid (HT.out.next hb)
    replace HA:=Lib.hid (HA.out.next hb)
    replace HB:=Lib.hid (HB.out.next hb)
    replace J1:=Lib.hid (J1.out.next hb)
    replace X1:=Lib.hid (X1.out.next hb)
    replace P1:=Lib.hid (P1.out.next hb)
    replace HBL:=Lib.hid (HBL.out.trans (hb.mono HBL.out.size))
    clear hb
    go_wp2_with fail
    refine(Dd l n HN.out false HBB.out A c w6 HA.out hn3).mono ?_
    rintro e w7 ⟨rfl,hb⟩
    replace HT:=Lib.hid (HT.out.next hb)
    replace HA:=Lib.hid (HA.out.next hb)
    replace HB:=Lib.hid (HB.out.next hb)
    replace J1:=Lib.hid (J1.out.next hb)
    replace X1:=Lib.hid (X1.out.next hb)
    replace P1:=Lib.hid (P1.out.next hb)
    replace HBL:=Lib.hid (HBL.out.trans (hb.mono HBL.out.size))
    clear hb
    go_wp2
    go_ret
    exact⟨rfl,HBL.out⟩
   rotate_left
   focus
    obtain rfl:=Decidable.not_not.1 h0
    clear h0
    obtain⟨f1,f2,f3⟩:=Ae7 HD.out HE.out
    obtain⟨q,hq⟩: ∃q,q=Bn l k:=⟨_,rfl⟩
    obtain⟨F,hF⟩: ∃F,F=As l k:=⟨_,rfl⟩
    rw[←hF]at f1 f2
    obtain⟨rs,hrs⟩: ∃rs,Ub r.t=rs:=⟨_,rfl⟩
    obtain⟨su,hsu⟩: ∃su,Ft r.t.uses i j=su:=⟨_,rfl⟩
    rw[hrs,hsu]at f1 f2 f3
    have HQ:=Lib.hid hq
    have HF:=Lib.hid hF
    have HRS:=Lib.hid hrs
    have HSU:=Lib.hid hsu
    have F1:=Lib.hid f1
    have F2:=Lib.hid f2
    have F3:=Lib.hid f3
    clear hq hF hrs hsu f1 f2 f3
    go_wp2_with fail
    refine(Ip l n HN.out k A c w5 HA.out hn3 q F HQ.out HF.out).mono ?_
    rintro e w6 ⟨S,cc,rfl,hs,hb⟩
    replace HT:=Lib.hid (HT.out.next hb)
    replace HA:=Lib.hid (HA.out.next hb)
    replace HB:=Lib.hid (HB.out.next hb)
    replace J1:=Lib.hid (J1.out.next hb)
    replace X1:=Lib.hid (X1.out.next hb)
    replace P1:=Lib.hid (P1.out.next hb)
    replace HBL:=Lib.hid (HBL.out.trans (hb.mono HBL.out.size))
    have FS:=Lib.hid hs
    clear hb hs
    have X1a:=Lib.hid (X1.out.alloc (.cells #[.int .i64 q.id, .slice S q.sec.length cc, .int .i64 q.frm, .int .i64 q.til] 44))
    obtain⟨c0,c1,c2,c3,c4,c5,c6,c7,c8,c9,c10,c11,c12,c13,c14⟩:=X1a.out.cells
    go_wp2_with fail
    clear c0 c1 c2 c3 c4 c5 c6 c7 c8 c9 c10 c11 c12 c13 c14 X1a
    obtain⟨w50,hw,hx,hb⟩:=Ik w6 ⟨q,S,cc⟩ FS.out
    rw[←hw]
    replace HT:=Lib.hid (HT.out.next hb)
    replace HA:=Lib.hid (HA.out.next hb)
    replace HB:=Lib.hid (HB.out.next hb)
    replace J1:=Lib.hid (J1.out.next hb)
    replace X1:=Lib.hid (X1.out.next hb)
    replace P1:=Lib.hid (P1.out.next hb)
    replace FS:=Lib.hid (FS.out.next hb)
    replace HBL:=Lib.hid (HBL.out.trans (hb.mono HBL.out.size))
    clear hx hb hw
    obtain⟨c0,c1,c2,c3,c4,c5,c6,c7,c8,c9,c10,c11,c12,c13,c14⟩:=X1.out.cells
    obtain⟨e0,e1⟩:=J1.out.cells
    by_cases hok:rs=true∧su=true∧F=0
    focus
     obtain⟨rfl,rfl,rfl⟩:=hok
     obtain rfl:=F1.out rfl rfl rfl
     have hpl:0<p.length:=(F2.out rfl).2.2.2
     go_wp2_with (first|(go_at_call 19;(refine(Ly r.t _ HRS.out _).mono ?_;rintro e w60 ⟨rfl,hb⟩;replace HT:=Lib.hid (HT.out.next hb);replace X1:=Lib.hid (X1.out.next hb);replace J1:=Lib.hid (J1.out.next hb);replace HBL:=Lib.hid (HBL.out.trans (hb.mono HBL.out.size));clear hb c0 c1 c2 c3 c4 c5 c6 c7 c8 c9 c10 c11 c12 c13 c14 e0 e1;obtain⟨c0,c1,c2,c3,c4,c5,c6,c7,c8,c9,c10,c11,c12,c13,c14⟩:=X1.out.cells;obtain⟨e0,e1⟩:=J1.out.cells))|(go_at_call 20;(refine(Hs r.t i j _ HSU.out _).mono ?_;rintro e w60 ⟨rfl,hb⟩;replace HT:=Lib.hid (HT.out.next hb);replace X1:=Lib.hid (X1.out.next hb);replace J1:=Lib.hid (J1.out.next hb);replace HBL:=Lib.hid (HBL.out.trans (hb.mono HBL.out.size));clear hb c0 c1 c2 c3 c4 c5 c6 c7 c8 c9 c10 c11 c12 c13 c14 e0 e1;obtain⟨c0,c1,c2,c3,c4,c5,c6,c7,c8,c9,c10,c11,c12,c13,c14⟩:=X1.out.cells;obtain⟨e0,e1⟩:=J1.out.cells))|(go_at_call 11;(refine(Az C _ HT.out).mono ?_;rintro e w60 ⟨rfl,hb⟩;replace HT:=Lib.hid (HT.out.next hb);replace X1:=Lib.hid (X1.out.next hb);replace J1:=Lib.hid (J1.out.next hb);replace HBL:=Lib.hid (HBL.out.trans (hb.mono HBL.out.size));clear hb c0 c1 c2 c3 c4 c5 c6 c7 c8 c9 c10 c11 c12 c13 c14 e0 e1;obtain⟨c0,c1,c2,c3,c4,c5,c6,c7,c8,c9,c10,c11,c12,c13,c14⟩:=X1.out.cells;obtain⟨e0,e1⟩:=J1.out.cells)))
     go_ret
     exact⟨rfl,HBL.out⟩
    rotate_left
    focus
     have h0:E≠0:=fun h=>hok ⟨(F2.out h).1,(F2.out h).2.1,(F2.out h).2.2.1⟩
     obtain rfl:=AcG HE.out h0
     have s1:(E==0)=false:=by rw[beq_eq_false_iff_ne];exact h0
     have s2:(E !=0)=true:=by rw[bne_iff_ne];exact h0
     by_cases h18:E=18
     focus
      obtain⟨rfl,g1,g2,rfl⟩:=F3.out.1 h18
      subst h18
      clear s1 s2 h0 hok
      have k0:(0:Int)≤k:=g1
      have k1:k≤(99:Int):=g2
      go_wp2_with (first|(go_at_call 19;(refine(Ly r.t _ HRS.out _).mono ?_;rintro e w60 ⟨rfl,hb⟩;replace HT:=Lib.hid (HT.out.next hb);replace X1:=Lib.hid (X1.out.next hb);replace J1:=Lib.hid (J1.out.next hb);replace HBL:=Lib.hid (HBL.out.trans (hb.mono HBL.out.size));clear hb c0 c1 c2 c3 c4 c5 c6 c7 c8 c9 c10 c11 c12 c13 c14 e0 e1;obtain⟨c0,c1,c2,c3,c4,c5,c6,c7,c8,c9,c10,c11,c12,c13,c14⟩:=X1.out.cells;obtain⟨e0,e1⟩:=J1.out.cells))|(go_at_call 20;(refine(Hs r.t i j _ HSU.out _).mono ?_;rintro e w60 ⟨rfl,hb⟩;replace HT:=Lib.hid (HT.out.next hb);replace X1:=Lib.hid (X1.out.next hb);replace J1:=Lib.hid (J1.out.next hb);replace HBL:=Lib.hid (HBL.out.trans (hb.mono HBL.out.size));clear hb c0 c1 c2 c3 c4 c5 c6 c7 c8 c9 c10 c11 c12 c13 c14 e0 e1;obtain⟨c0,c1,c2,c3,c4,c5,c6,c7,c8,c9,c10,c11,c12,c13,c14⟩:=X1.out.cells;obtain⟨e0,e1⟩:=J1.out.cells))|(go_at_call 11;(refine(Az C _ HT.out).mono ?_;rintro e w60 ⟨rfl,hb⟩;replace HT:=Lib.hid (HT.out.next hb);replace X1:=Lib.hid (X1.out.next hb);replace J1:=Lib.hid (J1.out.next hb);replace HBL:=Lib.hid (HBL.out.trans (hb.mono HBL.out.size));clear hb c0 c1 c2 c3 c4 c5 c6 c7 c8 c9 c10 c11 c12 c13 c14 e0 e1;obtain⟨c0,c1,c2,c3,c4,c5,c6,c7,c8,c9,c10,c11,c12,c13,c14⟩:=X1.out.cells;obtain⟨e0,e1⟩:=J1.out.cells)))
      go_ret
      exact⟨rfl,HBL.out⟩
     rotate_left
     focus
      have s3:(E==18)=false:=by rw[beq_eq_false_iff_ne];exact h18
      have hno: ¬(su=true∧decide (0≤k)=true∧decide (k≤99)=true∧rs=false):=fun h=>h18 (F3.out.2 ⟨h.1,of_decide_eq_true h.2.1,of_decide_eq_true h.2.2.1,h.2.2.2⟩)
      have hok': ¬(rs=true∧su=true∧(F==0)=true):=fun h=>hok ⟨h.1,h.2.1,beq_iff_eq.1 h.2.2⟩
      have h7:=AfR rs su _ _ _ hok' hno
      clear hok hok' hno h18 h0
      rcases h7 with⟨rfl,rfl⟩|⟨rfl,rfl⟩|⟨rfl,rfl,k0⟩|⟨rfl,rfl,k0,k1⟩|⟨rfl,rfl,f0,k0⟩|⟨rfl,rfl,f0,k0,k1⟩|⟨rfl,rfl,f0,k0,k1⟩
      all_goals
       go_wp2_with (first|(go_at_call 19;(refine(Ly r.t _ HRS.out _).mono ?_;rintro e w60 ⟨rfl,hb⟩;replace HT:=Lib.hid (HT.out.next hb);replace X1:=Lib.hid (X1.out.next hb);replace J1:=Lib.hid (J1.out.next hb);replace HBL:=Lib.hid (HBL.out.trans (hb.mono HBL.out.size));clear hb c0 c1 c2 c3 c4 c5 c6 c7 c8 c9 c10 c11 c12 c13 c14 e0 e1;obtain⟨c0,c1,c2,c3,c4,c5,c6,c7,c8,c9,c10,c11,c12,c13,c14⟩:=X1.out.cells;obtain⟨e0,e1⟩:=J1.out.cells))|(go_at_call 20;(refine(Hs r.t i j _ HSU.out _).mono ?_;rintro e w60 ⟨rfl,hb⟩;replace HT:=Lib.hid (HT.out.next hb);replace X1:=Lib.hid (X1.out.next hb);replace J1:=Lib.hid (J1.out.next hb);replace HBL:=Lib.hid (HBL.out.trans (hb.mono HBL.out.size));clear hb c0 c1 c2 c3 c4 c5 c6 c7 c8 c9 c10 c11 c12 c13 c14 e0 e1;obtain⟨c0,c1,c2,c3,c4,c5,c6,c7,c8,c9,c10,c11,c12,c13,c14⟩:=X1.out.cells;obtain⟨e0,e1⟩:=J1.out.cells))|(go_at_call 11;(refine(Az C _ HT.out).mono ?_;rintro e w60 ⟨rfl,hb⟩;replace HT:=Lib.hid (HT.out.next hb);replace X1:=Lib.hid (X1.out.next hb);replace J1:=Lib.hid (J1.out.next hb);replace HBL:=Lib.hid (HBL.out.trans (hb.mono HBL.out.size));clear hb c0 c1 c2 c3 c4 c5 c6 c7 c8 c9 c10 c11 c12 c13 c14 e0 e1;obtain⟨c0,c1,c2,c3,c4,c5,c6,c7,c8,c9,c10,c11,c12,c13,c14⟩:=X1.out.cells;obtain⟨e0,e1⟩:=J1.out.cells)))
       go_ret
       exact⟨rfl,HBL.out⟩
end Go.Proofs.YtmdbfogjfbbpjaaGreatDoor
