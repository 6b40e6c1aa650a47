import Derived.Test.YtmdbfogjfbbpjaaGreatDoorTrackPGet
import Derived.Test.YtmdbfogjfbbpjaaGreatDoorLayPTold
import Derived.Test.YtmdbfogjfbbpjaaGreatDoorLayPFields
import Derived.Test.YtmdbfogjfbbpjaaGreatDoorTicketPRightK
import Derived.OwnWalk
import Derived.Test.YtmdbfogjfbbpjaaGreatDoorRingPFind
set_option maxHeartbeats 1600000
set_option maxRecDepth 100000
set_option linter.unusedVariables false
namespace Go.Proofs.YtmdbfogjfbbpjaaGreatDoor
open Go.ChangeShapes Go.WideShapes Go.ChangeAt Go.RowKit
theorem AdJ (l:List Nat) (n:Nat) (hn:n=l.length) (E:Int) (r:Rg) (hE:By l=(E,r)) (A:Option Addr) (c:Nat) (w:World) (hA:Bs w w.heap.size l A c) (h:l=[]):Calls Tryz.prog 78 #[.slice A n c] w fun e w'=>e= .returned (.tuple #[.agg #[.int .i64 r.t.ser, .int .i64 r.t.kind, .int .i64 r.t.frm, .int .i64 r.t.till, .int .i64 r.t.cls, .int .i64 r.t.card, .int .i64 r.t.seat, .int .i64 r.t.day, .int .i64 r.t.days, .int .i64 r.t.uses, .int .i64 r.t.epoch, .int .i64 r.key, .int .i64 r.left, .int .i64 r.inn, .int .i64 r.ver], .int .i64 E])∧Below w.heap.size w w':=by
 subst h
 obtain⟨rfl,rfl⟩:E=14∧r=Ah:=by have:=hE;exact⟨(Prod.mk.inj this).1.symm,(Prod.mk.inj this).2.symm⟩
 obtain rfl:n=0:=hn
 clear hE
 go_enter Tryz.func78, Tryz.ntmps78
 go_wp2_with (go_at_call 134;refine(gW c A _).mono ?_;rintro e w1 ⟨rfl,rfl⟩)
 exact bodyPost_ret (Ab Tryz.results78 _ _ w.heap.size 39 #[.int .i64 0, .int .i64 0, .int .i64 0, .int .i64 0, .int .i64 0, .int .i64 0, .int .i64 0, .int .i64 0, .int .i64 0, .int .i64 0, .int .i64 0, .int .i64 0, .int .i64 0, .int .i64 0, .int .i64 0] (0,0) _ rfl (heap_alloc_new w _) Tryz.underlying39 rfl Ai) rfl ⟨rfl,Aa w _ _⟩
theorem wN (x:Nat) (q:List Nat) (n:Nat) (hn:n=(x::q).length) (E:Int) (r:Rg) (hE:By (x::q)=(E,r)) (A:Option Addr) (c:Nat) (w:World) (hA:Bs w w.heap.size (x::q) A c):Calls Tryz.prog 78 #[.slice A n c] w fun e w'=>e= .returned (.tuple #[.agg #[.int .i64 r.t.ser, .int .i64 r.t.kind, .int .i64 r.t.frm, .int .i64 r.t.till, .int .i64 r.t.cls, .int .i64 r.t.card, .int .i64 r.t.seat, .int .i64 r.t.day, .int .i64 r.t.days, .int .i64 r.t.uses, .int .i64 r.t.epoch, .int .i64 r.key, .int .i64 r.left, .int .i64 r.inn, .int .i64 r.ver], .int .i64 E])∧Below w.heap.size w w':=by
 have HN:=Lib.hid hn
 have HA:=Lib.hid hA
 clear hn hA
 by_cases hx:9<x
 ·obtain⟨rfl,rfl⟩:=Prod.mk.inj ((show By (x::q)=(7,Ah) by rw[By,if_pos hx]).symm.trans hE)
  have HG:=Lib.hid (show Bt [x]=(7,0) by rw[Ye,if_pos hx])
  clear hE hx
  go_enter Tryz.func78, Tryz.ntmps78
  go_wp2_with fail
  refine(Si x q n HN.out _ _ HG.out A c _ (HA.out.next (Aa w _ _))).mono ?_
  rintro e w1 ⟨rfl,rfl⟩
  go_wp2
  exact bodyPost_ret (Ab Tryz.results78 _ _ w.heap.size 39 #[.int .i64 0, .int .i64 0, .int .i64 0, .int .i64 0, .int .i64 0, .int .i64 0, .int .i64 0, .int .i64 0, .int .i64 0, .int .i64 0, .int .i64 0, .int .i64 0, .int .i64 0, .int .i64 0, .int .i64 0] (0,0) _ rfl (heap_alloc_new w _) Tryz.underlying39 rfl Ai) rfl ⟨rfl,Aa w _ _⟩
 rw[By,if_neg hx]at hE
 have HG:=Lib.hid (show Bt [x]=(0,x) by rw[Ye,if_neg hx])
 obtain⟨m,hm⟩: ∃m,m=(Au x).length:=⟨_,rfl⟩
 obtain⟨W,hW⟩: ∃W,Gy x=W:=⟨_,rfl⟩
 rw[hW]at hE
 have HWE:=Lib.hid hW
 have HWN:=Lib.hid hm
 have HE:=Lib.hid hE
 clear hx hm hW hE
 go_enter Tryz.func78, Tryz.ntmps78
 go_wp2_with fail
 refine(Si x q n HN.out _ _ HG.out A c _ (HA.out.next (Aa w _ _))).mono ?_
 rintro e w1 ⟨rfl,rfl⟩
 go_wp2_with fail
 refine(lG x _ (Au x) _ HWN.out HWE.out rfl _).mono ?_
 rintro e w2 ⟨AW,cW,rfl,hz,hb⟩
 have HZ:=Lib.hid hz
 have XD:=Lib.hid ((Am.new w Ah).next hb)
 have HBL:=Lib.hid (Ay _ _ hb)
 replace HA:=Lib.hid (HA.out.next (Ay _ _ hb))
 clear hz hb
 have hE:=HE.out
 clear HE
 by_cases hw:W≠0
 focus
  rw[if_pos (by simpa using hw)]at hE
  obtain rfl:W=8:=by have h2:=HWE.out;rw[Gy]at h2;split at h2<;>omega
  obtain⟨rfl,rfl⟩:=Prod.mk.inj hE
  clear hw
 rotate_left
 focus
  obtain rfl:=Decidable.not_not.1 hw
  rw[if_neg (by simp)]at hE
  have hw1:1≤(x:Int)∧(x:Int)≤4:=Decidable.by_contra fun h=>by have h2:=HWE.out;rw[Gy,if_neg h]at h2;exact absurd h2 (by decide)
  have HK:=Lib.hid hw1
  obtain⟨Z,v,hs⟩: ∃Z v,Bq (x::q) (Au x)=(Z,v):=⟨_,_,rfl⟩
  rw[Yd,hs]at hE
  have HS:=Lib.hid hs
  have HE:=Lib.hid hE
  clear hw hw1 hs hE
  go_wp2_with fail
  refine(nG (x::q) (Au x) n m HN.out HWN.out _ _ HS.out A AW c cW _ HA.out HZ.out).mono ?_
  rintro e w3 ⟨AS,cS,rfl,hz,hb⟩
  have HV:=Lib.hid hz
  replace XD:=Lib.hid (XD.out.next hb)
  replace HBL:=Lib.hid (HBL.out.trans (hb.mono HBL.out.size))
  clear hz hb
  have hE:=HE.out
  clear HE
  by_cases hz:Z≠0
  focus
   rw[if_pos hz]at hE
   have s1:(Z==0)=false:=by rw[beq_eq_false_iff_ne];exact hz
   have s2:(Z !=0)=true:=by rw[bne_iff_ne];exact hz
   obtain⟨rfl,rfl⟩:=Prod.mk.inj hE
   clear hz
  rotate_left
  focus
   obtain rfl:=Decidable.not_not.1 hz
   rw[if_neg hz]at hE
   obtain⟨t,ht⟩: ∃t,Eh x v=t:=⟨_,rfl⟩
   simp only[ht]at hE
   have HVL:=Lib.hid (Qe HS.out)
   obtain⟨k,hk⟩: ∃k,k=v.length:=⟨_,rfl⟩
   rw[←hk]
   have HKV:=Lib.hid hk
   have HT:=Lib.hid ht
   obtain⟨b1,h1⟩: ∃b1,okT t.t=b1:=⟨_,rfl⟩
   obtain⟨b2,h2⟩: ∃b2,Ft t.t.uses t.left t.inn=b2:=⟨_,rfl⟩
   have hr:Ga t=(b1&&b2):=by rw[←h1, ←h2,Bool.eq_iff_iff,Ec,Bool.and_eq_true]
   rw[hr]at hE
   have H1:=Lib.hid h1
   have H2:=Lib.hid h2
   have HE:=Lib.hid hE
   clear hz hk ht h1 h2 hr hE
   go_wp2_with fail
   refine(yS x HK.out v k HKV.out HVL.out t HT.out AS cS _ HV.out).mono ?_
   rintro e w4 ⟨rfl,hb⟩
   replace XD:=Lib.hid ((XD.out.next hb).alloc (.cells #[.int .i64 t.t.ser, .int .i64 t.t.kind, .int .i64 t.t.frm, .int .i64 t.t.till, .int .i64 t.t.cls, .int .i64 t.t.card, .int .i64 t.t.seat, .int .i64 t.t.day, .int .i64 t.t.days, .int .i64 t.t.uses, .int .i64 t.t.epoch, .int .i64 t.key, .int .i64 t.left, .int .i64 t.inn, .int .i64 t.ver] 39))
   have HT5:=Lib.hid (Am.new w4 t)
   replace HBL:=Lib.hid ((HBL.out.trans (hb.mono HBL.out.size)).trans ((Aa w4 #[.int .i64 t.t.ser, .int .i64 t.t.kind, .int .i64 t.t.frm, .int .i64 t.t.till, .int .i64 t.t.cls, .int .i64 t.t.card, .int .i64 t.t.seat, .int .i64 t.t.day, .int .i64 t.t.days, .int .i64 t.t.uses, .int .i64 t.t.epoch, .int .i64 t.key, .int .i64 t.left, .int .i64 t.inn, .int .i64 t.ver] 39).mono (HBL.out.trans (hb.mono HBL.out.size)).size))
   clear hb
   go_wp2_with fail
   refine(Kr t.t b1 H1.out _).mono ?_
   rintro e w6 ⟨rfl,hb⟩
   replace XD:=Lib.hid (XD.out.next hb)
   have HT6:=Lib.hid (HT5.out.next hb)
   replace HBL:=Lib.hid (HBL.out.trans (hb.mono HBL.out.size))
   clear hb
   obtain⟨c0,c1,c2,c3,c4,c5,c6,c7,c8,c9,c10,c11,c12,c13,c14⟩:=HT6.out.cells
   have hE:=HE.out
   clear HE
   cases b1
   focus
    rw[if_neg (by simp)]at hE
    obtain⟨rfl,rfl⟩:=Prod.mk.inj hE
   rotate_left
   focus
    have HE:=Lib.hid hE
    clear hE
    go_wp2_with fail
    refine(Hs t.t t.left t.inn b2 H2.out _).mono ?_
    rintro e w7 ⟨rfl,hb⟩
    clear c0 c1 c2 c3 c4 c5 c6 c7 c8 c9 c10 c11 c12 c13 c14
    replace XD:=Lib.hid (XD.out.next hb)
    have HT7:=Lib.hid (HT6.out.next hb)
    replace HBL:=Lib.hid (HBL.out.trans (hb.mono HBL.out.size))
    clear hb
    obtain⟨d0,d1,d2,d3,d4,d5,d6,d7,d8,d9,d10,d11,d12,d13,d14⟩:=HT7.out.cells
    have hE:=HE.out
    clear HE
    cases b2
    focus
     rw[if_neg (by simp)]at hE
     obtain⟨rfl,rfl⟩:=Prod.mk.inj hE
    rotate_left
    focus
     rw[if_pos (by simp)]at hE
     obtain⟨rfl,rfl⟩:=Prod.mk.inj hE
     go_wp2_with ((with_reducible refine Ac 2 ?_);refine Qk XD.out ?_)
     intro w9 hw9
     go_wp2
     refine bodyPost_ret (Ab Tryz.results78 _ w9 w.heap.size 39 #[.int .i64 t.t.ser, .int .i64 t.t.kind, .int .i64 t.t.frm, .int .i64 t.t.till, .int .i64 t.t.cls, .int .i64 t.t.card, .int .i64 t.t.seat, .int .i64 t.t.day, .int .i64 t.t.days, .int .i64 t.t.uses, .int .i64 t.t.epoch, .int .i64 t.key, .int .i64 t.left, .int .i64 t.inn, .int .i64 t.ver] (0,0) _ rfl (by rw[hw9.out];exact setRow_heap _ _ _ _ _ _ XD.out) Tryz.underlying39 rfl Ai) rfl ⟨rfl, ?_⟩
     rw[hw9.out]
     exact below_setRow HBL.out (Nat.le_refl _) _
 all_goals
  go_wp2_with ((with_reducible refine Ac 2 ?_);refine Qk XD.out ?_)
  intro w9 hw9
  go_wp2
  refine bodyPost_ret (Ab Tryz.results78 _ w9 w.heap.size 39 #[.int .i64 0, .int .i64 0, .int .i64 0, .int .i64 0, .int .i64 0, .int .i64 0, .int .i64 0, .int .i64 0, .int .i64 0, .int .i64 0, .int .i64 0, .int .i64 0, .int .i64 0, .int .i64 0, .int .i64 0] (0,0) _ rfl (by rw[hw9.out];exact setRow_heap _ _ _ _ _ _ XD.out) Tryz.underlying39 rfl Ai) rfl ⟨rfl, ?_⟩
  rw[hw9.out]
  exact below_setRow HBL.out (Nat.le_refl _) _
theorem kY (l:List Nat) (n:Nat) (hn:n=l.length) (E:Int) (r:Rg) (hE:By l=(E,r)) (A:Option Addr) (c:Nat) (w:World) (hA:Bs w w.heap.size l A c):Calls Tryz.prog 78 #[.slice A n c] w fun e w'=>e= .returned (.tuple #[.agg #[.int .i64 r.t.ser, .int .i64 r.t.kind, .int .i64 r.t.frm, .int .i64 r.t.till, .int .i64 r.t.cls, .int .i64 r.t.card, .int .i64 r.t.seat, .int .i64 r.t.day, .int .i64 r.t.days, .int .i64 r.t.uses, .int .i64 r.t.epoch, .int .i64 r.key, .int .i64 r.left, .int .i64 r.inn, .int .i64 r.ver], .int .i64 E])∧Below w.heap.size w w':=by
 match l,hn,hE,hA with
 |[],hn,hE,hA=>exact AdJ [] n hn E r hE A c w hA rfl
 |x::q,hn,hE,hA=>exact wN x q n hn E r hE A c w hA
theorem Lu (E:Int) (w:World):Calls Tryz.prog 32 #[.bool true, .int .i64 E] w fun e w'=>e= .returned (.tuple #[])∧w'=w:=by
 go_enter Tryz.func32, Tryz.ntmps32
 go_wp2
 first|(go_end0;exact⟨rfl,rfl⟩)|(go_ret;exact⟨rfl,rfl⟩)
theorem Px (E:Int) (w:World):Calls Tryz.prog 32 #[.bool false, .int .i64 E] w fun e w'=>e= .panicked (Pc E)∧w'=w:=by
 go_enter Tryz.func32, Tryz.ntmps32
 go_wp2
 exact⟨rfl,rfl,rfl⟩
theorem wO (b:List Nat) (n:Nat) (hn:n=b.length) (hn2:n≤1048576) (E:Int) (hE:Gm b=E) (h0:E≠0) (A:Option Addr) (c:Nat) (w:World) (hA:Bs w w.heap.size b A c):Calls Tryz.prog 34 #[.slice A n c] w fun e w'=>e= .panicked (Pc E)∧Below w.heap.size w w':=by
 obtain⟨o,hO⟩: ∃o,Jr b=o:=⟨_,rfl⟩
 obtain⟨p,hP⟩: ∃p,readL b=p:=⟨_,rfl⟩
 have s1:(E==0)=false:=by rw[beq_eq_false_iff_ne];exact h0
 have HN:=Lib.hid hn
 have HE:=Lib.hid hE
 have HO:=Lib.hid hO
 have HP:=Lib.hid hP
 have HA:=Lib.hid hA
 clear hn hE hO hP hA h0
 go_enter Tryz.func34, Tryz.ntmps34
 go_wp2_with fail
 refine(Sj b n HN.out hn2 E HE.out o HO.out p HP.out A c w HA.out).mono ?_
 rintro e w1 ⟨AR,cR,rfl,hs,hb⟩
 have HB:=Lib.hid hb
 clear hs hb
 go_wp2_with fail
 refine(Px E _).mono ?_
 rintro e w2 ⟨rfl,rfl⟩
 go_wp2
 exact⟨rfl,rfl,HB.out⟩
theorem fI (b:List Nat) (n:Nat) (hn:n=b.length) (hn2:n≤1048576) (h0:Gm b=0) (p:List Nat) (hP:readL b=p) (k:Nat) (hk:p.length=k) (h10:k<10) (A:Option Addr) (c:Nat) (w:World) (hA:Bs w w.heap.size b A c):Calls Tryz.prog 34 #[.slice A n c] w fun e w'=>e= .panicked (Pc 14)∧Below w.heap.size w w':=by
 obtain⟨o,hO⟩: ∃o,Jr b=o:=⟨_,rfl⟩
 have s2:decide ((10:Int)≤(k:Int))=false:=decide_eq_false (by omega)
 have HN:=Lib.hid hn
 have HE:=Lib.hid h0
 have HO:=Lib.hid hO
 have HP:=Lib.hid hP
 have HA:=Lib.hid hA
 have HK:=Lib.hid hk
 clear hn h0 hO hP hA hk
 go_enter Tryz.func34, Tryz.ntmps34
 go_wp2_with fail
 refine(Sj b n HN.out hn2 0 HE.out o HO.out p HP.out A c w HA.out).mono ?_
 rintro e w1 ⟨AR,cR,rfl,hs,hb⟩
 have HB:=Lib.hid hb
 clear hs hb
 rw[HK.out]
 go_wp2_with fail
 refine(Lu 0 _).mono ?_
 rintro e w2 ⟨rfl,rfl⟩
 go_wp2_with fail
 refine(Px 14 _).mono ?_
 rintro e w3 ⟨rfl,rfl⟩
 go_wp2
 exact⟨rfl,rfl,HB.out⟩
theorem wP (b:List Nat) (n:Nat) (hn:n=b.length) (hn2:n≤1048576) (h0:Gm b=0) (p:List Nat) (hP:readL b=p) (k m:Nat) (hk:p.length=k) (hm:k=m+10) (A:Option Addr) (c:Nat) (w:World) (hA:Bs w w.heap.size b A c):Calls Tryz.prog 34 #[.slice A n c] w fun e w'=> ∃A1 c1 A2 c2,e= .returned (.tuple #[.slice A1 m c1, .slice A2 10 c2])∧Bs w' w'.heap.size (Cb p) A1 c1∧Bs w' w'.heap.size (Gf p) A2 c2∧Below w.heap.size w w':=by
 obtain⟨o,hO⟩: ∃o,Jr b=o:=⟨_,rfl⟩
 have HN:=Lib.hid hn
 have HE:=Lib.hid h0
 have HO:=Lib.hid hO
 have HP:=Lib.hid hP
 have HA:=Lib.hid hA
 have HK:=Lib.hid hk
 have HM:=Lib.hid hm
 clear hn h0 hO hP hA hk hm
 go_enter Tryz.func34, Tryz.ntmps34
 go_wp2_with fail
 refine(Sj b n HN.out hn2 0 HE.out o HO.out p HP.out A c w HA.out).mono ?_
 rintro e w1 ⟨AR,cR,rfl,hs,hb⟩
 have HB:=Lib.hid hb
 have hcap:=hs.cap
 have hlen:=hs.len
 rw[HK.out]at hlen
 have hm63:m≤9223372036854775807:=by have:=HM.out;omega
 obtain⟨a,rfl⟩: ∃a,AR=some a:=by
  rcases AR with _|a
  ·have h1:=hs.nil rfl
   have h2:=HM.out
   omega
  ·exact⟨a,rfl⟩
 obtain⟨hs1,hs2⟩:=Bs.split hs m (by rw[HK.out,HM.out];omega)
 have e10:p.length - 10=m:=by rw[HK.out,HM.out];omega
 have HS1:=Lib.hid (show Bs w1 w1.heap.size (Cb p) (some a) cR by rw[Cb,e10];exact hs1)
 have HS2:=Lib.hid (show Bs w1 w1.heap.size (Gf p) (some (a.add m)) (cR - m) by rw[Gf,e10];exact hs2)
 have wz:IntKind.i64.wrap ((k:Int) - 10)=(m:Int):=by
  rw[show(k:Int) - 10=(m:Int) by have:=HM.out;omega]
  exact IntWalk.i64_in _ (by omega)
 have mc:m≤cR:=by have:=HM.out;omega
 have mk:m≤k:=by have:=HM.out;omega
 have nc: ¬cR=m:=by have:=HM.out;omega
 clear hs hb hs1 hs2 e10
 rw[HK.out]
 go_wp2_with fail
 refine(Lu 0 _).mono ?_
 rintro e w2 ⟨rfl,rfl⟩
 go_wp2_with fail
 refine(Lu 14 _).mono ?_
 rintro e w3 ⟨rfl,rfl⟩
 go_wp2
 have m0:(0:Int)≤(m:Int):=by omega
 have mci:(m:Int)≤(cR:Int):=by omega
 have mki:(m:Int)≤(k:Int):=by omega
 go_region
 go_wp2
 have hd:Below w3.heap.size w3 w3.drew:=Ae (Below.refl _ _) 1
 rw[show k - m=10 by have:=HM.out;omega]
 go_ret2
 exact⟨_,_,_,_,rfl,HS1.out.next hd,HS2.out.next hd,Ae HB.out 1⟩
theorem Vh (E:Int) (w:World):Calls Tryz.prog 32 #[.bool true, .int .i64 E] w fun e w'=>e= .returned (.tuple #[])∧Below w.heap.size w w':=by
 refine(Lu E w).mono ?_
 rintro e w' ⟨rfl,rfl⟩
 exact⟨rfl,Below.refl _ _⟩
theorem Vi (E:Int) (w:World):Calls Tryz.prog 32 #[.bool false, .int .i64 E] w fun e w'=>e= .panicked (Pc E)∧Below w.heap.size w w':=by
 refine(Px E w).mono ?_
 rintro e w' ⟨rfl,rfl⟩
 exact⟨rfl,Below.refl _ _⟩
theorem Abx (s:List Nat) (m:Nat) (hm:m=s.length) (A:Option Addr) (c:Nat) (w:World) (hA:Bs w w.heap.size s A c) (E:Int) (r:Rg) (hE:By s=(E,r)) (h0:E≠0):Calls Tryz.prog 35 #[.slice A m c] w fun e w'=>e= .panicked (Pc E)∧Below w.heap.size w w':=by
 have s1:(E==0)=false:=by rw[beq_eq_false_iff_ne];exact h0
 clear h0
 have HM:=Lib.hid hm
 have HA:=Lib.hid hA
 have HE:=Lib.hid hE
 clear hm hA hE
 have HBL:=Lib.hid (Below.refl w.heap.size w)
 go_enter Tryz.func35, Tryz.ntmps35
 go_wp2_with fail
 obtain⟨w1,hw⟩: ∃w1,w1=w.alloc (.cells #[.int .i64 0, .int .i64 0, .int .i64 0, .int .i64 0, .int .i64 0, .int .i64 0, .int .i64 0, .int .i64 0, .int .i64 0, .int .i64 0, .int .i64 0, .int .i64 0, .int .i64 0, .int .i64 0, .int .i64 0] 39):=⟨_,rfl⟩
 rw[←hw]
 have hx:Am w1 w.heap.size Ah:=by rw[hw];exact Am.new w Ah
 have hb:Below w.heap.size w w1:=by rw[hw];exact Aa w _ _
 replace HA:=Lib.hid (HA.out.next hb)
 replace HBL:=Lib.hid (HBL.out.trans (hb.mono HBL.out.size))
 have X0:=Lib.hid hx
 clear hx hb hw
 refine(kY s m HM.out E r HE.out A c w1 HA.out).mono ?_
 rintro e w2 ⟨rfl,hb⟩
 replace HA:=Lib.hid (HA.out.next hb)
 replace X0:=Lib.hid (X0.out.next hb)
 replace HBL:=Lib.hid (HBL.out.trans (hb.mono HBL.out.size))
 clear hb
 go_wp2_with fail
 obtain⟨w3,hw,hx,hb⟩:=El w2 r
 rw[←hw]
 replace HA:=Lib.hid (HA.out.next hb)
 replace X0:=Lib.hid (X0.out.next hb)
 replace HBL:=Lib.hid (HBL.out.trans (hb.mono HBL.out.size))
 have X1:=Lib.hid hx
 clear hx hb hw
 obtain⟨B1,hB⟩: ∃B,B=w2.heap.size:=⟨_,rfl⟩
 rw[←hB]at X1⊢
 clear hB
 refine(Vi E w3).mono ?_
 rintro e w4 ⟨rfl,hb⟩
 replace HA:=Lib.hid (HA.out.next hb)
 replace X0:=Lib.hid (X0.out.next hb)
 replace X1:=Lib.hid (X1.out.next hb)
 replace HBL:=Lib.hid (HBL.out.trans (hb.mono HBL.out.size))
 clear hb
 go_wp2
 exact⟨rfl,rfl,HBL.out⟩
theorem Aby (s:List Nat) (m:Nat) (hm:m=s.length) (A:Option Addr) (c:Nat) (w:World) (hA:Bs w w.heap.size s A c) (r:Rg) (hE:By s=(0,r)):Calls Tryz.prog 35 #[.slice A m c] w fun e w'=>e= .returned (.agg #[.int .i64 r.t.ser, .int .i64 r.t.kind, .int .i64 r.t.frm, .int .i64 r.t.till, .int .i64 r.t.cls, .int .i64 r.t.card, .int .i64 r.t.seat, .int .i64 r.t.day, .int .i64 r.t.days, .int .i64 r.t.uses, .int .i64 r.t.epoch, .int .i64 r.key, .int .i64 r.left, .int .i64 r.inn, .int .i64 r.ver])∧Below w.heap.size w w':=by
 have HM:=Lib.hid hm
 have HA:=Lib.hid hA
 have HE:=Lib.hid hE
 clear hm hA hE
 have HBL:=Lib.hid (Below.refl w.heap.size w)
 go_enter Tryz.func35, Tryz.ntmps35
 go_wp2_with fail
 obtain⟨w1,hw⟩: ∃w1,w1=w.alloc (.cells #[.int .i64 0, .int .i64 0, .int .i64 0, .int .i64 0, .int .i64 0, .int .i64 0, .int .i64 0, .int .i64 0, .int .i64 0, .int .i64 0, .int .i64 0, .int .i64 0, .int .i64 0, .int .i64 0, .int .i64 0] 39):=⟨_,rfl⟩
 rw[←hw]
 have hx:Am w1 w.heap.size Ah:=by rw[hw];exact Am.new w Ah
 have hb:Below w.heap.size w w1:=by rw[hw];exact Aa w _ _
 replace HA:=Lib.hid (HA.out.next hb)
 replace HBL:=Lib.hid (HBL.out.trans (hb.mono HBL.out.size))
 have X0:=Lib.hid hx
 clear hx hb hw
 refine(kY s m HM.out 0 r HE.out A c w1 HA.out).mono ?_
 rintro e w2 ⟨rfl,hb⟩
 replace HA:=Lib.hid (HA.out.next hb)
 replace X0:=Lib.hid (X0.out.next hb)
 replace HBL:=Lib.hid (HBL.out.trans (hb.mono HBL.out.size))
 clear hb
 go_wp2_with fail
 obtain⟨w3,hw,hx,hb⟩:=El w2 r
 rw[←hw]
 replace HA:=Lib.hid (HA.out.next hb)
 replace X0:=Lib.hid (X0.out.next hb)
 replace HBL:=Lib.hid (HBL.out.trans (hb.mono HBL.out.size))
 have X1:=Lib.hid hx
 clear hx hb hw
 obtain⟨B1,hB⟩: ∃B,B=w2.heap.size:=⟨_,rfl⟩
 rw[←hB]at X1⊢
 clear hB
 refine(Vh 0 w3).mono ?_
 rintro e w4 ⟨rfl,hb⟩
 replace HA:=Lib.hid (HA.out.next hb)
 replace X0:=Lib.hid (X0.out.next hb)
 replace X1:=Lib.hid (X1.out.next hb)
 replace HBL:=Lib.hid (HBL.out.trans (hb.mono HBL.out.size))
 clear hb
 obtain⟨c0,c1,c2,c3,c4,c5,c6,c7,c8,c9,c10,c11,c12,c13,c14⟩:=X1.out.cells
 go_wp2_with ((with_reducible refine Ac 2 ?_);refine Al X0.out Ai (Bh _ _ _ _ _ _ _ _ _ _ _ _ _ _ _) ?_)
 intro w9 hw9
 go_wp2
 refine bodyPost_ret (results_cell_row Tryz.results35 _ w9 w.heap.size 39 #[.int .i64 r.t.ser, .int .i64 r.t.kind, .int .i64 r.t.frm, .int .i64 r.t.till, .int .i64 r.t.cls, .int .i64 r.t.card, .int .i64 r.t.seat, .int .i64 r.t.day, .int .i64 r.t.days, .int .i64 r.t.uses, .int .i64 r.t.epoch, .int .i64 r.key, .int .i64 r.left, .int .i64 r.inn, .int .i64 r.ver] (0,0) _ rfl (by rw[hw9.out];exact setRow_heap _ _ _ _ _ _ X0.out) Tryz.underlying39 rfl Ai) rfl ⟨rfl, ?_⟩
 rw[hw9.out]
 exact below_setRow HBL.out (Nat.le_refl _) _
theorem Afm (l:List K) (n:Nat) (hn:n=l.length) (hn3:n≤9223372036854775807) (id:Int) (A:Option Addr) (c:Nat) (s:List Nat) (m:Nat) (hm:m=s.length) (h4:m≤3999) (B:Option Addr) (d:Nat) (w:World) (hT:Cx w) (hA:Ks w w.heap.size A l) (hB:Bs w w.heap.size s B d) (h0:As l id=0) (T:List Nat) (hTg:tagS (Bn l id).sec s=T):Calls Tryz.prog 37 #[.slice A n c, .int .i64 id, .slice B m d] w fun e w'=> ∃g cap,e= .returned (.slice (some ⟨g,0,none⟩) 10 cap)∧Rd w' w'.heap.size (some ⟨g,0,none⟩) (U8 T)∧Below w.heap.size w w':=by
 have HN:=Lib.hid hn
 have HM:=Lib.hid hm
 have HT:=Lib.hid hT
 have HA:=Lib.hid hA
 have HB:=Lib.hid hB
 have HTG:=Lib.hid hTg
 have H0:=Lib.hid h0
 clear hn hm hT hA hB hTg h0
 have HBL:=Lib.hid (Below.refl w.heap.size w)
 go_enter Tryz.func37, Tryz.ntmps37
 go_wp2_with fail
 refine(gY l n HN.out hn3 id A c s m HM.out h4 B d w HT.out HA.out HB.out H0.out T HTG.out).mono ?_
 rintro e w1 ⟨g,cap,rfl,hs,hb⟩
 replace HT:=Lib.hid (HT.out.next hb)
 replace HA:=Lib.hid (HA.out.next hb)
 replace HB:=Lib.hid (HB.out.next hb)
 replace HBL:=Lib.hid (HBL.out.trans (hb.mono HBL.out.size))
 have G:=Lib.hid hs
 clear hb hs
 go_wp2_with fail
 refine(Vh 0 w1).mono ?_
 rintro e w2 ⟨rfl,hb⟩
 replace HT:=Lib.hid (HT.out.next hb)
 replace HA:=Lib.hid (HA.out.next hb)
 replace HB:=Lib.hid (HB.out.next hb)
 replace G:=Lib.hid (G.out.next hb)
 replace HBL:=Lib.hid (HBL.out.trans (hb.mono HBL.out.size))
 clear hb
 go_wp2
 go_ret
 exact⟨g,cap,rfl,G.out,HBL.out⟩
theorem Afn (l:List K) (n:Nat) (hn:n=l.length) (hn3:n≤9223372036854775807) (id:Int) (A:Option Addr) (c:Nat) (s:List Nat) (m:Nat) (hm:m=s.length) (h4:m≤3999) (B:Option Addr) (d:Nat) (w:World) (hT:Cx w) (hA:Ks w w.heap.size A l) (hB:Bs w w.heap.size s B d) (E:Int) (hE:As l id=E) (h0:E≠0):Calls Tryz.prog 37 #[.slice A n c, .int .i64 id, .slice B m d] w fun e w'=>e= .panicked (Pc E)∧Below w.heap.size w w':=by
 have s1:(E==0)=false:=by rw[beq_eq_false_iff_ne];exact h0
 have HN:=Lib.hid hn
 have HM:=Lib.hid hm
 have HT:=Lib.hid hT
 have HA:=Lib.hid hA
 have HB:=Lib.hid hB
 have HE:=Lib.hid hE
 have H0:=Lib.hid h0
 clear hn hm hT hA hB hE h0
 have HBL:=Lib.hid (Below.refl w.heap.size w)
 go_enter Tryz.func37, Tryz.ntmps37
 go_wp2_with fail
 refine(gZ l n HN.out hn3 id A c s m HM.out h4 B d w HT.out HA.out HB.out E HE.out H0.out).mono ?_
 rintro e w1 ⟨rfl,hb⟩
 replace HT:=Lib.hid (HT.out.next hb)
 replace HA:=Lib.hid (HA.out.next hb)
 replace HB:=Lib.hid (HB.out.next hb)
 replace HBL:=Lib.hid (HBL.out.trans (hb.mono HBL.out.size))
 clear hb
 go_wp2_with fail
 refine(Vi E w1).mono ?_
 rintro e w2 ⟨rfl,hb⟩
 replace HT:=Lib.hid (HT.out.next hb)
 replace HA:=Lib.hid (HA.out.next hb)
 replace HB:=Lib.hid (HB.out.next hb)
 replace HBL:=Lib.hid (HBL.out.trans (hb.mono HBL.out.size))
 clear hb
 go_wp2
 exact⟨rfl,rfl,HBL.out⟩
theorem pS (D F:Nat) (hDF: ¬D=F) (r:Rg) (e0 E:Int) (w:World) (hd:Am w D r) (hf:w.heap[F]?=some (.cells #[.int .i64 e0] 27 (0,0))):
  ∃W,W=(((((((((((((((w.setCell ⟨D,0,none⟩ (.int .i64 0)).setCell ⟨D,1,none⟩ (.int .i64 0)).setCell ⟨D,2,none⟩ (.int .i64 0)).setCell ⟨D,3,none⟩ (.int .i64 0)).setCell ⟨D,4,none⟩ (.int .i64 0)).setCell ⟨D,5,none⟩ (.int .i64 0)).setCell ⟨D,6,none⟩ (.int .i64 0)).setCell ⟨D,7,none⟩ (.int .i64 0)).setCell ⟨D,8,none⟩ (.int .i64 0)).setCell ⟨D,9,none⟩ (.int .i64 0)).setCell ⟨D,10,none⟩ (.int .i64 0)).setCell ⟨D,11,none⟩ (.int .i64 0)).setCell ⟨D,12,none⟩ (.int .i64 0)).setCell ⟨D,13,none⟩ (.int .i64 0)).setCell ⟨D,14,none⟩ (.int .i64 0)).setCell ⟨F,0,none⟩ (.int .i64 E)∧Am W D Ah∧W.heap[F]?=some (.cells #[.int .i64 E] 27 (0,0))∧ ∀B,B≤D→B≤F→Below B w W:=by
 have hFD: ¬F=D:=fun e=>hDF e.symm
 have Hm:w.heap[D]?=some (.cells #[.int .i64 r.t.ser, .int .i64 r.t.kind, .int .i64 r.t.frm, .int .i64 r.t.till, .int .i64 r.t.cls, .int .i64 r.t.card, .int .i64 r.t.seat, .int .i64 r.t.day, .int .i64 r.t.days, .int .i64 r.t.uses, .int .i64 r.t.epoch, .int .i64 r.key, .int .i64 r.left, .int .i64 r.inn, .int .i64 r.ver] 39 (0,0)):=hd
 have Bm: ∀B,B≤D→Below B w w:=fun B _=>Below.refl B w
 obtain⟨W0,hW0⟩: ∃W,W=w.setCell ⟨D,0,none⟩ (.int .i64 0):=⟨_,rfl⟩
 rw[←hW0]
 have H0:W0.heap[D]?=some (.cells #[.int .i64 0, .int .i64 r.t.kind, .int .i64 r.t.frm, .int .i64 r.t.till, .int .i64 r.t.cls, .int .i64 r.t.card, .int .i64 r.t.seat, .int .i64 r.t.day, .int .i64 r.t.days, .int .i64 r.t.uses, .int .i64 r.t.epoch, .int .i64 r.key, .int .i64 r.left, .int .i64 r.inn, .int .i64 r.ver] 39 (0,0)):=by rw[hW0];exact heap_setCell_same w D 0 _ _ (.int .i64 0) Hm
 have B0: ∀B,B≤D→Below B w W0:=fun B h=>by rw[hW0];exact(Bm B h).setCell (p:=⟨D,0,none⟩) h _
 have G0:W0.heap[F]?=some (.cells #[.int .i64 e0] 27 (0,0)):=by rw[hW0];exact(heap_setCell_other w ⟨D,0,none⟩ F (.int .i64 0) hFD).trans hf
 obtain⟨W1,hW1⟩: ∃W,W=W0.setCell ⟨D,1,none⟩ (.int .i64 0):=⟨_,rfl⟩
 rw[←hW1]
 have H1:W1.heap[D]?=some (.cells #[.int .i64 0, .int .i64 0, .int .i64 r.t.frm, .int .i64 r.t.till, .int .i64 r.t.cls, .int .i64 r.t.card, .int .i64 r.t.seat, .int .i64 r.t.day, .int .i64 r.t.days, .int .i64 r.t.uses, .int .i64 r.t.epoch, .int .i64 r.key, .int .i64 r.left, .int .i64 r.inn, .int .i64 r.ver] 39 (0,0)):=by rw[hW1];exact heap_setCell_same W0 D 1 _ _ (.int .i64 0) H0
 have B1: ∀B,B≤D→Below B w W1:=fun B h=>by rw[hW1];exact(B0 B h).setCell (p:=⟨D,1,none⟩) h _
 have G1:W1.heap[F]?=some (.cells #[.int .i64 e0] 27 (0,0)):=by rw[hW1];exact(heap_setCell_other W0 ⟨D,1,none⟩ F (.int .i64 0) hFD).trans G0
 obtain⟨W2,hW2⟩: ∃W,W=W1.setCell ⟨D,2,none⟩ (.int .i64 0):=⟨_,rfl⟩
 rw[←hW2]
 have H2:W2.heap[D]?=some (.cells #[.int .i64 0, .int .i64 0, .int .i64 0, .int .i64 r.t.till, .int .i64 r.t.cls, .int .i64 r.t.card, .int .i64 r.t.seat, .int .i64 r.t.day, .int .i64 r.t.days, .int .i64 r.t.uses, .int .i64 r.t.epoch, .int .i64 r.key, .int .i64 r.left, .int .i64 r.inn, .int .i64 r.ver] 39 (0,0)):=by rw[hW2];exact heap_setCell_same W1 D 2 _ _ (.int .i64 0) H1
 have B2: ∀B,B≤D→Below B w W2:=fun B h=>by rw[hW2];exact(B1 B h).setCell (p:=⟨D,2,none⟩) h _
 have G2:W2.heap[F]?=some (.cells #[.int .i64 e0] 27 (0,0)):=by rw[hW2];exact(heap_setCell_other W1 ⟨D,2,none⟩ F (.int .i64 0) hFD).trans G1
 obtain⟨W3,hW3⟩: ∃W,W=W2.setCell ⟨D,3,none⟩ (.int .i64 0):=⟨_,rfl⟩
 rw[←hW3]
 have H3:W3.heap[D]?=some (.cells #[.int .i64 0, .int .i64 0, .int .i64 0, .int .i64 0, .int .i64 r.t.cls, .int .i64 r.t.card, .int .i64 r.t.seat, .int .i64 r.t.day, .int .i64 r.t.days, .int .i64 r.t.uses, .int .i64 r.t.epoch, .int .i64 r.key, .int .i64 r.left, .int .i64 r.inn, .int .i64 r.ver] 39 (0,0)):=by rw[hW3];exact heap_setCell_same W2 D 3 _ _ (.int .i64 0) H2
 have B3: ∀B,B≤D→Below B w W3:=fun B h=>by rw[hW3];exact(B2 B h).setCell (p:=⟨D,3,none⟩) h _
 have G3:W3.heap[F]?=some (.cells #[.int .i64 e0] 27 (0,0)):=by rw[hW3];exact(heap_setCell_other W2 ⟨D,3,none⟩ F (.int .i64 0) hFD).trans G2
 obtain⟨W4,hW4⟩: ∃W,W=W3.setCell ⟨D,4,none⟩ (.int .i64 0):=⟨_,rfl⟩
 rw[←hW4]
 have H4:W4.heap[D]?=some (.cells #[.int .i64 0, .int .i64 0, .int .i64 0, .int .i64 0, .int .i64 0, .int .i64 r.t.card, .int .i64 r.t.seat, .int .i64 r.t.day, .int .i64 r.t.days, .int .i64 r.t.uses, .int .i64 r.t.epoch, .int .i64 r.key, .int .i64 r.left, .int .i64 r.inn, .int .i64 r.ver] 39 (0,0)):=by rw[hW4];exact heap_setCell_same W3 D 4 _ _ (.int .i64 0) H3
 have B4: ∀B,B≤D→Below B w W4:=fun B h=>by rw[hW4];exact(B3 B h).setCell (p:=⟨D,4,none⟩) h _
 have G4:W4.heap[F]?=some (.cells #[.int .i64 e0] 27 (0,0)):=by rw[hW4];exact(heap_setCell_other W3 ⟨D,4,none⟩ F (.int .i64 0) hFD).trans G3
 obtain⟨W5,hW5⟩: ∃W,W=W4.setCell ⟨D,5,none⟩ (.int .i64 0):=⟨_,rfl⟩
 rw[←hW5]
 have H5:W5.heap[D]?=some (.cells #[.int .i64 0, .int .i64 0, .int .i64 0, .int .i64 0, .int .i64 0, .int .i64 0, .int .i64 r.t.seat, .int .i64 r.t.day, .int .i64 r.t.days, .int .i64 r.t.uses, .int .i64 r.t.epoch, .int .i64 r.key, .int .i64 r.left, .int .i64 r.inn, .int .i64 r.ver] 39 (0,0)):=by rw[hW5];exact heap_setCell_same W4 D 5 _ _ (.int .i64 0) H4
 have B5: ∀B,B≤D→Below B w W5:=fun B h=>by rw[hW5];exact(B4 B h).setCell (p:=⟨D,5,none⟩) h _
 have G5:W5.heap[F]?=some (.cells #[.int .i64 e0] 27 (0,0)):=by rw[hW5];exact(heap_setCell_other W4 ⟨D,5,none⟩ F (.int .i64 0) hFD).trans G4
 obtain⟨W6,hW6⟩: ∃W,W=W5.setCell ⟨D,6,none⟩ (.int .i64 0):=⟨_,rfl⟩
 rw[←hW6]
 have H6:W6.heap[D]?=some (.cells #[.int .i64 0, .int .i64 0, .int .i64 0, .int .i64 0, .int .i64 0, .int .i64 0, .int .i64 0, .int .i64 r.t.day, .int .i64 r.t.days, .int .i64 r.t.uses, .int .i64 r.t.epoch, .int .i64 r.key, .int .i64 r.left, .int .i64 r.inn, .int .i64 r.ver] 39 (0,0)):=by rw[hW6];exact heap_setCell_same W5 D 6 _ _ (.int .i64 0) H5
 have B6: ∀B,B≤D→Below B w W6:=fun B h=>by rw[hW6];exact(B5 B h).setCell (p:=⟨D,6,none⟩) h _
 have G6:W6.heap[F]?=some (.cells #[.int .i64 e0] 27 (0,0)):=by rw[hW6];exact(heap_setCell_other W5 ⟨D,6,none⟩ F (.int .i64 0) hFD).trans G5
 obtain⟨W7,hW7⟩: ∃W,W=W6.setCell ⟨D,7,none⟩ (.int .i64 0):=⟨_,rfl⟩
 rw[←hW7]
 have H7:W7.heap[D]?=some (.cells #[.int .i64 0, .int .i64 0, .int .i64 0, .int .i64 0, .int .i64 0, .int .i64 0, .int .i64 0, .int .i64 0, .int .i64 r.t.days, .int .i64 r.t.uses, .int .i64 r.t.epoch, .int .i64 r.key, .int .i64 r.left, .int .i64 r.inn, .int .i64 r.ver] 39 (0,0)):=by rw[hW7];exact heap_setCell_same W6 D 7 _ _ (.int .i64 0) H6
 have B7: ∀B,B≤D→Below B w W7:=fun B h=>by rw[hW7];exact(B6 B h).setCell (p:=⟨D,7,none⟩) h _
 have G7:W7.heap[F]?=some (.cells #[.int .i64 e0] 27 (0,0)):=by rw[hW7];exact(heap_setCell_other W6 ⟨D,7,none⟩ F (.int .i64 0) hFD).trans G6
 obtain⟨W8,hW8⟩: ∃W,W=W7.setCell ⟨D,8,none⟩ (.int .i64 0):=⟨_,rfl⟩
 rw[←hW8]
 have H8:W8.heap[D]?=some (.cells #[.int .i64 0, .int .i64 0, .int .i64 0, .int .i64 0, .int .i64 0, .int .i64 0, .int .i64 0, .int .i64 0, .int .i64 0, .int .i64 r.t.uses, .int .i64 r.t.epoch, .int .i64 r.key, .int .i64 r.left, .int .i64 r.inn, .int .i64 r.ver] 39 (0,0)):=by rw[hW8];exact heap_setCell_same W7 D 8 _ _ (.int .i64 0) H7
 have B8: ∀B,B≤D→Below B w W8:=fun B h=>by rw[hW8];exact(B7 B h).setCell (p:=⟨D,8,none⟩) h _
 have G8:W8.heap[F]?=some (.cells #[.int .i64 e0] 27 (0,0)):=by rw[hW8];exact(heap_setCell_other W7 ⟨D,8,none⟩ F (.int .i64 0) hFD).trans G7
 obtain⟨W9,hW9⟩: ∃W,W=W8.setCell ⟨D,9,none⟩ (.int .i64 0):=⟨_,rfl⟩
 rw[←hW9]
 have H9:W9.heap[D]?=some (.cells #[.int .i64 0, .int .i64 0, .int .i64 0, .int .i64 0, .int .i64 0, .int .i64 0, .int .i64 0, .int .i64 0, .int .i64 0, .int .i64 0, .int .i64 r.t.epoch, .int .i64 r.key, .int .i64 r.left, .int .i64 r.inn, .int .i64 r.ver] 39 (0,0)):=by rw[hW9];exact heap_setCell_same W8 D 9 _ _ (.int .i64 0) H8
 have B9: ∀B,B≤D→Below B w W9:=fun B h=>by rw[hW9];exact(B8 B h).setCell (p:=⟨D,9,none⟩) h _
 have G9:W9.heap[F]?=some (.cells #[.int .i64 e0] 27 (0,0)):=by rw[hW9];exact(heap_setCell_other W8 ⟨D,9,none⟩ F (.int .i64 0) hFD).trans G8
 obtain⟨W10,hW10⟩: ∃W,W=W9.setCell ⟨D,10,none⟩ (.int .i64 0):=⟨_,rfl⟩
 rw[←hW10]
 have H10:W10.heap[D]?=some (.cells #[.int .i64 0, .int .i64 0, .int .i64 0, .int .i64 0, .int .i64 0, .int .i64 0, .int .i64 0, .int .i64 0, .int .i64 0, .int .i64 0, .int .i64 0, .int .i64 r.key, .int .i64 r.left, .int .i64 r.inn, .int .i64 r.ver] 39 (0,0)):=by rw[hW10];exact heap_setCell_same W9 D 10 _ _ (.int .i64 0) H9
 have B10: ∀B,B≤D→Below B w W10:=fun B h=>by rw[hW10];exact(B9 B h).setCell (p:=⟨D,10,none⟩) h _
 have G10:W10.heap[F]?=some (.cells #[.int .i64 e0] 27 (0,0)):=by rw[hW10];exact(heap_setCell_other W9 ⟨D,10,none⟩ F (.int .i64 0) hFD).trans G9
 obtain⟨W11,hW11⟩: ∃W,W=W10.setCell ⟨D,11,none⟩ (.int .i64 0):=⟨_,rfl⟩
 rw[←hW11]
 have H11:W11.heap[D]?=some (.cells #[.int .i64 0, .int .i64 0, .int .i64 0, .int .i64 0, .int .i64 0, .int .i64 0, .int .i64 0, .int .i64 0, .int .i64 0, .int .i64 0, .int .i64 0, .int .i64 0, .int .i64 r.left, .int .i64 r.inn, .int .i64 r.ver] 39 (0,0)):=by rw[hW11];exact heap_setCell_same W10 D 11 _ _ (.int .i64 0) H10
 have B11: ∀B,B≤D→Below B w W11:=fun B h=>by rw[hW11];exact(B10 B h).setCell (p:=⟨D,11,none⟩) h _
 have G11:W11.heap[F]?=some (.cells #[.int .i64 e0] 27 (0,0)):=by rw[hW11];exact(heap_setCell_other W10 ⟨D,11,none⟩ F (.int .i64 0) hFD).trans G10
 obtain⟨W12,hW12⟩: ∃W,W=W11.setCell ⟨D,12,none⟩ (.int .i64 0):=⟨_,rfl⟩
 rw[←hW12]
 have H12:W12.heap[D]?=some (.cells #[.int .i64 0, .int .i64 0, .int .i64 0, .int .i64 0, .int .i64 0, .int .i64 0, .int .i64 0, .int .i64 0, .int .i64 0, .int .i64 0, .int .i64 0, .int .i64 0, .int .i64 0, .int .i64 r.inn, .int .i64 r.ver] 39 (0,0)):=by rw[hW12];exact heap_setCell_same W11 D 12 _ _ (.int .i64 0) H11
 have B12: ∀B,B≤D→Below B w W12:=fun B h=>by rw[hW12];exact(B11 B h).setCell (p:=⟨D,12,none⟩) h _
 have G12:W12.heap[F]?=some (.cells #[.int .i64 e0] 27 (0,0)):=by rw[hW12];exact(heap_setCell_other W11 ⟨D,12,none⟩ F (.int .i64 0) hFD).trans G11
 obtain⟨W13,hW13⟩: ∃W,W=W12.setCell ⟨D,13,none⟩ (.int .i64 0):=⟨_,rfl⟩
 rw[←hW13]
 have H13:W13.heap[D]?=some (.cells #[.int .i64 0, .int .i64 0, .int .i64 0, .int .i64 0, .int .i64 0, .int .i64 0, .int .i64 0, .int .i64 0, .int .i64 0, .int .i64 0, .int .i64 0, .int .i64 0, .int .i64 0, .int .i64 0, .int .i64 r.ver] 39 (0,0)):=by rw[hW13];exact heap_setCell_same W12 D 13 _ _ (.int .i64 0) H12
 have B13: ∀B,B≤D→Below B w W13:=fun B h=>by rw[hW13];exact(B12 B h).setCell (p:=⟨D,13,none⟩) h _
 have G13:W13.heap[F]?=some (.cells #[.int .i64 e0] 27 (0,0)):=by rw[hW13];exact(heap_setCell_other W12 ⟨D,13,none⟩ F (.int .i64 0) hFD).trans G12
 obtain⟨W14,hW14⟩: ∃W,W=W13.setCell ⟨D,14,none⟩ (.int .i64 0):=⟨_,rfl⟩
 rw[←hW14]
 have H14:W14.heap[D]?=some (.cells #[.int .i64 0, .int .i64 0, .int .i64 0, .int .i64 0, .int .i64 0, .int .i64 0, .int .i64 0, .int .i64 0, .int .i64 0, .int .i64 0, .int .i64 0, .int .i64 0, .int .i64 0, .int .i64 0, .int .i64 0] 39 (0,0)):=by rw[hW14];exact heap_setCell_same W13 D 14 _ _ (.int .i64 0) H13
 have B14: ∀B,B≤D→Below B w W14:=fun B h=>by rw[hW14];exact(B13 B h).setCell (p:=⟨D,14,none⟩) h _
 have G14:W14.heap[F]?=some (.cells #[.int .i64 e0] 27 (0,0)):=by rw[hW14];exact(heap_setCell_other W13 ⟨D,14,none⟩ F (.int .i64 0) hFD).trans G13
 exact⟨_,rfl,(heap_setCell_other W14 ⟨F,0,none⟩ D (.int .i64 E) hDF).trans H14,heap_setCell_same W14 F 0 _ _ (.int .i64 E) G14,fun B h1 h2=>(B14 B h1).setCell (p:=⟨F,0,none⟩) h2 _⟩
theorem kZ (D F:Nat) (hDF: ¬D=F) (r:Rg) (e0 E:Int) (w:World) (hd:Am w D r) (hf:w.heap[F]?=some (.cells #[.int .i64 e0] 27 (0,0))):
  CallsD Tryz.prog 31 #[.pointer (some ⟨D,0,none⟩), .pointer (some ⟨F,0,none⟩)] (.panicking (Pc E)) w fun e u' w'=>
   e= .returned (.tuple #[])∧u'= .panicking [{ v:= .iface 27 (.int .i64 E),recovered:=true }]∧Am w' D Ah∧w'.heap[F]?=some (.cells #[.int .i64 E] 27 (0,0))∧ ∀B,B≤D→B≤F→Below B w w':=by
 obtain⟨c0,c1,c2,c3,c4,c5,c6,c7,c8,c9,c10,c11,c12,c13,c14⟩:=hd.cells
 have z0:=hd.frozen 0
 have z1:=hd.frozen 1
 have z2:=hd.frozen 2
 have z3:=hd.frozen 3
 have z4:=hd.frozen 4
 have z5:=hd.frozen 5
 have z6:=hd.frozen 6
 have z7:=hd.frozen 7
 have z8:=hd.frozen 8
 have z9:=hd.frozen 9
 have z10:=hd.frozen 10
 have z11:=hd.frozen 11
 have z12:=hd.frozen 12
 have z13:=hd.frozen 13
 have z14:=hd.frozen 14
 have c1F:w.cell? ⟨F,0,none⟩=some (.int .i64 e0):=cell_of_row w F 0 _ _ _ hf
 have f1F:w.frozen? ⟨F,0,none⟩=false:=frozen_of_row w F 0 _ _ hf
 refine callsD_of_wpS Tryz.func31 rfl fun c₀ cs hu=> ?_
 unfold Pc at hu
 apply wpS_seq
 apply wpS_region
 simp[wpOpsS,go_sem,recoverD,hu, Tryz.ntmps31,Exit.thenS]
 refine wpS_of_wp ?_
 have hneq: ∀w:World,(binOp BinOp.neq 20 (.iface 27 (.int .i64 E)) .nilIface).run Tryz.prog w= .ok (.bool true) w:=fun _=>by first|rfl|kernel_rfl
 change Code.wp _ _ _ { tmps:= #[.pointer (some ⟨D,0,none⟩), .pointer (some ⟨F,0,none⟩), .iface 27 (.int .i64 E), .iface 27 (.int .i64 E),undef,undef,undef,undef,undef],defers:=[] } w
 go_wp2
 have hta: ∀w:World,(Instr.typeAssert (.iface 27 (.int .i64 E)) 20 27 false).run Tryz.prog w= .ok (.int .i64 E) w:=fun _=>by first|rfl|kernel_rfl
 have hFD: ¬F=D:=fun e=>hDF e.symm
 go_region
 go_wp2
 obtain⟨W,hW,k1,k2,k3⟩:=pS D F hDF r e0 E w hd hf
 rw[←hW]
 exact⟨rfl,_,rfl, .tuple #[],by simp[results, Tryz.results31],rfl,rfl,k1,k2,fun B h1 h2=>(k3 B h1 h2).drew⟩
theorem lA (p q:Addr) (w:World):
  CallsD Tryz.prog 31 #[.pointer (some p), .pointer (some q)] .returning w fun e u' w'=>e= .returned (.tuple #[])∧u'= .returning∧w'=w:=by
 refine callsD_of_wpS Tryz.func31 rfl fun c₀ cs hu=> ?_
 apply wpS_seq
 apply wpS_region
 simp[wpOpsS,go_sem,recoverD,hu, Tryz.ntmps31,Exit.thenS]
 refine wpS_of_wp ?_
 have hneq: ∀w:World,(binOp BinOp.neq 20 .nilIface .nilIface).run Tryz.prog w= .ok (.bool false) w:=fun _=>by first|rfl|kernel_rfl
 change Code.wp _ _ _ { tmps:= #[.pointer (some p), .pointer (some q), .nilIface, .nilIface,undef,undef,undef,undef,undef],defers:=[] } w
 go_wp2
 refine⟨rfl, .returning, ?_, .tuple #[],by simp[results, Tryz.results31],rfl,rfl,rfl⟩
 cases c₀
 simp_all
end Go.Proofs.YtmdbfogjfbbpjaaGreatDoor
