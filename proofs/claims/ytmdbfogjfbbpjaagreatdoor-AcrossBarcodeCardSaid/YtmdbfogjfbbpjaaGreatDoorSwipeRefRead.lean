import Derived.Test.YtmdbfogjfbbpjaaGreatDoorLayRefGet3
import Derived.Test.YtmdbfogjfbbpjaaGreatDoorTrackPGet
import Derived.Test.YtmdbfogjfbbpjaaGreatDoorMacRefBlock
import Derived.Test.YtmdbfogjfbbpjaaGreatDoorLayPGet
import Derived.Test.YtmdbfogjfbbpjaaGreatDoorRingPFind
import Derived.Test.YtmdbfogjfbbpjaaGreatDoorEqualBytes
import Derived.Test.YtmdbfogjfbbpjaaGreatDoorFieldsPSmall
import Derived.Test.YtmdbfogjfbbpjaaGreatDoorFortyPMap
import Derived.OwnWalk
import Derived.Test.YtmdbfogjfbbpjaaGreatDoorBarRefTag
import Derived.Test.YtmdbfogjfbbpjaaGreatDoorTlvPPut
import Derived.StillTailTactics
import Derived.Test.YtmdbfogjfbbpjaaGreatDoorFortyPPut
import Derived.Test.YtmdbfogjfbbpjaaGreatDoorRingAddMath
set_option maxHeartbeats 1600000
set_option maxRecDepth 100000
set_option linter.unusedVariables false
namespace Go.Proofs.YtmdbfogjfbbpjaaGreatDoor
open Go.ChangeShapes Go.WideShapes Go.ChangeAt Go.RowKit
theorem jN (b:List Nat) (n:Nat) (hn:n=b.length) (hn2:n≤1000) (E:Int) (hE:Gm b=E) (o:Bool) (ho:Jr b=o) (p:List Nat) (hP:readL b=p) (A:Option Addr) (c:Nat) (w:World) (hA:Bs w w.heap.size b A c):Calls Tryz.prog 60 #[.slice A n c] w fun e w'=> ∃A' c',e= .returned (.tuple #[.slice A' (p.length:Nat) c', .bool o, .int .i64 E])∧Bs w' w'.heap.size p A' c'∧Below w.heap.size w w':=by
 have HN:=Lib.hid hn
 have HA:=Lib.hid hA
 have HE:=Lib.hid hE
 have HO:=Lib.hid ho
 have HP:=Lib.hid hP
 obtain⟨E1,hE1⟩: ∃E1,Du b=E1:=⟨_,rfl⟩
 obtain⟨E2,hE2⟩: ∃E2,Du (Em b)=E2:=⟨_,rfl⟩
 obtain⟨p1,hp1⟩: ∃p1,Hk b=p1:=⟨_,rfl⟩
 obtain⟨p2,hp2⟩: ∃p2,Hk (Em b)=p2:=⟨_,rfl⟩
 have HE1:=Lib.hid hE1
 have HE2:=Lib.hid hE2
 have Hp1:=Lib.hid hp1
 have Hp2:=Lib.hid hp2
 clear hn hA hE ho hP hE1 hE2 hp1 hp2
 go_enter Tryz.func60, Tryz.ntmps60
 go_wp2_with fail
 refine(Rr b n HN.out (by omega) E1 HE1.out p1 Hp1.out A c w HA.out).mono ?_
 rintro e w1 ⟨AG,cG,rfl,hs,hb⟩
 have HS:=Lib.hid hs
 have HB1:=Lib.hid hb
 have HA1:=Lib.hid (HA.out.next hb)
 clear hs hb
 cases q:(E1==0)
 ·have hne:E1≠0:=by rw[beq_eq_false_iff_ne]at q;exact q
  have HNE:=Lib.hid hne
  clear hne
  go_wp2_with fail
  refine(lD b n HN.out (by omega) A c w1 HA1.out).mono ?_
  rintro e w2 ⟨AT,cT,rfl,hs,hb⟩
  have HT:=Lib.hid hs
  have HB2:=Lib.hid (HB1.out.trans (hb.mono HB1.out.size))
  clear hs hb
  go_wp2_with fail
  refine(Rr (Em b) n (by rw[Qq];exact HN.out) (by omega) E2 HE2.out p2 Hp2.out AT cT w2 HT.out).mono ?_
  rintro e w3 ⟨AH,cH,rfl,hs,hb⟩
  have HS3:=Lib.hid hs
  have HB3:=Lib.hid (HB2.out.trans (hb.mono HB2.out.size))
  clear hs hb
  cases q2:(E2==0)
  ·have hne2:E2≠0:=by rw[beq_eq_false_iff_ne]at q2;exact q2
   obtain⟨h1,h2,h3⟩:=Sr (by rw[HE1.out];exact HNE.out) (by rw[HE2.out];exact hne2)
   have eE:E=E1:=HE.out.symm.trans (h1.trans HE1.out)
   have eO:o=false:=HO.out.symm.trans h2
   have eP:p=[]:=HP.out.symm.trans h3
   subst eE eO eP
   clear h1 h2 h3 hne2
   go_wp2
   go_ret3
   exact⟨none,0,rfl,⟨by intro k u hu;simp[U8]at hu,fun _=>rfl,by simp,by omega,by simp⟩,HB3.out⟩
  ·have hz:E2=0:=by rw[beq_iff_eq]at q2;exact q2
   subst hz
   obtain⟨h1,h2,h3⟩:=Mp (by rw[HE1.out];exact HNE.out) HE2.out
   have eE:E=0:=HE.out.symm.trans h1
   have eO:o=true:=HO.out.symm.trans h2
   have eP:p=p2:=HP.out.symm.trans (h3.trans Hp2.out)
   subst eE eO eP
   clear h1 h2 h3 q q2
   go_wp2
   go_ret3
   exact⟨_,_,rfl,HS3.out,HB3.out⟩
 ·have hz:E1=0:=by rw[beq_iff_eq]at q;exact q
  subst hz
  obtain⟨h1,h2,h3⟩:=Le HE1.out
  have eE:E=0:=HE.out.symm.trans h1
  have eO:o=false:=HO.out.symm.trans h2
  have eP:p=p1:=HP.out.symm.trans (h3.trans Hp1.out)
  subst eE eO eP
  clear h1 h2 h3 q
  go_wp2
  go_ret3
  exact⟨_,_,rfl,HS.out,HB1.out⟩
theorem Aa1 (l:List K) (n:Nat) (hn:n=l.length) (hn3:n≤9223372036854775807) (b:List Nat) (m:Nat) (hm:m=b.length) (hm2:m≤1000) (A:Option Addr) (c:Nat) (B:Option Addr) (d:Nat) (E:Int) (r:Rg) (hE:Hn l b=(E,r)) (w:World) (hA:Ks w w.heap.size A l) (hB:Bs w w.heap.size b B d):Calls Tryz.prog 24 #[.slice A n c, .slice B m d] w fun e w'=>e= .returned (.tuple #[.agg #[.int .i64 r.t.ser, .int .i64 r.t.kind, .int .i64 r.t.frm, .int .i64 r.t.till, .int .i64 r.t.cls, .int .i64 r.t.card, .int .i64 r.t.seat, .int .i64 r.t.day, .int .i64 r.t.days, .int .i64 r.t.uses, .int .i64 r.t.epoch, .int .i64 r.key, .int .i64 r.left, .int .i64 r.inn, .int .i64 r.ver], .int .i64 E])∧Below w.heap.size w w':=by
 obtain⟨b0,h1⟩: ∃b0,isR l=b0:=⟨_,rfl⟩
 have HN:=Lib.hid hn
 have HM:=Lib.hid hm
 have HA:=Lib.hid hA
 have HB:=Lib.hid hB
 have HE:=Lib.hid hE
 have H1:=Lib.hid h1
 clear hn hm hA hB hE h1
 have HBL:=Lib.hid (Below.refl w.heap.size w)
 go_enter Tryz.func24, Tryz.ntmps24
 go_wp2_with fail
 obtain⟨w1,hw⟩: ∃w1,w1=w.alloc (.cells #[.int .i64 0, .int .i64 0, .int .i64 0, .int .i64 0, .int .i64 0, .int .i64 0, .int .i64 0, .int .i64 0, .int .i64 0, .int .i64 0, .int .i64 0, .int .i64 0, .int .i64 0, .int .i64 0, .int .i64 0] 39):=⟨_,rfl⟩
 rw[←hw]
 have hx:Am w1 w.heap.size Ah:=by rw[hw];exact Am.new w Ah
 have hb:Below w.heap.size w w1:=by rw[hw];exact Aa w _ _
 replace HA:=Lib.hid (HA.out.next hb)
 replace HB:=Lib.hid (HB.out.next hb)
 replace HBL:=Lib.hid (HBL.out.trans (hb.mono HBL.out.size))
 have XD:=Lib.hid hx
 clear hx hb hw
 refine(Gd l n HN.out b0 H1.out A c w1 HA.out hn3).mono ?_
 rintro e w2 ⟨rfl,hb⟩
 replace HA:=Lib.hid (HA.out.next hb)
 replace HB:=Lib.hid (HB.out.next hb)
 replace XD:=Lib.hid (XD.out.next hb)
 replace HBL:=Lib.hid (HBL.out.trans (hb.mono HBL.out.size))
 clear hb
 have hE:=HE.out
 clear HE
 cases b0
 focus
  rw[Hn,if_pos H1.out]at hE
  obtain⟨rfl,rfl⟩:=Prod.mk.inj hE
 rotate_left
 focus
  rw[Hn,if_neg (by rw[H1.out];decide)]at hE
  obtain⟨o,hO⟩: ∃o,Jr b=o:=⟨_,rfl⟩
  obtain⟨p,hp⟩: ∃p,readL b=p:=⟨_,rfl⟩
  obtain⟨G,hG⟩: ∃G,Gm b=G:=⟨_,rfl⟩
  rw[hG,hp]at hE
  have HO:=Lib.hid hO
  have HP:=Lib.hid hp
  have HG:=Lib.hid hG
  have HE:=Lib.hid hE
  clear hE hO hp hG
  go_wp2_with fail
  refine(jN b m HM.out hm2 G HG.out o HO.out p HP.out B d w2 HB.out).mono ?_
  rintro e w3 ⟨AR1,cR1,rfl,hs,hb⟩
  replace HA:=Lib.hid (HA.out.next hb)
  replace HB:=Lib.hid (HB.out.next hb)
  replace XD:=Lib.hid (XD.out.next hb)
  replace HBL:=Lib.hid (HBL.out.trans (hb.mono HBL.out.size))
  have R1:=Lib.hid hs
  clear hb hs
  have hE:=HE.out
  clear HE
  by_cases h2:G≠0
  focus
   rw[if_pos h2]at hE
   have s1:(G==0)=false:=by rw[beq_eq_false_iff_ne];exact h2
   have s2:(G !=0)=true:=by rw[bne_iff_ne];exact h2
   obtain⟨rfl,rfl⟩:=Prod.mk.inj hE
   clear h2
  rotate_left
  focus
   obtain rfl:=Decidable.not_not.1 h2
   rw[if_neg h2,Ug]at hE
   obtain⟨k,hk⟩: ∃k,p.length=k:=⟨_,rfl⟩
   rw[hk]at hE⊢
   clear h2
   by_cases h3:k<10
   focus
    rw[if_pos h3]at hE
    obtain⟨rfl,rfl⟩:=Prod.mk.inj hE
    have k1:(k:Int)<10:=by omega
    clear h3 hk
   rotate_left
   focus
    rw[if_neg h3]at hE
    obtain⟨j,hj⟩: ∃j,k=j+10:=⟨k - 10,by omega⟩
    have HJ:=Lib.hid (show j=(Cb p).length by rw[Cb,List.length_take];omega)
    have HJ2:=Lib.hid (show 10=(Gf p).length by rw[Gf,List.length_drop];omega)
    have HJP:=Lib.hid (show p.length - 10=j by omega)
    have HK:=Lib.hid hk
    have HJK:=Lib.hid hj
    have HE:=Lib.hid hE
    clear hE h3 hk hj
    have hcap:=R1.out.cap
    have hlen:=R1.out.len
    rw[HK.out]at hlen
    obtain⟨a,rfl⟩: ∃a,AR1=some a:=by
     rcases AR1 with _|a
     ·have h1:=R1.out.nil rfl
      have h2:=HJK.out
      omega
     ·exact⟨a,rfl⟩
    have hm63:j≤9223372036854775807:=by have:=HJK.out;omega
    have hparts:=Bs.split R1.out j (by rw[HK.out,HJK.out];omega)
    have S1:=Lib.hid (show Bs w3 w3.heap.size (Cb p) (some a) cR1 by rw[Cb,HJP.out];exact hparts.1)
    have S2:=Lib.hid (show Bs w3 w3.heap.size (Gf p) (some (a.add j)) (cR1 - j) by rw[Gf,HJP.out];exact hparts.2)
    have wz:IntKind.i64.wrap ((k:Int) - 10)=(j:Int):=by
     rw[show(k:Int) - 10=(j:Int) by have:=HJK.out;omega]
     exact IntWalk.i64_in _ (by omega)
    have mc:j≤cR1:=by have:=HJK.out;omega
    have mk:j≤k:=by have:=HJK.out;omega
    have nc: ¬cR1=j:=by have:=HJK.out;omega
    have m0:(0:Int)≤(j:Int):=by omega
    have mci:(j:Int)≤(cR1:Int):=by omega
    have mki:(j:Int)≤(k:Int):=by omega
    clear hparts
    obtain⟨G,g,hG⟩: ∃G g,By (Cb p)=(G,g):=⟨_,_,rfl⟩
    have HL:=Lib.hid hG
    clear hG
    go_wp2_with fail
    refine(wU (Cb p) j HJ.out G g HL.out (some a) cR1 w3 S1.out).mono ?_
    rintro e w4 ⟨rfl,hb⟩
    replace HA:=Lib.hid (HA.out.next hb)
    replace HB:=Lib.hid (HB.out.next hb)
    replace XD:=Lib.hid (XD.out.next hb)
    replace R1:=Lib.hid (R1.out.next hb)
    replace S1:=Lib.hid (S1.out.next hb)
    replace S2:=Lib.hid (S2.out.next hb)
    replace HBL:=Lib.hid (HBL.out.trans (hb.mono HBL.out.size))
    clear hb
    have hE:=HE.out
    clear HE
    rw[HL.out]at hE
    simp only at hE
    by_cases h4:G≠0
    focus
     rw[if_pos h4]at hE
     have s1:(G==0)=false:=by rw[beq_eq_false_iff_ne];exact h4
     have s2:(G !=0)=true:=by rw[bne_iff_ne];exact h4
     obtain⟨rfl,rfl⟩:=Prod.mk.inj hE
     clear h4
     obtain⟨w80,hw80⟩: ∃w80,w80=w4.alloc (.cells #[.int .i64 g.t.ser, .int .i64 g.t.kind, .int .i64 g.t.frm, .int .i64 g.t.till, .int .i64 g.t.cls, .int .i64 g.t.card, .int .i64 g.t.seat, .int .i64 g.t.day, .int .i64 g.t.days, .int .i64 g.t.uses, .int .i64 g.t.epoch, .int .i64 g.key, .int .i64 g.left, .int .i64 g.inn, .int .i64 g.ver] 39):=⟨_,rfl⟩
     have hb:Below w4.heap.size w4 w80:=by rw[hw80];exact Aa w4 _ _
     replace XD:=Lib.hid (XD.out.next hb)
     replace HBL:=Lib.hid (HBL.out.trans (hb.mono HBL.out.size))
     have HW:=Lib.hid hw80
     clear hb hw80
    rotate_left
    focus
     obtain rfl:=Decidable.not_not.1 h4
     rw[if_neg h4]at hE
     have HJL:=Lib.hid (show j≤3999 by have:=Ta HL.out;have:=HJ.out;omega)
     obtain⟨q,hq⟩: ∃q,q=Bn l g.key:=⟨_,rfl⟩
     obtain⟨F,hF⟩: ∃F,F=As l g.key:=⟨_,rfl⟩
     rw[←hF, ←hq]at hE
     have HQ:=Lib.hid hq
     have HF:=Lib.hid hF
     have HE:=Lib.hid hE
     clear hE h4 hq hF
     go_wp2_with fail
     obtain⟨w5,hw,hx,hb⟩:=El w4 g
     rw[←hw]
     replace HA:=Lib.hid (HA.out.next hb)
     replace HB:=Lib.hid (HB.out.next hb)
     replace XD:=Lib.hid (XD.out.next hb)
     replace R1:=Lib.hid (R1.out.next hb)
     replace S1:=Lib.hid (S1.out.next hb)
     replace S2:=Lib.hid (S2.out.next hb)
     replace HBL:=Lib.hid (HBL.out.trans (hb.mono HBL.out.size))
     have X1:=Lib.hid hx
     clear hx hb hw
     obtain⟨B1,hB⟩: ∃B,B=w4.heap.size:=⟨_,rfl⟩
     rw[←hB]at X1⊢
     clear hB
     obtain⟨c0,c1,c2,c3,c4,c5,c6,c7,c8,c9,c10,c11,c12,c13,c14⟩:=X1.out.cells
     refine(Ju l n HN.out g.key A c w5 HA.out hn3 q F HQ.out HF.out).mono ?_
     rintro e w6 ⟨S,cc,rfl,hs,hb⟩
     clear c0 c1 c2 c3 c4 c5 c6 c7 c8 c9 c10 c11 c12 c13 c14
     replace HA:=Lib.hid (HA.out.next hb)
     replace HB:=Lib.hid (HB.out.next hb)
     replace XD:=Lib.hid (XD.out.next hb)
     replace R1:=Lib.hid (R1.out.next hb)
     replace S1:=Lib.hid (S1.out.next hb)
     replace S2:=Lib.hid (S2.out.next hb)
     replace X1:=Lib.hid (X1.out.next hb)
     replace HBL:=Lib.hid (HBL.out.trans (hb.mono HBL.out.size))
     have FS:=Lib.hid hs
     clear hb hs
     have hE:=HE.out
     clear HE
     by_cases h5:F≠0
     focus
      rw[if_pos h5]at hE
      have s1:(F==0)=false:=by rw[beq_eq_false_iff_ne];exact h5
      have s2:(F !=0)=true:=by rw[bne_iff_ne];exact h5
      obtain⟨rfl,rfl⟩:=Prod.mk.inj hE
      clear h5
      obtain⟨w80,hw80⟩: ∃w80,w80=w6.alloc (.cells #[.int .i64 q.id, .slice S q.sec.length cc, .int .i64 q.frm, .int .i64 q.til] 44):=⟨_,rfl⟩
      have hb:Below w6.heap.size w6 w80:=by rw[hw80];exact Aa w6 _ _
      replace XD:=Lib.hid (XD.out.next hb)
      replace HBL:=Lib.hid (HBL.out.trans (hb.mono HBL.out.size))
      have HW:=Lib.hid hw80
      clear hb hw80
     rotate_left
     focus
      obtain rfl:=Decidable.not_not.1 h5
      rw[if_neg h5]at hE
      have H64:=Lib.hid (show q.sec.length≤64 by rw[HQ.out];exact Iw HF.out.symm)
      obtain⟨T,hTg⟩: ∃T,tagS q.sec (Cb p)=T:=⟨_,rfl⟩
      have HTL:=Lib.hid (show T.length=10 by rw[←hTg];exact Ko _ _)
      rw[hTg]at hE
      obtain⟨t6,h6⟩: ∃t6,(Gf p==T)=t6:=⟨_,rfl⟩
      rw[h6]at hE
      have HTG:=Lib.hid hTg
      have H6:=Lib.hid h6
      have HE:=Lib.hid hE
      clear hE h5 hTg h6
      focus
       go_wp2_with fail
       obtain⟨w7,hw,hx,hb⟩:=Ik w6 ⟨q,S,cc⟩ FS.out
       rw[←hw]
       replace HA:=Lib.hid (HA.out.next hb)
       replace HB:=Lib.hid (HB.out.next hb)
       replace XD:=Lib.hid (XD.out.next hb)
       replace R1:=Lib.hid (R1.out.next hb)
       replace S1:=Lib.hid (S1.out.next hb)
       replace S2:=Lib.hid (S2.out.next hb)
       replace X1:=Lib.hid (X1.out.next hb)
       replace FS:=Lib.hid (FS.out.next hb)
       replace HBL:=Lib.hid (HBL.out.trans (hb.mono HBL.out.size))
       have HX:=Lib.hid hx
       clear hx hb hw
       obtain⟨X,hB⟩: ∃B,B=w6.heap.size:=⟨_,rfl⟩
       rw[←hB]at HX⊢
       clear hB
       have hb:Below w7.heap.size w7 w7.drew:=Ae (Below.refl _ _) 1
       replace HA:=Lib.hid (HA.out.next hb)
       replace HB:=Lib.hid (HB.out.next hb)
       replace XD:=Lib.hid (XD.out.next hb)
       replace R1:=Lib.hid (R1.out.next hb)
       replace S1:=Lib.hid (S1.out.next hb)
       replace S2:=Lib.hid (S2.out.next hb)
       replace X1:=Lib.hid (X1.out.next hb)
       replace FS:=Lib.hid (FS.out.next hb)
       replace HX:=Lib.hid (HX.out.next hb)
       replace HBL:=Lib.hid (HBL.out.trans (hb.mono HBL.out.size))
       clear hb
       have k1:=cell_of_row _ _ 1 _ _ _ HX.out.1
       go_region_with (first|(go_at_call 63;refine(mY q.sec (Cb p) q.sec.length j rfl HJ.out S (some a) cc cR1 _ FS.out S1.out (by have:=H64.out;omega) (by have:=HJL.out;omega) T HTG.out).mono ?_;rintro e w8 ⟨g9,cap,rfl,hr,hb8⟩;have G:=Lib.hid hr;have S28:=Lib.hid (S2.out.next hb8);have XD8:=Lib.hid (XD.out.next hb8);have X18:=Lib.hid (X1.out.next hb8);have HBL8:=Lib.hid (HBL.out.trans (hb8.mono HBL.out.size));clear hr hb8)|(go_at_call 12;refine(Nm (Gf p) T (k - j) 10 (by have:=HJ2.out;have:=HJK.out;omega) HTL.out.symm _ _ _ cap w8.heap.size w8 S28.out.rd G.out (by omega) (by omega)).mono ?_;rintro e w9 ⟨rfl,hb9⟩;rw[H6.out];have XD9:=Lib.hid (XD8.out.next hb9);have X19:=Lib.hid (X18.out.next hb9);have HBL9:=Lib.hid (HBL8.out.trans (hb9.mono HBL8.out.size));clear hb9))
       all_goals
        clear XD X1 HBL XD8 X18 HBL8
        have XD:=XD9
        have X1:=X19
        have HBL:=HBL9
        clear XD9 X19 HBL9 k1
        have hE:=HE.out
        clear HE
        cases t6
        rotate_left
        focus
         rw[if_neg (by decide)]at hE
         obtain⟨rfl,rfl⟩:=Prod.mk.inj hE
         obtain⟨c0,c1,c2,c3,c4,c5,c6,c7,c8,c9,c10,c11,c12,c13,c14⟩:=X1.out.cells
         go_wp2_with ((with_reducible refine Ac 4 ?_);(try rw[←HW.out]);refine Qk XD.out ?_)
         intro w90 hw90
         go_wp2
         refine bodyPost_ret (Ab Tryz.results24 _ w90 (w.heap.size) 39 #[.int .i64 g.t.ser, .int .i64 g.t.kind, .int .i64 g.t.frm, .int .i64 g.t.till, .int .i64 g.t.cls, .int .i64 g.t.card, .int .i64 g.t.seat, .int .i64 g.t.day, .int .i64 g.t.days, .int .i64 g.t.uses, .int .i64 g.t.epoch, .int .i64 g.key, .int .i64 g.left, .int .i64 g.inn, .int .i64 g.ver] (0,0) _ rfl (by rw[hw90.out];exact setRow_heap _ _ _ _ _ _ XD.out) Tryz.underlying39 rfl Ai) rfl ⟨rfl, ?_⟩
         rw[hw90.out]
         exact below_setRow HBL.out (Nat.le_refl _) _
        rw[if_pos rfl]at hE
        obtain⟨rfl,rfl⟩:=Prod.mk.inj hE
 all_goals
  go_wp2_with ((with_reducible refine Ac 4 ?_);(try rw[←HW.out]);refine Qk XD.out ?_)
  intro w90 hw90
  go_wp2
  refine bodyPost_ret (Ab Tryz.results24 _ w90 (w.heap.size) 39 #[.int .i64 0, .int .i64 0, .int .i64 0, .int .i64 0, .int .i64 0, .int .i64 0, .int .i64 0, .int .i64 0, .int .i64 0, .int .i64 0, .int .i64 0, .int .i64 0, .int .i64 0, .int .i64 0, .int .i64 0] (0,0) _ rfl (by rw[hw90.out];exact setRow_heap _ _ _ _ _ _ XD.out) Tryz.underlying39 rfl Ai) rfl ⟨rfl, ?_⟩
  rw[hw90.out]
  exact below_setRow HBL.out (Nat.le_refl _) _
theorem aQ (w:World) (cs:Array Value) (l:List Int) (n H:Nat) (hH:w.heap.size=H) (h:cs.toList=I64 l) (hn:n=l.length) (h1:n≤1000):Zs (w.alloc (.cells cs 3)) (w.alloc (.cells cs 3)).heap.size l (some ⟨H,0,none⟩) n:=by
 subst hH
 exact eM w cs l n h hn h1
theorem uZ {t:Nat} (h1:1≤t) (h2:t≤13):okN (t:Int)=true:=by rw[okN,decide_eq_true (by omega:(1:Int)≤t),decide_eq_true (by omega:(t:Int)≤13)];rfl
theorem vA (r:Rg) (hk:r.t.kind=4) (w:World):Calls Tryz.prog 114 #[.agg #[.int .i64 r.t.ser, .int .i64 r.t.kind, .int .i64 r.t.frm, .int .i64 r.t.till, .int .i64 r.t.cls, .int .i64 r.t.card, .int .i64 r.t.seat, .int .i64 r.t.day, .int .i64 r.t.days, .int .i64 r.t.uses, .int .i64 r.t.epoch, .int .i64 r.key, .int .i64 r.left, .int .i64 r.inn, .int .i64 r.ver]] w fun e w'=> ∃A,e= .returned (.slice A 13 13)∧Zs w' w'.heap.size (numL (cutU r)) A 13∧Below w.heap.size w w':=by
 have hc:numL (cutU r)=[r.ver,r.key,r.t.kind,r.t.ser,r.t.frm,r.t.till,r.t.cls,r.t.card,r.t.seat,r.t.day,r.t.days,r.t.uses,r.t.epoch]:=by rw[cutU,if_pos hk];rfl
 rw[hc]
 have q0:(r.t.kind==4)=true:=by rw[beq_iff_eq];exact hk
 clear hk hc
 go_enter Tryz.func114, Tryz.ntmps114
 go_wp2
 go_ret
 exact⟨_,rfl,aQ _ _ _ 13 _ (by simp) rfl rfl (by omega),(((Below.refl _ _).alloc (Nat.le_refl _) _).alloc (by simp) _).alloc (by simp;omega) _⟩
theorem vB (r:Rg) (hk:r.t.kind≠4) (w:World):Calls Tryz.prog 114 #[.agg #[.int .i64 r.t.ser, .int .i64 r.t.kind, .int .i64 r.t.frm, .int .i64 r.t.till, .int .i64 r.t.cls, .int .i64 r.t.card, .int .i64 r.t.seat, .int .i64 r.t.day, .int .i64 r.t.days, .int .i64 r.t.uses, .int .i64 r.t.epoch, .int .i64 r.key, .int .i64 r.left, .int .i64 r.inn, .int .i64 r.ver]] w fun e w'=> ∃A,e= .returned (.slice A 13 13)∧Zs w' w'.heap.size (numL (cutU r)) A 13∧Below w.heap.size w w':=by
 have hc:numL (cutU r)=[r.ver,r.key,r.t.kind,r.t.ser,r.t.frm,r.t.till,r.t.cls,r.t.card,r.t.seat,r.t.day,r.t.days,0,r.t.epoch]:=by rw[cutU,if_neg hk];rfl
 rw[hc]
 have q0:(r.t.kind==4)=false:=by rw[beq_eq_false_iff_ne];exact hk
 clear hk hc
 go_enter Tryz.func114, Tryz.ntmps114
 go_wp2
 go_ret
 exact⟨_,rfl,aQ _ _ _ 13 _ (by simp) rfl rfl (by omega),(((Below.refl _ _).alloc (Nat.le_refl _) _).alloc (by simp) _).alloc (by simp;omega) _⟩
theorem jO (r:Rg) (w:World):Calls Tryz.prog 114 #[.agg #[.int .i64 r.t.ser, .int .i64 r.t.kind, .int .i64 r.t.frm, .int .i64 r.t.till, .int .i64 r.t.cls, .int .i64 r.t.card, .int .i64 r.t.seat, .int .i64 r.t.day, .int .i64 r.t.days, .int .i64 r.t.uses, .int .i64 r.t.epoch, .int .i64 r.key, .int .i64 r.left, .int .i64 r.inn, .int .i64 r.ver]] w fun e w'=> ∃A,e= .returned (.slice A 13 13)∧Zs w' w'.heap.size (numL (cutU r)) A 13∧Below w.heap.size w w':=by
 by_cases hk:r.t.kind=4
 ·exact vA r hk w
 ·exact vB r hk w
theorem vC (v:Int) (ts:List Nat) (t:Nat):He v (ts++ [t])=(He v ts&&decide (Bj (t:Int)≤v)):=by simp[He]
theorem Aa2 {v:Int} {ts:List Nat} {t:Nat} (h:t∈ts) (ht:v<Bj (t:Int)):He v ts=false:=by
 obtain⟨k,hk⟩:=List.mem_iff_getElem?.1 h
 exact rM hk ht
theorem vD (r:Rg) (E:Nat) (p:List Tf) (hE:Ci r=(E,p)) (w:World):Calls Tryz.prog 64 #[.agg #[.int .i64 r.t.ser, .int .i64 r.t.kind, .int .i64 r.t.frm, .int .i64 r.t.till, .int .i64 r.t.cls, .int .i64 r.t.card, .int .i64 r.t.seat, .int .i64 r.t.day, .int .i64 r.t.days, .int .i64 r.t.uses, .int .i64 r.t.epoch, .int .i64 r.key, .int .i64 r.left, .int .i64 r.inn, .int .i64 r.ver]] w fun e w'=> ∃A c,e= .returned (.tuple #[.slice A (p.length:Nat) c, .int .i64 (E:Int)])∧Ts w' w'.heap.size p A c∧Below w.heap.size w w':=by
 obtain⟨b1,h1⟩: ∃b1,okT r.t=b1:=⟨_,rfl⟩
 have HE:=Lib.hid hE
 have H1:=Lib.hid h1
 clear hE h1
 obtain⟨w0,hw0⟩: ∃w0,w0=(w.alloc (.cells #[.int .i64 r.t.ser, .int .i64 r.t.kind, .int .i64 r.t.frm, .int .i64 r.t.till, .int .i64 r.t.cls, .int .i64 r.t.card, .int .i64 r.t.seat, .int .i64 r.t.day, .int .i64 r.t.days, .int .i64 r.t.uses, .int .i64 r.t.epoch, .int .i64 r.key, .int .i64 r.left, .int .i64 r.inn, .int .i64 r.ver] 39)).alloc (.cells #[.int .i64 0, .int .i64 0] 26):=⟨_,rfl⟩
 have HX:Hid (Am w0 w.heap.size r):=Lib.hid (by rw[hw0];exact(Am.new w r).alloc _)
 have HJ:Hid (Cd w0 (w.heap.size+1) 0 0):=Lib.hid (by rw[hw0,show w.heap.size+1=(w.alloc (.cells #[.int .i64 r.t.ser, .int .i64 r.t.kind, .int .i64 r.t.frm, .int .i64 r.t.till, .int .i64 r.t.cls, .int .i64 r.t.card, .int .i64 r.t.seat, .int .i64 r.t.day, .int .i64 r.t.days, .int .i64 r.t.uses, .int .i64 r.t.epoch, .int .i64 r.key, .int .i64 r.left, .int .i64 r.inn, .int .i64 r.ver] 39)).heap.size by simp];exact Cd.new _ 0 0)
 have HBL:Hid (Below w.heap.size w w0):=Lib.hid (by rw[hw0];exact((Below.refl _ _).alloc (Nat.le_refl _) _).alloc (by simp) _)
 have HW:=Lib.hid hw0
 clear hw0
 go_enter Tryz.func64, Tryz.ntmps64
 go_wp2_with fail
 rw[←HW.out]
 obtain⟨e0,e1,e2,e3,e4,e5,e6,e7,e8,e9,e10,e11,e12,e13,e14⟩:=HX.out.cells
 refine(Bf r.t b1 H1.out _).mono ?_
 rintro e w1 ⟨rfl,hb⟩
 clear e0 e1 e2 e3 e4 e5 e6 e7 e8 e9 e10 e11 e12 e13 e14
 have HX1:=Lib.hid (HX.out.next hb)
 have HBL1:=Lib.hid (HBL.out.trans (hb.mono HBL.out.size))
 have HJ1:=Lib.hid (HJ.out.next hb)
 clear hb
 obtain⟨c0,c1,c2,c3,c4,c5,c6,c7,c8,c9,c10,c11,c12,c13,c14⟩:=HX1.out.cells
 obtain⟨j0,j1⟩:=HJ1.out.cells
 cases b1
 rotate_left
 cases q1:decide (r.key<0)
 cases q2:decide (99<r.key)
 cases q3:(r.left==0)
 rotate_left
 cases q4:(r.inn==0)
 rotate_left
 cases q5:decide (r.ver<1)
 cases q6:decide (3<r.ver)
 focus
  have ha:Om r=true:=(Ez r).2 ⟨H1.out,by have:=of_decide_eq_false q1;omega,by have:=of_decide_eq_false q2;omega,beq_iff_eq.1 q3,beq_iff_eq.1 q4,by have:=of_decide_eq_false q5;omega,by have:=of_decide_eq_false q6;omega⟩
  have HIN:=Lib.hid (eF ha)
  have HAR:=Lib.hid ha
  obtain⟨q,hq⟩: ∃q,q=cutU r:=⟨_,rfl⟩
  have HQ:=Lib.hid hq.symm
  clear ha hq
  go_wp2_with fail
  refine(jO r w1).mono ?_
  rintro e w4 ⟨A4,rfl,hz,hb⟩
  rw[HQ.out]at hz
  have HZ:=Lib.hid hz
  have HX4:=Lib.hid (HX1.out.next hb)
  have HBL4:=Lib.hid (HBL1.out.trans (hb.mono HBL1.out.size))
  clear hz hb j0 j1 HJ HJ1 c0 c1 c2 c3 c4 c5 c6 c7 c8 c9 c10 c11 c12 c13 c14
  rw[HQ.out]at HIN
  go_wp2_with fail
  go_loopw [6,7] (fun v i wr=> ∃(j:Nat) (M:List TV),j≤13∧i= .int .i64 j∧M.map (·.f)=fldF 1 ((numL q).take j)∧He r.ver (tagsF 1 ((numL q).take j))=true∧M.length≤j∧wr.ownsRow w4.heap.size 121 2 v M.length (Es M)∧(∀q∈M,TyB wr q.S∧Bs wr wr.heap.size q.f.val q.S q.c)∧Below w4.heap.size w4 wr) (fun _ i _=>13 - (intOf i).toNat)
  case atStart=>exact⟨0,[],by omega,rfl,rfl,rfl,by simp,World.ownsRow_lit w4 #[] 0 (Nat.le_refl _) (by decide) rfl,by simp,Aa w4 _ _⟩
  case round=>
   obtain⟨j,M,hj,rfl,hmap,hfit,hml,hown,hvals,hbel⟩:=hrel
   have HMP:=Lib.hid hmap
   have HFT:=Lib.hid hfit
   have HO:=Lib.hid hown
   have HV:=Lib.hid hvals
   have HBL:=Lib.hid hbel
   have hsz:=hbel.size
   clear hmap hfit hown hvals hbel
   by_cases hlt:j<13
   ·have HT:=Lib.hid (Wp (numL q) j (by rw[Dq];omega))
    have HFD:=Lib.hid (vG (numL q) j (by rw[Dq];omega))
    obtain⟨x,hx⟩: ∃x,x=(numL q).getD j 0:=⟨_,rfl⟩
    have hxi:(numL q)[j]?=some x:=by rw[hx,List.getD_eq_getElem?_getD,List.getElem?_eq_getElem (by rw[Dq];exact hlt)];rfl
    have hmem: ∀(h0:x≠0),j+1∈tagsF 1 (numL q):=fun h0=>by have:=aR (numL q) 1 j (by rw[Dq];exact hlt) (by rw[←hx];exact h0);rwa[Nat.add_comm]at this
    have hin:=HIN.out x (List.mem_of_getElem? hxi)
    rw[←hx]at HT HFD
    obtain⟨ad,rfl,had,hc⟩:=(HZ.out.next HBL.out).at hxi
    have hcv:=(HX4.out.next HBL.out).cells.2.2.2.2.2.2.2.2.2.2.2.2.2.2
    have HK:=Lib.hid (uZ (t:=j+1) (by omega) (by omega))
    obtain⟨v,hv⟩: ∃v,Bj ((j+1:Nat):Int)=v:=⟨_,rfl⟩
    have HLV:=Lib.hid hv
    have HMEM:=Lib.hid hmem
    have HXIN:=Lib.hid hin
    have ec:((j+1:Nat):Int)=(j:Int)+1:=by omega
    have b1:(0:Int)≤(j:Int):=by omega
    have b2:(j:Int)<13:=by omega
    clear hx hxi hmem hin hv
    go_wp2_with fail
    have hnm:=iH ((j+1:Nat):Int) v true HLV.out HK.out wr
    rw[ec]at hnm
    refine hnm.mono ?_
    rintro e w5 ⟨rfl,rfl⟩
    clear hnm ec
    by_cases h0:x=0
    ·have q0:(x !=0)=false:=by rw[h0];rfl
     have ht:=HT.out
     have hf:=HFD.out
     rw[if_pos h0,List.append_nil]at ht hf
     have HTS:=Lib.hid ht
     have HFS:=Lib.hid hf
     clear ht hf HT HFD h0
     go_wp2
     go_roundw
     case rel=>exact⟨j+1,M,by omega,by go_num,by rw[HFS.out];exact HMP.out,by rw[HTS.out];exact HFT.out,by omega,HO.out,HV.out,HBL.out⟩
     case measure=>simp[intOf];omega
    ·have q0:(x !=0)=true:=by rw[bne_iff_ne];exact h0
     have ht:=HT.out
     have hf:=HFD.out
     rw[if_neg h0]at ht hf
     have HTS:=Lib.hid ht
     have HFS:=Lib.hid hf
     have HM1:=Lib.hid (HMEM.out h0)
     clear ht hf HT HFD h0 HMEM
     by_cases hvv:r.ver<v
     ·have he:=HE.out
      rw[Sv HAR.out (by rw[HQ.out];exact Aa2 HM1.out (by rw[HLV.out];exact hvv))]at he
      obtain⟨rfl,rfl⟩:=Prod.mk.inj he
      have HBE:=Lib.hid (HBL4.out.trans (HBL.out.mono HBL4.out.size))
      clear he
      go_wp2
      go_ret2
      exact⟨none,0,rfl,Ts.empty _ _,HBE.out⟩
     ·have HNF:=Lib.hid (show He r.ver (tagsF 1 ((numL q).take (j+1)))=true by rw[HTS.out,vC,HFT.out,HLV.out,decide_eq_true (by omega)];rfl)
      obtain⟨N,hN⟩: ∃N:Nat,x=(N:Int):=⟨x.toNat,by have:=HXIN.out;omega⟩
      subst hN
      have HFS2:=HFS.out
      rw[Int.toNat_natCast]at HFS2
      obtain⟨p,hp⟩: ∃p,p=numB N:=⟨_,rfl⟩
      rw[←hp]at HFS2
      have HFS3:=Lib.hid HFS2
      have HP:=Lib.hid hp.symm
      have hN63:N<9223372036854775808:=by have:=HXIN.out;omega
      clear HFS2 HFS hp
      go_wp2_with fail
      refine(Zt N hN63 p HP.out wr).mono ?_
      rintro e w5 ⟨vv,rfl,hwn,hb⟩
      obtain⟨S,cs,rfl,hbs⟩:=Av hwn (by rw[←HP.out];exact dX N)
      have HTY:=Lib.hid (Vx hwn)
      have HBS:=Lib.hid hbs
      have HO1:=Lib.hid (Aj HO.out hb)
      have hs1:w4.heap.size≤w5.heap.size:=Nat.le_trans hsz hb.size
      have HV1:=Lib.hid (fun q hq=>And.intro ((HV.out q hq).1.next hb) ((HV.out q hq).2.next hb))
      have HBL1:=Lib.hid (HBL.out.trans (hb.mono hsz))
      clear hwn hbs hb
      go_wp2_with (at_builtin;refine Ed rfl (.tmp 80) (.tmp 85) rfl w5 w4.heap.size M.length u6 M ⟨⟨((j+1:Nat):Int),p⟩,S,cs⟩ _ rfl rfl HO1.out w5.heap.size rfl rfl (by omega) hs1 ?_;intro v3 w3 hown3 hg3)
      have hge: ∀g,u6.ownBlock=some g→w4.heap.size≤g:=fun g hg=>Ak HO1.out hg
      have hb3:Below w4.heap.size w4 w3:=HBL1.out.grown hg3 hs1 hge
      have HB3:=Lib.hid hb3
      have HO3:=Lib.hid hown3
      have HV3:=Lib.hid (show∀q∈M++ [(⟨⟨((j+1:Nat):Int),p⟩,S,cs⟩:TV)],TyB w3 q.S∧Bs w3 w3.heap.size q.f.val q.S q.c from fun q hq=>by
       rcases List.mem_append.1 hq with h|h
       ·exact Qn (HV1.out q h).1 (HV1.out q h).2 HO1.out hg3
       ·rw[List.mem_singleton]at h
        subst h
        exact Qn HTY.out HBS.out HO1.out hg3)
      clear hown3 hg3 hge hb3 HO1 HV1
      go_wp2
      go_roundw
      case rel=>exact⟨j+1,M++ [⟨⟨((j+1:Nat):Int),p⟩,S,cs⟩],by omega,by go_num,by rw[List.map_append,HMP.out,HFS3.out];rfl,HNF.out,by rw[List.length_append,List.length_singleton];omega,by rw[List.length_append,List.length_singleton];exact HO3.out,HV3.out,HB3.out⟩
      case measure=>simp[intOf];omega
   ·have e:j=13:=by omega
    subst e
    have e2:(numL q).take 13=numL q:=rfl
    have hfit:=HFT.out
    have hmp:=HMP.out
    rw[e2]at hfit hmp
    have he:=HE.out
    rw[Qx HAR.out (by rw[HQ.out];exact hfit),HQ.out]at he
    obtain⟨rfl,rfl⟩:=Prod.mk.inj he
    obtain⟨A2,c2,e3,hts⟩:=Og HO.out (fun q hq=>(HV.out q hq).2)
    rw[hmp]at hts
    have hln:M.length=(fldF 1 (numL q)).length:=by rw[←hmp,List.length_map]
    have HLN:=Lib.hid hln
    have HTS:=Lib.hid hts
    have HBE:=Lib.hid (HBL4.out.trans (HBL.out.mono HBL4.out.size))
    clear e2 hfit hmp hts he hlt hln
    subst e3
    go_wp2
    go_ret2
    exact⟨A2,c2,by rw[←HLN.out];rfl,HTS.out,HBE.out⟩
 all_goals
  have ha:Om r=false:=by
   cases h:Om r with
   |false=>rfl
   |true=>
    exfalso
    obtain⟨a1,a2,a3,a4,a5,a6,a7⟩:=(Ez r).1 h
    first|exact absurd a1 (by rw[H1.out];decide)|(have:=of_decide_eq_true q6;omega)|(have:=of_decide_eq_true q5;omega)|exact absurd q4 (by rw[a5];decide)|exact absurd q3 (by rw[a4];decide)|(have:=of_decide_eq_true q2;omega)|(have:=of_decide_eq_true q1;omega)
  have hE:=HE.out
  rw[Nw ha]at hE
  obtain⟨rfl,rfl⟩:=Prod.mk.inj hE
  clear ha
  go_wp2
  go_ret2
  exact⟨none,0,rfl,Ts.empty _ _,HBL1.out⟩
theorem oH (l:List Tf) (n:Nat) (hn:n=l.length) (E:Nat) (p:List Nat) (hp:iY l=(E,p)) (A:Option Addr) (c:Nat) (w:World) (hA:Ts w w.heap.size l A c):
    Calls Tryz.prog 65 #[.slice A n c] w fun e w'=> ∃A' c',e= .returned (.tuple #[.slice A' (p.length:Nat) c', .int .i64 (E:Int)])∧Bs w' w'.heap.size p A' c'∧Below w.heap.size w w':=by
  obtain⟨i0,hi,hz0,hz1,hz2⟩:=info_parts Be
  have h1:n≤9223372036854775807:=by have h1:=hA.len;have h2:=hA.cap;omega
  have HN:=Lib.hid hn
  have HP:=Lib.hid hp
  have HA:=Lib.hid hA
  clear hn hp hA
  cases hb:isT 0 l with
  | false=>
    have hp:=HP.out
    rw[iZ hb]at hp
    cases hp
    have HB:=Lib.hid hb
    clear hb
    go_enter Tryz.func65, Tryz.ntmps65
    go_wp2_with fail
    refine(Fi l n HN.out false HB.out A c w HA.out).mono ?_
    rintro e w1 ⟨rfl,hb1⟩
    have HB1:=Lib.hid hb1
    clear hb1
    go_wp2
    go_ret2
    exact⟨none,0,rfl,Bs.empty _ _,HB1.out⟩
  | true=>
    have hp:=HP.out
    rw[Ux hb]at hp
    obtain⟨rfl,hp2⟩:=Prod.mk.inj hp
    obtain⟨hl,hall⟩:=Nu hb (by omega) (by omega)
    have hn255:n≤255:=by rw[HN.out];omega
    have HALL:=Lib.hid hall
    have HB:=Lib.hid hb
    have HPP:=Lib.hid hp2
    clear hb hp hp2 hl hall
    go_enter Tryz.func65, Tryz.ntmps65
    go_wp2_with fail
    refine(Fi l n HN.out true HB.out A c w HA.out).mono ?_
    rintro e w1 ⟨rfl,hb1⟩
    have HB1:=Lib.hid hb1
    clear hb1
    go_wp2
    go_loopw [4,5] (fun v i wr=> ∃(k:Nat) (q:List Nat),k≤n∧i= .int .i64 k∧q=putT (l.take k)∧q.length≤257*k∧wr.ownsRow w1.heap.size 5 1 v q.length (U8 q)∧Below w1.heap.size w1 wr) (fun _ i _=>n - (intOf i).toNat)
    case atStart=>exact⟨0,[],Nat.zero_le _,rfl,rfl,by simp,World.ownsRow_lit w1 #[] 0 (Nat.le_refl _) (by decide) rfl,(Below.refl _ _).alloc (Nat.le_refl _) _⟩
    case round=>
      obtain⟨k,q,hk,rfl,hq,hql,hown,hbel⟩:=hrel
      have HQ:=Lib.hid hq
      have HOW:=Lib.hid hown
      have HBL:=Lib.hid (HB1.out.trans (hbel.mono HB1.out.size))
      have HBW:=Lib.hid hbel
      have hsz:=hbel.size
      clear hq hown hbel
      by_cases hlt:k<n
      · obtain⟨ad,S,cc,rfl,had,hk4⟩:=(HA.out.below HBL.out).rd k (by rw[←HN.out];exact hlt)
        have HKL:=Lib.hid (show k<l.length by rw[←HN.out];exact hlt)
        have hmem:l.getD k TF0∈l:=by
          rw[List.getD_eq_getElem?_getD,List.getElem?_eq_getElem HKL.out]
          exact List.getElem_mem _
        obtain⟨h3,h4,h5⟩:=HALL.out _ hmem
        have hsn:=aG l k HKL.out
        obtain⟨x,hx⟩: ∃x,x=l.getD k TF0:=⟨_,rfl⟩
        rw[←hx]at hk4 h3 h4 h5 hsn
        obtain⟨t,ht⟩: ∃t:Nat,t=x.tag.toNat:=⟨_,rfl⟩
        obtain⟨s,hs⟩: ∃s:List Nat,s=x.val:=⟨_,rfl⟩
        obtain⟨m,hm⟩: ∃m:Nat,m=s.length:=⟨_,rfl⟩
        have hc0:wr.cell? (ad.add (k*2))=some (.int .i64 (t:Int)):=by rw[hk4.c0];congr 2;omega
        have hc1:wr.cell? ⟨(ad.add (k*2)).block,(ad.add (k*2)).off+1,none⟩=some (.slice S m cc):=by rw[hk4.c1,hm,hs]
        have HS:=Lib.hid (show Bs wr w.heap.size s S cc by rw[hs];exact hk4.bs)
        rw[←HQ.out, ←ht, ←hs, ←hm]at hsn
        have ht2:t<256:=by omega
        have hm2:m<256:=by rw[hm,hs];omega
        have HSN:=Lib.hid hsn
        have HM:=Lib.hid hm
        obtain⟨j,hj⟩: ∃j,j=q.length:=⟨_,rfl⟩
        rw[←hj]at HOW hql
        have HJ:=Lib.hid hj
        have b1:(0:Int)≤(k:Int):=by omega
        have b2:(k:Int)<(n:Int):=by omega
        have w1':IntKind.u8.wrap (t:Int)=(t:Int):=Mc t ht2
        have w2':IntKind.u8.wrap (m:Int)=(m:Int):=Mc m hm2
        clear hx hk4 h3 h4 h5 hsn ht hs hm hj hmem
        have hge: ∀g,u4.ownBlock=some g→w1.heap.size≤g:=fun g hg=>Ak HOW.out hg
        have hne:u4.ownBlock≠some (ad.add (k*2)).block:=by
          intro e
          have:=hge _ e
          rw[add_block]at this
          have:=HB1.out.size
          omega
        have lk:=World.block_lt_of_cell? wr _ hc0
        have HGE:=Lib.hid hge
        have hown:=HOW.out
        have lkw:(ad.add (k*2)).block<w1.heap.size:=by rw[add_block];exact Nat.lt_of_lt_of_le had HB1.out.size
        have KB: ∀x,((wr.alloc (.cells #[.int .u8 (IntKind.u8.wrap (t:Int)), .int .u8 (IntKind.u8.wrap (m:Int))] 5)).drew).grownBy x u4.ownBlock→Below w1.heap.size wr x:=fun x hg=>(((Below.refl _ wr).alloc hsz _).drew).grown hg (by simp;omega) HGE.out
        clear hge w1' w2'
        go_wp2
        go_region_held3 (fun w'=>w'.cell? (ad.add (k*2))=some (.int .i64 (t:Int))∧w'.cell? ⟨(ad.add (k*2)).block,(ad.add (k*2)).off+1,none⟩=some (.slice S m cc))
          (first | exact⟨hc0,hc1⟩|go_keep|exact⟨((KB _ hgrow).cell (p:=ad.add (k*2)) lkw).trans hc0,((KB _ hgrow).cell (p:=⟨(ad.add (k*2)).block,(ad.add (k*2)).off+1,none⟩) lkw).trans hc1⟩)
          ((refine step_append_lies _ (by rfl) _ _ _ (by rfl) w1.heap.size 5 i0 _ 1 1 Tryz.underlying23 hi hz0 hz1 hz2 rfl (by omega) u4 j (U8 q) (by rfl) ((hown.alloc _).drew)
              ⟨wr.heap.size,0,none⟩ 2 2 [.int .u8 (IntKind.u8.wrap (t:Int)), .int .u8 (IntKind.u8.wrap (m:Int))] (by rfl) (by rfl)
              (World.news_of_block (cs:= #[.int .u8 (IntKind.u8.wrap (t:Int)), .int .u8 (IntKind.u8.wrap (m:Int))]) (t:= 5) (fr:=(0,0)) (heap_alloc_new wr _)) (by simp[Value.oneCell'])
              (by omega) (by unfold maxLen;omega) (by omega) (by simp;omega) (wr.heap.size+1) (by simp) ?_;intro gg cap x2 hown2 hgrow hat hlt1))
        have hw1:IntKind.u8.wrap (t:Int)=(t:Int):=Mc t ht2
        have hw2:IntKind.u8.wrap (m:Int)=(m:Int):=Mc m hm2
        have HBO:=Lib.hid (KB _ hgrow)
        have hown3:x2.ownsRow w1.heap.size 5 1 (.slice (some ⟨gg,0,none⟩) (j+2) cap) (j+2) (U8 (q++ [t,m])):=by
          rw[Vg,U8,U8,List.map_cons,List.map_cons,List.map_nil, ←U8]
          rw[hw1,hw2]at hown2
          exact hown2
        have HO2:=Lib.hid hown3
        have HB2:=Lib.hid (HBW.out.trans HBO.out)
        have HS2:=Lib.hid (HS.out.rd.below (HBO.out.mono HB1.out.size))
        have hd1:x2.cell? ⟨(ad.add (k*2)).block,(ad.add (k*2)).off+1,none⟩=some (.slice S m cc):=(HBO.out.cell (p:=⟨(ad.add (k*2)).block,(ad.add (k*2)).off+1,none⟩) lkw).trans hc1
        have hsz2:=HB2.out.size
        have hx2:j+2+m≤maxLen:=by unfold maxLen;omega
        have HML:=Lib.hid (show(U8 s).length=m by rw[sT,HM.out])
        clear hown2 hown3 hgrow hat hlt1 hne lk hown KB hw1 hw2 hc0 hc1
        go_wp2_with (at_builtin;refine Af _ rfl (.tmp 32) (.tmp 37) 23 rfl w1.heap.size 5 i0 (.int .u8 0) 1 Tryz.underlying23 hi hz0 hz1 hz2 rfl _ (j+2) (U8 (q++ [t,m])) rfl HO2.out _ S m cc (U8 s) rfl HS2.out HML.out HS.out.nil (Bd _) hx2 (by omega) hsz2 ?_)
        intro v3 x3 hown3 hg3
        have HB3:=Lib.hid (show Below w1.heap.size w1 x3 from HB2.out.grown hg3 hsz2 (fun g hg=>Ak HO2.out hg))
        rw[←Vg]at hown3
        obtain⟨q',hq'⟩: ∃q',q'=q++ [t,m]++s:=⟨_,rfl⟩
        have hql':q'.length=j+2+m:=by rw[hq',List.length_append,List.length_append, ←HJ.out, ←HM.out];rfl
        rw[←hq', ←hql']at hown3
        have HO3:=Lib.hid hown3
        have HQ':=Lib.hid (hq'.trans HSN.out.symm)
        have hqb:q'.length≤257*(k+1):=by omega
        have HQB:=Lib.hid hqb
        clear hown3 hg3 hq' hql' hqb hx2 hsz2 hd1
        go_wp2
        go_roundw
        case rel=>exact⟨k+1,q',by omega,by go_num,HQ'.out,HQB.out,HO3.out,HB3.out⟩
        case measure=>simp[intOf];omega
      · have e:k=n:=by omega
        have e2:l.take k=l:=List.take_of_length_le (by rw[←HN.out];omega)
        have hqp:q=p:=by rw[HQ.out,e2,HPP.out]
        have hown:=HOW.out
        rw[hqp]at hown
        obtain⟨AQ,cQ,e3,hbs⟩:=Av hown (by rw[←HPP.out];exact dW l HALL.out HA.out.vals)
        have HBS:=Lib.hid hbs
        clear e2 hqp hown hbs
        subst e3
        go_wp2
        go_ret2
        exact⟨_,_,rfl,HBS.out,HBL.out⟩
theorem vE (l:List K) (n:Nat) (hn:n=l.length) (hn3:n≤9223372036854775807) (A:Option Addr) (c:Nat) (r:Rg) (E:Nat) (p:List Nat) (hE:ecB l r=(E,p)) (w:World) (hA:Ks w w.heap.size A l):Calls Tryz.prog 25 #[.slice A n c, .agg #[.int .i64 r.t.ser, .int .i64 r.t.kind, .int .i64 r.t.frm, .int .i64 r.t.till, .int .i64 r.t.cls, .int .i64 r.t.card, .int .i64 r.t.seat, .int .i64 r.t.day, .int .i64 r.t.days, .int .i64 r.t.uses, .int .i64 r.t.epoch, .int .i64 r.key, .int .i64 r.left, .int .i64 r.inn, .int .i64 r.ver]] w fun e w'=> ∃A' c',e= .returned (.tuple #[.slice A' (p.length:Nat) c', .int .i64 (E:Int)])∧Bs w' w'.heap.size p A' c'∧Below w.heap.size w w':=by
 obtain⟨b0,h1⟩: ∃b0,isR l=b0:=⟨_,rfl⟩
 have HN:=Lib.hid hn
 have HA:=Lib.hid hA
 have HE:=Lib.hid hE
 have H1:=Lib.hid h1
 clear hn hA hE h1
 have HBL:=Lib.hid (Below.refl w.heap.size w)
 go_enter Tryz.func25, Tryz.ntmps25
 go_wp2_with fail
 obtain⟨w1,hw,hx,hb⟩:=El w r
 rw[←hw]
 replace HA:=Lib.hid (HA.out.next hb)
 replace HBL:=Lib.hid (HBL.out.trans (hb.mono HBL.out.size))
 have X1:=Lib.hid hx
 clear hx hb hw
 obtain⟨B1,hB⟩: ∃B,B=w.heap.size:=⟨_,rfl⟩
 rw[←hB]at X1⊢
 clear hB
 refine(Gd l n HN.out b0 H1.out A c w1 HA.out hn3).mono ?_
 rintro e w2 ⟨rfl,hb⟩
 replace HA:=Lib.hid (HA.out.next hb)
 replace X1:=Lib.hid (X1.out.next hb)
 replace HBL:=Lib.hid (HBL.out.trans (hb.mono HBL.out.size))
 clear hb
 have hE:=HE.out
 clear HE
 cases b0
 focus
  rw[ecB,if_pos H1.out]at hE
  obtain⟨rfl,rfl⟩:=Prod.mk.inj hE
 rotate_left
 focus
  rw[ecB,if_neg (by rw[H1.out];decide)]at hE
  obtain⟨G,P,hP⟩: ∃G P,Ci r=(G,P):=⟨_,_,rfl⟩
  rw[hP]at hE
  simp only at hE
  have HP:=Lib.hid hP
  have HE:=Lib.hid hE
  clear hE hP
  obtain⟨c0,c1,c2,c3,c4,c5,c6,c7,c8,c9,c10,c11,c12,c13,c14⟩:=X1.out.cells
  go_wp2_with fail
  refine(vD r G P HP.out w2).mono ?_
  rintro e w3 ⟨AP1,cP1,rfl,hs,hb⟩
  clear c0 c1 c2 c3 c4 c5 c6 c7 c8 c9 c10 c11 c12 c13 c14
  replace HA:=Lib.hid (HA.out.next hb)
  replace X1:=Lib.hid (X1.out.next hb)
  replace HBL:=Lib.hid (HBL.out.trans (hb.mono HBL.out.size))
  have P1:=Lib.hid hs
  clear hb hs
  have hE:=HE.out
  clear HE
  by_cases h2:G≠0
  focus
   rw[if_pos h2]at hE
   have s1:((G:Int)==0)=false:=by rw[beq_eq_false_iff_ne];omega
   have s2:((G:Int) !=0)=true:=by rw[bne_iff_ne];omega
   have s3:(G==0)=false:=by rw[beq_eq_false_iff_ne];exact h2
   have s4:(G !=0)=true:=by rw[bne_iff_ne];exact h2
   obtain⟨rfl,rfl⟩:=Prod.mk.inj hE
   clear h2
  rotate_left
  focus
   obtain rfl:=Decidable.not_not.1 h2
   rw[if_neg h2]at hE
   clear h2
   obtain⟨q,hq⟩: ∃q,q=Bn l r.key:=⟨_,rfl⟩
   obtain⟨F0,hF0⟩: ∃F0,F0=As l r.key:=⟨_,rfl⟩
   rw[←hF0]at hE
   have HQ:=Lib.hid hq
   have HF0:=Lib.hid hF0
   have HE:=Lib.hid hE
   clear hE hq hF0
   obtain⟨c0,c1,c2,c3,c4,c5,c6,c7,c8,c9,c10,c11,c12,c13,c14⟩:=X1.out.cells
   go_wp2_with fail
   refine(Ju l n HN.out r.key A c w3 HA.out hn3 q F0 HQ.out HF0.out).mono ?_
   rintro e w4 ⟨S,cc,rfl,hs,hb⟩
   clear c0 c1 c2 c3 c4 c5 c6 c7 c8 c9 c10 c11 c12 c13 c14
   replace HA:=Lib.hid (HA.out.next hb)
   replace X1:=Lib.hid (X1.out.next hb)
   replace P1:=Lib.hid (P1.out.next hb)
   replace HBL:=Lib.hid (HBL.out.trans (hb.mono HBL.out.size))
   have FS:=Lib.hid hs
   clear hb hs
   have hE:=HE.out
   clear HE
   by_cases h3:F0≠0
   focus
    rw[if_pos h3]at hE
    obtain rfl:F0=10:=by rw[HF0.out];exact Rz H1.out (by rw[←HF0.out];exact h3)
    obtain⟨rfl,rfl⟩:=Prod.mk.inj hE
    clear h3
   rotate_left
   focus
    obtain rfl:=Decidable.not_not.1 h3
    rw[if_neg h3]at hE
    obtain⟨rfl,hX⟩:=Prod.mk.inj hE
    rw[wholeB,Mh,HP.out, ←HQ.out]at hX
    simp only at hX
    obtain⟨b,hb⟩: ∃b,putT P=b:=⟨_,rfl⟩
    obtain⟨T,hTg⟩: ∃T,tagB q.sec b=T:=⟨_,rfl⟩
    obtain⟨L,hL⟩: ∃L,b++T=L:=⟨_,rfl⟩
    obtain⟨F,hF⟩: ∃F:Array Value,F=(U8 T).toArray:=⟨_,rfl⟩
    rw[hb,hTg,hL]at hX
    have hbl:b.length≤117:=by rw[←hb];exact Ri HP.out
    have hTL:T.length=32:=by rw[←hTg];exact Gr _ _
    have hTT: ∀x∈T,x<256:=by rw[←hTg];exact Rf _ _
    have HLT:=Lib.hid (show∀x∈L,x<256 by rw[←hL];intro x hx;exact(List.mem_append.1 hx).elim (fun h=>by rw[←hb]at h;exact sR HP.out x h) (hTT x))
    obtain⟨k,hk⟩: ∃k,k=L.length:=⟨_,rfl⟩
    have hk2:0<k∧k≤149:=by rw[hk, ←hL,List.length_append];omega
    obtain⟨m,hm⟩: ∃m,b.length=m:=⟨_,rfl⟩
    have HS64:=Lib.hid (show q.sec.length≤64 by rw[HQ.out];exact Iw HF0.out.symm)
    have HOUT:=Lib.hid (show iY P=(0,b) by rw[←hb];exact Ux (Va HP.out).1)
    have HL:=Lib.hid hL
    have HX0:=Lib.hid hX
    have HFB:=Lib.hid (show F=(U8 (tagB q.sec b)).toArray by rw[hTg];exact hF)
    have HIS:=Lib.hid (Fx hF hTL)
    have HFT:=Lib.hid hF
    have HTL:=Lib.hid hTL
    have HTT:=Lib.hid hTT
    have HK:=Lib.hid hk
    have HK2:=Lib.hid hk2
    rw[hm]at hbl
    have HM:=Lib.hid hm
    obtain⟨i0,hi,hz0,hz1,hz2⟩:=info_parts Be
    have h64:0+m≤maxLen:=by unfold maxLen;omega
    have h68:0+m+32≤maxLen:=by unfold maxLen;omega
    clear hE h3 hb hTg hL hF hX hTL hTT hk hk2 hm
    go_wp2_with fail
    obtain⟨w5,hw,hx,hb⟩:=Ik w4 ⟨q,S,cc⟩ FS.out
    rw[←hw]
    replace HA:=Lib.hid (HA.out.next hb)
    replace X1:=Lib.hid (X1.out.next hb)
    replace P1:=Lib.hid (P1.out.next hb)
    replace FS:=Lib.hid (FS.out.next hb)
    replace HBL:=Lib.hid (HBL.out.trans (hb.mono HBL.out.size))
    have HX:=Lib.hid hx
    clear hx hb hw
    obtain⟨X,hB⟩: ∃B,B=w4.heap.size:=⟨_,rfl⟩
    rw[←hB]at HX⊢
    clear hB
    refine(oH P P.length rfl 0 b HOUT.out AP1 cP1 w5 P1.out).mono ?_
    rintro e w6 ⟨AY1,cY1,rfl,hs,hb⟩
    replace HA:=Lib.hid (HA.out.next hb)
    replace X1:=Lib.hid (X1.out.next hb)
    replace P1:=Lib.hid (P1.out.next hb)
    replace FS:=Lib.hid (FS.out.next hb)
    replace HX:=Lib.hid (HX.out.next hb)
    replace HBL:=Lib.hid (HBL.out.trans (hb.mono HBL.out.size))
    have Y1:=Lib.hid hs
    clear hb hs
    rw[HM.out]
    have k1:=cell_of_row _ _ 1 _ _ _ HX.out.1
    go_wp2_with fail
    refine(bE q.sec b q.sec.length m rfl HM.out.symm S AY1 cc cY1 w6 FS.out Y1.out (by have:=HS64.out;omega) (by omega) F HFB.out).mono ?_
    rintro e w7 ⟨rfl,hb⟩
    clear k1
    replace HA:=Lib.hid (HA.out.next hb)
    replace X1:=Lib.hid (X1.out.next hb)
    replace P1:=Lib.hid (P1.out.next hb)
    replace FS:=Lib.hid (FS.out.next hb)
    replace HX:=Lib.hid (HX.out.next hb)
    replace Y1:=Lib.hid (Y1.out.next hb)
    replace HBL:=Lib.hid (HBL.out.trans (hb.mono HBL.out.size))
    clear hb
    go_wp2_with (first|((with_reducible refine Ac 12 ?_);refine Al (heap_alloc_new w7 _) HIS.out.1 HIS.out.2.2 ?_ (hold:=HIS.out.2.1);intro w20 hw20;have HR4:=Lib.hid (Bg hw20.out);have hb:=HR4.out.2.2;replace HA:=Lib.hid (HA.out.next hb);replace X1:=Lib.hid (X1.out.next hb);replace P1:=Lib.hid (P1.out.next hb);replace FS:=Lib.hid (FS.out.next hb);replace HX:=Lib.hid (HX.out.next hb);replace Y1:=Lib.hid (Y1.out.next hb);replace HBL:=Lib.hid (HBL.out.trans (hb.mono HBL.out.size));clear hb;have HRT:=Lib.hid (Qg HR4.out.2.1 HFT.out);have HB0:=Lib.hid (Aa w20 #[] 5);have HOWN:=Lib.hid (show(w20.alloc (.cells #[] 5)).ownsRow w20.heap.size 5 1 (.slice (some ⟨w20.heap.size,0,none⟩) 0 0) 0 []from World.ownsRow_lit w20 #[] 0 (Nat.le_refl _) (by decide) rfl);have HPW:=Lib.hid (Y1.out.next HB0.out);have HRW:=Lib.hid (HRT.out.next HB0.out);have hbs:=HB0.out.size)|(at_builtin;go_loud (refine Af _ rfl (.tmp 45) (.tmp 46) 23 rfl w20.heap.size 5 i0 (.int .u8 0) 1 Tryz.underlying23 hi hz0 hz1 hz2 rfl (.slice (some ⟨w20.heap.size,0,none⟩) 0 0) 0 [] rfl HOWN.out _ AY1 m cY1 (U8 b) rfl HPW.out.rd (by simp[U8,HM.out]) HPW.out.nil (Bd b) h64 (by omega) hbs ?_;intro v6 w60 hown6 hg6;have hb:=HB0.out.grown hg6 HB0.out.size (fun p hp=>by cases hp;exact Nat.le_refl _);have HR6:=Lib.hid (HRT.out.next hb);have HBK:=Lib.hid (show w.heap.size≤w20.heap.size∧w20.heap.size≤w60.heap.size from⟨HBL.out.size,hb.size⟩);have HBL6:=Lib.hid (HBL.out.trans (hb.mono HBL.out.size));have HO6:=Lib.hid hown6;have H66:=Lib.hid (fun p (hp:v6.ownBlock=some p)=>Ak hown6 hp);clear hown6 hg6 hb))|(at_builtin;go_loud (refine Af _ rfl (.tmp 48) (.tmp 49) 23 rfl w20.heap.size 5 i0 (.int .u8 0) 1 Tryz.underlying23 hi hz0 hz1 hz2 rfl v6 (0+m) ([]++U8 b) rfl HO6.out _ (some ⟨w7.heap.size,0,none⟩) 32 32 (U8 T) rfl HR6.out (by simp[U8,HTL.out]) (fun h=>by cases h) (Bd T) h68 (by omega) HBK.out.2 ?_;intro v8 w80 hown8 hg8;have HB8:=Lib.hid (HBL6.out.grown hg8 HBL6.out.size (fun p hp=>Nat.le_trans HBK.out.1 (H66.out p hp)));rw[List.nil_append, ←Gg,HL.out]at hown8;obtain⟨AL,cL,rfl,hs8⟩:=Av hown8 HLT.out;have HS8:=Lib.hid hs8;clear hown8 hg8 hs8)))
    refine(eZ L (m+32) (by rw[←HL.out,List.length_append,HTL.out,HM.out]) (by omega) p HX0.out AL cL w80 HS8.out).mono ?_
    rintro e w90 ⟨AO,cO,rfl,hs,hb⟩
    have HS9:=Lib.hid hs
    have HB9:=Lib.hid (HB8.out.trans (hb.mono HB8.out.size))
    clear hs hb
    go_wp2
    go_ret2
    exact⟨_,_,rfl,HS9.out,HB9.out⟩
 all_goals
  go_wp2
  go_ret2
  first|exact⟨none,0,rfl,Bs.empty _ _,HBL.out⟩|exact⟨none,0,rfl,Bs.empty _ _,HBL.out.trans ((Aa _ _ _).mono HBL.out.size)⟩
end Go.Proofs.YtmdbfogjfbbpjaaGreatDoor
