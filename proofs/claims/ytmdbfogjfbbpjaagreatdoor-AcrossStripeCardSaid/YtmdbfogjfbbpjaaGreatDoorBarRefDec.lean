import Derived.Test.YtmdbfogjfbbpjaaGreatDoorTrackPGet
import Derived.Test.YtmdbfogjfbbpjaaGreatDoorTrackRefPut
import Derived.Test.YtmdbfogjfbbpjaaGreatDoorBarRefTag
import Derived.Test.YtmdbfogjfbbpjaaGreatDoorTlvPPut
import Derived.Test.YtmdbfogjfbbpjaaGreatDoorFieldsPGet
import Derived.Test.YtmdbfogjfbbpjaaGreatDoorFieldsRefGetB
import Derived.Test.YtmdbfogjfbbpjaaGreatDoorRingAddMath
import Derived.Test.YtmdbfogjfbbpjaaGreatDoorRingPFind
import Derived.Test.YtmdbfogjfbbpjaaGreatDoorShaRefSum
import Derived.Test.YtmdbfogjfbbpjaaGreatDoorAcrossCrossed
set_option maxHeartbeats 1600000
set_option maxRecDepth 100000
set_option linter.unusedVariables false
namespace Go.Proofs.YtmdbfogjfbbpjaaGreatDoor
open Go.ChangeShapes Go.WideShapes Go.ChangeAt Go.RowKit
theorem xZ (l:List K) (n:Nat) (hn:n=l.length) (hn3:n≤9223372036854775807) (b:List Nat) (m:Nat) (hm:m=b.length) (hm4:m≤4000) (A:Option Addr) (c:Nat) (B:Option Addr) (d:Nat) (E:Nat) (r:Rg) (hE:Gs l b=(E,r)) (w:World) (hA:Ks w w.heap.size A l) (hB:Bs w w.heap.size b B d):Calls Tryz.prog 29 #[.slice A n c, .slice B m d] w fun e w'=>e= .returned (.tuple #[.agg #[.int .i64 r.t.ser, .int .i64 r.t.kind, .int .i64 r.t.frm, .int .i64 r.t.till, .int .i64 r.t.cls, .int .i64 r.t.card, .int .i64 r.t.seat, .int .i64 r.t.day, .int .i64 r.t.days, .int .i64 r.t.uses, .int .i64 r.t.epoch, .int .i64 r.key, .int .i64 r.left, .int .i64 r.inn, .int .i64 r.ver], .int .i64 (E:Int)])∧Below w.heap.size w w':=by
 obtain⟨b0,h1⟩: ∃b0,isR l=b0:=⟨_,rfl⟩
 have hb4:=Xj b
 have HN:=Lib.hid hn
 have HM:=Lib.hid hm
 have HA:=Lib.hid hA
 have HB:=Lib.hid hB
 have HE:=Lib.hid hE
 have H1:=Lib.hid h1
 have HB4:=Lib.hid hb4
 clear hn hm hA hB hE h1 hb4
 have HBL:=Lib.hid (Below.refl w.heap.size w)
 go_enter Tryz.func29, Tryz.ntmps29
 go_wp2_with fail
 obtain⟨w1,hw⟩: ∃w1,w1=w.alloc (.cells #[.int .i64 0, .int .i64 0, .int .i64 0, .int .i64 0, .int .i64 0, .int .i64 0, .int .i64 0, .int .i64 0, .int .i64 0, .int .i64 0, .int .i64 0, .int .i64 0, .int .i64 0, .int .i64 0, .int .i64 0] 39):=⟨_,rfl⟩
 rw[←hw]
 have hx:Am w1 w.heap.size Ah:=by rw[hw];exact Am.new w Ah
 have hb:Below w.heap.size w w1:=by rw[hw];exact Aa w _ _
 replace HA:=Lib.hid (HA.out.next hb)
 replace HB:=Lib.hid (HB.out.next hb)
 replace HBL:=Lib.hid (HBL.out.trans (hb.mono HBL.out.size))
 have XD:=Lib.hid hx
 clear hx hb hw
 refine(Gd l n HN.out b0 H1.out A c w1 HA.out hn3).mono ?_
 rintro e w2 ⟨rfl,hb⟩
 replace HA:=Lib.hid (HA.out.next hb)
 replace HB:=Lib.hid (HB.out.next hb)
 replace XD:=Lib.hid (XD.out.next hb)
 replace HBL:=Lib.hid (HBL.out.trans (hb.mono HBL.out.size))
 clear hb
 have hE:=HE.out
 clear HE
 cases b0
 focus
  rw[Gs,if_pos H1.out]at hE
  obtain⟨rfl,rfl⟩:=Prod.mk.inj hE
 rotate_left
 focus
  rw[Gs,if_neg (by rw[H1.out];decide)]at hE
  obtain⟨G,P,hX⟩: ∃G P,fgetX b=(G,P):=⟨_,_,rfl⟩
  rw[hX]at hE
  simp only at hE
  have hP:=HB4.out
  rw[hX]at hP
  simp only at hP
  by_cases h2:G≠0
  focus
   rw[if_pos h2]at hE
   have s1:((G:Int)==0)=false:=by rw[beq_eq_false_iff_ne];omega
   have s2:((G:Int) !=0)=true:=by rw[bne_iff_ne];omega
   have s3:(G==0)=false:=by rw[beq_eq_false_iff_ne];exact h2
   have s4:(G !=0)=true:=by rw[bne_iff_ne];exact h2
   have H2:=Lib.hid h2
   have HX:=Lib.hid hX
   clear h2 hX hP
   go_wp2_with fail
   refine(AaR b m HM.out hm4 B d w2 HB.out G P HX.out H2.out).mono ?_
   rintro e w3 ⟨rfl,hb⟩
   replace HA:=Lib.hid (HA.out.next hb)
   replace HB:=Lib.hid (HB.out.next hb)
   replace XD:=Lib.hid (XD.out.next hb)
   replace HBL:=Lib.hid (HBL.out.trans (hb.mono HBL.out.size))
   clear hb
   obtain⟨rfl,rfl⟩:=Prod.mk.inj hE
  rotate_left
  focus
   obtain rfl:=Decidable.not_not.1 h2
   rw[if_neg h2,Rh]at hE
   have HX:=Lib.hid hX
   clear h2 hX
   by_cases h3:P.length<32
   focus
    rw[if_pos h3]at hE
    obtain⟨rfl,rfl⟩:=Prod.mk.inj hE
    have H3:=Lib.hid h3
    clear h3 hP
    go_wp2_with fail
    refine(kJ b m HM.out hm4 B d w2 HB.out P HX.out H3.out).mono ?_
    rintro e w3 ⟨rfl,hb⟩
    replace HA:=Lib.hid (HA.out.next hb)
    replace HB:=Lib.hid (HB.out.next hb)
    replace XD:=Lib.hid (XD.out.next hb)
    replace HBL:=Lib.hid (HBL.out.trans (hb.mono HBL.out.size))
    clear hb
   rotate_left
   focus
    rw[if_neg h3]at hE
    obtain⟨j,hj⟩: ∃j,P.length=j+32:=⟨P.length - 32,by omega⟩
    have HRJ:=Lib.hid (show j=(restB P).length by rw[restB,List.length_take];omega)
    have HSJ:=Lib.hid (show 32=(Eg P).length by rw[Eg,List.length_drop];omega)
    have hjm:j≤3999:=by have:=HM.out;omega
    have HJ:=Lib.hid hj
    obtain⟨G,L,hG⟩: ∃G L,gotT (restB P)=(G,L):=⟨_,_,rfl⟩
    rw[hG]at hE
    simp only at hE
    have HG:=Lib.hid hG
    have HE:=Lib.hid hE
    clear hE h3 hP hj hG
    go_wp2_with fail
    refine(AaS b m HM.out hm4 B d w2 HB.out P HX.out j HJ.out).mono ?_
    rintro e w3 ⟨A1,c1,A2,c2,rfl,hs1,hs2,hb⟩
    replace HA:=Lib.hid (HA.out.next hb)
    replace HB:=Lib.hid (HB.out.next hb)
    replace XD:=Lib.hid (XD.out.next hb)
    replace HBL:=Lib.hid (HBL.out.trans (hb.mono HBL.out.size))
    clear hb
    have S1:=Lib.hid hs1
    have S2:=Lib.hid hs2
    clear hs1 hs2
    go_wp2_with fail
    refine(pI (restB P) j HRJ.out (by omega) G L HG.out A1 c1 w3 S1.out).mono ?_
    rintro e w4 ⟨ALT,cLT,rfl,hs,hb⟩
    replace HA:=Lib.hid (HA.out.next hb)
    replace HB:=Lib.hid (HB.out.next hb)
    replace XD:=Lib.hid (XD.out.next hb)
    replace S1:=Lib.hid (S1.out.next hb)
    replace S2:=Lib.hid (S2.out.next hb)
    replace HBL:=Lib.hid (HBL.out.trans (hb.mono HBL.out.size))
    have LT:=Lib.hid hs
    clear hb hs
    have hE:=HE.out
    clear HE
    by_cases h2:G≠0
    focus
     rw[if_pos h2]at hE
     have s1:((G:Int)==0)=false:=by rw[beq_eq_false_iff_ne];omega
     have s2:((G:Int) !=0)=true:=by rw[bne_iff_ne];omega
     have s3:(G==0)=false:=by rw[beq_eq_false_iff_ne];exact h2
     have s4:(G !=0)=true:=by rw[bne_iff_ne];exact h2
     obtain⟨rfl,rfl⟩:=Prod.mk.inj hE
     clear h2
    rotate_left
    focus
     obtain rfl:=Decidable.not_not.1 h2
     rw[if_neg h2]at hE
     obtain⟨G,g,hF⟩: ∃G g,Br L=(G,g):=⟨_,_,rfl⟩
     rw[hF]at hE
     simp only at hE
     have HF:=Lib.hid hF
     have HE:=Lib.hid hE
     clear hE h2 hF
     go_wp2_with fail
     refine(uY L L.length rfl G g HF.out ALT cLT w4 LT.out).mono ?_
     rintro e w5 ⟨rfl,hb⟩
     replace HA:=Lib.hid (HA.out.next hb)
     replace HB:=Lib.hid (HB.out.next hb)
     replace XD:=Lib.hid (XD.out.next hb)
     replace S1:=Lib.hid (S1.out.next hb)
     replace S2:=Lib.hid (S2.out.next hb)
     replace LT:=Lib.hid (LT.out.next hb)
     replace HBL:=Lib.hid (HBL.out.trans (hb.mono HBL.out.size))
     clear hb
     have hE:=HE.out
     clear HE
     by_cases h2:G≠0
     focus
      rw[if_pos h2]at hE
      have s1:((G:Int)==0)=false:=by rw[beq_eq_false_iff_ne];omega
      have s2:((G:Int) !=0)=true:=by rw[bne_iff_ne];omega
      have s3:(G==0)=false:=by rw[beq_eq_false_iff_ne];exact h2
      have s4:(G !=0)=true:=by rw[bne_iff_ne];exact h2
      obtain⟨rfl,rfl⟩:=Prod.mk.inj hE
      clear h2
      obtain⟨w80,hw80⟩: ∃w80,w80=w5.alloc (.cells #[.int .i64 g.t.ser, .int .i64 g.t.kind, .int .i64 g.t.frm, .int .i64 g.t.till, .int .i64 g.t.cls, .int .i64 g.t.card, .int .i64 g.t.seat, .int .i64 g.t.day, .int .i64 g.t.days, .int .i64 g.t.uses, .int .i64 g.t.epoch, .int .i64 g.key, .int .i64 g.left, .int .i64 g.inn, .int .i64 g.ver] 39):=⟨_,rfl⟩
      have hb:Below w5.heap.size w5 w80:=by rw[hw80];exact Aa w5 _ _
      replace XD:=Lib.hid (XD.out.next hb)
      replace HBL:=Lib.hid (HBL.out.trans (hb.mono HBL.out.size))
      have HW:=Lib.hid hw80
      clear hb hw80
     rotate_left
     focus
      obtain rfl:=Decidable.not_not.1 h2
      rw[if_neg h2]at hE
      obtain⟨q,hq⟩: ∃q,q=Bn l g.key:=⟨_,rfl⟩
      obtain⟨F0,hF0⟩: ∃F0,F0=As l g.key:=⟨_,rfl⟩
      rw[←hF0, ←hq]at hE
      have HQ:=Lib.hid hq
      have HF0:=Lib.hid hF0
      have HE:=Lib.hid hE
      clear hE h2 hq hF0
      go_wp2_with fail
      obtain⟨w6,hw,hx,hb⟩:=El w5 g
      rw[←hw]
      replace HA:=Lib.hid (HA.out.next hb)
      replace HB:=Lib.hid (HB.out.next hb)
      replace XD:=Lib.hid (XD.out.next hb)
      replace S1:=Lib.hid (S1.out.next hb)
      replace S2:=Lib.hid (S2.out.next hb)
      replace LT:=Lib.hid (LT.out.next hb)
      replace HBL:=Lib.hid (HBL.out.trans (hb.mono HBL.out.size))
      have X1:=Lib.hid hx
      clear hx hb hw
      obtain⟨B1,hB⟩: ∃B,B=w5.heap.size:=⟨_,rfl⟩
      rw[←hB]at X1⊢
      clear hB
      obtain⟨c0,c1,c2,c3,c4,c5,c6,c7,c8,c9,c10,c11,c12,c13,c14⟩:=X1.out.cells
      refine(Ju l n HN.out g.key A c w6 HA.out hn3 q F0 HQ.out HF0.out).mono ?_
      rintro e w7 ⟨S,cc,rfl,hs,hb⟩
      clear c0 c1 c2 c3 c4 c5 c6 c7 c8 c9 c10 c11 c12 c13 c14
      replace HA:=Lib.hid (HA.out.next hb)
      replace HB:=Lib.hid (HB.out.next hb)
      replace XD:=Lib.hid (XD.out.next hb)
      replace S1:=Lib.hid (S1.out.next hb)
      replace S2:=Lib.hid (S2.out.next hb)
      replace LT:=Lib.hid (LT.out.next hb)
      replace X1:=Lib.hid (X1.out.next hb)
      replace HBL:=Lib.hid (HBL.out.trans (hb.mono HBL.out.size))
      have FS:=Lib.hid hs
      clear hb hs
      have hE:=HE.out
      clear HE
      by_cases h3:F0≠0
      focus
       rw[if_pos h3]at hE
       obtain rfl:F0=10:=by rw[HF0.out];exact Rz H1.out (by rw[←HF0.out];exact h3)
       obtain⟨rfl,rfl⟩:=Prod.mk.inj hE
       clear h3
       obtain⟨w80,hw80⟩: ∃w80,w80=w7.alloc (.cells #[.int .i64 q.id, .slice S q.sec.length cc, .int .i64 q.frm, .int .i64 q.til] 44):=⟨_,rfl⟩
       have hb:Below w7.heap.size w7 w80:=by rw[hw80];exact Aa w7 _ _
       replace XD:=Lib.hid (XD.out.next hb)
       replace HBL:=Lib.hid (HBL.out.trans (hb.mono HBL.out.size))
       have HW:=Lib.hid hw80
       clear hb hw80
      rotate_left
      focus
       obtain rfl:=Decidable.not_not.1 h3
       rw[if_neg h3]at hE
       obtain⟨T,hTg⟩: ∃T,tagB q.sec (restB P)=T:=⟨_,rfl⟩
       obtain⟨F,hFA⟩: ∃F:Array Value,F=(U8 T).toArray:=⟨_,rfl⟩
       have hTL:T.length=32:=by rw[←hTg];exact Gr _ _
       have HTT:=Lib.hid (show∀x∈T,x<256 by rw[←hTg];exact Rf _ _)
       rw[hTg]at hE
       obtain⟨t6,h6⟩: ∃t6,(Eg P==T)=t6:=⟨_,rfl⟩
       skip
       have H6:=Lib.hid h6
       have H64:=Lib.hid (show q.sec.length≤64 by rw[HQ.out];exact Iw HF0.out.symm)
       have HFB:=Lib.hid (show F=(U8 (tagB q.sec (restB P))).toArray by rw[hTg];exact hFA)
       have HIS:=Lib.hid (Fx hFA hTL)
       have HFT:=Lib.hid hFA
       have HTL:=Lib.hid hTL
       have HE:=Lib.hid hE
       clear hE h3 hTg h6 hFA hTL
       go_wp2_with fail
       obtain⟨w8,hw,hx,hb⟩:=Ik w7 ⟨q,S,cc⟩ FS.out
       rw[←hw]
       replace HA:=Lib.hid (HA.out.next hb)
       replace HB:=Lib.hid (HB.out.next hb)
       replace XD:=Lib.hid (XD.out.next hb)
       replace S1:=Lib.hid (S1.out.next hb)
       replace S2:=Lib.hid (S2.out.next hb)
       replace LT:=Lib.hid (LT.out.next hb)
       replace X1:=Lib.hid (X1.out.next hb)
       replace FS:=Lib.hid (FS.out.next hb)
       replace HBL:=Lib.hid (HBL.out.trans (hb.mono HBL.out.size))
       have HX9:=Lib.hid hx
       clear hx hb hw
       obtain⟨X,hB⟩: ∃B,B=w7.heap.size:=⟨_,rfl⟩
       rw[←hB]at HX9⊢
       clear hB
       have k1:=cell_of_row _ _ 1 _ _ _ HX9.out.1
       go_wp2_with fail
       refine(bE q.sec (restB P) q.sec.length j rfl HRJ.out S A1 cc c1 w8 FS.out S1.out (by have:=H64.out;omega) hjm F HFB.out).mono ?_
       rintro e w9 ⟨rfl,hb⟩
       clear k1
       replace HA:=Lib.hid (HA.out.next hb)
       replace HB:=Lib.hid (HB.out.next hb)
       replace XD:=Lib.hid (XD.out.next hb)
       replace S1:=Lib.hid (S1.out.next hb)
       replace S2:=Lib.hid (S2.out.next hb)
       replace LT:=Lib.hid (LT.out.next hb)
       replace X1:=Lib.hid (X1.out.next hb)
       replace FS:=Lib.hid (FS.out.next hb)
       replace HX9:=Lib.hid (HX9.out.next hb)
       replace HBL:=Lib.hid (HBL.out.trans (hb.mono HBL.out.size))
       clear hb
       go_wp2_with ((with_reducible refine Ac 15 ?_);refine Al (heap_alloc_new w9 _) HIS.out.1 HIS.out.2.2 ?_ (hold:=HIS.out.2.1);intro w20 hw20;have HR4:=Lib.hid (Bg hw20.out))
       have hb:=HR4.out.2.2
       replace HA:=Lib.hid (HA.out.next hb)
       replace HB:=Lib.hid (HB.out.next hb)
       replace XD:=Lib.hid (XD.out.next hb)
       replace S1:=Lib.hid (S1.out.next hb)
       replace S2:=Lib.hid (S2.out.next hb)
       replace LT:=Lib.hid (LT.out.next hb)
       replace X1:=Lib.hid (X1.out.next hb)
       replace FS:=Lib.hid (FS.out.next hb)
       replace HX9:=Lib.hid (HX9.out.next hb)
       replace HBL:=Lib.hid (HBL.out.trans (hb.mono HBL.out.size))
       clear hb
       have HRT:=Lib.hid (show Bs w20 w20.heap.size T (some ⟨w9.heap.size,0,none⟩) 32 from⟨Qg HR4.out.2.1 HFT.out,(fun h=>by cases h),(by rw[HTL.out];omega),(by omega),HTT.out⟩)
       refine(dF (Eg P) T t6 H6.out 32 32 HSJ.out HTL.out.symm A2 _ c2 32 w20 S2.out HRT.out).mono ?_
       rintro e w10 ⟨rfl,hb⟩
       replace HA:=Lib.hid (HA.out.next hb)
       replace HB:=Lib.hid (HB.out.next hb)
       replace XD:=Lib.hid (XD.out.next hb)
       replace S1:=Lib.hid (S1.out.next hb)
       replace S2:=Lib.hid (S2.out.next hb)
       replace LT:=Lib.hid (LT.out.next hb)
       replace X1:=Lib.hid (X1.out.next hb)
       replace FS:=Lib.hid (FS.out.next hb)
       replace HX9:=Lib.hid (HX9.out.next hb)
       replace HBL:=Lib.hid (HBL.out.trans (hb.mono HBL.out.size))
       clear hb
       have hE:=HE.out
       clear HE
       have h6:=H6.out
       cases t6
       rotate_left
       focus
        rw[if_neg (by simpa using h6)]at hE
        obtain⟨rfl,rfl⟩:=Prod.mk.inj hE
        clear h6
        obtain⟨c0,c1,c2,c3,c4,c5,c6,c7,c8,c9,c10,c11,c12,c13,c14⟩:=X1.out.cells
        go_wp2_with ((with_reducible refine Ac 4 ?_);(try rw[←HW.out]);refine Qk XD.out ?_)
        intro w90 hw90
        go_wp2
        refine bodyPost_ret (Ab Tryz.results29 _ w90 (w.heap.size) 39 #[.int .i64 g.t.ser, .int .i64 g.t.kind, .int .i64 g.t.frm, .int .i64 g.t.till, .int .i64 g.t.cls, .int .i64 g.t.card, .int .i64 g.t.seat, .int .i64 g.t.day, .int .i64 g.t.days, .int .i64 g.t.uses, .int .i64 g.t.epoch, .int .i64 g.key, .int .i64 g.left, .int .i64 g.inn, .int .i64 g.ver] (0,0) _ rfl (by rw[hw90.out];exact setRow_heap _ _ _ _ _ _ XD.out) Tryz.underlying39 rfl Ai) rfl ⟨rfl, ?_⟩
        rw[hw90.out]
        exact below_setRow HBL.out (Nat.le_refl _) _
       rw[if_pos (by simpa using h6)]at hE
       obtain⟨rfl,rfl⟩:=Prod.mk.inj hE
       clear h6
 all_goals
  go_wp2_with ((with_reducible refine Ac 4 ?_);(try rw[←HW.out]);refine Qk XD.out ?_)
  intro w90 hw90
  go_wp2
  refine bodyPost_ret (Ab Tryz.results29 _ w90 (w.heap.size) 39 #[.int .i64 0, .int .i64 0, .int .i64 0, .int .i64 0, .int .i64 0, .int .i64 0, .int .i64 0, .int .i64 0, .int .i64 0, .int .i64 0, .int .i64 0, .int .i64 0, .int .i64 0, .int .i64 0, .int .i64 0] (0,0) _ rfl (by rw[hw90.out];exact setRow_heap _ _ _ _ _ _ XD.out) Tryz.underlying39 rfl Ai) rfl ⟨rfl, ?_⟩
  rw[hw90.out]
  exact below_setRow HBL.out (Nat.le_refl _) _
theorem Aci (l:List K) (n:Nat) (hn:n=l.length) (hn3:n≤9223372036854775807) (b:List Nat) (m:Nat) (hm:m=b.length) (hm4:m≤4000) (A:Option Addr) (c:Nat) (B:Option Addr) (d:Nat) (i j k E:Int) (p:List Nat) (hi:Cl i) (hj:Cl j) (hk:Cl k) (hE:toS l b i j k=(E,p)) (w:World) (hA:Ks w w.heap.size A l) (hB:Bs w w.heap.size b B d):Calls Tryz.prog 14 #[.slice A n c, .slice B m d, .agg #[.int .i64 i, .int .i64 j], .int .i64 k] w fun e w'=> ∃A' c',e= .returned (.tuple #[.slice A' (p.length:Nat) c', .int .i64 E])∧Bs w' w'.heap.size p A' c'∧Below w.heap.size w w':=by
 obtain⟨G,r,hD⟩: ∃G r,Gs l b=(G,r):=⟨_,_,rfl⟩
 have HN:=Lib.hid hn
 have HM:=Lib.hid hm
 have HA:=Lib.hid hA
 have HB:=Lib.hid hB
 have HE:=Lib.hid hE
 have HD:=Lib.hid hD
 clear hn hm hA hB hE hD
 have HBL:=Lib.hid (Below.refl w.heap.size w)
 go_enter Tryz.func14, Tryz.ntmps14
 go_wp2_with fail
 obtain⟨w1,hw⟩: ∃w1,w1=w.alloc (.cells #[.int .i64 i, .int .i64 j] 26):=⟨_,rfl⟩
 rw[←hw]
 have hx:Cd w1 w.heap.size i j:=by rw[hw];exact Cd.new w i j
 have hb:Below w.heap.size w w1:=by rw[hw];exact Aa w _ _
 replace HA:=Lib.hid (HA.out.next hb)
 replace HB:=Lib.hid (HB.out.next hb)
 replace HBL:=Lib.hid (HBL.out.trans (hb.mono HBL.out.size))
 have JX:=Lib.hid hx
 clear hx hb hw
 obtain⟨BJ,hB⟩: ∃B,B=w.heap.size:=⟨_,rfl⟩
 rw[←hB]at JX⊢
 clear hB
 refine(xZ l n HN.out hn3 b m HM.out hm4 A c B d G r HD.out w1 HA.out HB.out).mono ?_
 rintro e w2 ⟨rfl,hb⟩
 replace HA:=Lib.hid (HA.out.next hb)
 replace HB:=Lib.hid (HB.out.next hb)
 replace JX:=Lib.hid (JX.out.next hb)
 replace HBL:=Lib.hid (HBL.out.trans (hb.mono HBL.out.size))
 clear hb
 have hE:=HE.out
 clear HE
 by_cases h0:G≠0
 focus
  rw[toS,HD.out,if_pos h0]at hE
  have s1:((G:Int)==0)=false:=by rw[beq_eq_false_iff_ne];omega
  have s2:((G:Int) !=0)=true:=by rw[bne_iff_ne];omega
  have s3:(G==0)=false:=by rw[beq_eq_false_iff_ne];exact h0
  have s4:(G !=0)=true:=by rw[bne_iff_ne];exact h0
  obtain⟨rfl,rfl⟩:=Prod.mk.inj hE
  clear h0
  go_wp2_with fail
  obtain⟨w3,hw,hx,hb⟩:=El w2 r
  rw[←hw]
  replace HA:=Lib.hid (HA.out.next hb)
  replace HB:=Lib.hid (HB.out.next hb)
  replace JX:=Lib.hid (JX.out.next hb)
  replace HBL:=Lib.hid (HBL.out.trans (hb.mono HBL.out.size))
  have X1:=Lib.hid hx
  clear hx hb hw
  obtain⟨B1,hB⟩: ∃B,B=w2.heap.size:=⟨_,rfl⟩
  rw[←hB]at X1⊢
  clear hB
  go_wp2
  go_ret2
  exact⟨none,0,rfl,Bs.empty _ _,HBL.out⟩
 rotate_left
 focus
  obtain rfl:=Decidable.not_not.1 h0
  rw[Pa HD.out]at hE
  have HIN:=Lib.hid (Aez HD.out hi hj hk)
  have HE:=Lib.hid hE
  clear hE h0
  have JXa:=Lib.hid (JX.out.alloc (.cells #[.int .i64 r.t.ser, .int .i64 r.t.kind, .int .i64 r.t.frm, .int .i64 r.t.till, .int .i64 r.t.cls, .int .i64 r.t.card, .int .i64 r.t.seat, .int .i64 r.t.day, .int .i64 r.t.days, .int .i64 r.t.uses, .int .i64 r.t.epoch, .int .i64 r.key, .int .i64 r.left, .int .i64 r.inn, .int .i64 r.ver] 39))
  obtain⟨d0,d1⟩:=JXa.out.cells
  go_wp2_with fail
  obtain⟨w3,hw,hx,hb⟩:=El w2 r
  rw[←hw]
  clear d0 d1
  replace HA:=Lib.hid (HA.out.next hb)
  replace HB:=Lib.hid (HB.out.next hb)
  replace JX:=Lib.hid (JX.out.next hb)
  replace HBL:=Lib.hid (HBL.out.trans (hb.mono HBL.out.size))
  have X1:=Lib.hid hx
  clear hx hb hw
  obtain⟨B1,hB⟩: ∃B,B=w2.heap.size:=⟨_,rfl⟩
  rw[←hB]at X1⊢
  clear hB
  clear JXa
  obtain⟨c0,c1,c2,c3,c4,c5,c6,c7,c8,c9,c10,c11,c12,c13,c14⟩:=X1.out.cells
  go_wp2_with fail
  refine(AaO l n HN.out hn3 A c ⟨r.t,k,i,j,0⟩ HIN.out E p HE.out w3 HA.out).mono ?_
  rintro e w4 ⟨AP1,cP1,rfl,hs,hb⟩
  clear c0 c1 c2 c3 c4 c5 c6 c7 c8 c9 c10 c11 c12 c13 c14
  replace HA:=Lib.hid (HA.out.next hb)
  replace HB:=Lib.hid (HB.out.next hb)
  replace JX:=Lib.hid (JX.out.next hb)
  replace X1:=Lib.hid (X1.out.next hb)
  replace HBL:=Lib.hid (HBL.out.trans (hb.mono HBL.out.size))
  have P1:=Lib.hid hs
  clear hb hs
  go_wp2
  go_ret2
  exact⟨_,_,rfl,P1.out,HBL.out⟩
theorem gK (C:XC) (l:List K) (n:Nat) (hn:n=l.length) (hn3:n≤9223372036854775807) (A:Option Addr) (c:Nat) (b:List Nat) (m:Nat) (hm:m=b.length) (B:Option Addr) (d:Nat) (i j k:Int) (hi:Cl i) (hj:Cl j) (hk:Cl k) (w:World) (hT:Cx w) (hA:Ks w w.heap.size A l) (hB:Bs w w.heap.size b B d):Calls Tryz.prog 4 #[.slice A n c, .slice B m d, .agg #[.int .i64 i, .int .i64 j], .int .i64 k] w fun e w'=>e= .returned (.bool true)∧Below w.heap.size w w':=by
 have hm2:=hB.len
 have hm3:=hB.cap
 have hb256:=hB.lt
 have HN:=Lib.hid hn
 have HM:=Lib.hid hm
 have HT:=Lib.hid hT
 have HA:=Lib.hid hA
 have HB:=Lib.hid hB
 have HBT:=Lib.hid hb256
 clear hn hm hT hA hB hb256
 obtain⟨bb,hbb⟩: ∃bb,Ss l=bb:=⟨_,rfl⟩
 have HBB:=Lib.hid hbb
 clear hbb
 obtain⟨E,p,hE⟩: ∃E p,toS l b i j k=(E,p):=⟨_,_,rfl⟩
 have HE:=Lib.hid hE
 clear hE
 have HBL:=Lib.hid (Below.refl w.heap.size w)
 go_enter Tryz.func4, Tryz.ntmps4
 go_wp2_with fail
 obtain⟨w1,hw⟩: ∃w1,w1=w.alloc (.cells #[.int .i64 i, .int .i64 j] 26):=⟨_,rfl⟩
 rw[←hw]
 have hx:Cd w1 w.heap.size i j:=by rw[hw];exact Cd.new w i j
 have hb:Below w.heap.size w w1:=by rw[hw];exact Aa w _ _
 replace HT:=Lib.hid (HT.out.next hb)
 replace HA:=Lib.hid (HA.out.next hb)
 replace HB:=Lib.hid (HB.out.next hb)
 replace HBL:=Lib.hid (HBL.out.trans (hb.mono HBL.out.size))
 have J1:=Lib.hid hx
 clear hx hb hw
 obtain⟨B1,hB⟩: ∃B,B=w.heap.size:=⟨_,rfl⟩
 rw[←hB]at J1⊢
 clear hB
 refine(Dd l n HN.out bb HBB.out A c w1 HA.out hn3).mono ?_
 rintro e w2 ⟨rfl,hb⟩
 replace HT:=Lib.hid (HT.out.next hb)
 replace HA:=Lib.hid (HA.out.next hb)
 replace HB:=Lib.hid (HB.out.next hb)
 replace J1:=Lib.hid (J1.out.next hb)
 replace HBL:=Lib.hid (HBL.out.trans (hb.mono HBL.out.size))
 clear hb
 cases bb
 rotate_left
 focus
  go_wp2
  go_ret
  exact⟨rfl,HBL.out⟩
 rotate_left
 focus
  by_cases q0:2000<m
  focus
   have p0:(2000:Int)<(m:Int):=by omega
   go_wp2
   go_ret
   exact⟨rfl,HBL.out⟩
  rotate_left
  focus
   have p0: ¬((2000:Int)<(m:Int)):=by omega
   obtain⟨e0,e1⟩:=J1.out.cells
   go_wp2_with fail
   refine(C.tos l n b m A c B d i j k E p w2 HN.out hn3 HM.out (by omega) hi hj hk HE.out HT.out HA.out HB.out).mono ?_
   rintro e w3 ⟨AP1,cP1,rfl,hs,hb⟩
   clear e0 e1
   replace HT:=Lib.hid (HT.out.next hb)
   replace HA:=Lib.hid (HA.out.next hb)
   replace HB:=Lib.hid (HB.out.next hb)
   replace J1:=Lib.hid (J1.out.next hb)
   replace HBL:=Lib.hid (HBL.out.trans (hb.mono HBL.out.size))
   have P1:=Lib.hid hs
   clear hb hs
   obtain⟨e0,e1⟩:=J1.out.cells
   go_wp2_with fail
   refine(Aci l n HN.out hn3 b m HM.out (by omega) A c B d i j k E p hi hj hk HE.out w3 HA.out HB.out).mono ?_
   rintro e w4 ⟨AP2,cP2,rfl,hs,hb⟩
   clear e0 e1
   replace HT:=Lib.hid (HT.out.next hb)
   replace HA:=Lib.hid (HA.out.next hb)
   replace HB:=Lib.hid (HB.out.next hb)
   replace J1:=Lib.hid (J1.out.next hb)
   replace P1:=Lib.hid (P1.out.next hb)
   replace HBL:=Lib.hid (HBL.out.trans (hb.mono HBL.out.size))
   have P2:=Lib.hid hs
   clear hb hs
   go_wp2_with fail
   refine(Az C w4 HT.out).mono ?_
   rintro e w5 ⟨rfl,hb⟩
   replace HT:=Lib.hid (HT.out.next hb)
   replace HA:=Lib.hid (HA.out.next hb)
   replace HB:=Lib.hid (HB.out.next hb)
   replace J1:=Lib.hid (J1.out.next hb)
   replace P1:=Lib.hid (P1.out.next hb)
   replace P2:=Lib.hid (P2.out.next hb)
   replace HBL:=Lib.hid (HBL.out.trans (hb.mono HBL.out.size))
   clear hb
   go_wp2_with fail
   refine(Iv p p.length p.length rfl rfl AP1 AP2 cP1 cP2 w5 P1.out P2.out).mono ?_
   rintro e w6 ⟨rfl,hb⟩
   replace HT:=Lib.hid (HT.out.next hb)
   replace HA:=Lib.hid (HA.out.next hb)
   replace HB:=Lib.hid (HB.out.next hb)
   replace J1:=Lib.hid (J1.out.next hb)
   replace P1:=Lib.hid (P1.out.next hb)
   replace P2:=Lib.hid (P2.out.next hb)
   replace HBL:=Lib.hid (HBL.out.trans (hb.mono HBL.out.size))
   clear hb
   go_wp2
   go_ret
   exact⟨rfl,HBL.out⟩
end Go.Proofs.YtmdbfogjfbbpjaaGreatDoor
