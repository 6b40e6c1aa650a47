import Derived.Test.YtmdbfogjfbbpjaaGreatDoorRingPFind
import Derived.Test.YtmdbfogjfbbpjaaGreatDoorLayPGet
import Derived.Test.YtmdbfogjfbbpjaaGreatDoorMem
import Derived.Test.YtmdbfogjfbbpjaaGreatDoorLayPFields
import Derived.Laws.EntriesVeiled
import Derived.Shelf.Abstract
import Derived.Test.YtmdbfogjfbbpjaaGreatDoorTrackBackMath
import Derived.Test.YtmdbfogjfbbpjaaGreatDoorTrackPGet
import Derived.Test.YtmdbfogjfbbpjaaGreatDoorFieldsMath
set_option maxHeartbeats 1600000
set_option maxRecDepth 100000
set_option linter.unusedVariables false
section
namespace Go.Proofs.YtmdbfogjfbbpjaaGreatDoor
open Go.ChangeShapes Go.WideShapes Go.ChangeAt Go.RowKit
theorem mO (l:List K) (n:Nat) (hn:n=l.length) (hn3:n≤9223372036854775807) (b:List Nat) (m:Nat) (hm:m=b.length) (hm2:m≤1048576) (A:Option Addr) (c:Nat) (B:Option Addr) (d:Nat) (E:Int) (r:Rg) (hE:Hn l b=(E,r)) (w:World) (hT:Cx w) (hA:Ks w w.heap.size A l) (hB:Bs w w.heap.size b B d):Calls Tryz.prog 15 #[.slice A n c, .slice B m d] w fun e w'=>e= .returned (.tuple #[.agg #[.int .i64 r.t.ser, .int .i64 r.t.kind, .int .i64 r.t.frm, .int .i64 r.t.till, .int .i64 r.t.cls, .int .i64 r.t.card, .int .i64 r.t.seat, .int .i64 r.t.day, .int .i64 r.t.days, .int .i64 r.t.uses, .int .i64 r.t.epoch, .int .i64 r.key, .int .i64 r.left, .int .i64 r.inn, .int .i64 r.ver], .int .i64 E])∧Below w.heap.size w w':=by
 have hmf: ∀(fn:Fn) (first cap:Array Value) (w:World),(Instr.makeFunc fn first cap).run Tryz.prog w= .ok (.func fn first cap) w:=fun _ _ _ _=>rfl
 have HN:=Lib.hid hn
 have HM:=Lib.hid hm
 have HT:=Lib.hid hT
 have HA:=Lib.hid hA
 have HB:=Lib.hid hB
 have HE:=Lib.hid hE
 clear hn hm hT hA hB hE
 go_enter_defers Tryz.func15, Tryz.ntmps15
 go_wp2_with fail
 obtain⟨w0,hw⟩: ∃w0,w0=(w.alloc (.cells #[.int .i64 0, .int .i64 0, .int .i64 0, .int .i64 0, .int .i64 0, .int .i64 0, .int .i64 0, .int .i64 0, .int .i64 0, .int .i64 0, .int .i64 0, .int .i64 0, .int .i64 0, .int .i64 0, .int .i64 0] 39)).alloc (.cells #[.int .i64 0] 27):=⟨_,rfl⟩
 rw[←hw]
 have XD:=Lib.hid (show Am w0 (w.heap.size) Ah by rw[hw];exact(Am.new w Ah).alloc _)
 have XF:=Lib.hid (show w0.heap[w.heap.size+1]?=some (.cells #[.int .i64 0] 27 (0,0)) by rw[hw,show w.heap.size+1=(w.alloc (.cells #[.int .i64 0, .int .i64 0, .int .i64 0, .int .i64 0, .int .i64 0, .int .i64 0, .int .i64 0, .int .i64 0, .int .i64 0, .int .i64 0, .int .i64 0, .int .i64 0, .int .i64 0, .int .i64 0, .int .i64 0] 39)).heap.size from(World.size_alloc _ _).symm];exact heap_alloc_new _ _)
 have HBL:=Lib.hid (show Below w.heap.size w w0 by rw[hw];exact(Aa w #[.int .i64 0, .int .i64 0, .int .i64 0, .int .i64 0, .int .i64 0, .int .i64 0, .int .i64 0, .int .i64 0, .int .i64 0, .int .i64 0, .int .i64 0, .int .i64 0, .int .i64 0, .int .i64 0, .int .i64 0] 39).trans ((Aa _ _ _).mono (Aa w #[.int .i64 0, .int .i64 0, .int .i64 0, .int .i64 0, .int .i64 0, .int .i64 0, .int .i64 0, .int .i64 0, .int .i64 0, .int .i64 0, .int .i64 0, .int .i64 0, .int .i64 0, .int .i64 0, .int .i64 0] 39).size))
 clear hw
 have hE:=HE.out
 clear HE
 cases h1:isR l
 focus
  rw[Hn,if_pos h1]at hE
  obtain⟨rfl,rfl⟩:=Prod.mk.inj hE
  have H1:=Lib.hid h1
  clear h1 hE
  go_wp2_with fail
  refine(Ho l n HN.out false H1.out A c w0 (HA.out.next HBL.out) hn3).mono ?_
  rintro e w1 ⟨rfl,hb⟩
  replace XD:=Lib.hid (XD.out.next hb)
  replace XF:=Lib.hid ((hb.block _ (Array.getElem?_eq_some_iff.1 XF.out).1).trans XF.out)
  replace HBL:=Lib.hid (HBL.out.trans (hb.mono HBL.out.size))
  clear hb
  go_wp2_with fail
  refine(Vi 1 w1).mono ?_
  rintro e w2 ⟨rfl,hb⟩
  replace XD:=Lib.hid (XD.out.next hb)
  replace XF:=Lib.hid ((hb.block _ (Array.getElem?_eq_some_iff.1 XF.out).1).trans XF.out)
  replace HBL:=Lib.hid (HBL.out.trans (hb.mono HBL.out.size))
  clear hb
 rotate_left
 focus
  rw[Hn,if_neg (by rw[h1];decide)]at hE
  have H1:=Lib.hid h1
  have HE:=Lib.hid hE
  clear h1 hE
  go_wp2_with fail
  refine(Ho l n HN.out true H1.out A c w0 (HA.out.next HBL.out) hn3).mono ?_
  rintro e w1 ⟨rfl,hb⟩
  replace XD:=Lib.hid (XD.out.next hb)
  replace XF:=Lib.hid ((hb.block _ (Array.getElem?_eq_some_iff.1 XF.out).1).trans XF.out)
  replace HBL:=Lib.hid (HBL.out.trans (hb.mono HBL.out.size))
  clear hb
  go_wp2_with fail
  refine(Vh 1 w1).mono ?_
  rintro e w2 ⟨rfl,hb⟩
  replace XD:=Lib.hid (XD.out.next hb)
  replace XF:=Lib.hid ((hb.block _ (Array.getElem?_eq_some_iff.1 XF.out).1).trans XF.out)
  replace HBL:=Lib.hid (HBL.out.trans (hb.mono HBL.out.size))
  clear hb
  have hE:=HE.out
  clear HE
  by_cases h2:Gm b≠0
  focus
   rw[if_pos h2]at hE
   obtain⟨hE1,rfl⟩:=Prod.mk.inj hE
   rw[hE1]at h2
   have HG:=Lib.hid hE1
   have H2:=Lib.hid h2
   clear h2 hE hE1
   go_wp2_with fail
   refine(wO b m HM.out hm2 E HG.out H2.out B d w2 (HB.out.next HBL.out)).mono ?_
   rintro e w3 ⟨rfl,hb⟩
   replace XD:=Lib.hid (XD.out.next hb)
   replace XF:=Lib.hid ((hb.block _ (Array.getElem?_eq_some_iff.1 XF.out).1).trans XF.out)
   replace HBL:=Lib.hid (HBL.out.trans (hb.mono HBL.out.size))
   clear hb
  rotate_left
  focus
   rw[if_neg h2,Ug]at hE
   have H2:=Lib.hid (Decidable.not_not.1 h2)
   clear h2
   obtain⟨p,hp⟩: ∃p,readL b=p:=⟨_,rfl⟩
   rw[hp]at hE
   have HP:=Lib.hid hp
   clear hp
   by_cases h3:p.length<10
   focus
    rw[if_pos h3]at hE
    obtain⟨rfl,rfl⟩:=Prod.mk.inj hE
    have H3:=Lib.hid h3
    clear h3 hE
    go_wp2_with fail
    refine(fI b m HM.out hm2 H2.out p HP.out p.length rfl H3.out B d w2 (HB.out.next HBL.out)).mono ?_
    rintro e w3 ⟨rfl,hb⟩
    replace XD:=Lib.hid (XD.out.next hb)
    replace XF:=Lib.hid ((hb.block _ (Array.getElem?_eq_some_iff.1 XF.out).1).trans XF.out)
    replace HBL:=Lib.hid (HBL.out.trans (hb.mono HBL.out.size))
    clear hb
   rotate_left
   focus
    rw[if_neg h3]at hE
    obtain⟨k,hk⟩: ∃k,p.length=k:=⟨_,rfl⟩
    obtain⟨j,hj⟩: ∃j,k=j+10:=⟨k - 10,by omega⟩
    have HJ:=Lib.hid (show j=(Cb p).length by rw[Cb,List.length_take];omega)
    have HJ2:=Lib.hid (show 10=(Gf p).length by rw[Gf,List.length_drop];omega)
    have HK:=Lib.hid hk
    have HJK:=Lib.hid hj
    have HE:=Lib.hid hE
    clear h3 hk hj hE
    go_wp2_with fail
    refine(wP b m HM.out hm2 H2.out p HP.out k j HK.out HJK.out B d w2 (HB.out.next HBL.out)).mono ?_
    rintro e w3 ⟨A1,c1,A2,c2,rfl,hs1,hs2,hb⟩
    replace XD:=Lib.hid (XD.out.next hb)
    replace XF:=Lib.hid ((hb.block _ (Array.getElem?_eq_some_iff.1 XF.out).1).trans XF.out)
    replace HBL:=Lib.hid (HBL.out.trans (hb.mono HBL.out.size))
    clear hb
    have S1:=Lib.hid hs1
    clear hs1
    have S2:=Lib.hid hs2
    clear hs2
    have hE:=HE.out
    clear HE
    obtain⟨G,g,hG⟩: ∃G g,By (Cb p)=(G,g):=⟨_,_,rfl⟩
    rw[hG]at hE
    simp only at hE
    by_cases h4:G≠0
    focus
     rw[if_pos h4]at hE
     obtain⟨hE1,rfl⟩:=Prod.mk.inj hE
     subst hE1
     have HG:=Lib.hid hG
     have H4:=Lib.hid h4
     clear h4 hE hG
     go_wp2_with fail
     refine(Abx (Cb p) j HJ.out A1 c1 w3 S1.out G g HG.out H4.out).mono ?_
     rintro e w4 ⟨rfl,hb⟩
     replace XD:=Lib.hid (XD.out.next hb)
     replace XF:=Lib.hid ((hb.block _ (Array.getElem?_eq_some_iff.1 XF.out).1).trans XF.out)
     replace S1:=Lib.hid (S1.out.next hb)
     replace S2:=Lib.hid (S2.out.next hb)
     replace HBL:=Lib.hid (HBL.out.trans (hb.mono HBL.out.size))
     clear hb
    rotate_left
    focus
     obtain rfl:=Decidable.not_not.1 h4
     rw[if_neg h4]at hE
     have hL:=Ta hG
     have HJL:=Lib.hid (show j≤3999 by have:=HJ.out;omega)
     have HG:=Lib.hid hG
     have HE:=Lib.hid hE
     clear h4 hL hG hE
     go_wp2_with fail
     refine(Aby (Cb p) j HJ.out A1 c1 w3 S1.out g HG.out).mono ?_
     rintro e w4 ⟨rfl,hb⟩
     replace XD:=Lib.hid (XD.out.next hb)
     replace XF:=Lib.hid ((hb.block _ (Array.getElem?_eq_some_iff.1 XF.out).1).trans XF.out)
     replace S1:=Lib.hid (S1.out.next hb)
     replace S2:=Lib.hid (S2.out.next hb)
     replace HBL:=Lib.hid (HBL.out.trans (hb.mono HBL.out.size))
     clear hb
     go_wp2_with ((with_reducible refine Ac 4 ?_);refine Al XD.out Ai (Bh _ _ _ _ _ _ _ _ _ _ _ _ _ _ _) ?_;intro w20 hw20;have XD2:=Lib.hid (show Am w20 (w.heap.size) g by rw[hw20.out];exact setRow_heap _ _ _ _ _ _ XD.out);have XF2:=Lib.hid (show w20.heap[w.heap.size+1]?=some (.cells #[.int .i64 0] 27 (0,0)) by rw[hw20.out,setRow_other _ _ _ _ (by omega)];exact XF.out);have HB2:=Lib.hid (show Below w.heap.size w w20 by rw[hw20.out];exact below_setRow HBL.out (Nat.le_refl _) _);have T1:=Lib.hid (show Bs w20 w20.heap.size (Cb p) A1 c1 by rw[hw20.out,size_setRow];exact Sk S1.out XD.out);have T2:=Lib.hid (show Bs w20 w20.heap.size (Gf p) A2 c2 by rw[hw20.out,size_setRow];exact Sk S2.out XD.out);clear XD XF HBL S1 S2 hw20;have XD:=XD2;have XF:=XF2;have HBL:=HB2;have S1:=T1;have S2:=T2;clear XD2 XF2 HB2 T1 T2;obtain⟨c0,c1,c2,c3,c4,c5,c6,c7,c8,c9,c10,c11,c12,c13,c14⟩:=XD.out.cells)
     clear c0 c1 c2 c3 c4 c5 c6 c7 c8 c9 c10 c11 c12 c13 c14
     have hE:=HE.out
     clear HE
     obtain⟨G,hF⟩: ∃G,As l g.key=G:=⟨_,rfl⟩
     rw[hF]at hE
     by_cases h5:G≠0
     focus
      rw[if_pos h5]at hE
      obtain⟨hE1,rfl⟩:=Prod.mk.inj hE
      subst hE1
      have HF:=Lib.hid hF
      have H5:=Lib.hid h5
      clear h5 hE hF
      go_wp2_with fail
      refine(Afn l n HN.out hn3 g.key A c (Cb p) j HJ.out HJL.out A1 c1 w20 (HT.out.next HBL.out) (HA.out.next HBL.out) S1.out G HF.out H5.out).mono ?_
      rintro e w5 ⟨rfl,hb⟩
      replace XD:=Lib.hid (XD.out.next hb)
      replace XF:=Lib.hid ((hb.block _ (Array.getElem?_eq_some_iff.1 XF.out).1).trans XF.out)
      replace S1:=Lib.hid (S1.out.next hb)
      replace S2:=Lib.hid (S2.out.next hb)
      replace HBL:=Lib.hid (HBL.out.trans (hb.mono HBL.out.size))
      clear hb
     rotate_left
     focus
      rw[if_neg h5]at hE
      have H5:=Lib.hid (hF.trans (Decidable.not_not.1 h5))
      clear h5 hF
      obtain⟨T,hTg⟩: ∃T,tagS (Bn l g.key).sec (Cb p)=T:=⟨_,rfl⟩
      have HTL:=Lib.hid (show T.length=10 by rw[←hTg];exact Ko _ _)
      have HTT:=Lib.hid (show∀x∈T,x<256 by rw[←hTg];exact eX _ _)
      rw[hTg]at hE
      have HTG:=Lib.hid hTg
      have HE:=Lib.hid hE
      clear hTg hE
      go_wp2_with fail
      refine(Afm l n HN.out hn3 g.key A c (Cb p) j HJ.out HJL.out A1 c1 w20 (HT.out.next HBL.out) (HA.out.next HBL.out) S1.out H5.out T HTG.out).mono ?_
      rintro e w5 ⟨g9,cap,rfl,hs,hb⟩
      replace XD:=Lib.hid (XD.out.next hb)
      replace XF:=Lib.hid ((hb.block _ (Array.getElem?_eq_some_iff.1 XF.out).1).trans XF.out)
      replace S1:=Lib.hid (S1.out.next hb)
      replace S2:=Lib.hid (S2.out.next hb)
      replace HBL:=Lib.hid (HBL.out.trans (hb.mono HBL.out.size))
      clear hb
      have G:=Lib.hid hs
      clear hs
      go_wp2_with fail
      refine(Lq (Gf p) T 10 10 HJ2.out HTL.out.symm A2 _ c2 cap w5 S2.out.rd G.out S2.out.lt HTT.out (by omega) (by omega)).mono ?_
      rintro e w6 ⟨rfl,hb⟩
      replace XD:=Lib.hid (XD.out.next hb)
      replace XF:=Lib.hid ((hb.block _ (Array.getElem?_eq_some_iff.1 XF.out).1).trans XF.out)
      replace S1:=Lib.hid (S1.out.next hb)
      replace S2:=Lib.hid (S2.out.next hb)
      replace G:=Lib.hid (G.out.next hb)
      replace HBL:=Lib.hid (HBL.out.trans (hb.mono HBL.out.size))
      clear hb
      have hE:=HE.out
      clear HE
      cases h6:Gf p==T
      focus
       rw[if_pos h6]at hE
       obtain⟨rfl,rfl⟩:=Prod.mk.inj hE
       clear h6 hE
       go_wp2_with fail
       refine(Vi 11 w6).mono ?_
       rintro e w7 ⟨rfl,hb⟩
       replace XD:=Lib.hid (XD.out.next hb)
       replace XF:=Lib.hid ((hb.block _ (Array.getElem?_eq_some_iff.1 XF.out).1).trans XF.out)
       replace S1:=Lib.hid (S1.out.next hb)
       replace S2:=Lib.hid (S2.out.next hb)
       replace G:=Lib.hid (G.out.next hb)
       replace HBL:=Lib.hid (HBL.out.trans (hb.mono HBL.out.size))
       clear hb
      rotate_left
      focus
       rw[if_neg (by rw[h6];decide)]at hE
       obtain⟨rfl,rfl⟩:=Prod.mk.inj hE
       clear h6 hE
       go_wp2_with fail
       refine(Vh 11 w6).mono ?_
       rintro e w7 ⟨rfl,hb⟩
       replace XD:=Lib.hid (XD.out.next hb)
       replace XF:=Lib.hid ((hb.block _ (Array.getElem?_eq_some_iff.1 XF.out).1).trans XF.out)
       replace S1:=Lib.hid (S1.out.next hb)
       replace S2:=Lib.hid (S2.out.next hb)
       replace G:=Lib.hid (G.out.next hb)
       replace HBL:=Lib.hid (HBL.out.trans (hb.mono HBL.out.size))
       clear hb
       obtain⟨c0,c1,c2,c3,c4,c5,c6,c7,c8,c9,c10,c11,c12,c13,c14⟩:=XD.out.cells
       go_wp2_with ((with_reducible refine Ac 4 ?_);refine Al XD.out Ai (Bh _ _ _ _ _ _ _ _ _ _ _ _ _ _ _) ?_;intro w30 hw30;have XD2:=Lib.hid (show Am w30 (w.heap.size) g by rw[hw30.out];exact setRow_heap _ _ _ _ _ _ XD.out);have XF2:=Lib.hid (show w30.heap[w.heap.size+1]?=some (.cells #[.int .i64 0] 27 (0,0)) by rw[hw30.out,setRow_other _ _ _ _ (by omega)];exact XF.out);have HB2:=Lib.hid (show Below w.heap.size w w30 by rw[hw30.out];exact below_setRow HBL.out (Nat.le_refl _) _);clear c0 c1 c2 c3 c4 c5 c6 c7 c8 c9 c10 c11 c12 c13 c14 XD XF HBL hw30;have cF:w30.cell? ⟨w.heap.size+1,0,none⟩=some (.int .i64 0):=cell_of_row w30 (w.heap.size+1) 0 _ _ _ XF2.out;have zF:=frozen_of_row w30 (w.heap.size+1) 0 _ _ XF2.out)
       refine leaves_cons (f:= 31) (args:= #[.pointer (some ⟨w.heap.size,0,none⟩), .pointer (some ⟨w.heap.size+1,0,none⟩)]) (by simp) (by simp[go_sem]) ?_
       refine(lA _ _ _).mono ?_
       rintro e u' w'' ⟨rfl,rfl,rfl⟩
       show Leaves _ _ _ _ [] .returning _
       have hD9:=(heap_setCell_other w30 ⟨w.heap.size+1,0,none⟩ (w.heap.size) (.int .i64 0) (by simp)).trans XD2.out
       have hF9:=heap_setCell_same w30 (w.heap.size+1) 0 _ _ (.int .i64 0) XF2.out
       exact⟨.tuple #[.agg #[.int .i64 g.t.ser, .int .i64 g.t.kind, .int .i64 g.t.frm, .int .i64 g.t.till, .int .i64 g.t.cls, .int .i64 g.t.card, .int .i64 g.t.seat, .int .i64 g.t.day, .int .i64 g.t.days, .int .i64 g.t.uses, .int .i64 g.t.epoch, .int .i64 g.key, .int .i64 g.left, .int .i64 g.inn, .int .i64 g.ver], .int .i64 0],Ml (p:=4) (q:=5) Tryz.results15 _ _ (w.heap.size) (w.heap.size+1) _ 0 _ rfl rfl hD9 Ai (cell_of_row _ (w.heap.size+1) 0 _ _ _ hF9),rfl,HB2.out.setCell (p:=⟨w.heap.size+1,0,none⟩) (Nat.le_succ _) _⟩
 all_goals
  go_wp2
  refine leaves_cons (f:= 31) (args:= #[.pointer (some ⟨w.heap.size,0,none⟩), .pointer (some ⟨w.heap.size+1,0,none⟩)]) (by simp) (by simp[go_sem]) ?_
  refine(kZ (w.heap.size) (w.heap.size+1) (by omega) _ 0 _ _ XD.out XF.out).mono ?_
  rintro e u' w'' ⟨rfl,rfl,hD,hF,hB⟩
  show Leaves _ _ _ _ [] .returning _
  exact⟨.tuple #[.agg #[.int .i64 0, .int .i64 0, .int .i64 0, .int .i64 0, .int .i64 0, .int .i64 0, .int .i64 0, .int .i64 0, .int .i64 0, .int .i64 0, .int .i64 0, .int .i64 0, .int .i64 0, .int .i64 0, .int .i64 0], .int .i64 _],Ml (p:=4) (q:=5) Tryz.results15 _ w'' (w.heap.size) (w.heap.size+1) _ _ _ rfl rfl hD Ai (cell_of_row w'' (w.heap.size+1) 0 _ _ _ hF),rfl,HBL.out.trans (hB _ (Nat.le_refl _) (Nat.le_succ _))⟩
end Go.Proofs.YtmdbfogjfbbpjaaGreatDoor
end
section
namespace Go.Proofs.YtmdbfogjfbbpjaaGreatDoor
set_option maxRecDepth 100000
open Go.ChangeShapes Go.WideShapes Go.ChangeAt Go.RowKit
theorem Uq (E:Int) (w:World):Calls Tryz.prog 41 #[.bool true, .int .i64 E] w fun e w'=>e= .returned (.int .i64 0)∧w=w':=by
 go_enter Tryz.func41, Tryz.ntmps41
 go_wp2
 go_ret
 exact⟨rfl,rfl⟩
theorem Yp (E:Int) (w:World):Calls Tryz.prog 41 #[.bool false, .int .i64 E] w fun e w'=>e= .returned (.int .i64 E)∧w=w':=by
 go_enter Tryz.func41, Tryz.ntmps41
 go_wp2
 go_ret
 exact⟨rfl,rfl⟩
theorem Ni (b:Bool) (E V:Int) (hV:(if b=true then 0 else E)=V) (w:World):Calls Tryz.prog 41 #[.bool b, .int .i64 E] w fun e w'=>e= .returned (.int .i64 V)∧w=w':=by
 subst hV
 cases b
 ·exact Yp E w
 ·exact Uq E w
def Nj (Q Q':World→Prop) (R:Int→World→Prop) (v:Value):Prop:= ∃K cap,v= .func (.func K) #[] cap∧(∀args w,(callFunc K args).run Tryz.prog w= .ok (.enter K args) w)∧
 ∀w,Q w→Calls Tryz.prog K cap w fun e w'=>(e= .returned (.int .i64 0)∧Q' w')∨ ∃E:Int,E≠0∧e= .returned (.int .i64 E)∧R E w'
theorem mP (Q:Nat→World→Prop) (R:Int→World→Prop) (vs:List Value) (n:Nat) (hn:n=vs.length) (A:Option Addr) (c:Nat) (h63:n≤9223372036854775807) (hrd: ∀k w,k<n→Q k w→ ∃B,Rd w B A vs) (hst: ∀k v,vs[k]?=some v→Nj (Q k) (Q (k+1)) R v) (w:World) (h0:Q 0 w):
  Calls Tryz.prog 46 #[.slice A n c] w fun e w'=>(e= .returned (.int .i64 0)∧Q n w')∨ ∃E:Int,E≠0∧e= .returned (.int .i64 E)∧R E w':=by
 have HN:=Lib.hid hn
 have HRD:=Lib.hid hrd
 have HST:=Lib.hid hst
 have H0:=Lib.hid h0
 clear hn hrd hst h0
 go_enter Tryz.func46, Tryz.ntmps46
 go_wp2_with fail
 go_loopw [8] (fun i wr=> ∃k:Nat,k≤n∧i= .int .i64 k∧Q k wr) (fun i _=>n - (intOf i).toNat)
 case atStart=>exact⟨0,Nat.zero_le _,rfl,H0.out⟩
 case round=>
  obtain⟨k,hk,rfl,hq⟩:=hrel
  have HQ:=Lib.hid hq
  clear hq H0
  by_cases hlt:k<n
  ·have hkl:k<vs.length:=by rw[←HN.out];exact hlt
   obtain⟨v,hv⟩: ∃v,vs[k]?=some v:=⟨_,List.getElem?_eq_getElem hkl⟩
   obtain⟨K,cap,rfl,hent,hcon⟩:=HST.out k v hv
   obtain⟨B,hrd⟩:=HRD.out k wr hlt HQ.out
   obtain⟨ad,rfl,hb,hc⟩:=hrd k _ hv
   have HC:=Lib.hid (hcon wr HQ.out)
   have b1:(0:Int)≤(k:Int):=by omega
   have b2:(k:Int)<(n:Int):=by omega
   clear hkl hv hcon hrd
   go_wp2_with fail
   refine HC.out.mono ?_
   rintro e w1 (⟨rfl,hq1⟩|⟨E,hE,rfl,hr⟩)
   ·have HQ1:=Lib.hid hq1
    clear hq1
    go_wp2
    go_roundw
    case rel=>exact⟨k+1,by omega,by go_num,HQ1.out⟩
    case measure=>simp[intOf];omega
   ·have s1:(E==0)=false:=by rw[beq_eq_false_iff_ne];exact hE
    have s2:(E !=0)=true:=by rw[bne_iff_ne];exact hE
    have HR:=Lib.hid hr
    have HE:=Lib.hid hE
    clear hr hE
    go_wp2
    go_ret
    exact .inr ⟨E,HE.out,rfl,HR.out⟩
  ·have e1:k=n:=by omega
   subst e1
   go_wp2
   go_ret
   exact .inl ⟨rfl,HQ.out⟩
end Go.Proofs.YtmdbfogjfbbpjaaGreatDoor
end
section
namespace Go.Proofs.YtmdbfogjfbbpjaaGreatDoor
open Go.ChangeShapes Go.WideShapes Go.ChangeAt Go.RowKit
structure TAt (w:World) (B:Nat) (p:Addr) (f:Tf) (S:Option Addr) (c:Nat):Prop where
 c0:w.cell? p=some (.int .i64 f.tag)
 c1:w.cell? ⟨p.block,p.off+1,none⟩=some (.slice S f.val.length c)
 bs:Bs w B f.val S c
theorem TAt.below {w w':World} {B B':Nat} {p:Addr} {f:Tf} {S:Option Addr} {c:Nat} (h:TAt w B p f S c) (hp:p.block<B') (hB:B≤B') (hb:Below B' w w'):TAt w' B p f S c:=
 ⟨(hb.cell hp).trans h.c0,(hb.cell (p:=⟨p.block,p.off+1,none⟩) hp).trans h.c1,h.bs.below (hb.mono hB)⟩
theorem TAt.more {w:World} {B B':Nat} {p:Addr} {f:Tf} {S:Option Addr} {c:Nat} (h:TAt w B p f S c) (hB:B≤B'):TAt w B' p f S c:=⟨h.c0,h.c1,h.bs.more hB⟩
structure Ts (w:World) (B:Nat) (l:List Tf) (A:Option Addr) (c:Nat):Prop where
 rd: ∀i,i<l.length→ ∃ad S cc,A=some ad∧ad.block<B∧TAt w B (ad.add (i*2)) (l.getD i TF0) S cc
 nil:A=none→c=0
 len:l.length≤c
 cap:c≤9223372036854775807
theorem Ts.below {w w':World} {B:Nat} {l:List Tf} {A:Option Addr} {c:Nat} (h:Ts w B l A c) (hb:Below B w w'):Ts w' B l A c:=by
 refine⟨fun i hi=> ?_,h.nil,h.len,h.cap⟩
 obtain⟨ad,S,cc,e,hlt,hk⟩:=h.rd i hi
 exact⟨ad,S,cc,e,hlt,hk.below (by rw[add_block];exact hlt) (Nat.le_refl _) hb⟩
theorem Ts.more {w:World} {B B':Nat} {l:List Tf} {A:Option Addr} {c:Nat} (h:Ts w B l A c) (hB:B≤B'):Ts w B' l A c:=by
 refine⟨fun i hi=> ?_,h.nil,h.len,h.cap⟩
 obtain⟨ad,S,cc,e,hlt,hk⟩:=h.rd i hi
 exact⟨ad,S,cc,e,by omega,hk.more hB⟩
theorem Ts.next {w w':World} {l:List Tf} {A:Option Addr} {c:Nat} (h:Ts w w.heap.size l A c) (hb:Below w.heap.size w w'):Ts w' w'.heap.size l A c:=(h.below hb).more hb.size
theorem Ts.vals {w:World} {B:Nat} {l:List Tf} {A:Option Addr} {c:Nat} (h:Ts w B l A c): ∀f∈l, ∀x∈f.val,x<256:=by
 intro f hf
 obtain⟨i,hi,rfl⟩:=List.mem_iff_getElem.1 hf
 obtain⟨ad,S,cc,_,_,hk⟩:=h.rd i hi
 have e:l.getD i TF0=l[i]:=by rw[List.getD_eq_getElem?_getD,List.getElem?_eq_getElem hi];rfl
 rw[←e]
 exact hk.bs.lt
theorem Ts.empty (w:World) (B:Nat):Ts w B [] none 0:=⟨by intro i hi;simp at hi,fun _=>rfl,by simp,by omega⟩
theorem Sd (w:World) (B:Nat) (ad:Addr):Bs w B [] (some ad) 0:=⟨by intro k u hu;simp[U8]at hu,by simp,by simp,by omega,by simp⟩
structure TV where
 f:Tf
 S:Option Addr
 c:Nat
def TV.cells (q:TV):List Value:=[.int .i64 q.f.tag, .slice q.S q.f.val.length q.c]
def Es (L:List TV):List Value:=L.flatMap TV.cells
theorem gN (L M:List TV):Es (L++M)=Es L++Es M:=by simp[Es]
theorem yD (q:TV):Es [q]=q.cells:=by simp[Es]
theorem gO (L:List TV):(Es L).length=L.length*2:=by
 induction L with
 |nil=>rfl
 |cons q L ih=>rw[show Es (q::L)=q.cells++Es L from rfl,List.length_append,ih,List.length_cons];simp[TV.cells];omega
theorem Acm (L:List TV) (i j:Nat) (q:TV) (hq:L[i]?=some q) (hj:j<2):(Es L)[i*2+j]?=q.cells[j]?:=by
 induction L generalizing i with
 |nil=>simp at hq
 |cons x L ih=>
  rw[show Es (x::L)=x.cells++Es L from rfl]
  cases i with
  |zero=>
   simp at hq
   subst hq
   rw[Nat.zero_mul,Nat.zero_add,List.getElem?_append_left (by simp[TV.cells];omega)]
  |succ i=>
   rw[List.getElem?_append_right (by simp[TV.cells];omega)]
   have:(i+1)*2+j - x.cells.length=i*2+j:=by simp[TV.cells];omega
   rw[this]
   exact ih i (by simpa using hq)
theorem qW (q:TV): ∀u∈q.cells,u.oneCell'=true:=by
 intro u hu
 simp[TV.cells]at hu
 rcases hu with rfl|rfl<;>rfl
theorem Yq:(Tryz.prog.info? 121).map (fun i=>(i.zero,i.size,i.bytes))=some (some (.agg #[.int .i64 0, .slice none 0 0]),2,32):=by kernel_rfl
theorem Og {w:World} {base n:Nat} {v:Value} {L:List TV} (h:w.ownsRow base 121 2 v n (Es L)) (hs: ∀q∈L,Bs w w.heap.size q.f.val q.S q.c): ∃A c,v= .slice A n c∧Ts w w.heap.size (L.map (·.f)) A c:=by
 have hn:L.length=n:=by
  have:=h.1
  rw[gO]at this
  omega
 rcases h.2 with⟨rfl,h0⟩|⟨g,cap,cur,rfl,_,hg,h2,h3,_⟩
 ·subst h0
  obtain rfl:L=[]:=List.eq_nil_of_length_eq_zero hn
  exact⟨none,0,rfl,Ts.empty w _⟩
 ·unfold maxLen at h3
  refine⟨_,cap,rfl, ?_,by simp,by rw[List.length_map,hn];omega,by omega⟩
  have hg:g<w.heap.size:=(Array.getElem?_eq_some_iff.1 hg).1
  intro i hi
  have hi':i<L.length:=by simpa using hi
  have hq:L[i]?=some L[i]:=List.getElem?_eq_getElem hi'
  have hk:(L.map (·.f)).getD i TF0=L[i].f:=by
   rw[List.getD_eq_getElem?_getD,List.getElem?_map,hq];rfl
  have hc: ∀j,j<2→w.cell? ⟨g,i*2+j,none⟩=(L[i]).cells[j]?:=by
   intro j hj
   rw[h.cellAt _ (by omega),Acm L i j _ hq hj]
  rw[hk]
  refine⟨_,(L[i]).S,(L[i]).c,rfl,hg, ?_⟩
  rw[Bu]
  exact⟨hc 0 (by omega),hc 1 (by omega),hs _ (List.getElem_mem hi')⟩
theorem Zu (w:World) (q:TV): ∀j u,q.cells[j]?=some u→(w.alloc (.cells q.cells.toArray 121)).cell? ((⟨w.heap.size,0,none⟩:Addr).add j)=some u:=by
 intro j u hu
 rw[Bu,cell_of_row (w.alloc (.cells q.cells.toArray 121)) w.heap.size j _ _ (0,0) (heap_alloc_new w _)]
 simpa using hu
theorem Fq {ops:Array Oper} {rest:List Oper} {o:Oper} {a:Act} {Q:Exit→Act→World→Prop} (hgd:o.guard=none) (s x:Operand)
    (ho:o.op= .call { callee:= .builtin .append,args:= #[s,x],argTypes:= #[64, 64] })
    (w0:World) (base m:Nat) (v:Value) (M:List TV) (q:TV) (hs:a.eval s=v) (hown:w0.ownsRow base 121 2 v m (Es M))
    (H:Nat) (hH:w0.heap.size=H) (hx:a.eval x= .slice (some ⟨H,0,none⟩) 1 1) (hM:m≤1000000) (hbase:base≤w0.heap.size)
    (h: ∀v' w',w'.ownsRow base 121 2 v' (m+1) (Es (M++ [q]))→w0.grownBy w' v.ownBlock→
      wpList Tryz.prog ops Q rest (a.put o.dst v') w'):
    wpList Tryz.prog ops Q (o::rest) a (w0.alloc (.cells q.cells.toArray 121)):=by
  subst hH
  obtain⟨i0,hif,hz0,hz1,hz2⟩:=info_parts Yq
  have hb0:=Aa w0 q.cells.toArray 121
  have hown1:=Aj hown hb0
  refine wpList_append_own _ hgd s x 64 ho base 121 i0 _ 2 32 Tryz.underlying64 hif hz0 hz1 hz2 rfl (by decide) v m (Es M) hs hown1 ⟨w0.heap.size,0,none⟩ 1 1 q.cells hx rfl (Zu w0 q) (qW q) (by unfold maxLen;omega) (by omega) (Nat.le_trans hbase hb0.size) ?_
  intro v' w' hown' hg' _
  have hf:Es (M++ [q])=Es M++q.cells:=by rw[gN,yD]
  rw[←hf]at hown'
  exact h v' w' hown' ⟨hg'.os.trans hb0.os,hg'.tape.trans hb0.tape,hg'.output.trans hb0.output,Nat.le_trans hb0.size hg'.size,fun k hk hne=>(hg'.block k (Nat.lt_of_lt_of_le hk hb0.size) hne).trans (hb0.block k hk)⟩
theorem Ed {ops:Array Oper} {rest:List Oper} {o:Oper} {a:Act} {Q:Exit→Act→World→Prop} (hgd:o.guard=none) (s x:Operand)
    (ho:o.op= .call { callee:= .builtin .append,args:= #[s,x],argTypes:= #[64, 64] })
    (w0:World) (base m:Nat) (v:Value) (M:List TV) (q:TV) (cs:Array Value) (hcs:cs=q.cells.toArray) (hs:a.eval s=v) (hown:w0.ownsRow base 121 2 v m (Es M))
    (H:Nat) (hH:w0.heap.size=H) (hx:a.eval x= .slice (some ⟨H,0,none⟩) 1 1) (hM:m≤1000000) (hbase:base≤w0.heap.size)
    (h: ∀v' w',w'.ownsRow base 121 2 v' (m+1) (Es (M++ [q]))→w0.grownBy w' v.ownBlock→
      wpList Tryz.prog ops Q rest (a.put o.dst v') w'):
    wpList Tryz.prog ops Q (o::rest) a (w0.alloc (.cells cs 121)):=by
  subst hcs
  exact Fq hgd s x ho w0 base m v M q hs hown H hH hx hM hbase h
def Blk (w:World) (X:Nat) (cs:Array Value) (t:TypeId):Prop:=w.heap[X]?=some (.cells cs t (0,0))
theorem Blk.lt {w:World} {X:Nat} {cs:Array Value} {t:TypeId} (h:Blk w X cs t):X<w.heap.size:=(Array.getElem?_eq_some_iff.1 h).1
theorem Blk.next {w w':World} {X:Nat} {cs:Array Value} {t:TypeId} (h:Blk w X cs t) (hb:Below w.heap.size w w'):Blk w' X cs t:=(hb.block _ h.lt).trans h
theorem Blk.below {w w':World} {X B:Nat} {cs:Array Value} {t:TypeId} (h:Blk w X cs t) (hX:X<B) (hb:Below B w w'):Blk w' X cs t:=(hb.block _ hX).trans h
theorem Blk.new (w:World) (cs:Array Value) (t:TypeId):Blk (w.alloc (.cells cs t)) w.heap.size cs t:=heap_alloc_new w _
theorem Blk.alloc {w:World} {X:Nat} {cs:Array Value} {t:TypeId} (h:Blk w X cs t) (o:Obj):Blk (w.alloc o) X cs t:=(heap_alloc_old w o h.lt).trans h
theorem Blk.cell {w:World} {X:Nat} {cs:Array Value} {t:TypeId} (h:Blk w X cs t) (i:Nat) {v:Value} (hi:cs[i]?=some v):w.cell? ⟨X,i,none⟩=some v:=by rw[cell_of_row w X i _ _ (0,0) h];exact hi
theorem Blk.frozen {w:World} {X:Nat} {cs:Array Value} {t:TypeId} (h:Blk w X cs t) (i:Nat):w.frozen? ⟨X,i,none⟩=false:=frozen_of_row w X i _ _ h
theorem Blk.put {w:World} {X:Nat} {cs:Array Value} {t:TypeId} (h:Blk w X cs t) (i:Nat) (v:Value):Blk (w.setCell ⟨X,i,none⟩ v) X (cs.setIfInBounds i v) t:=heap_setCell_same w X i _ _ v h
theorem Blk.far {w:World} {X Y:Nat} {cs:Array Value} {t:TypeId} (h:Blk w X cs t) (hne:X≠Y) (i:Nat) (v:Value):Blk (w.setCell ⟨Y,i,none⟩ v) X cs t:=(heap_setCell_other w ⟨Y,i,none⟩ X v hne).trans h
theorem Blk.row {w:World} {X:Nat} {cs:Array Value} {t:TypeId} (h:Blk w X cs t) (ds:Array Value):Blk (w.setRow X ds) X ds t:=setRow_heap _ _ _ _ _ _ h
theorem Blk.mem {w:World} {X:Nat} {cs:Array Value} {t:TypeId} (h:Blk w X cs t) {a:Addr} (ha:a.block=X) {u:Value} (hc:w.cell? a=some u):u∈cs.toList:=by
 unfold World.cell? at hc
 rw[ha,h]at hc
 simp only at hc
 simp at hc
 have hm:=List.mem_of_getElem? (l:=cs.toList) (i:=a.off) (a:=u) (by first|simpa using hc.2|simpa using hc)
 exact hm
theorem Af5 {w:World} {X:Nat} {l:List Value} {t:TypeId} (h:Blk w X l.toArray t):Rd w w.heap.size (some ⟨X,0,none⟩) l:=by
 intro k u hu
 refine⟨_,rfl,h.lt, ?_⟩
 rw[Bu]
 exact h.cell k (by rw[List.getElem?_toArray];exact hu)
theorem Nk {w w':World} {X:Nat} (hg:w.grownBy w' (some X)) {a:Addr} (hlt:a.block<w.heap.size) (hne:a.block≠X):w'.cell? a=w.cell? a:=by
 unfold World.cell?
 rw[hg.block _ hlt (by simp;omega)]
theorem Blk.grown {w w':World} {X Y:Nat} {cs:Array Value} {t:TypeId} (h:Blk w Y cs t) (hg:w.grownBy w' (some X)) (hne:Y≠X):Blk w' Y cs t:=(hg.block _ h.lt (by simp;omega)).trans h
theorem Am.grown {w w':World} {X Y:Nat} {r:Rg} (h:Am w Y r) (hg:w.grownBy w' (some X)) (hne:Y≠X):Am w' Y r:=(hg.block _ h.lt (by simp;omega)).trans h
theorem dD {w w':World} {X:Nat} {A:Option Addr} {l:List Value} {cs:Array Value} {t:TypeId} (h:Rd w w.heap.size A l) (hX:Blk w X cs t) (hg:w.grownBy w' (some X)) (hne: ∀u∈l,u∉cs.toList):Rd w' w'.heap.size A l:=by
 intro k u hu
 obtain⟨ad,e,hlt,hc⟩:=h k u hu
 refine⟨ad,e,Nat.lt_of_lt_of_le hlt hg.size, ?_⟩
 rw[Nk hg (by rw[add_block];exact hlt) (fun hq=>hne u (List.mem_of_getElem? hu) (hX.mem hq hc))]
 exact hc
theorem Ek {w w':World} {X:Nat} {s:List Nat} {A:Option Addr} {c:Nat} {cs:Array Value} {t:TypeId} (h:Bs w w.heap.size s A c) (hX:Blk w X cs t) (hg:w.grownBy w' (some X)) (hne: ∀x:Int,Value.int .u8 x∉cs.toList):Bs w' w'.heap.size s A c:=by
 refine⟨dD h.rd hX hg (fun u hu=> ?_),h.nil,h.len,h.cap,h.lt⟩
 simp only[U8,List.mem_map]at hu
 obtain⟨x,_,rfl⟩:=hu
 exact hne _
theorem yE {w w':World} {X:Nat} {l:List Tf} {A:Option Addr} {c:Nat} {cs:Array Value} {t:TypeId} (h:Ts w w.heap.size l A c) (hX:Blk w X cs t) (hg:w.grownBy w' (some X)) (hne: ∀x:Int,Value.int .u8 x∉cs.toList)
  (hno:(∀x:Int,Value.int .i64 x∉cs.toList)∨ ∀(S:Option Addr) (n k:Nat),Value.slice S n k∉cs.toList):Ts w' w'.heap.size l A c:=by
 refine⟨fun i hi=> ?_,h.nil,h.len,h.cap⟩
 obtain⟨ad,S,cc,e,hlt,hk⟩:=h.rd i hi
 have hl2:(ad.add (i*2)).block<w.heap.size:=by rw[add_block];exact hlt
 have hq:(ad.add (i*2)).block≠X:=by
  intro hb
  rcases hno with hn|hn
  ·exact hn _ (hX.mem hb hk.c0)
  ·exact hn _ _ _ (hX.mem (a:=⟨(ad.add (i*2)).block,(ad.add (i*2)).off+1,none⟩) hb hk.c1)
 refine⟨ad,S,cc,e,Nat.lt_of_lt_of_le hlt hg.size, ?_, ?_,Ek hk.bs hX hg hne⟩
 ·rw[Nk hg hl2 hq];exact hk.c0
 ·rw[Nk hg (a:=⟨(ad.add (i*2)).block,(ad.add (i*2)).off+1,none⟩) hl2 hq];exact hk.c1
theorem Am.blk {w:World} {X:Nat} {r:Rg} (h:Am w X r):Blk w X #[.int .i64 r.t.ser, .int .i64 r.t.kind, .int .i64 r.t.frm, .int .i64 r.t.till, .int .i64 r.t.cls, .int .i64 r.t.card, .int .i64 r.t.seat, .int .i64 r.t.day, .int .i64 r.t.days, .int .i64 r.t.uses, .int .i64 r.t.epoch, .int .i64 r.key, .int .i64 r.left, .int .i64 r.inn, .int .i64 r.ver] 39 :=h
theorem Dh: ∀k:Nat,k<45→ ∀w:World,(Instr.index 9 (.string { data:= #[48,49,50,51,52,53,54,55,56,57,65,66,67,68,69,70,71,72,73,74,75,76,77,78,79,80,81,82,83,84,85,86,87,88,89,90,32,36,37,42,43,45,46,47,58] }) (.int .i64 (k:Int))).run Tryz.prog w= .ok (.int .u8 ((sg k:Nat):Int)) w
 |0,_=>fun w=>by kernel_rfl
 |1,_=>fun w=>by kernel_rfl
 |2,_=>fun w=>by kernel_rfl
 |3,_=>fun w=>by kernel_rfl
 |4,_=>fun w=>by kernel_rfl
 |5,_=>fun w=>by kernel_rfl
 |6,_=>fun w=>by kernel_rfl
 |7,_=>fun w=>by kernel_rfl
 |8,_=>fun w=>by kernel_rfl
 |9,_=>fun w=>by kernel_rfl
 |10,_=>fun w=>by kernel_rfl
 |11,_=>fun w=>by kernel_rfl
 |12,_=>fun w=>by kernel_rfl
 |13,_=>fun w=>by kernel_rfl
 |14,_=>fun w=>by kernel_rfl
 |15,_=>fun w=>by kernel_rfl
 |16,_=>fun w=>by kernel_rfl
 |17,_=>fun w=>by kernel_rfl
 |18,_=>fun w=>by kernel_rfl
 |19,_=>fun w=>by kernel_rfl
 |20,_=>fun w=>by kernel_rfl
 |21,_=>fun w=>by kernel_rfl
 |22,_=>fun w=>by kernel_rfl
 |23,_=>fun w=>by kernel_rfl
 |24,_=>fun w=>by kernel_rfl
 |25,_=>fun w=>by kernel_rfl
 |26,_=>fun w=>by kernel_rfl
 |27,_=>fun w=>by kernel_rfl
 |28,_=>fun w=>by kernel_rfl
 |29,_=>fun w=>by kernel_rfl
 |30,_=>fun w=>by kernel_rfl
 |31,_=>fun w=>by kernel_rfl
 |32,_=>fun w=>by kernel_rfl
 |33,_=>fun w=>by kernel_rfl
 |34,_=>fun w=>by kernel_rfl
 |35,_=>fun w=>by kernel_rfl
 |36,_=>fun w=>by kernel_rfl
 |37,_=>fun w=>by kernel_rfl
 |38,_=>fun w=>by kernel_rfl
 |39,_=>fun w=>by kernel_rfl
 |40,_=>fun w=>by kernel_rfl
 |41,_=>fun w=>by kernel_rfl
 |42,_=>fun w=>by kernel_rfl
 |43,_=>fun w=>by kernel_rfl
 |44,_=>fun w=>by kernel_rfl
 |k+45,h=>absurd h (by omega)
def nOf (l:List Nat):Nat:=l.foldl (fun a b=>a*256+b) 0
theorem Acn (l:List Nat) (x:Nat):nOf (l++ [x])=nOf l*256+x:=by simp[nOf]
theorem Aco: ∀(l:List Nat),l.length≤2→(∀x∈l,x<256)→nOf l<65536
 |[],_,_=>by decide
 |[a],_,h=>by have:=h a (by simp);simp[nOf];omega
 |[a,b],_,h=>by have:=h a (by simp);have:=h b (by simp);simp[nOf];omega
 |_::_::_::_,h,_=>by simp at h
theorem Se (r:Nat) (h:r<256):IntKind.u8.wrap (r:Int)=(r:Int):=by simp[IntKind.wrap,IntKind.signed,IntKind.bits];omega
theorem Fg {l:List Nat} {k x:Nat} (h:l[k]?=some x):l.take (k+1)=l.take k++ [x]:=by
 obtain⟨hk,rfl⟩:=List.getElem?_eq_some_iff.1 h
 rw[List.take_append_getElem]
theorem gP (l:List Nat) (n:Nat) (hn:n=l.length) (h2:n≤2) (A:Option Addr) (c:Nat) (w:World) (hA:Bs w w.heap.size l A c):
  Calls Tryz.prog 102 #[.slice A n c] w fun e w'=>e= .returned (.int .i64 (nOf l:Nat))∧w=w':=by
 have HN:=Lib.hid hn
 have HA:=Lib.hid hA
 clear hn hA
 go_enter Tryz.func102, Tryz.ntmps102
 go_wp2
 go_loop [3,5,8] (fun t _ i=> ∃k:Nat,k≤n∧i= .int .i64 k∧t= .int .i64 (nOf (l.take k):Nat)) (fun _ _ i=>n - (intOf i).toNat)
 case atStart=>exact⟨0,Nat.zero_le _,rfl,rfl⟩
 case round=>
  obtain⟨k,hk,rfl,rfl⟩:=hrel
  by_cases hlt:k<n
  ·have hkl:k<l.length:=by rw[←HN.out];exact hlt
   obtain⟨x,hx⟩: ∃x,l[k]?=some x:=⟨_,List.getElem?_eq_getElem hkl⟩
   obtain⟨ad,rfl,hb,hc⟩:=HA.out.rd k (.int .u8 (x:Int)) (by rw[U8,List.getElem?_map,hx];rfl)
   have hst:nOf (l.take (k+1))=nOf (l.take k)*256+x:=by rw[Fg hx,Acn]
   have hx2:x<256:=HA.out.lt x (List.mem_of_getElem? hx)
   have hlt2:=Aco (l.take k) (by rw[List.length_take];omega) (fun y hy=>HA.out.lt y (List.mem_of_mem_take hy))
   have HST:=Lib.hid hst
   generalize nOf (l.take k)=a at*
   have w1:IntKind.i64.wrap ((a:Int)*256)=(a:Int)*256:=IntWalk.i64_in _ (by omega)
   have w2:IntKind.i64.wrap ((a:Int)*256+(x:Int))=(a:Int)*256+(x:Int):=IntWalk.i64_in _ (by omega)
   have b1:(0:Int)≤(k:Int):=by omega
   have b2:(k:Int)<(n:Int):=by omega
   clear hst hkl hx
   go_wp2
   go_round
   case rel=>exact⟨k+1,by omega,by go_num,by rw[HST.out];go_num⟩
   case measure=>simp[intOf];omega
  ·obtain rfl:k=n:=by omega
   have e:l.take k=l:=List.take_of_length_le (by rw[←HN.out];omega)
   rw[e]
   clear e
   go_wp2
   go_ret
   exact⟨rfl,rfl⟩
def sgs (n:Nat):Nat→List Nat
 |0=>[]
 |k+1=>sgs n k++ [sg (n / 45^k % 45)]
def Jz (n m k:Nat):List Nat:=sgs n k++List.replicate (m - k) 0
theorem Mf (n:Nat): ∀k,(sgs n k).length=k
 |0=>rfl
 |k+1=>by rw[sgs,List.length_append,Mf n k];rfl
theorem qX (n m:Nat):Jz n m 0=List.replicate m 0:=by simp[Jz,sgs]
theorem yF (n m:Nat):Jz n m m=sgs n m:=by simp[Jz]
theorem yG (n m k:Nat) (h:k≤m):(Jz n m k).length=m:=by rw[Jz,List.length_append,Mf,List.length_replicate];omega
theorem yH (n m k:Nat) (h:k<m):(Jz n m k).set k (sg (n / 45^k % 45))=Jz n m (k+1):=by
 obtain⟨j,hj⟩: ∃j,m - k=j+1:=⟨m - k - 1,by omega⟩
 have hj2:m - (k+1)=j:=by omega
 rw[Jz,Jz,hj,hj2,List.set_append_right _ _ (by rw[Mf];omega),Mf,Nat.sub_self,List.replicate_succ,List.set_cons_zero,sgs,List.append_assoc]
 rfl
theorem Acp (n:Nat): ∀k, ∀x∈sgs n k,x<256
 |0,x,hx=>by simp[sgs]at hx
 |k+1,x,hx=>by
  rw[sgs,List.mem_append]at hx
  rcases hx with hx|hx
  ·exact Acp n k x hx
  ·simp only[List.mem_singleton]at hx;subst hx;exact sA _
theorem Aeb: ∀(l:List Nat),1≤l.length→l.length≤2→(∀x∈l,x<256)→sgs (nOf l) (l.length+1)=Lk l
 |[],h,_,_=>by simp at h
 |[a],_,_,h=>by
  have:=h a (by simp)
  have e:nOf [a]=a:=by simp[nOf]
  rw[e]
  simp only[sgs,Lk,put2,List.length_cons,List.length_nil,List.nil_append,List.cons_append,Nat.zero_add,Nat.pow_zero,Nat.pow_one,Nat.div_one]
  rw[Nat.mod_eq_of_lt (show a / 45<45 by omega)]
 |[a,b],_,_,h=>by
  have:=h a (by simp)
  have:=h b (by simp)
  have e:nOf [a,b]=a*256+b:=by simp[nOf]
  rw[e]
  simp only[sgs,Lk,put3,List.length_cons,List.length_nil,List.nil_append,List.cons_append,Nat.zero_add,Nat.pow_zero,Nat.pow_one,Nat.div_one]
  rw[Nat.mod_eq_of_lt (show(a*256+b) / 45^2<45 by omega)]
 |_::_::_::_,_,h,_=>by simp at h
theorem gQ (N s:Nat) (p:List Nat) (hp:sgs N s=p) (w:World) (hN:N<65536) (hs:s≤3):
  Calls Tryz.prog 101 #[.int .i64 N, .int .i64 s] w fun e w'=>e= .returned (.slice (some ⟨w.heap.size,0,none⟩) s s)∧Bs w' w'.heap.size p (some ⟨w.heap.size,0,none⟩) s∧Below w.heap.size w w':=by
 obtain⟨i0,hi,hz0,hz1,hz2⟩:=info_parts Be
 have HP:=Lib.hid hp
 clear hp
 go_enter Tryz.func101, Tryz.ntmps101
 go_wp2_with (at_make;refine wpList_make_full _ rfl _ _ 23 rfl w.heap.size 5 i0 (.int .u8 0) 1 Tryz.underlying23 hi hz0 hz1 _ _ _ _ s rfl rfl (by omega) (by omega) ?b2 ?b3 (Nat.le_refl _) ?_)
 case b2=>rw[hz2];omega
 case b3=>unfold maxLen;omega
 intro w1 hown hg
 have hown1:w1.ownsRow w.heap.size 5 1 (.slice (some ⟨w.heap.size,0,none⟩) s s) s (U8 (Jz N s 0)):=by
  rw[toList_madeCells_one]at hown
  rw[qX,U8,List.map_replicate]
  exact hown
 have hbel:Below w.heap.size w w1:=(Below.refl _ _).grown hg (Nat.le_refl _) (by simp)
 clear hown hg
 go_wp2
 go_loopw [0,11] (fun m i wr=> ∃k:Nat,k≤s∧i= .int .i64 (k:Int)∧m= .int .i64 (N / 45^k:Nat)∧wr.ownsRow w.heap.size 5 1 (.slice (some ⟨w.heap.size,0,none⟩) s s) s (U8 (Jz N s k))∧Below w.heap.size w wr) (fun _ i _=>s - (intOf i).toNat)
 case atStart=>exact⟨0,Nat.zero_le _,by simp,by simp,hown1,hbel⟩
 case round=>
  clear hown1 hbel
  obtain⟨k,hk,rfl,rfl,hown,hbel⟩:=hrel
  have hy:N / 45^k<65536:=Nat.lt_of_le_of_lt (Nat.div_le_self _ _) hN
  by_cases hlt:k<s
  ·have hc2: ∃v,wr.cell? ⟨w.heap.size,k,none⟩=some v:=by
    rw[hown.cellAt k (by omega),U8,List.getElem?_map]
    rw[List.getElem?_eq_getElem (by rw[yG _ _ _ hk];omega)]
    exact⟨_,rfl⟩
   obtain⟨v2,hc2⟩:=hc2
   have hf:=hown.frozenAt k
   have hst:=(hown.stored k (.int .u8 ((sg (N / 45^k % 45):Nat):Int))).1
   have hset:(U8 (Jz N s k)).set k (.int .u8 ((sg (N / 45^k % 45):Nat):Int))=U8 (Jz N s (k+1)):=by
    rw[←yH N s k hlt,U8,U8,List.map_set]
   rw[hset]at hst
   have hnx:N / 45^(k+1)=N / 45^k / 45:=by rw[Nat.pow_succ,Nat.div_div_eq_div_mul]
   have HNX:=Lib.hid hnx
   clear hset hnx
   generalize N / 45^k=y at*
   obtain⟨r,hr⟩: ∃r,r=y % 45:=⟨_,rfl⟩
   obtain⟨q,hq⟩: ∃q,q=y / 45:=⟨_,rfl⟩
   have hr45:r<45:=by omega
   have t1:(y:Int).tmod 45=(r:Int):=by rw[Int.tmod_eq_emod_of_nonneg (by omega)];omega
   have t2:(y:Int).tdiv 45=(q:Int):=by rw[Int.tdiv_eq_ediv_of_nonneg (by omega)];omega
   have w1:IntKind.i64.wrap (r:Int)=(r:Int):=IntWalk.i64_in _ (by omega)
   have w2:IntKind.i64.wrap (q:Int)=(q:Int):=IntWalk.i64_in _ (by omega)
   have hix:=Dh r hr45
   rw[←hr]at hst
   rw[←hq]at HNX
   have HST:=Lib.hid hst
   have HOW:=Lib.hid hown
   clear hst hown hr hq
   have b1:(0:Int)≤(k:Int):=by omega
   have b2:(k:Int)<(s:Int):=by omega
   go_wp2
   go_roundw
   case rel=>
    refine⟨k+1,by omega,by go_num, ?_, ?_,hbel.setCell (Nat.le_refl _) _⟩
    ·rw[HNX.out]
    ·exact HST.out
   case measure=>simp only[intOf];omega
  ·obtain rfl:k=s:=by omega
   rw[yF,HP.out]at hown
   have hl:p.length=k:=by rw[←HP.out,Mf]
   have hpx: ∀x∈p,x<256:=by rw[←HP.out];exact Acp N k
   have HO:=Lib.hid hown
   have HL:=Lib.hid hl
   have HX:=Lib.hid hpx
   clear hown hl hpx hy
   generalize N / 45^k=y at*
   go_wp2
   go_ret
   exact⟨rfl,⟨Rd.of_own HO.out,by simp,by rw[HL.out];omega,by omega,HX.out⟩,hbel⟩
def bysH (n:Nat):Nat→List Nat
 |0=>[]
 |k+1=>(n / 256^k % 256)::bysH n k
def Ka (n m k:Nat):List Nat:=List.replicate (m - k) 0++bysH n k
theorem Nl (n:Nat): ∀k,(bysH n k).length=k
 |0=>rfl
 |k+1=>by rw[bysH,List.length_cons,Nl n k]
theorem tN (n:Nat): ∀k, ∀x∈bysH n k,x<256
 |0,x,hx=>by simp[bysH]at hx
 |k+1,x,hx=>by
  rw[bysH,List.mem_cons]at hx
  rcases hx with rfl|hx
  ·exact Nat.mod_lt _ (by omega)
  ·exact tN n k x hx
theorem qY (n m:Nat):Ka n m 0=List.replicate m 0:=by simp[Ka,bysH]
theorem yI (n m:Nat):Ka n m m=bysH n m:=by simp[Ka]
theorem yJ (n m k:Nat) (h:k≤m):(Ka n m k).length=m:=by rw[Ka,List.length_append,Nl,List.length_replicate];omega
theorem Aec (j:Nat) (v:Nat):(List.replicate (j+1) 0).set j v=List.replicate j 0++ [v]:=by
 induction j with
 |zero=>rfl
 |succ j ih=>rw[List.replicate_succ,List.set_cons_succ,ih,List.replicate_succ];rfl
theorem yK (n m k:Nat) (h:k<m):(Ka n m k).set (m - 1 - k) (n / 256^k % 256)=Ka n m (k+1):=by
 obtain⟨j,hj⟩: ∃j,m - k=j+1:=⟨m - k - 1,by omega⟩
 have hj2:m - (k+1)=j:=by omega
 have hj3:m - 1 - k=j:=by omega
 rw[Ka,Ka,hj,hj2,hj3,List.set_append_left _ _ (by rw[List.length_replicate];omega),Aec,bysH,List.append_assoc]
 rfl
theorem gR (N s R:Nat) (p:List Nat) (hp:bysH N s=p) (hR:N / 256^s=R) (w:World) (hN:N<1000000) (hs:s≤3):
  Calls Tryz.prog 145 #[.int .i64 N, .int .i64 s] w fun e w'=>e= .returned (.tuple #[.slice (some ⟨w.heap.size,0,none⟩) s s, .int .i64 R])∧Bs w' w'.heap.size p (some ⟨w.heap.size,0,none⟩) s∧Below w.heap.size w w':=by
 obtain⟨i0,hi,hz0,hz1,hz2⟩:=info_parts Be
 have HP:=Lib.hid hp
 have HRR:=Lib.hid hR
 clear hp hR
 go_enter Tryz.func145, Tryz.ntmps145
 go_wp2_with (at_make;refine wpList_make_full _ rfl _ _ 23 rfl w.heap.size 5 i0 (.int .u8 0) 1 Tryz.underlying23 hi hz0 hz1 _ _ _ _ s rfl rfl (by omega) (by omega) ?b2 ?b3 (Nat.le_refl _) ?_)
 case b2=>rw[hz2];omega
 case b3=>unfold maxLen;omega
 intro w1 hown hg
 have hown1:w1.ownsRow w.heap.size 5 1 (.slice (some ⟨w.heap.size,0,none⟩) s s) s (U8 (Ka N s 0)):=by
  rw[toList_madeCells_one]at hown
  rw[qY,U8,List.map_replicate]
  exact hown
 have hbel:Below w.heap.size w w1:=(Below.refl _ _).grown hg (Nat.le_refl _) (by simp)
 clear hown hg
 have s1:IntKind.i64.wrap ((s:Int) - 1)=(s:Int) - 1:=IntWalk.i64_in _ (by omega)
 go_wp2
 go_loopw [0,11] (fun m i wr=> ∃k:Nat,k≤s∧i= .int .i64 (k:Int)∧m= .int .i64 (N / 256^k:Nat)∧wr.ownsRow w.heap.size 5 1 (.slice (some ⟨w.heap.size,0,none⟩) s s) s (U8 (Ka N s k))∧Below w.heap.size w wr) (fun _ i _=>s - (intOf i).toNat)
 case atStart=>exact⟨0,Nat.zero_le _,by simp,by simp,hown1,hbel⟩
 case round=>
  clear hown1 hbel
  obtain⟨k,hk,rfl,rfl,hown,hbel⟩:=hrel
  have hy:N / 256^k<1000000:=Nat.lt_of_le_of_lt (Nat.div_le_self _ _) hN
  by_cases hlt:k<s
  ·have hc2: ∃v,wr.cell? ⟨w.heap.size,s - 1 - k,none⟩=some v:=by
    rw[hown.cellAt (s - 1 - k) (by omega),U8,List.getElem?_map]
    rw[List.getElem?_eq_getElem (by rw[yJ _ _ _ hk];omega)]
    exact⟨_,rfl⟩
   obtain⟨v2,hc2⟩:=hc2
   have hf:=hown.frozenAt (s - 1 - k)
   have hst:=(hown.stored (s - 1 - k) (.int .u8 ((N / 256^k % 256:Nat):Int))).1
   have hset:(U8 (Ka N s k)).set (s - 1 - k) (.int .u8 ((N / 256^k % 256:Nat):Int))=U8 (Ka N s (k+1)):=by
    rw[←yK N s k hlt,U8,U8,List.map_set]
   rw[hset]at hst
   have hnx:N / 256^(k+1)=N / 256^k / 256:=by rw[Nat.pow_succ,Nat.div_div_eq_div_mul]
   have HNX:=Lib.hid hnx
   clear hset hnx
   generalize N / 256^k=y at*
   obtain⟨r,hr⟩: ∃r,r=y % 256:=⟨_,rfl⟩
   obtain⟨q,hq⟩: ∃q,q=y / 256:=⟨_,rfl⟩
   have t1:(y:Int).tmod 256=(r:Int):=by rw[Int.tmod_eq_emod_of_nonneg (by omega)];omega
   have t2:(y:Int).tdiv 256=(q:Int):=by rw[Int.tdiv_eq_ediv_of_nonneg (by omega)];omega
   have w1:IntKind.i64.wrap (r:Int)=(r:Int):=IntWalk.i64_in _ (by omega)
   have w2:IntKind.i64.wrap (q:Int)=(q:Int):=IntWalk.i64_in _ (by omega)
   have w3:IntKind.u8.wrap (r:Int)=(r:Int):=Se r (by omega)
   rw[←hr]at hst
   rw[←hq]at HNX
   obtain⟨j,hj⟩: ∃j:Nat,j=s - 1 - k:=⟨_,rfl⟩
   have hj2:(s:Int) - 1 - (k:Int)=(j:Int):=by omega
   have hjs:(j:Int)<(s:Int):=by omega
   have hj3:IntKind.i64.wrap ((s:Int) - 1 - (k:Int))=(j:Int):=by rw[hj2];exact IntWalk.i64_in _ (by omega)
   have hj0:(0:Int)≤(j:Int):=by omega
   rw[←hj]at hc2 hf hst
   have HST:=Lib.hid hst
   have HOW:=Lib.hid hown
   clear hst hown hr hq hj hj2
   have b1:(0:Int)≤(k:Int):=by omega
   have b2:(k:Int)<(s:Int):=by omega
   go_wp2
   go_roundw
   case rel=>
    refine⟨k+1,by omega,by go_num, ?_, ?_,hbel.setCell (Nat.le_refl _) _⟩
    ·rw[HNX.out]
    ·exact HST.out
   case measure=>simp only[intOf];omega
  ·obtain rfl:k=s:=by omega
   rw[yI,HP.out]at hown
   have hl:p.length=k:=by rw[←HP.out,Nl]
   have hpx: ∀x∈p,x<256:=by rw[←HP.out];exact tN N k
   have HO:=Lib.hid hown
   have HL:=Lib.hid hl
   have HX:=Lib.hid hpx
   rw[HRR.out]at hy⊢
   clear hown hl hpx HRR
   go_wp2
   go_ret2
   exact⟨rfl,⟨Rd.of_own HO.out,by simp,by rw[HL.out];omega,by omega,HX.out⟩,hbel⟩
end Go.Proofs.YtmdbfogjfbbpjaaGreatDoor
end
