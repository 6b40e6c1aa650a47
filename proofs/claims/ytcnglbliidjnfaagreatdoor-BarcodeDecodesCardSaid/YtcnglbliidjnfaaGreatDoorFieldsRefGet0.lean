import Derived.Test.YtcnglbliidjnfaaGreatDoorFortyPPut
import Derived.Test.YtcnglbliidjnfaaGreatDoorFortyRefGet
import Derived.Test.YtcnglbliidjnfaaGreatDoorLineRefIs
import Derived.OwnWalk
import Derived.IntWalk
import Derived.Test.YtcnglbliidjnfaaGreatDoorFieldsVer
import Derived.Test.YtcnglbliidjnfaaGreatDoorRgBox
section
namespace Go.Proofs.YtcnglbliidjnfaaGreatDoor
set_option linter.unusedVariables false
open Go.ChangeShapes Go.WideShapes Go.ChangeAt Go.RowKit
set_option maxRecDepth 100000 in
set_option maxHeartbeats 1600000 in
theorem rfget_p1 (l:List Tf) (n:Nat) (hn:n=l.length) (E:Nat) (r:Rg) (hE:fdGet l=(E,r)) (A:Option Addr) (c:Nat) (w:World) (hA:Ts w w.heap.size l A c) (hi:isT 0 l=false):Calls Tryz.prog 46 #[.slice A n c] w fun e w'=>e= .returned (.tuple #[.agg #[.int .i64 r.t.ser, .int .i64 r.t.kind, .int .i64 r.t.frm, .int .i64 r.t.till, .int .i64 r.t.cls, .int .i64 r.t.card, .int .i64 r.t.seat, .int .i64 r.t.day, .int .i64 r.t.days, .int .i64 r.t.uses, .int .i64 r.t.epoch, .int .i64 r.key, .int .i64 r.left, .int .i64 r.inn, .int .i64 r.ver], .int .i64 (E:Int)])∧Below w.heap.size w w':=by
 obtain⟨rfl,rfl⟩:E=1∧r=zeroR:=by have:=hE;rw[fdGet,if_pos hi]at this;exact⟨(Prod.mk.inj this).1.symm,(Prod.mk.inj this).2.symm⟩
 clear hE
 have HN:=Lib.hid hn
 have HA:=Lib.hid hA
 have HI:=Lib.hid hi
 clear hn hA hi
 have HR0:=Lib.hid (RBox.new w zeroR)
 have hl0:=below_lit w #[.int .i64 0, .int .i64 0, .int .i64 0, .int .i64 0, .int .i64 0, .int .i64 0, .int .i64 0, .int .i64 0, .int .i64 0, .int .i64 0, .int .i64 0, .int .i64 0, .int .i64 0, .int .i64 0, .int .i64 0] 28
 have HB0:=Lib.hid hl0
 have HA0:=Lib.hid (HA.out.next hl0)
 have h63:n≤9223372036854775807:=by have h1:=HA.out.len;have h2:=HA.out.cap;have h3:=HN.out;omega
 clear hl0
 go_enter Tryz.func46, Tryz.ntmps46
 go_wp2_with fail
 refine(refis_tlv l n HN.out false HI.out A c _ HA0.out).mono ?_
 rintro e w1 ⟨rfl,hb⟩
 have HR1:=Lib.hid (HR0.out.next hb)
 have HB1:=Lib.hid (HB0.out.trans (hb.mono HB0.out.size))
 have HA1:=Lib.hid (HA0.out.next hb)
 clear hb HR0 HB0 HA0
 go_wp2_with ((with_reducible refine at_store 2 ?_);refine wpList_store_named (o:=⟨none, .store 28 (.tmp 2) (.tmp 12),_,_,_,_⟩) rfl 28 (.tmp 2) (.tmp 12) rfl w.heap.size #[.int .i64 0, .int .i64 0, .int .i64 0, .int .i64 0, .int .i64 0, .int .i64 0, .int .i64 0, .int .i64 0, .int .i64 0, .int .i64 0, .int .i64 0, .int .i64 0, .int .i64 0, .int .i64 0, .int .i64 0] rfl rfl 28 #[.int .i64 0, .int .i64 0, .int .i64 0, .int .i64 0, .int .i64 0, .int .i64 0, .int .i64 0, .int .i64 0, .int .i64 0, .int .i64 0, .int .i64 0, .int .i64 0, .int .i64 0, .int .i64 0, .int .i64 0] HR1.out infoRd rfl (rg_one _ _ _ _ _ _ _ _ _ _ _ _ _ _ _) ?_)
 intro w9 hw9
 go_wp2
 refine bodyPost_ret (results_row_tmp' Tryz.results46 _ w9 w.heap.size 28 #[.int .i64 0, .int .i64 0, .int .i64 0, .int .i64 0, .int .i64 0, .int .i64 0, .int .i64 0, .int .i64 0, .int .i64 0, .int .i64 0, .int .i64 0, .int .i64 0, .int .i64 0, .int .i64 0, .int .i64 0] (0,0) _ rfl (by rw[hw9.out];exact setRow_heap _ _ _ _ _ _ HR1.out) Tryz.underlying28 rfl infoRd) rfl ⟨rfl, ?_⟩
 rw[hw9.out]
 exact below_setRow HB1.out (Nat.le_refl _) _
set_option maxRecDepth 100000 in
set_option maxHeartbeats 1600000 in
theorem rfget_p2 (l:List Tf) (n:Nat) (hn:n=l.length) (E:Nat) (r:Rg) (hE:fdGet l=(E,r)) (A:Option Addr) (c:Nat) (w:World) (hA:Ts w w.heap.size l A c) (hi:isT 0 l=true) (a:List Int) (F:Nat) (hf:fdFill z13 l=(F,a)) (h0:F≠0):Calls Tryz.prog 46 #[.slice A n c] w fun e w'=>e= .returned (.tuple #[.agg #[.int .i64 r.t.ser, .int .i64 r.t.kind, .int .i64 r.t.frm, .int .i64 r.t.till, .int .i64 r.t.cls, .int .i64 r.t.card, .int .i64 r.t.seat, .int .i64 r.t.day, .int .i64 r.t.days, .int .i64 r.t.uses, .int .i64 r.t.epoch, .int .i64 r.key, .int .i64 r.left, .int .i64 r.inn, .int .i64 r.ver], .int .i64 (E:Int)])∧Below w.heap.size w w':=by
 obtain⟨rfl,rfl⟩:E=F∧r=zeroR:=by have:=hE;rw[fdGet,if_neg (by rw[hi];decide),hf,if_pos h0]at this;exact⟨(Prod.mk.inj this).1.symm,(Prod.mk.inj this).2.symm⟩
 clear hE
 have HFILL:=Lib.hid hf
 have HE0:=Lib.hid h0
 clear hf h0
 have HN:=Lib.hid hn
 have HA:=Lib.hid hA
 have HI:=Lib.hid hi
 clear hn hA hi
 have HR0:=Lib.hid (RBox.new w zeroR)
 have hl0:=below_lit w #[.int .i64 0, .int .i64 0, .int .i64 0, .int .i64 0, .int .i64 0, .int .i64 0, .int .i64 0, .int .i64 0, .int .i64 0, .int .i64 0, .int .i64 0, .int .i64 0, .int .i64 0, .int .i64 0, .int .i64 0] 28
 have HB0:=Lib.hid hl0
 have HA0:=Lib.hid (HA.out.next hl0)
 have h63:n≤9223372036854775807:=by have h1:=HA.out.len;have h2:=HA.out.cap;have h3:=HN.out;omega
 clear hl0
 go_enter Tryz.func46, Tryz.ntmps46
 go_wp2_with fail
 refine(refis_tlv l n HN.out true HI.out A c _ HA0.out).mono ?_
 rintro e w1 ⟨rfl,hb⟩
 have HR1:=Lib.hid (HR0.out.next hb)
 have HB1:=Lib.hid (HB0.out.trans (hb.mono HB0.out.size))
 have HA1:=Lib.hid (HA0.out.next hb)
 clear hb HR0 HB0 HA0
 go_wp2_with fail
 obtain⟨N,hNN⟩: ∃N,N=w1.heap.size:=⟨_,rfl⟩
 obtain⟨w2,hw2⟩: ∃w2,w2=w1.alloc (.cells #[.int .i64 0, .int .i64 0, .int .i64 0, .int .i64 0, .int .i64 0, .int .i64 0, .int .i64 0, .int .i64 0, .int .i64 0, .int .i64 0, .int .i64 0, .int .i64 0, .int .i64 0] 3):=⟨_,rfl⟩
 have HZ2:=Lib.hid (show NBox w2 N z13 by rw[hw2,hNN];exact nbox_new w1 z13 #[.int .i64 0, .int .i64 0, .int .i64 0, .int .i64 0, .int .i64 0, .int .i64 0, .int .i64 0, .int .i64 0, .int .i64 0, .int .i64 0, .int .i64 0, .int .i64 0, .int .i64 0] rfl)
 have hl1:Below w1.heap.size w1 w2:=by rw[hw2];exact below_lit w1 #[.int .i64 0, .int .i64 0, .int .i64 0, .int .i64 0, .int .i64 0, .int .i64 0, .int .i64 0, .int .i64 0, .int .i64 0, .int .i64 0, .int .i64 0, .int .i64 0, .int .i64 0] 3
 have HXW:=Lib.hid (show w.heap.size<N by rw[hNN];exact HR1.out.lt)
 have HR2:=Lib.hid (HR1.out.next hl1)
 have HB2:=Lib.hid (HB1.out.trans (hl1.mono HB1.out.size))
 have HA2:=Lib.hid (show Ts w2 N l A c by rw[hNN];exact HA1.out.below hl1)
 have hN2:=HZ2.out.lt
 rw[←hw2, ←hNN]
 clear hw2 hNN hl1 HR1 HB1 HA1
 go_loopw [5] (fun i wr=> ∃(k:Nat) (b:List Int),k≤n∧i= .int .i64 k∧b.length=13∧fdFill b (l.drop k)=(E,a)∧NBox wr N b∧w2.grownBy wr (some N)) (fun i _=>n - (intOf i).toNat)
 case atStart=>exact⟨0,z13,Nat.zero_le _,rfl,rfl,HFILL.out,HZ2.out,World.grownBy.refl _ _⟩
 case round=>
  obtain⟨k,b,hk,rfl,hbl,hfill,hbox,hg⟩:=hrel
  have HF:=Lib.hid hfill
  have HB:=Lib.hid hbox
  have HG:=Lib.hid hg
  have HL:=Lib.hid hbl
  have hsz:=hg.size
  have HRr:=Lib.hid (show RBox wr w.heap.size zeroR from(hg.block _ HR2.out.lt (by have:=HXW.out;simp;omega)).trans HR2.out)
  have HBr:=Lib.hid (HB2.out.trans (below_grownR hg (Nat.le_of_lt HXW.out) HB2.out.size))
  clear hfill hbox hg hbl
  by_cases hlt:k<n
  ·obtain⟨ad,S,cc,rfl,had,hk4⟩:=(HA2.out.below (below_grownR HG.out (Nat.le_refl _) (Nat.le_of_lt hN2))).rd k (by rw[←HN.out];exact hlt)
   have hc0:=hk4.c0
   have hc1:=hk4.c1
   have hcap:=hk4.bs.len
   have hcap2:=hk4.bs.cap
   have HKL:=Lib.hid (show k<l.length by rw[←HN.out];exact hlt)
   have h0:=isT_pos HI.out HKL.out
   have b1:(0:Int)≤(k:Int):=by omega
   have b2:(k:Int)<(n:Int):=by omega
   have F1:=Lib.hid (fun q=>fdFill_must (a:=b) HKL.out q)
   have F2:=Lib.hid (fun q q2=>fdFill_unknown (a:=b) HKL.out q q2)
   have F3:=Lib.hid (fun q2 (v E:Nat) hv hE=>fdFill_value (a:=b) HKL.out q2 (v:=v) (E:=E) hv hE)
   have F4:=Lib.hid (fun q2 (v:Nat) hv=>fdFill_step (a:=b) HKL.out q2 (v:=v) hv)
   obtain⟨x,hx⟩: ∃x,x=l.getD k TF0:=⟨_,rfl⟩
   rw[←hx]at hc0 hc1 hcap h0 F1 F2 F3 F4
   have HBS:=Lib.hid (show Bs wr wr.heap.size x.val S cc by rw[hx];exact hk4.bs.more (Nat.le_of_lt HB.out.lt))
   clear hx hk4
   by_cases q1:128≤x.tag
   ·have e:=F1.out q1
    rw[HF.out]at e
    obtain⟨e1,e2⟩:=Prod.mk.inj e
    have HE1:=Lib.hid e1
    clear e e1 e2
    go_wp2_with ((with_reducible refine at_store 2 ?_);refine wpList_store_named (o:=⟨none, .store 28 (.tmp 2) (.tmp 26),_,_,_,_⟩) rfl 28 (.tmp 2) (.tmp 26) rfl w.heap.size #[.int .i64 0, .int .i64 0, .int .i64 0, .int .i64 0, .int .i64 0, .int .i64 0, .int .i64 0, .int .i64 0, .int .i64 0, .int .i64 0, .int .i64 0, .int .i64 0, .int .i64 0, .int .i64 0, .int .i64 0] rfl rfl 28 #[.int .i64 0, .int .i64 0, .int .i64 0, .int .i64 0, .int .i64 0, .int .i64 0, .int .i64 0, .int .i64 0, .int .i64 0, .int .i64 0, .int .i64 0, .int .i64 0, .int .i64 0, .int .i64 0, .int .i64 0] HRr.out infoRd rfl (rg_one _ _ _ _ _ _ _ _ _ _ _ _ _ _ _) ?_)
    intro w9 hw9
    go_wp2
    refine bodyPost_ret (results_row_tmp' Tryz.results46 _ w9 w.heap.size 28 #[.int .i64 0, .int .i64 0, .int .i64 0, .int .i64 0, .int .i64 0, .int .i64 0, .int .i64 0, .int .i64 0, .int .i64 0, .int .i64 0, .int .i64 0, .int .i64 0, .int .i64 0, .int .i64 0, .int .i64 0] (0,0) _ rfl (by rw[hw9.out];exact setRow_heap _ _ _ _ _ _ HRr.out) Tryz.underlying28 rfl infoRd) rfl ⟨by rw[HE1.out];rfl, ?_⟩
    rw[hw9.out]
    exact below_setRow HBr.out (Nat.le_refl _) _
   by_cases q2:13<x.tag
   ·have e:=F2.out q1 q2
    rw[HF.out]at e
    obtain⟨e1,e2⟩:=Prod.mk.inj e
    have HE1:=Lib.hid e1
    clear e e1 e2
    go_wp2_with ((with_reducible refine at_store 2 ?_);refine wpList_store_named (o:=⟨none, .store 28 (.tmp 2) (.tmp 33),_,_,_,_⟩) rfl 28 (.tmp 2) (.tmp 33) rfl w.heap.size #[.int .i64 0, .int .i64 0, .int .i64 0, .int .i64 0, .int .i64 0, .int .i64 0, .int .i64 0, .int .i64 0, .int .i64 0, .int .i64 0, .int .i64 0, .int .i64 0, .int .i64 0, .int .i64 0, .int .i64 0] rfl rfl 28 #[.int .i64 0, .int .i64 0, .int .i64 0, .int .i64 0, .int .i64 0, .int .i64 0, .int .i64 0, .int .i64 0, .int .i64 0, .int .i64 0, .int .i64 0, .int .i64 0, .int .i64 0, .int .i64 0, .int .i64 0] HRr.out infoRd rfl (rg_one _ _ _ _ _ _ _ _ _ _ _ _ _ _ _) ?_)
    intro w9 hw9
    go_wp2
    refine bodyPost_ret (results_row_tmp' Tryz.results46 _ w9 w.heap.size 28 #[.int .i64 0, .int .i64 0, .int .i64 0, .int .i64 0, .int .i64 0, .int .i64 0, .int .i64 0, .int .i64 0, .int .i64 0, .int .i64 0, .int .i64 0, .int .i64 0, .int .i64 0, .int .i64 0, .int .i64 0] (0,0) _ rfl (by rw[hw9.out];exact setRow_heap _ _ _ _ _ _ HRr.out) Tryz.underlying28 rfl infoRd) rfl ⟨by rw[HE1.out];rfl, ?_⟩
    rw[hw9.out]
    exact below_setRow HBr.out (Nat.le_refl _) _
   obtain⟨s,hs⟩: ∃s:Nat,x.tag=(s:Int)+1:=⟨x.tag.toNat - 1,by omega⟩
   obtain⟨m,hm⟩: ∃m:Nat,x.val.length=m:=⟨_,rfl⟩
   obtain⟨v,Ev,hv⟩: ∃v Ev,valT x.val=(v,Ev):=⟨_,_,rfl⟩
   have HV:=Lib.hid hv
   have HM:=Lib.hid hm
   have hs13:s<13:=by omega
   rw[hm]at hc1 hcap
   rw[hs]at hc0
   have G3:=F3.out q2 v Ev hv
   have G4:=F4.out q2 v
   rw[show x.tag.toNat - 1=s by omega]at G4
   have HG3:=Lib.hid G3
   have HG4:=Lib.hid G4
   have b3: ¬((128:Int)≤(s:Int)+1):=by omega
   have b4: ¬((13:Int)<(s:Int)+1):=by omega
   clear hv hm G3 G4 F1 F2 F3 F4 q1 q2 hs h0
   by_cases hE0:Ev=0
   rotate_left
   ·have e:=HG3.out hE0
    rw[HF.out]at e
    obtain⟨e1,e2⟩:=Prod.mk.inj e
    have HE1:=Lib.hid e1
    have s1:((Ev:Int)==0)=false:=by rw[beq_eq_false_iff_ne];omega
    have s2:((Ev:Int) !=0)=true:=by rw[bne_iff_ne];omega
    have s3:(Ev==0)=false:=by rw[beq_eq_false_iff_ne];exact hE0
    have s4:(Ev !=0)=true:=by rw[bne_iff_ne];exact hE0
    clear e e1 e2 hE0
    go_wp2_with fail
    refine(trefvalue_any x.val m HM.out.symm v Ev HV.out S cc _ HBS.out).mono ?_
    rintro e w3 ⟨rfl,rfl⟩
    go_wp2_with ((with_reducible refine at_store 2 ?_);refine wpList_store_named (o:=⟨none, .store 28 (.tmp 2) (.tmp 45),_,_,_,_⟩) rfl 28 (.tmp 2) (.tmp 45) rfl w.heap.size #[.int .i64 0, .int .i64 0, .int .i64 0, .int .i64 0, .int .i64 0, .int .i64 0, .int .i64 0, .int .i64 0, .int .i64 0, .int .i64 0, .int .i64 0, .int .i64 0, .int .i64 0, .int .i64 0, .int .i64 0] rfl rfl 28 #[.int .i64 0, .int .i64 0, .int .i64 0, .int .i64 0, .int .i64 0, .int .i64 0, .int .i64 0, .int .i64 0, .int .i64 0, .int .i64 0, .int .i64 0, .int .i64 0, .int .i64 0, .int .i64 0, .int .i64 0] HRr.out infoRd rfl (rg_one _ _ _ _ _ _ _ _ _ _ _ _ _ _ _) ?_)
    intro w9 hw9
    go_wp2
    refine bodyPost_ret (results_row_tmp' Tryz.results46 _ w9 w.heap.size 28 #[.int .i64 0, .int .i64 0, .int .i64 0, .int .i64 0, .int .i64 0, .int .i64 0, .int .i64 0, .int .i64 0, .int .i64 0, .int .i64 0, .int .i64 0, .int .i64 0, .int .i64 0, .int .i64 0, .int .i64 0] (0,0) _ rfl (by rw[hw9.out];exact setRow_heap _ _ _ _ _ _ HRr.out) Tryz.underlying28 rfl infoRd) rfl ⟨by rw[HE1.out];rfl, ?_⟩
    rw[hw9.out]
    exact below_setRow HBr.out (Nat.le_refl _) _
   subst hE0
   have e:=HG4.out HV.out
   rw[HF.out]at e
   have HE4:=Lib.hid e.symm
   obtain⟨y,hy⟩: ∃y,b[s]?=some y:=⟨_,List.getElem?_eq_getElem (by rw[HL.out];exact hs13)⟩
   have hcy:=HB.out.cell hy
   have hfy:=HB.out.frozen s
   have i1:IntKind.i64.wrap ((s:Int)+1 - 1)=(s:Int):=by rw[Int.add_sub_cancel];exact IntWalk.i64_in _ (by omega)
   have i2:IntKind.i64.wrap (s:Int)=(s:Int):=IntWalk.i64_in _ (by omega)
   have i3:(0:Int)≤(s:Int):=by omega
   have i4:(s:Int)<13:=by omega
   clear e hy HG3 HG4
   go_wp2_with fail
   refine(trefvalue_any x.val m HM.out.symm v 0 HV.out S cc _ HBS.out).mono ?_
   rintro e w3 ⟨rfl,rfl⟩
   go_wp2
   go_roundw
   case rel=>exact⟨k+1,b.set s (v:Int),by omega,by go_num,by rw[List.length_set];exact HL.out,HE4.out,HB.out.set s (v:Int),grownR_trans HG.out (grown_cell wr N s (.int .i64 (v:Int)))⟩
   case measure=>simp[intOf];omega
  ·have e:k=n:=by omega
   have e2:l.drop k=[]:=List.drop_eq_nil_of_le (by rw[←HN.out];omega)
   have e3:=HF.out
   rw[e2,fdFill]at e3
   exact absurd (Prod.mk.inj e3).1.symm HE0.out
end Go.Proofs.YtcnglbliidjnfaaGreatDoor
end
section
namespace Go.Proofs.YtcnglbliidjnfaaGreatDoor
set_option linter.unusedVariables false
open Go.ChangeShapes Go.WideShapes Go.ChangeAt Go.RowKit
set_option maxRecDepth 100000 in
set_option maxHeartbeats 1600000 in
theorem rfget_v (l:List Tf) (n:Nat) (hn:n=l.length) (E:Nat) (r:Rg) (hE:fdGet l=(E,r)) (A:Option Addr) (c:Nat) (w:World) (hA:Ts w w.heap.size l A c) (hi:isT 0 l=true) (q:Rg) (hf:fdFill z13 l=(0,numL q)) (hq:rdL (numL q)=q) (hv:verX (numL q)=false):Calls Tryz.prog 46 #[.slice A n c] w fun e w'=>e= .returned (.tuple #[.agg #[.int .i64 r.t.ser, .int .i64 r.t.kind, .int .i64 r.t.frm, .int .i64 r.t.till, .int .i64 r.t.cls, .int .i64 r.t.card, .int .i64 r.t.seat, .int .i64 r.t.day, .int .i64 r.t.days, .int .i64 r.t.uses, .int .i64 r.t.epoch, .int .i64 r.key, .int .i64 r.left, .int .i64 r.inn, .int .i64 r.ver], .int .i64 (E:Int)])∧Below w.heap.size w w':=by
 obtain⟨rfl,rfl⟩:E=12∧r=zeroR:=by have:=hE;rw[fdGet,if_neg (by rw[hi];decide),hf,if_neg (by simp),fdTold,hq]at this;dsimp only at this;rw[if_pos hv]at this;exact⟨(Prod.mk.inj this).1.symm,(Prod.mk.inj this).2.symm⟩
 clear hE
 have hpos: ∀x∈numL q,0≤x:=fun x hx=>by have:=fill_pos l z13 (by decide) x;rw[hf]at this;exact this hx
 have HVN:=Lib.hid (show¬q.ver<1→ ¬3<q.ver→ ¬(q.ver<2∧0<q.t.card)→q.ver<3∧0<q.t.seat from fun d1 d2 d3=>by
  have k1:=hpos q.t.card (List.mem_of_getElem? (i:=7) rfl)
  have k2:=hpos q.t.seat (List.mem_of_getElem? (i:=8) rfl)
  have k3: ¬_:=fun h=>Bool.noConfusion ((hv.symm.trans ((ver_iff q).2 h)))
  omega)
 have HFILL:=Lib.hid hf
 clear hf hq hpos hv
 have HN:=Lib.hid hn
 have HA:=Lib.hid hA
 have HI:=Lib.hid hi
 clear hn hA hi
 have HR0:=Lib.hid (RBox.new w zeroR)
 have hl0:=below_lit w #[.int .i64 0, .int .i64 0, .int .i64 0, .int .i64 0, .int .i64 0, .int .i64 0, .int .i64 0, .int .i64 0, .int .i64 0, .int .i64 0, .int .i64 0, .int .i64 0, .int .i64 0, .int .i64 0, .int .i64 0] 28
 have HB0:=Lib.hid hl0
 have HA0:=Lib.hid (HA.out.next hl0)
 have h63:n≤9223372036854775807:=by have h1:=HA.out.len;have h2:=HA.out.cap;have h3:=HN.out;omega
 clear hl0
 go_enter Tryz.func46, Tryz.ntmps46
 go_wp2_with fail
 refine(refis_tlv l n HN.out true HI.out A c _ HA0.out).mono ?_
 rintro e w1 ⟨rfl,hb⟩
 have HR1:=Lib.hid (HR0.out.next hb)
 have HB1:=Lib.hid (HB0.out.trans (hb.mono HB0.out.size))
 have HA1:=Lib.hid (HA0.out.next hb)
 clear hb HR0 HB0 HA0
 go_wp2_with fail
 obtain⟨N,hNN⟩: ∃N,N=w1.heap.size:=⟨_,rfl⟩
 obtain⟨w2,hw2⟩: ∃w2,w2=w1.alloc (.cells #[.int .i64 0, .int .i64 0, .int .i64 0, .int .i64 0, .int .i64 0, .int .i64 0, .int .i64 0, .int .i64 0, .int .i64 0, .int .i64 0, .int .i64 0, .int .i64 0, .int .i64 0] 3):=⟨_,rfl⟩
 have HZ2:=Lib.hid (show NBox w2 N z13 by rw[hw2,hNN];exact nbox_new w1 z13 #[.int .i64 0, .int .i64 0, .int .i64 0, .int .i64 0, .int .i64 0, .int .i64 0, .int .i64 0, .int .i64 0, .int .i64 0, .int .i64 0, .int .i64 0, .int .i64 0, .int .i64 0] rfl)
 have hl1:Below w1.heap.size w1 w2:=by rw[hw2];exact below_lit w1 #[.int .i64 0, .int .i64 0, .int .i64 0, .int .i64 0, .int .i64 0, .int .i64 0, .int .i64 0, .int .i64 0, .int .i64 0, .int .i64 0, .int .i64 0, .int .i64 0, .int .i64 0] 3
 have HXW:=Lib.hid (show w.heap.size<N by rw[hNN];exact HR1.out.lt)
 have HR2:=Lib.hid (HR1.out.next hl1)
 have HB2:=Lib.hid (HB1.out.trans (hl1.mono HB1.out.size))
 have HA2:=Lib.hid (show Ts w2 N l A c by rw[hNN];exact HA1.out.below hl1)
 have hN2:=HZ2.out.lt
 rw[←hw2, ←hNN]
 clear hw2 hNN hl1 HR1 HB1 HA1
 go_loopw [5] (fun i wr=> ∃(k:Nat) (b:List Int),k≤n∧i= .int .i64 k∧b.length=13∧fdFill b (l.drop k)=(0,numL q)∧NBox wr N b∧w2.grownBy wr (some N)) (fun i _=>n - (intOf i).toNat)
 case atStart=>exact⟨0,z13,Nat.zero_le _,rfl,rfl,HFILL.out,HZ2.out,World.grownBy.refl _ _⟩
 case round=>
  obtain⟨k,b,hk,rfl,hbl,hfill,hbox,hg⟩:=hrel
  have HF:=Lib.hid hfill
  have HB:=Lib.hid hbox
  have HG:=Lib.hid hg
  have HL:=Lib.hid hbl
  have hsz:=hg.size
  have HRr:=Lib.hid (show RBox wr w.heap.size zeroR from(hg.block _ HR2.out.lt (by have:=HXW.out;simp;omega)).trans HR2.out)
  have HBr:=Lib.hid (HB2.out.trans (below_grownR hg (Nat.le_of_lt HXW.out) HB2.out.size))
  clear hfill hbox hg hbl
  by_cases hlt:k<n
  ·obtain⟨ad,S,cc,rfl,had,hk4⟩:=(HA2.out.below (below_grownR HG.out (Nat.le_refl _) (Nat.le_of_lt hN2))).rd k (by rw[←HN.out];exact hlt)
   have hc0:=hk4.c0
   have hc1:=hk4.c1
   have hcap:=hk4.bs.len
   have hcap2:=hk4.bs.cap
   have HKL:=Lib.hid (show k<l.length by rw[←HN.out];exact hlt)
   have h0:=isT_pos HI.out HKL.out
   have b1:(0:Int)≤(k:Int):=by omega
   have b2:(k:Int)<(n:Int):=by omega
   have F1:=Lib.hid (fun q=>fdFill_must (a:=b) HKL.out q)
   have F2:=Lib.hid (fun q q2=>fdFill_unknown (a:=b) HKL.out q q2)
   have F3:=Lib.hid (fun q2 (v E:Nat) hv hE=>fdFill_value (a:=b) HKL.out q2 (v:=v) (E:=E) hv hE)
   have F4:=Lib.hid (fun q2 (v:Nat) hv=>fdFill_step (a:=b) HKL.out q2 (v:=v) hv)
   obtain⟨x,hx⟩: ∃x,x=l.getD k TF0:=⟨_,rfl⟩
   rw[←hx]at hc0 hc1 hcap h0 F1 F2 F3 F4
   have HBS:=Lib.hid (show Bs wr wr.heap.size x.val S cc by rw[hx];exact hk4.bs.more (Nat.le_of_lt HB.out.lt))
   clear hx hk4
   by_cases q1:128≤x.tag
   ·have e:=F1.out q1
    rw[HF.out]at e
    obtain⟨e1,e2⟩:=Prod.mk.inj e
    exact absurd e1 (by decide)
   by_cases q2:13<x.tag
   ·have e:=F2.out q1 q2
    rw[HF.out]at e
    obtain⟨e1,e2⟩:=Prod.mk.inj e
    exact absurd e1 (by decide)
   obtain⟨s,hs⟩: ∃s:Nat,x.tag=(s:Int)+1:=⟨x.tag.toNat - 1,by omega⟩
   obtain⟨m,hm⟩: ∃m:Nat,x.val.length=m:=⟨_,rfl⟩
   obtain⟨v,Ev,hv⟩: ∃v Ev,valT x.val=(v,Ev):=⟨_,_,rfl⟩
   have HV:=Lib.hid hv
   have HM:=Lib.hid hm
   have hs13:s<13:=by omega
   rw[hm]at hc1 hcap
   rw[hs]at hc0
   have G3:=F3.out q2 v Ev hv
   have G4:=F4.out q2 v
   rw[show x.tag.toNat - 1=s by omega]at G4
   have HG3:=Lib.hid G3
   have HG4:=Lib.hid G4
   have b3: ¬((128:Int)≤(s:Int)+1):=by omega
   have b4: ¬((13:Int)<(s:Int)+1):=by omega
   clear hv hm G3 G4 F1 F2 F3 F4 q1 q2 hs h0
   by_cases hE0:Ev=0
   rotate_left
   ·have e:=HG3.out hE0
    rw[HF.out]at e
    obtain⟨e1,e2⟩:=Prod.mk.inj e
    exact absurd e1.symm hE0
   subst hE0
   have e:=HG4.out HV.out
   rw[HF.out]at e
   have HE4:=Lib.hid e.symm
   obtain⟨y,hy⟩: ∃y,b[s]?=some y:=⟨_,List.getElem?_eq_getElem (by rw[HL.out];exact hs13)⟩
   have hcy:=HB.out.cell hy
   have hfy:=HB.out.frozen s
   have i1:IntKind.i64.wrap ((s:Int)+1 - 1)=(s:Int):=by rw[Int.add_sub_cancel];exact IntWalk.i64_in _ (by omega)
   have i2:IntKind.i64.wrap (s:Int)=(s:Int):=IntWalk.i64_in _ (by omega)
   have i3:(0:Int)≤(s:Int):=by omega
   have i4:(s:Int)<13:=by omega
   clear e hy HG3 HG4
   go_wp2_with fail
   refine(trefvalue_any x.val m HM.out.symm v 0 HV.out S cc _ HBS.out).mono ?_
   rintro e w3 ⟨rfl,rfl⟩
   go_wp2
   go_roundw
   case rel=>exact⟨k+1,b.set s (v:Int),by omega,by go_num,by rw[List.length_set];exact HL.out,HE4.out,HB.out.set s (v:Int),grownR_trans HG.out (grown_cell wr N s (.int .i64 (v:Int)))⟩
   case measure=>simp[intOf];omega
  ·have e:k=n:=by omega
   have e2:l.drop k=[]:=List.drop_eq_nil_of_le (by rw[←HN.out];omega)
   have e3:=HF.out
   rw[e2,fdFill]at e3
   obtain⟨_,e4⟩:=Prod.mk.inj e3
   have HBq:Hid (NBox wr N (numL q)):=Lib.hid (by rw[←e4];exact HB.out)
   clear e2 e3 e4 HB HF hlt
   obtain⟨g0,g1,g2,g3,g4,g5,g6,g7,g8,g9,g10,g11,g12⟩:=HBq.out.cells
   by_cases d1:q.ver<1
   ·have t1:decide (q.ver<1)=true:=decide_eq_true (by omega)
    go_wp2_with ((with_reducible refine at_store 2 ?_);refine wpList_store_named (o:=⟨none, .store 28 (.tmp 2) (.tmp 90),_,_,_,_⟩) rfl 28 (.tmp 2) (.tmp 90) rfl w.heap.size #[.int .i64 0, .int .i64 0, .int .i64 0, .int .i64 0, .int .i64 0, .int .i64 0, .int .i64 0, .int .i64 0, .int .i64 0, .int .i64 0, .int .i64 0, .int .i64 0, .int .i64 0, .int .i64 0, .int .i64 0] rfl rfl 28 #[.int .i64 0, .int .i64 0, .int .i64 0, .int .i64 0, .int .i64 0, .int .i64 0, .int .i64 0, .int .i64 0, .int .i64 0, .int .i64 0, .int .i64 0, .int .i64 0, .int .i64 0, .int .i64 0, .int .i64 0] HRr.out infoRd rfl (rg_one _ _ _ _ _ _ _ _ _ _ _ _ _ _ _) ?_)
    intro w9 hw9
    go_wp2
    refine bodyPost_ret (results_row_tmp' Tryz.results46 _ w9 w.heap.size 28 #[.int .i64 0, .int .i64 0, .int .i64 0, .int .i64 0, .int .i64 0, .int .i64 0, .int .i64 0, .int .i64 0, .int .i64 0, .int .i64 0, .int .i64 0, .int .i64 0, .int .i64 0, .int .i64 0, .int .i64 0] (0,0) _ rfl (by rw[hw9.out];exact setRow_heap _ _ _ _ _ _ HRr.out) Tryz.underlying28 rfl infoRd) rfl ⟨rfl, ?_⟩
    rw[hw9.out]
    exact below_setRow HBr.out (Nat.le_refl _) _
   by_cases d2:3<q.ver
   ·have t1:decide (q.ver<1)=false:=decide_eq_false (by omega)
    have t2:decide (3<q.ver)=true:=decide_eq_true (by omega)
    go_wp2_with ((with_reducible refine at_store 2 ?_);refine wpList_store_named (o:=⟨none, .store 28 (.tmp 2) (.tmp 90),_,_,_,_⟩) rfl 28 (.tmp 2) (.tmp 90) rfl w.heap.size #[.int .i64 0, .int .i64 0, .int .i64 0, .int .i64 0, .int .i64 0, .int .i64 0, .int .i64 0, .int .i64 0, .int .i64 0, .int .i64 0, .int .i64 0, .int .i64 0, .int .i64 0, .int .i64 0, .int .i64 0] rfl rfl 28 #[.int .i64 0, .int .i64 0, .int .i64 0, .int .i64 0, .int .i64 0, .int .i64 0, .int .i64 0, .int .i64 0, .int .i64 0, .int .i64 0, .int .i64 0, .int .i64 0, .int .i64 0, .int .i64 0, .int .i64 0] HRr.out infoRd rfl (rg_one _ _ _ _ _ _ _ _ _ _ _ _ _ _ _) ?_)
    intro w9 hw9
    go_wp2
    refine bodyPost_ret (results_row_tmp' Tryz.results46 _ w9 w.heap.size 28 #[.int .i64 0, .int .i64 0, .int .i64 0, .int .i64 0, .int .i64 0, .int .i64 0, .int .i64 0, .int .i64 0, .int .i64 0, .int .i64 0, .int .i64 0, .int .i64 0, .int .i64 0, .int .i64 0, .int .i64 0] (0,0) _ rfl (by rw[hw9.out];exact setRow_heap _ _ _ _ _ _ HRr.out) Tryz.underlying28 rfl infoRd) rfl ⟨rfl, ?_⟩
    rw[hw9.out]
    exact below_setRow HBr.out (Nat.le_refl _) _
   by_cases d3:q.ver<2∧0<q.t.card
   ·have t1:decide (q.ver<1)=false:=decide_eq_false (by omega)
    have t2:decide (3<q.ver)=false:=decide_eq_false (by omega)
    have t3:decide (q.ver<2)=true:=decide_eq_true (by omega)
    have t4:decide (0<q.t.card)=true:=decide_eq_true (by omega)
    go_wp2_with ((with_reducible refine at_store 2 ?_);refine wpList_store_named (o:=⟨none, .store 28 (.tmp 2) (.tmp 90),_,_,_,_⟩) rfl 28 (.tmp 2) (.tmp 90) rfl w.heap.size #[.int .i64 0, .int .i64 0, .int .i64 0, .int .i64 0, .int .i64 0, .int .i64 0, .int .i64 0, .int .i64 0, .int .i64 0, .int .i64 0, .int .i64 0, .int .i64 0, .int .i64 0, .int .i64 0, .int .i64 0] rfl rfl 28 #[.int .i64 0, .int .i64 0, .int .i64 0, .int .i64 0, .int .i64 0, .int .i64 0, .int .i64 0, .int .i64 0, .int .i64 0, .int .i64 0, .int .i64 0, .int .i64 0, .int .i64 0, .int .i64 0, .int .i64 0] HRr.out infoRd rfl (rg_one _ _ _ _ _ _ _ _ _ _ _ _ _ _ _) ?_)
    intro w9 hw9
    go_wp2
    refine bodyPost_ret (results_row_tmp' Tryz.results46 _ w9 w.heap.size 28 #[.int .i64 0, .int .i64 0, .int .i64 0, .int .i64 0, .int .i64 0, .int .i64 0, .int .i64 0, .int .i64 0, .int .i64 0, .int .i64 0, .int .i64 0, .int .i64 0, .int .i64 0, .int .i64 0, .int .i64 0] (0,0) _ rfl (by rw[hw9.out];exact setRow_heap _ _ _ _ _ _ HRr.out) Tryz.underlying28 rfl infoRd) rfl ⟨rfl, ?_⟩
    rw[hw9.out]
    exact below_setRow HBr.out (Nat.le_refl _) _
   have d4:q.ver<3∧0<q.t.seat:=HVN.out (by omega) (by omega) (by omega)
   by_cases d5:q.ver<2
   ·have t1:decide (q.ver<1)=false:=decide_eq_false (by omega)
    have t2:decide (3<q.ver)=false:=decide_eq_false (by omega)
    have t3:decide (q.ver<2)=true:=decide_eq_true (by omega)
    have t4:decide (0<q.t.card)=false:=decide_eq_false (by omega)
    have t5:decide (q.ver<3)=true:=decide_eq_true (by omega)
    have t6:decide (0<q.t.seat)=true:=decide_eq_true (by omega)
    go_wp2_with ((with_reducible refine at_store 2 ?_);refine wpList_store_named (o:=⟨none, .store 28 (.tmp 2) (.tmp 90),_,_,_,_⟩) rfl 28 (.tmp 2) (.tmp 90) rfl w.heap.size #[.int .i64 0, .int .i64 0, .int .i64 0, .int .i64 0, .int .i64 0, .int .i64 0, .int .i64 0, .int .i64 0, .int .i64 0, .int .i64 0, .int .i64 0, .int .i64 0, .int .i64 0, .int .i64 0, .int .i64 0] rfl rfl 28 #[.int .i64 0, .int .i64 0, .int .i64 0, .int .i64 0, .int .i64 0, .int .i64 0, .int .i64 0, .int .i64 0, .int .i64 0, .int .i64 0, .int .i64 0, .int .i64 0, .int .i64 0, .int .i64 0, .int .i64 0] HRr.out infoRd rfl (rg_one _ _ _ _ _ _ _ _ _ _ _ _ _ _ _) ?_)
    intro w9 hw9
    go_wp2
    refine bodyPost_ret (results_row_tmp' Tryz.results46 _ w9 w.heap.size 28 #[.int .i64 0, .int .i64 0, .int .i64 0, .int .i64 0, .int .i64 0, .int .i64 0, .int .i64 0, .int .i64 0, .int .i64 0, .int .i64 0, .int .i64 0, .int .i64 0, .int .i64 0, .int .i64 0, .int .i64 0] (0,0) _ rfl (by rw[hw9.out];exact setRow_heap _ _ _ _ _ _ HRr.out) Tryz.underlying28 rfl infoRd) rfl ⟨rfl, ?_⟩
    rw[hw9.out]
    exact below_setRow HBr.out (Nat.le_refl _) _
   ·have t1:decide (q.ver<1)=false:=decide_eq_false (by omega)
    have t2:decide (3<q.ver)=false:=decide_eq_false (by omega)
    have t3:decide (q.ver<2)=false:=decide_eq_false (by omega)
    have t5:decide (q.ver<3)=true:=decide_eq_true (by omega)
    have t6:decide (0<q.t.seat)=true:=decide_eq_true (by omega)
    go_wp2_with ((with_reducible refine at_store 2 ?_);refine wpList_store_named (o:=⟨none, .store 28 (.tmp 2) (.tmp 90),_,_,_,_⟩) rfl 28 (.tmp 2) (.tmp 90) rfl w.heap.size #[.int .i64 0, .int .i64 0, .int .i64 0, .int .i64 0, .int .i64 0, .int .i64 0, .int .i64 0, .int .i64 0, .int .i64 0, .int .i64 0, .int .i64 0, .int .i64 0, .int .i64 0, .int .i64 0, .int .i64 0] rfl rfl 28 #[.int .i64 0, .int .i64 0, .int .i64 0, .int .i64 0, .int .i64 0, .int .i64 0, .int .i64 0, .int .i64 0, .int .i64 0, .int .i64 0, .int .i64 0, .int .i64 0, .int .i64 0, .int .i64 0, .int .i64 0] HRr.out infoRd rfl (rg_one _ _ _ _ _ _ _ _ _ _ _ _ _ _ _) ?_)
    intro w9 hw9
    go_wp2
    refine bodyPost_ret (results_row_tmp' Tryz.results46 _ w9 w.heap.size 28 #[.int .i64 0, .int .i64 0, .int .i64 0, .int .i64 0, .int .i64 0, .int .i64 0, .int .i64 0, .int .i64 0, .int .i64 0, .int .i64 0, .int .i64 0, .int .i64 0, .int .i64 0, .int .i64 0, .int .i64 0] (0,0) _ rfl (by rw[hw9.out];exact setRow_heap _ _ _ _ _ _ HRr.out) Tryz.underlying28 rfl infoRd) rfl ⟨rfl, ?_⟩
    rw[hw9.out]
    exact below_setRow HBr.out (Nat.le_refl _) _
theorem told9 {l:List Tf} {q:Rg} (hi:isT 0 l=true) (hf:fdFill z13 l=(0,numL q)) (hq:rdL (numL q)=q) (hv:verX (numL q)=true) (hr:rightF q=false):fdGet l=(9,zeroR):=by
 rw[fdGet,if_neg (by rw[hi];decide),hf,if_neg (by simp),fdTold,hq]
 dsimp only
 rw[if_neg (by rw[hv];decide),if_pos hr]
theorem told0 {l:List Tf} {q:Rg} (hi:isT 0 l=true) (hf:fdFill z13 l=(0,numL q)) (hq:rdL (numL q)=q) (hv:verX (numL q)=true) (hr:rightF q=true):fdGet l=(0,setU q):=by
 rw[fdGet,if_neg (by rw[hi];decide),hf,if_neg (by simp),fdTold,hq]
 dsimp only
 rw[if_neg (by rw[hv];decide),if_neg (by rw[hr];decide)]
theorem right_okS {r:Rg} (h:okT (setU r).t=false):rightF r=false:=right_ok (by rw[ownR_ok];exact h)
theorem right_yesS {r:Rg} (h:r.t.kind=4∨r.t.uses=0) (h1:r.key≤99) (h2:okT (setU r).t=true):rightF r=true:=right_yes h h1 (by rw[ownR_ok];exact h2)
end Go.Proofs.YtcnglbliidjnfaaGreatDoor
end
section
namespace Go.Proofs.YtcnglbliidjnfaaGreatDoor
set_option linter.unusedVariables false
open Go.ChangeShapes Go.WideShapes Go.ChangeAt Go.RowKit
set_option maxRecDepth 100000 in
set_option maxHeartbeats 1600000 in
theorem set_cells (D:Nat) (r:Rg) (a0 a1 a2 a3 a4 a5 a6 a7 a8 a9 a10 a11 a12 a13 a14:Int) (w:World) (hd:RBox w D r): ∃W,W=(((((((((((((((w.setCell ⟨D,0,none⟩ (.int .i64 a0)).setCell ⟨D,1,none⟩ (.int .i64 a1)).setCell ⟨D,2,none⟩ (.int .i64 a2)).setCell ⟨D,3,none⟩ (.int .i64 a3)).setCell ⟨D,4,none⟩ (.int .i64 a4)).setCell ⟨D,5,none⟩ (.int .i64 a5)).setCell ⟨D,6,none⟩ (.int .i64 a6)).setCell ⟨D,7,none⟩ (.int .i64 a7)).setCell ⟨D,8,none⟩ (.int .i64 a8)).setCell ⟨D,9,none⟩ (.int .i64 a9)).setCell ⟨D,10,none⟩ (.int .i64 a10)).setCell ⟨D,11,none⟩ (.int .i64 a11)).setCell ⟨D,12,none⟩ (.int .i64 a12)).setCell ⟨D,13,none⟩ (.int .i64 a13)).setCell ⟨D,14,none⟩ (.int .i64 a14))∧W.heap[D]?=some (.cells #[.int .i64 a0, .int .i64 a1, .int .i64 a2, .int .i64 a3, .int .i64 a4, .int .i64 a5, .int .i64 a6, .int .i64 a7, .int .i64 a8, .int .i64 a9, .int .i64 a10, .int .i64 a11, .int .i64 a12, .int .i64 a13, .int .i64 a14] 28 (0,0))∧ ∀B,B≤D→Below B w W:=by
 have Hm:w.heap[D]?=some (.cells #[.int .i64 r.t.ser, .int .i64 r.t.kind, .int .i64 r.t.frm, .int .i64 r.t.till, .int .i64 r.t.cls, .int .i64 r.t.card, .int .i64 r.t.seat, .int .i64 r.t.day, .int .i64 r.t.days, .int .i64 r.t.uses, .int .i64 r.t.epoch, .int .i64 r.key, .int .i64 r.left, .int .i64 r.inn, .int .i64 r.ver] 28 (0,0)):=hd
 have Bm: ∀B,B≤D→Below B w w:=fun B _=>Below.refl B w
 obtain⟨W0,hW0⟩: ∃W,W=w.setCell ⟨D,0,none⟩ (.int .i64 a0):=⟨_,rfl⟩
 rw[←hW0]
 have H0:W0.heap[D]?=some (.cells #[.int .i64 a0, .int .i64 r.t.kind, .int .i64 r.t.frm, .int .i64 r.t.till, .int .i64 r.t.cls, .int .i64 r.t.card, .int .i64 r.t.seat, .int .i64 r.t.day, .int .i64 r.t.days, .int .i64 r.t.uses, .int .i64 r.t.epoch, .int .i64 r.key, .int .i64 r.left, .int .i64 r.inn, .int .i64 r.ver] 28 (0,0)):=by rw[hW0];exact heap_setCell_same w D 0 _ _ (.int .i64 a0) Hm
 have B0: ∀B,B≤D→Below B w W0:=fun B h=>by rw[hW0];exact(Bm B h).setCell (p:=⟨D,0,none⟩) h _
 obtain⟨W1,hW1⟩: ∃W,W=W0.setCell ⟨D,1,none⟩ (.int .i64 a1):=⟨_,rfl⟩
 rw[←hW1]
 have H1:W1.heap[D]?=some (.cells #[.int .i64 a0, .int .i64 a1, .int .i64 r.t.frm, .int .i64 r.t.till, .int .i64 r.t.cls, .int .i64 r.t.card, .int .i64 r.t.seat, .int .i64 r.t.day, .int .i64 r.t.days, .int .i64 r.t.uses, .int .i64 r.t.epoch, .int .i64 r.key, .int .i64 r.left, .int .i64 r.inn, .int .i64 r.ver] 28 (0,0)):=by rw[hW1];exact heap_setCell_same W0 D 1 _ _ (.int .i64 a1) H0
 have B1: ∀B,B≤D→Below B w W1:=fun B h=>by rw[hW1];exact(B0 B h).setCell (p:=⟨D,1,none⟩) h _
 obtain⟨W2,hW2⟩: ∃W,W=W1.setCell ⟨D,2,none⟩ (.int .i64 a2):=⟨_,rfl⟩
 rw[←hW2]
 have H2:W2.heap[D]?=some (.cells #[.int .i64 a0, .int .i64 a1, .int .i64 a2, .int .i64 r.t.till, .int .i64 r.t.cls, .int .i64 r.t.card, .int .i64 r.t.seat, .int .i64 r.t.day, .int .i64 r.t.days, .int .i64 r.t.uses, .int .i64 r.t.epoch, .int .i64 r.key, .int .i64 r.left, .int .i64 r.inn, .int .i64 r.ver] 28 (0,0)):=by rw[hW2];exact heap_setCell_same W1 D 2 _ _ (.int .i64 a2) H1
 have B2: ∀B,B≤D→Below B w W2:=fun B h=>by rw[hW2];exact(B1 B h).setCell (p:=⟨D,2,none⟩) h _
 obtain⟨W3,hW3⟩: ∃W,W=W2.setCell ⟨D,3,none⟩ (.int .i64 a3):=⟨_,rfl⟩
 rw[←hW3]
 have H3:W3.heap[D]?=some (.cells #[.int .i64 a0, .int .i64 a1, .int .i64 a2, .int .i64 a3, .int .i64 r.t.cls, .int .i64 r.t.card, .int .i64 r.t.seat, .int .i64 r.t.day, .int .i64 r.t.days, .int .i64 r.t.uses, .int .i64 r.t.epoch, .int .i64 r.key, .int .i64 r.left, .int .i64 r.inn, .int .i64 r.ver] 28 (0,0)):=by rw[hW3];exact heap_setCell_same W2 D 3 _ _ (.int .i64 a3) H2
 have B3: ∀B,B≤D→Below B w W3:=fun B h=>by rw[hW3];exact(B2 B h).setCell (p:=⟨D,3,none⟩) h _
 obtain⟨W4,hW4⟩: ∃W,W=W3.setCell ⟨D,4,none⟩ (.int .i64 a4):=⟨_,rfl⟩
 rw[←hW4]
 have H4:W4.heap[D]?=some (.cells #[.int .i64 a0, .int .i64 a1, .int .i64 a2, .int .i64 a3, .int .i64 a4, .int .i64 r.t.card, .int .i64 r.t.seat, .int .i64 r.t.day, .int .i64 r.t.days, .int .i64 r.t.uses, .int .i64 r.t.epoch, .int .i64 r.key, .int .i64 r.left, .int .i64 r.inn, .int .i64 r.ver] 28 (0,0)):=by rw[hW4];exact heap_setCell_same W3 D 4 _ _ (.int .i64 a4) H3
 have B4: ∀B,B≤D→Below B w W4:=fun B h=>by rw[hW4];exact(B3 B h).setCell (p:=⟨D,4,none⟩) h _
 obtain⟨W5,hW5⟩: ∃W,W=W4.setCell ⟨D,5,none⟩ (.int .i64 a5):=⟨_,rfl⟩
 rw[←hW5]
 have H5:W5.heap[D]?=some (.cells #[.int .i64 a0, .int .i64 a1, .int .i64 a2, .int .i64 a3, .int .i64 a4, .int .i64 a5, .int .i64 r.t.seat, .int .i64 r.t.day, .int .i64 r.t.days, .int .i64 r.t.uses, .int .i64 r.t.epoch, .int .i64 r.key, .int .i64 r.left, .int .i64 r.inn, .int .i64 r.ver] 28 (0,0)):=by rw[hW5];exact heap_setCell_same W4 D 5 _ _ (.int .i64 a5) H4
 have B5: ∀B,B≤D→Below B w W5:=fun B h=>by rw[hW5];exact(B4 B h).setCell (p:=⟨D,5,none⟩) h _
 obtain⟨W6,hW6⟩: ∃W,W=W5.setCell ⟨D,6,none⟩ (.int .i64 a6):=⟨_,rfl⟩
 rw[←hW6]
 have H6:W6.heap[D]?=some (.cells #[.int .i64 a0, .int .i64 a1, .int .i64 a2, .int .i64 a3, .int .i64 a4, .int .i64 a5, .int .i64 a6, .int .i64 r.t.day, .int .i64 r.t.days, .int .i64 r.t.uses, .int .i64 r.t.epoch, .int .i64 r.key, .int .i64 r.left, .int .i64 r.inn, .int .i64 r.ver] 28 (0,0)):=by rw[hW6];exact heap_setCell_same W5 D 6 _ _ (.int .i64 a6) H5
 have B6: ∀B,B≤D→Below B w W6:=fun B h=>by rw[hW6];exact(B5 B h).setCell (p:=⟨D,6,none⟩) h _
 obtain⟨W7,hW7⟩: ∃W,W=W6.setCell ⟨D,7,none⟩ (.int .i64 a7):=⟨_,rfl⟩
 rw[←hW7]
 have H7:W7.heap[D]?=some (.cells #[.int .i64 a0, .int .i64 a1, .int .i64 a2, .int .i64 a3, .int .i64 a4, .int .i64 a5, .int .i64 a6, .int .i64 a7, .int .i64 r.t.days, .int .i64 r.t.uses, .int .i64 r.t.epoch, .int .i64 r.key, .int .i64 r.left, .int .i64 r.inn, .int .i64 r.ver] 28 (0,0)):=by rw[hW7];exact heap_setCell_same W6 D 7 _ _ (.int .i64 a7) H6
 have B7: ∀B,B≤D→Below B w W7:=fun B h=>by rw[hW7];exact(B6 B h).setCell (p:=⟨D,7,none⟩) h _
 obtain⟨W8,hW8⟩: ∃W,W=W7.setCell ⟨D,8,none⟩ (.int .i64 a8):=⟨_,rfl⟩
 rw[←hW8]
 have H8:W8.heap[D]?=some (.cells #[.int .i64 a0, .int .i64 a1, .int .i64 a2, .int .i64 a3, .int .i64 a4, .int .i64 a5, .int .i64 a6, .int .i64 a7, .int .i64 a8, .int .i64 r.t.uses, .int .i64 r.t.epoch, .int .i64 r.key, .int .i64 r.left, .int .i64 r.inn, .int .i64 r.ver] 28 (0,0)):=by rw[hW8];exact heap_setCell_same W7 D 8 _ _ (.int .i64 a8) H7
 have B8: ∀B,B≤D→Below B w W8:=fun B h=>by rw[hW8];exact(B7 B h).setCell (p:=⟨D,8,none⟩) h _
 obtain⟨W9,hW9⟩: ∃W,W=W8.setCell ⟨D,9,none⟩ (.int .i64 a9):=⟨_,rfl⟩
 rw[←hW9]
 have H9:W9.heap[D]?=some (.cells #[.int .i64 a0, .int .i64 a1, .int .i64 a2, .int .i64 a3, .int .i64 a4, .int .i64 a5, .int .i64 a6, .int .i64 a7, .int .i64 a8, .int .i64 a9, .int .i64 r.t.epoch, .int .i64 r.key, .int .i64 r.left, .int .i64 r.inn, .int .i64 r.ver] 28 (0,0)):=by rw[hW9];exact heap_setCell_same W8 D 9 _ _ (.int .i64 a9) H8
 have B9: ∀B,B≤D→Below B w W9:=fun B h=>by rw[hW9];exact(B8 B h).setCell (p:=⟨D,9,none⟩) h _
 obtain⟨W10,hW10⟩: ∃W,W=W9.setCell ⟨D,10,none⟩ (.int .i64 a10):=⟨_,rfl⟩
 rw[←hW10]
 have H10:W10.heap[D]?=some (.cells #[.int .i64 a0, .int .i64 a1, .int .i64 a2, .int .i64 a3, .int .i64 a4, .int .i64 a5, .int .i64 a6, .int .i64 a7, .int .i64 a8, .int .i64 a9, .int .i64 a10, .int .i64 r.key, .int .i64 r.left, .int .i64 r.inn, .int .i64 r.ver] 28 (0,0)):=by rw[hW10];exact heap_setCell_same W9 D 10 _ _ (.int .i64 a10) H9
 have B10: ∀B,B≤D→Below B w W10:=fun B h=>by rw[hW10];exact(B9 B h).setCell (p:=⟨D,10,none⟩) h _
 obtain⟨W11,hW11⟩: ∃W,W=W10.setCell ⟨D,11,none⟩ (.int .i64 a11):=⟨_,rfl⟩
 rw[←hW11]
 have H11:W11.heap[D]?=some (.cells #[.int .i64 a0, .int .i64 a1, .int .i64 a2, .int .i64 a3, .int .i64 a4, .int .i64 a5, .int .i64 a6, .int .i64 a7, .int .i64 a8, .int .i64 a9, .int .i64 a10, .int .i64 a11, .int .i64 r.left, .int .i64 r.inn, .int .i64 r.ver] 28 (0,0)):=by rw[hW11];exact heap_setCell_same W10 D 11 _ _ (.int .i64 a11) H10
 have B11: ∀B,B≤D→Below B w W11:=fun B h=>by rw[hW11];exact(B10 B h).setCell (p:=⟨D,11,none⟩) h _
 obtain⟨W12,hW12⟩: ∃W,W=W11.setCell ⟨D,12,none⟩ (.int .i64 a12):=⟨_,rfl⟩
 rw[←hW12]
 have H12:W12.heap[D]?=some (.cells #[.int .i64 a0, .int .i64 a1, .int .i64 a2, .int .i64 a3, .int .i64 a4, .int .i64 a5, .int .i64 a6, .int .i64 a7, .int .i64 a8, .int .i64 a9, .int .i64 a10, .int .i64 a11, .int .i64 a12, .int .i64 r.inn, .int .i64 r.ver] 28 (0,0)):=by rw[hW12];exact heap_setCell_same W11 D 12 _ _ (.int .i64 a12) H11
 have B12: ∀B,B≤D→Below B w W12:=fun B h=>by rw[hW12];exact(B11 B h).setCell (p:=⟨D,12,none⟩) h _
 obtain⟨W13,hW13⟩: ∃W,W=W12.setCell ⟨D,13,none⟩ (.int .i64 a13):=⟨_,rfl⟩
 rw[←hW13]
 have H13:W13.heap[D]?=some (.cells #[.int .i64 a0, .int .i64 a1, .int .i64 a2, .int .i64 a3, .int .i64 a4, .int .i64 a5, .int .i64 a6, .int .i64 a7, .int .i64 a8, .int .i64 a9, .int .i64 a10, .int .i64 a11, .int .i64 a12, .int .i64 a13, .int .i64 r.ver] 28 (0,0)):=by rw[hW13];exact heap_setCell_same W12 D 13 _ _ (.int .i64 a13) H12
 have B13: ∀B,B≤D→Below B w W13:=fun B h=>by rw[hW13];exact(B12 B h).setCell (p:=⟨D,13,none⟩) h _
 obtain⟨W14,hW14⟩: ∃W,W=W13.setCell ⟨D,14,none⟩ (.int .i64 a14):=⟨_,rfl⟩
 rw[←hW14]
 have H14:W14.heap[D]?=some (.cells #[.int .i64 a0, .int .i64 a1, .int .i64 a2, .int .i64 a3, .int .i64 a4, .int .i64 a5, .int .i64 a6, .int .i64 a7, .int .i64 a8, .int .i64 a9, .int .i64 a10, .int .i64 a11, .int .i64 a12, .int .i64 a13, .int .i64 a14] 28 (0,0)):=by rw[hW14];exact heap_setCell_same W13 D 14 _ _ (.int .i64 a14) H13
 have B14: ∀B,B≤D→Below B w W14:=fun B h=>by rw[hW14];exact(B13 B h).setCell (p:=⟨D,14,none⟩) h _
 exact⟨_,rfl,H14,B14⟩
end Go.Proofs.YtcnglbliidjnfaaGreatDoor
end
