import Derived.Test.YtmdbfogjfbbpjaaGreatDoorFieldsRefGet0
import Derived.Test.YtmdbfogjfbbpjaaGreatDoorMacRefBlock
import Derived.RegionTactic
import Derived.BigRegion
import Derived.Deep.RegionHeld3
import Derived.Deep.CutRange
set_option maxHeartbeats 1600000
set_option maxRecDepth 100000
set_option linter.unusedVariables false
namespace Go.Proofs.YtmdbfogjfbbpjaaGreatDoor
open Go.ChangeShapes Go.WideShapes Go.ChangeAt Go.RowKit
theorem Add (l:List Tf) (n:Nat) (hn:n=l.length) (E:Nat) (r:Rg) (hE:Br l=(E,r)) (A:Option Addr) (c:Nat) (w:World) (hA:Ts w w.heap.size l A c) (hi:isT 0 l=true) (q:Rg) (hf:fdFill z13 l=(0,numL q)) (hq:rdL (numL q)=q) (hv:Jm (numL q)=true) (hk:q.t.kind=4) (hu:q.t.uses=0):Calls Tryz.prog 73 #[.slice A n c] w fun e w'=>e= .returned (.tuple #[.agg #[.int .i64 r.t.ser, .int .i64 r.t.kind, .int .i64 r.t.frm, .int .i64 r.t.till, .int .i64 r.t.cls, .int .i64 r.t.card, .int .i64 r.t.seat, .int .i64 r.t.day, .int .i64 r.t.days, .int .i64 r.t.uses, .int .i64 r.t.epoch, .int .i64 r.key, .int .i64 r.left, .int .i64 r.inn, .int .i64 r.ver], .int .i64 (E:Int)])∧Below w.heap.size w w':=by
 have hpos: ∀x∈numL q,0≤x:=fun x hx=>by have:=Hx l z13 (by decide) x;rw[hf]at this;exact this hx
 have HVY:=Lib.hid ((Sc q).1 hv)
 have HVX:=Lib.hid hv
 have k1:=hpos q.t.card (List.mem_of_getElem? (i:=7) rfl)
 have k2:=hpos q.t.seat (List.mem_of_getElem? (i:=8) rfl)
 have k3:=hpos q.t.uses (List.mem_of_getElem? (i:=11) rfl)
 have k4:=hpos q.key (List.mem_of_getElem? (i:=1) rfl)
 have k5:=hpos q.t.kind (List.mem_of_getElem? (i:=2) rfl)
 have HFILL:=Lib.hid hf
 have HE:=Lib.hid hE
 have HQ:=Lib.hid hq
 have HQL:=Lib.hid (show q.left=0∧q.inn=0 from⟨by rw[←hq];rfl,by rw[←hq];rfl⟩)
 have q4:(q.t.kind !=4)=false:=by rw[hk];rfl
 have t9:decide (0<q.t.uses)=false:=decide_eq_false (by omega)
 obtain⟨s,hs⟩: ∃s,s=Fh q:=⟨_,rfl⟩
 have HSS:=Lib.hid hs
 have q4s:(s.t.kind !=4)=false:=by rw[hs,Kn];exact q4
 have HS:=Lib.hid (show s=q by rw[hs,Fh,if_pos hk])
 have HK4:=Lib.hid (show q.t.kind=4∨q.t.uses=0 by omega)
 clear hf hq hpos hv hE hk hu hs
 have HN:=Lib.hid hn
 have HA:=Lib.hid hA
 have HI:=Lib.hid hi
 clear hn hA hi
 have HR0:=Lib.hid (Am.new w Ah)
 have hl0:=Aa w #[.int .i64 0, .int .i64 0, .int .i64 0, .int .i64 0, .int .i64 0, .int .i64 0, .int .i64 0, .int .i64 0, .int .i64 0, .int .i64 0, .int .i64 0, .int .i64 0, .int .i64 0, .int .i64 0, .int .i64 0] 39
 have HB0:=Lib.hid hl0
 have HA0:=Lib.hid (HA.out.next hl0)
 have h63:n≤9223372036854775807:=by have h1:=HA.out.len;have h2:=HA.out.cap;have h3:=HN.out;omega
 clear hl0
 go_enter Tryz.func73, Tryz.ntmps73
 go_wp2_with fail
 refine(Fi l n HN.out true HI.out A c _ HA0.out).mono ?_
 rintro e w1 ⟨rfl,hb⟩
 have HR1:=Lib.hid (HR0.out.next hb)
 have HB1:=Lib.hid (HB0.out.trans (hb.mono HB0.out.size))
 have HA1:=Lib.hid (HA0.out.next hb)
 clear hb HR0 HB0 HA0
 go_wp2_with fail
 obtain⟨N,hNN⟩: ∃N,N=w1.heap.size:=⟨_,rfl⟩
 obtain⟨w2,hw2⟩: ∃w2,w2=w1.alloc (.cells #[.int .i64 0, .int .i64 0, .int .i64 0, .int .i64 0, .int .i64 0, .int .i64 0, .int .i64 0, .int .i64 0, .int .i64 0, .int .i64 0, .int .i64 0, .int .i64 0, .int .i64 0] 3):=⟨_,rfl⟩
 have HZ2:=Lib.hid (show Ef w2 N z13 by rw[hw2,hNN];exact Kp w1 z13 #[.int .i64 0, .int .i64 0, .int .i64 0, .int .i64 0, .int .i64 0, .int .i64 0, .int .i64 0, .int .i64 0, .int .i64 0, .int .i64 0, .int .i64 0, .int .i64 0, .int .i64 0] rfl)
 have hl1:Below w1.heap.size w1 w2:=by rw[hw2];exact Aa w1 #[.int .i64 0, .int .i64 0, .int .i64 0, .int .i64 0, .int .i64 0, .int .i64 0, .int .i64 0, .int .i64 0, .int .i64 0, .int .i64 0, .int .i64 0, .int .i64 0, .int .i64 0] 3
 have HXW:=Lib.hid (show w.heap.size<N by rw[hNN];exact HR1.out.lt)
 have HR2:=Lib.hid (HR1.out.next hl1)
 have HB2:=Lib.hid (HB1.out.trans (hl1.mono HB1.out.size))
 have HA2:=Lib.hid (show Ts w2 N l A c by rw[hNN];exact HA1.out.below hl1)
 have hN2:=HZ2.out.lt
 rw[←hw2, ←hNN]
 clear hw2 hNN hl1 HR1 HB1 HA1
 go_loopw [5] (fun i wr=> ∃(k:Nat) (b:List Int),k≤n∧i= .int .i64 k∧b.length=13∧fdFill b (l.drop k)=(0,numL q)∧Ef wr N b∧w2.grownBy wr (some N)) (fun i _=>n - (intOf i).toNat)
 case atStart=>exact⟨0,z13,Nat.zero_le _,rfl,rfl,HFILL.out,HZ2.out,World.grownBy.refl _ _⟩
 case round=>
  obtain⟨k,b,hk,rfl,hbl,hfill,hbox,hg⟩:=hrel
  have HF:=Lib.hid hfill
  have HB:=Lib.hid hbox
  have HG:=Lib.hid hg
  have HL:=Lib.hid hbl
  have hsz:=hg.size
  have HRr:=Lib.hid (show Am wr w.heap.size Ah from(hg.block _ HR2.out.lt (by have:=HXW.out;simp;omega)).trans HR2.out)
  have HBr:=Lib.hid (HB2.out.trans (Aq hg (Nat.le_of_lt HXW.out) HB2.out.size))
  clear hfill hbox hg hbl
  by_cases hlt:k<n
  ·obtain⟨ad,S,cc,rfl,had,hk4⟩:=(HA2.out.below (Aq HG.out (Nat.le_refl _) (Nat.le_of_lt hN2))).rd k (by rw[←HN.out];exact hlt)
   have hc0:=hk4.c0
   have hc1:=hk4.c1
   have hcap:=hk4.bs.len
   have hcap2:=hk4.bs.cap
   have HKL:=Lib.hid (show k<l.length by rw[←HN.out];exact hlt)
   have h0:=Lb HI.out HKL.out
   have b1:(0:Int)≤(k:Int):=by omega
   have b2:(k:Int)<(n:Int):=by omega
   have F1:=Lib.hid (fun q=>Ew (a:=b) HKL.out q)
   have F2:=Lib.hid (fun q q2=>Cq (a:=b) HKL.out q q2)
   have F3:=Lib.hid (fun q2 (v E:Nat) hv hE=>Dz (a:=b) HKL.out q2 (v:=v) (E:=E) hv hE)
   have F4:=Lib.hid (fun q2 (v:Nat) hv=>Ex (a:=b) HKL.out q2 (v:=v) hv)
   obtain⟨x,hx⟩: ∃x,x=l.getD k TF0:=⟨_,rfl⟩
   rw[←hx]at hc0 hc1 hcap h0 F1 F2 F3 F4
   have HBS:=Lib.hid (show Bs wr wr.heap.size x.val S cc by rw[hx];exact hk4.bs.more (Nat.le_of_lt HB.out.lt))
   clear hx hk4
   by_cases q1:128≤x.tag
   ·have e:=F1.out q1
    rw[HF.out]at e
    obtain⟨e1,e2⟩:=Prod.mk.inj e
    exact absurd e1 (by decide)
   by_cases q2:13<x.tag
   ·have e:=F2.out q1 q2
    rw[HF.out]at e
    obtain⟨e1,e2⟩:=Prod.mk.inj e
    exact absurd e1 (by decide)
   obtain⟨s,hs⟩: ∃s:Nat,x.tag=(s:Int)+1:=⟨x.tag.toNat - 1,by omega⟩
   obtain⟨m,hm⟩: ∃m:Nat,x.val.length=m:=⟨_,rfl⟩
   obtain⟨v,Ev,hv⟩: ∃v Ev,Ib x.val=(v,Ev):=⟨_,_,rfl⟩
   have HV:=Lib.hid hv
   have HM:=Lib.hid hm
   have hs13:s<13:=by omega
   rw[hm]at hc1 hcap
   rw[hs]at hc0
   have G3:=F3.out q2 v Ev hv
   have G4:=F4.out q2 v
   rw[show x.tag.toNat - 1=s by omega]at G4
   have HG3:=Lib.hid G3
   have HG4:=Lib.hid G4
   have b3: ¬((128:Int)≤(s:Int)+1):=by omega
   have b4: ¬((13:Int)<(s:Int)+1):=by omega
   clear hv hm G3 G4 F1 F2 F3 F4 q1 q2 hs h0
   by_cases hE0:Ev=0
   rotate_left
   ·have e:=HG3.out hE0
    rw[HF.out]at e
    obtain⟨e1,e2⟩:=Prod.mk.inj e
    exact absurd e1.symm hE0
   subst hE0
   have e:=HG4.out HV.out
   rw[HF.out]at e
   have HE4:=Lib.hid e.symm
   obtain⟨y,hy⟩: ∃y,b[s]?=some y:=⟨_,List.getElem?_eq_getElem (by rw[HL.out];exact hs13)⟩
   have hcy:=HB.out.cell hy
   have hfy:=HB.out.frozen s
   have i1:IntKind.i64.wrap ((s:Int)+1 - 1)=(s:Int):=by rw[Int.add_sub_cancel];exact IntWalk.i64_in _ (by omega)
   have i2:IntKind.i64.wrap (s:Int)=(s:Int):=IntWalk.i64_in _ (by omega)
   have i3:(0:Int)≤(s:Int):=by omega
   have i4:(s:Int)<13:=by omega
   clear e hy HG3 HG4
   go_wp2_with fail
   refine(Dj x.val m HM.out.symm v 0 HV.out S cc _ HBS.out).mono ?_
   rintro e w3 ⟨rfl,rfl⟩
   go_wp2
   go_roundw
   case rel=>exact⟨k+1,b.set s (v:Int),by omega,by go_num,by rw[List.length_set];exact HL.out,HE4.out,HB.out.set s (v:Int),At HG.out (Bl wr N s (.int .i64 (v:Int)))⟩
   case measure=>simp[intOf];omega
  ·have e:k=n:=by omega
   have e2:l.drop k=[]:=List.drop_eq_nil_of_le (by rw[←HN.out];omega)
   have e3:=HF.out
   rw[e2,fdFill]at e3
   obtain⟨_,e4⟩:=Prod.mk.inj e3
   have HBq:Hid (Ef wr N (numL q)):=Lib.hid (by rw[←e4];exact HB.out)
   clear e2 e3 e4 HB HF hlt
   obtain⟨g0,g1,g2,g3,g4,g5,g6,g7,g8,g9,g10,g11,g12⟩:=HBq.out.cells
   subst e
   have HVV:=HVY.out
   go_upto_region 15 with fail
   go_cut [89]from 56 to 89 (fun b wx=>b= .bool false∧wr=wx)
   case first=>
    by_cases d5:q.ver<2
    ·have t1:decide (q.ver<1)=false:=decide_eq_false (by omega)
     have t2:decide (3<q.ver)=false:=decide_eq_false (by omega)
     have t3:decide (q.ver<2)=true:=decide_eq_true (by omega)
     have t4:decide (0<q.t.card)=false:=decide_eq_false (by omega)
     have t5:decide (q.ver<3)=true:=decide_eq_true (by omega)
     have t6:decide (0<q.t.seat)=false:=decide_eq_false (by omega)
     go_wp2_with fail
     go_meet
     exact⟨rfl,rfl⟩
    by_cases d6:q.ver<3
    ·have t1:decide (q.ver<1)=false:=decide_eq_false (by omega)
     have t2:decide (3<q.ver)=false:=decide_eq_false (by omega)
     have t3:decide (q.ver<2)=false:=decide_eq_false (by omega)
     have t5:decide (q.ver<3)=true:=decide_eq_true (by omega)
     have t6:decide (0<q.t.seat)=false:=decide_eq_false (by omega)
     go_wp2_with fail
     go_meet
     exact⟨rfl,rfl⟩
    ·have t1:decide (q.ver<1)=false:=decide_eq_false (by omega)
     have t2:decide (3<q.ver)=false:=decide_eq_false (by omega)
     have t3:decide (q.ver<2)=false:=decide_eq_false (by omega)
     have t5:decide (q.ver<3)=false:=decide_eq_false (by omega)
     go_wp2_with fail
     go_meet
     exact⟨rfl,rfl⟩
   case rest=>
    obtain⟨rfl,rfl⟩:=hcut
    go_wp2_with fail
    go_region_held3 (fun w'=>w'.cell? ⟨N,2,none⟩=some (.int .i64 q.t.kind)∧w'.cell? ⟨N,3,none⟩=some (.int .i64 q.t.ser)∧w'.cell? ⟨N,4,none⟩=some (.int .i64 q.t.frm)∧w'.cell? ⟨N,5,none⟩=some (.int .i64 q.t.till)∧w'.cell? ⟨N,6,none⟩=some (.int .i64 q.t.cls)∧w'.cell? ⟨N,7,none⟩=some (.int .i64 q.t.card)∧w'.cell? ⟨N,8,none⟩=some (.int .i64 q.t.seat)∧w'.cell? ⟨N,9,none⟩=some (.int .i64 q.t.day)∧w'.cell? ⟨N,10,none⟩=some (.int .i64 q.t.days)∧w'.cell? ⟨N,11,none⟩=some (.int .i64 q.t.uses)∧w'.cell? ⟨N,12,none⟩=some (.int .i64 q.t.epoch)) (first|exact⟨g2,g3,g4,g5,g6,g7,g8,g9,g10,g11,g12⟩|go_keep) (fail)
    rename_i hS3
    clear hS3 g0 g1 g2 g3 g4 g5 g6 g7 g8 g9 g10 g11 g12
    have HW4:Hid (Below wr.heap.size wr ((wr.alloc (.cells #[.int .i64 q.t.ser, .int .i64 q.t.kind, .int .i64 q.t.frm, .int .i64 q.t.till, .int .i64 q.t.cls, .int .i64 q.t.card, .int .i64 q.t.seat, .int .i64 q.t.day, .int .i64 q.t.days, .int .i64 q.t.uses, .int .i64 q.t.epoch] 37)).drew)):=Lib.hid (Ae ((Below.refl _ _).alloc (Nat.le_refl _) _) 1)
    have HT4:Hid (Cp ((wr.alloc (.cells #[.int .i64 q.t.ser, .int .i64 q.t.kind, .int .i64 q.t.frm, .int .i64 q.t.till, .int .i64 q.t.cls, .int .i64 q.t.card, .int .i64 q.t.seat, .int .i64 q.t.day, .int .i64 q.t.days, .int .i64 q.t.uses, .int .i64 q.t.epoch] 37)).drew) wr.heap.size q.t):=Lib.hid (Cp.new wr q.t)
    have HNY:=Lib.hid (show N<wr.heap.size from HBq.out.lt)
    have HRY:=Lib.hid (show w.heap.size<wr.heap.size from HRr.out.lt)
    obtain⟨w4,hw4⟩: ∃w4,w4=((wr.alloc (.cells #[.int .i64 q.t.ser, .int .i64 q.t.kind, .int .i64 q.t.frm, .int .i64 q.t.till, .int .i64 q.t.cls, .int .i64 q.t.card, .int .i64 q.t.seat, .int .i64 q.t.day, .int .i64 q.t.days, .int .i64 q.t.uses, .int .i64 q.t.epoch] 37)).drew):=⟨_,rfl⟩
    rw[←hw4]at HW4 HT4⊢
    have HR4:=Lib.hid (HRr.out.next HW4.out)
    have HB4:=Lib.hid (HBr.out.trans (HW4.out.mono HBr.out.size))
    have HN4:=Lib.hid (HBq.out.next HW4.out)
    obtain⟨Y,hY⟩: ∃Y,Y=wr.heap.size:=⟨_,rfl⟩
    rw[←hY]at HT4 HNY HRY⊢
    clear hw4 hY HW4 HRr HBr HBq
    obtain⟨c0,c1,c2,c3,c4,c5,c6,c7,c8,c9,c10⟩:=HT4.out.cells
    have HT5:=Lib.hid (show Cp w4 Y s.t by rw[HS.out];exact HT4.out)
    have HR5:=HR4
    have HB5:=HB4
    have HN5:=HN4
    obtain⟨g0,g1,g2,g3,g4,g5,g6,g7,g8,g9,g10,g11,g12⟩:=HN5.out.cells
    go_upto_region 20 with fail
    clear c0 c1 c2 c3 c4 c5 c6 c7 c8 c9 c10
    obtain⟨c0,c1,c2,c3,c4,c5,c6,c7,c8,c9,c10⟩:=HT5.out.cells
    by_cases hk9:99<q.key
    ·obtain⟨rfl,rfl⟩:E=9∧r=Ah:=by have:=HE.out;rw[Vv HI.out HFILL.out HQ.out HVX.out (Ns hk9)]at this;exact⟨(Prod.mk.inj this).1.symm,(Prod.mk.inj this).2.symm⟩
     have t7:decide (99<q.key)=true:=decide_eq_true hk9
     clear hk9
     go_wp2_with ((with_reducible refine Ac 2 ?_);refine Al HR5.out Ai (Bh _ _ _ _ _ _ _ _ _ _ _ _ _ _ _) ?_)
     intro w9 hw9
     go_wp2
     refine bodyPost_ret (Ab Tryz.results73 _ w9 w.heap.size 39 #[.int .i64 0, .int .i64 0, .int .i64 0, .int .i64 0, .int .i64 0, .int .i64 0, .int .i64 0, .int .i64 0, .int .i64 0, .int .i64 0, .int .i64 0, .int .i64 0, .int .i64 0, .int .i64 0, .int .i64 0] (0,0) _ rfl (by rw[hw9.out];exact setRow_heap _ _ _ _ _ _ HR5.out) Tryz.underlying39 rfl Ai) rfl ⟨rfl, ?_⟩
     rw[hw9.out]
     exact below_setRow HB5.out (Nat.le_refl _) _
    have t7:decide (99<q.key)=false:=decide_eq_false hk9
    cases ho:okT s.t with
    |false=>
     obtain⟨rfl,rfl⟩:E=9∧r=Ah:=by have:=HE.out;rw[Vv HI.out HFILL.out HQ.out HVX.out (Sm (by rw[←HSS.out];exact ho))]at this;exact⟨(Prod.mk.inj this).1.symm,(Prod.mk.inj this).2.symm⟩
     have HO:=Lib.hid ho
     clear ho
     go_wp2_with (first|(go_at_call 109;refine(Bf s.t _ HO.out _).mono ?_;rintro e w6 ⟨rfl,hb⟩;have HR6:=Lib.hid (HR5.out.next hb);have HB6:=Lib.hid (HB5.out.trans (hb.mono HB5.out.size));have HN6:=Lib.hid (HN5.out.next hb);have HT6:=Lib.hid (HT5.out.next hb);clear hb c0 c1 c2 c3 c4 c5 c6 c7 c8 c9 c10 g0 g1 g2 g3 g4 g5 g6 g7 g8 g9 g10 g11 g12;obtain⟨c0,c1,c2,c3,c4,c5,c6,c7,c8,c9,c10⟩:=HT6.out.cells;obtain⟨g0,g1,g2,g3,g4,g5,g6,g7,g8,g9,g10,g11,g12⟩:=HN6.out.cells)|((with_reducible refine Ac 2 ?_);refine Al HR6.out Ai (Bh _ _ _ _ _ _ _ _ _ _ _ _ _ _ _) ?_))
     intro w9 hw9
     go_wp2
     refine bodyPost_ret (Ab Tryz.results73 _ w9 w.heap.size 39 #[.int .i64 0, .int .i64 0, .int .i64 0, .int .i64 0, .int .i64 0, .int .i64 0, .int .i64 0, .int .i64 0, .int .i64 0, .int .i64 0, .int .i64 0, .int .i64 0, .int .i64 0, .int .i64 0, .int .i64 0] (0,0) _ rfl (by rw[hw9.out];exact setRow_heap _ _ _ _ _ _ HR6.out) Tryz.underlying39 rfl Ai) rfl ⟨rfl, ?_⟩
     rw[hw9.out]
     exact below_setRow HB6.out (Nat.le_refl _) _
    |true=>
     obtain⟨rfl,rfl⟩:E=0∧r=s:=by have:=HE.out;rw[zR HI.out HFILL.out HQ.out HVX.out (Pd HK4.out (by omega) (by rw[←HSS.out];exact ho)), ←HSS.out]at this;exact⟨(Prod.mk.inj this).1.symm,(Prod.mk.inj this).2.symm⟩
     have HRK:=Lib.hid (show r.key=q.key∧r.left=0∧r.inn=0∧r.ver=q.ver from by rw[HSS.out,Qw,Qv,Uz,Uy];exact⟨rfl,HQL.out.1,HQL.out.2,rfl⟩)
     have HO:=Lib.hid ho
     clear ho
     go_wp2_with (go_at_call 109;refine(Bf r.t _ HO.out _).mono ?_;rintro e w6 ⟨rfl,hb⟩;have HR6:=Lib.hid (HR5.out.next hb);have HB6:=Lib.hid (HB5.out.trans (hb.mono HB5.out.size));have HN6:=Lib.hid (HN5.out.next hb);have HT6:=Lib.hid (HT5.out.next hb);clear hb c0 c1 c2 c3 c4 c5 c6 c7 c8 c9 c10 g0 g1 g2 g3 g4 g5 g6 g7 g8 g9 g10 g11 g12;obtain⟨c0,c1,c2,c3,c4,c5,c6,c7,c8,c9,c10⟩:=HT6.out.cells;obtain⟨g0,g1,g2,g3,g4,g5,g6,g7,g8,g9,g10,g11,g12⟩:=HN6.out.cells)
     have hz:=HR6.out.cells
     have hfr:=HR6.out.frozen
     go_region
     go_wp2
     obtain⟨W,hW,z1,z2⟩:=Sn w.heap.size Ah r.t.ser r.t.kind r.t.frm r.t.till r.t.cls r.t.card r.t.seat r.t.day r.t.days r.t.uses r.t.epoch q.key 0 0 q.ver w6 HR6.out
     rw[←hW]
     refine bodyPost_ret (Ab Tryz.results73 _ W.drew w.heap.size 39 #[.int .i64 r.t.ser, .int .i64 r.t.kind, .int .i64 r.t.frm, .int .i64 r.t.till, .int .i64 r.t.cls, .int .i64 r.t.card, .int .i64 r.t.seat, .int .i64 r.t.day, .int .i64 r.t.days, .int .i64 r.t.uses, .int .i64 r.t.epoch, .int .i64 q.key, .int .i64 0, .int .i64 0, .int .i64 q.ver] (0,0) _ rfl z1 Tryz.underlying39 rfl Ai) rfl ⟨by rw[HRK.out.1,HRK.out.2.1,HRK.out.2.2.1,HRK.out.2.2.2];rfl, ?_⟩
     exact(HB6.out.trans ((z2 w.heap.size (Nat.le_refl _)))).drew
theorem Ade (l:List Tf) (n:Nat) (hn:n=l.length) (E:Nat) (r:Rg) (hE:Br l=(E,r)) (A:Option Addr) (c:Nat) (w:World) (hA:Ts w w.heap.size l A c) (hi:isT 0 l=true) (q:Rg) (hf:fdFill z13 l=(0,numL q)) (hq:rdL (numL q)=q) (hv:Jm (numL q)=true) (hk:q.t.kind≠4) (hu:q.t.uses=0):Calls Tryz.prog 73 #[.slice A n c] w fun e w'=>e= .returned (.tuple #[.agg #[.int .i64 r.t.ser, .int .i64 r.t.kind, .int .i64 r.t.frm, .int .i64 r.t.till, .int .i64 r.t.cls, .int .i64 r.t.card, .int .i64 r.t.seat, .int .i64 r.t.day, .int .i64 r.t.days, .int .i64 r.t.uses, .int .i64 r.t.epoch, .int .i64 r.key, .int .i64 r.left, .int .i64 r.inn, .int .i64 r.ver], .int .i64 (E:Int)])∧Below w.heap.size w w':=by
 have hpos: ∀x∈numL q,0≤x:=fun x hx=>by have:=Hx l z13 (by decide) x;rw[hf]at this;exact this hx
 have HVY:=Lib.hid ((Sc q).1 hv)
 have HVX:=Lib.hid hv
 have k1:=hpos q.t.card (List.mem_of_getElem? (i:=7) rfl)
 have k2:=hpos q.t.seat (List.mem_of_getElem? (i:=8) rfl)
 have k3:=hpos q.t.uses (List.mem_of_getElem? (i:=11) rfl)
 have k4:=hpos q.key (List.mem_of_getElem? (i:=1) rfl)
 have k5:=hpos q.t.kind (List.mem_of_getElem? (i:=2) rfl)
 have HFILL:=Lib.hid hf
 have HE:=Lib.hid hE
 have HQ:=Lib.hid hq
 have HQL:=Lib.hid (show q.left=0∧q.inn=0 from⟨by rw[←hq];rfl,by rw[←hq];rfl⟩)
 have q4:(q.t.kind !=4)=true:=by rw[bne_iff_ne];exact hk
 have t9:decide (0<q.t.uses)=false:=decide_eq_false (by omega)
 obtain⟨s,hs⟩: ∃s,s=Fh q:=⟨_,rfl⟩
 have HSS:=Lib.hid hs
 have q4s:(s.t.kind !=4)=true:=by rw[hs,Kn];exact q4
 have HS:=Lib.hid (show s= { q with t:= { q.t with uses:=q.t.kind.tmod 3 } } by rw[hs,Fh,if_neg hk])
 have HK4:=Lib.hid (show q.t.kind=4∨q.t.uses=0 by omega)
 clear hf hq hpos hv hE hk hu hs
 have HN:=Lib.hid hn
 have HA:=Lib.hid hA
 have HI:=Lib.hid hi
 clear hn hA hi
 have HR0:=Lib.hid (Am.new w Ah)
 have hl0:=Aa w #[.int .i64 0, .int .i64 0, .int .i64 0, .int .i64 0, .int .i64 0, .int .i64 0, .int .i64 0, .int .i64 0, .int .i64 0, .int .i64 0, .int .i64 0, .int .i64 0, .int .i64 0, .int .i64 0, .int .i64 0] 39
 have HB0:=Lib.hid hl0
 have HA0:=Lib.hid (HA.out.next hl0)
 have h63:n≤9223372036854775807:=by have h1:=HA.out.len;have h2:=HA.out.cap;have h3:=HN.out;omega
 clear hl0
 go_enter Tryz.func73, Tryz.ntmps73
 go_wp2_with fail
 refine(Fi l n HN.out true HI.out A c _ HA0.out).mono ?_
 rintro e w1 ⟨rfl,hb⟩
 have HR1:=Lib.hid (HR0.out.next hb)
 have HB1:=Lib.hid (HB0.out.trans (hb.mono HB0.out.size))
 have HA1:=Lib.hid (HA0.out.next hb)
 clear hb HR0 HB0 HA0
 go_wp2_with fail
 obtain⟨N,hNN⟩: ∃N,N=w1.heap.size:=⟨_,rfl⟩
 obtain⟨w2,hw2⟩: ∃w2,w2=w1.alloc (.cells #[.int .i64 0, .int .i64 0, .int .i64 0, .int .i64 0, .int .i64 0, .int .i64 0, .int .i64 0, .int .i64 0, .int .i64 0, .int .i64 0, .int .i64 0, .int .i64 0, .int .i64 0] 3):=⟨_,rfl⟩
 have HZ2:=Lib.hid (show Ef w2 N z13 by rw[hw2,hNN];exact Kp w1 z13 #[.int .i64 0, .int .i64 0, .int .i64 0, .int .i64 0, .int .i64 0, .int .i64 0, .int .i64 0, .int .i64 0, .int .i64 0, .int .i64 0, .int .i64 0, .int .i64 0, .int .i64 0] rfl)
 have hl1:Below w1.heap.size w1 w2:=by rw[hw2];exact Aa w1 #[.int .i64 0, .int .i64 0, .int .i64 0, .int .i64 0, .int .i64 0, .int .i64 0, .int .i64 0, .int .i64 0, .int .i64 0, .int .i64 0, .int .i64 0, .int .i64 0, .int .i64 0] 3
 have HXW:=Lib.hid (show w.heap.size<N by rw[hNN];exact HR1.out.lt)
 have HR2:=Lib.hid (HR1.out.next hl1)
 have HB2:=Lib.hid (HB1.out.trans (hl1.mono HB1.out.size))
 have HA2:=Lib.hid (show Ts w2 N l A c by rw[hNN];exact HA1.out.below hl1)
 have hN2:=HZ2.out.lt
 rw[←hw2, ←hNN]
 clear hw2 hNN hl1 HR1 HB1 HA1
 go_loopw [5] (fun i wr=> ∃(k:Nat) (b:List Int),k≤n∧i= .int .i64 k∧b.length=13∧fdFill b (l.drop k)=(0,numL q)∧Ef wr N b∧w2.grownBy wr (some N)) (fun i _=>n - (intOf i).toNat)
 case atStart=>exact⟨0,z13,Nat.zero_le _,rfl,rfl,HFILL.out,HZ2.out,World.grownBy.refl _ _⟩
 case round=>
  obtain⟨k,b,hk,rfl,hbl,hfill,hbox,hg⟩:=hrel
  have HF:=Lib.hid hfill
  have HB:=Lib.hid hbox
  have HG:=Lib.hid hg
  have HL:=Lib.hid hbl
  have hsz:=hg.size
  have HRr:=Lib.hid (show Am wr w.heap.size Ah from(hg.block _ HR2.out.lt (by have:=HXW.out;simp;omega)).trans HR2.out)
  have HBr:=Lib.hid (HB2.out.trans (Aq hg (Nat.le_of_lt HXW.out) HB2.out.size))
  clear hfill hbox hg hbl
  by_cases hlt:k<n
  ·obtain⟨ad,S,cc,rfl,had,hk4⟩:=(HA2.out.below (Aq HG.out (Nat.le_refl _) (Nat.le_of_lt hN2))).rd k (by rw[←HN.out];exact hlt)
   have hc0:=hk4.c0
   have hc1:=hk4.c1
   have hcap:=hk4.bs.len
   have hcap2:=hk4.bs.cap
   have HKL:=Lib.hid (show k<l.length by rw[←HN.out];exact hlt)
   have h0:=Lb HI.out HKL.out
   have b1:(0:Int)≤(k:Int):=by omega
   have b2:(k:Int)<(n:Int):=by omega
   have F1:=Lib.hid (fun q=>Ew (a:=b) HKL.out q)
   have F2:=Lib.hid (fun q q2=>Cq (a:=b) HKL.out q q2)
   have F3:=Lib.hid (fun q2 (v E:Nat) hv hE=>Dz (a:=b) HKL.out q2 (v:=v) (E:=E) hv hE)
   have F4:=Lib.hid (fun q2 (v:Nat) hv=>Ex (a:=b) HKL.out q2 (v:=v) hv)
   obtain⟨x,hx⟩: ∃x,x=l.getD k TF0:=⟨_,rfl⟩
   rw[←hx]at hc0 hc1 hcap h0 F1 F2 F3 F4
   have HBS:=Lib.hid (show Bs wr wr.heap.size x.val S cc by rw[hx];exact hk4.bs.more (Nat.le_of_lt HB.out.lt))
   clear hx hk4
   by_cases q1:128≤x.tag
   ·have e:=F1.out q1
    rw[HF.out]at e
    obtain⟨e1,e2⟩:=Prod.mk.inj e
    exact absurd e1 (by decide)
   by_cases q2:13<x.tag
   ·have e:=F2.out q1 q2
    rw[HF.out]at e
    obtain⟨e1,e2⟩:=Prod.mk.inj e
    exact absurd e1 (by decide)
   obtain⟨s,hs⟩: ∃s:Nat,x.tag=(s:Int)+1:=⟨x.tag.toNat - 1,by omega⟩
   obtain⟨m,hm⟩: ∃m:Nat,x.val.length=m:=⟨_,rfl⟩
   obtain⟨v,Ev,hv⟩: ∃v Ev,Ib x.val=(v,Ev):=⟨_,_,rfl⟩
   have HV:=Lib.hid hv
   have HM:=Lib.hid hm
   have hs13:s<13:=by omega
   rw[hm]at hc1 hcap
   rw[hs]at hc0
   have G3:=F3.out q2 v Ev hv
   have G4:=F4.out q2 v
   rw[show x.tag.toNat - 1=s by omega]at G4
   have HG3:=Lib.hid G3
   have HG4:=Lib.hid G4
   have b3: ¬((128:Int)≤(s:Int)+1):=by omega
   have b4: ¬((13:Int)<(s:Int)+1):=by omega
   clear hv hm G3 G4 F1 F2 F3 F4 q1 q2 hs h0
   by_cases hE0:Ev=0
   rotate_left
   ·have e:=HG3.out hE0
    rw[HF.out]at e
    obtain⟨e1,e2⟩:=Prod.mk.inj e
    exact absurd e1.symm hE0
   subst hE0
   have e:=HG4.out HV.out
   rw[HF.out]at e
   have HE4:=Lib.hid e.symm
   obtain⟨y,hy⟩: ∃y,b[s]?=some y:=⟨_,List.getElem?_eq_getElem (by rw[HL.out];exact hs13)⟩
   have hcy:=HB.out.cell hy
   have hfy:=HB.out.frozen s
   have i1:IntKind.i64.wrap ((s:Int)+1 - 1)=(s:Int):=by rw[Int.add_sub_cancel];exact IntWalk.i64_in _ (by omega)
   have i2:IntKind.i64.wrap (s:Int)=(s:Int):=IntWalk.i64_in _ (by omega)
   have i3:(0:Int)≤(s:Int):=by omega
   have i4:(s:Int)<13:=by omega
   clear e hy HG3 HG4
   go_wp2_with fail
   refine(Dj x.val m HM.out.symm v 0 HV.out S cc _ HBS.out).mono ?_
   rintro e w3 ⟨rfl,rfl⟩
   go_wp2
   go_roundw
   case rel=>exact⟨k+1,b.set s (v:Int),by omega,by go_num,by rw[List.length_set];exact HL.out,HE4.out,HB.out.set s (v:Int),At HG.out (Bl wr N s (.int .i64 (v:Int)))⟩
   case measure=>simp[intOf];omega
  ·have e:k=n:=by omega
   have e2:l.drop k=[]:=List.drop_eq_nil_of_le (by rw[←HN.out];omega)
   have e3:=HF.out
   rw[e2,fdFill]at e3
   obtain⟨_,e4⟩:=Prod.mk.inj e3
   have HBq:Hid (Ef wr N (numL q)):=Lib.hid (by rw[←e4];exact HB.out)
   clear e2 e3 e4 HB HF hlt
   obtain⟨g0,g1,g2,g3,g4,g5,g6,g7,g8,g9,g10,g11,g12⟩:=HBq.out.cells
   subst e
   have HVV:=HVY.out
   go_upto_region 15 with fail
   go_cut [89]from 56 to 89 (fun b wx=>b= .bool false∧wr=wx)
   case first=>
    by_cases d5:q.ver<2
    ·have t1:decide (q.ver<1)=false:=decide_eq_false (by omega)
     have t2:decide (3<q.ver)=false:=decide_eq_false (by omega)
     have t3:decide (q.ver<2)=true:=decide_eq_true (by omega)
     have t4:decide (0<q.t.card)=false:=decide_eq_false (by omega)
     have t5:decide (q.ver<3)=true:=decide_eq_true (by omega)
     have t6:decide (0<q.t.seat)=false:=decide_eq_false (by omega)
     go_wp2_with fail
     go_meet
     exact⟨rfl,rfl⟩
    by_cases d6:q.ver<3
    ·have t1:decide (q.ver<1)=false:=decide_eq_false (by omega)
     have t2:decide (3<q.ver)=false:=decide_eq_false (by omega)
     have t3:decide (q.ver<2)=false:=decide_eq_false (by omega)
     have t5:decide (q.ver<3)=true:=decide_eq_true (by omega)
     have t6:decide (0<q.t.seat)=false:=decide_eq_false (by omega)
     go_wp2_with fail
     go_meet
     exact⟨rfl,rfl⟩
    ·have t1:decide (q.ver<1)=false:=decide_eq_false (by omega)
     have t2:decide (3<q.ver)=false:=decide_eq_false (by omega)
     have t3:decide (q.ver<2)=false:=decide_eq_false (by omega)
     have t5:decide (q.ver<3)=false:=decide_eq_false (by omega)
     go_wp2_with fail
     go_meet
     exact⟨rfl,rfl⟩
   case rest=>
    obtain⟨rfl,rfl⟩:=hcut
    go_wp2_with fail
    go_region_held3 (fun w'=>w'.cell? ⟨N,2,none⟩=some (.int .i64 q.t.kind)∧w'.cell? ⟨N,3,none⟩=some (.int .i64 q.t.ser)∧w'.cell? ⟨N,4,none⟩=some (.int .i64 q.t.frm)∧w'.cell? ⟨N,5,none⟩=some (.int .i64 q.t.till)∧w'.cell? ⟨N,6,none⟩=some (.int .i64 q.t.cls)∧w'.cell? ⟨N,7,none⟩=some (.int .i64 q.t.card)∧w'.cell? ⟨N,8,none⟩=some (.int .i64 q.t.seat)∧w'.cell? ⟨N,9,none⟩=some (.int .i64 q.t.day)∧w'.cell? ⟨N,10,none⟩=some (.int .i64 q.t.days)∧w'.cell? ⟨N,11,none⟩=some (.int .i64 q.t.uses)∧w'.cell? ⟨N,12,none⟩=some (.int .i64 q.t.epoch)) (first|exact⟨g2,g3,g4,g5,g6,g7,g8,g9,g10,g11,g12⟩|go_keep) (fail)
    rename_i hS3
    clear hS3 g0 g1 g2 g3 g4 g5 g6 g7 g8 g9 g10 g11 g12
    have HW4:Hid (Below wr.heap.size wr ((wr.alloc (.cells #[.int .i64 q.t.ser, .int .i64 q.t.kind, .int .i64 q.t.frm, .int .i64 q.t.till, .int .i64 q.t.cls, .int .i64 q.t.card, .int .i64 q.t.seat, .int .i64 q.t.day, .int .i64 q.t.days, .int .i64 q.t.uses, .int .i64 q.t.epoch] 37)).drew)):=Lib.hid (Ae ((Below.refl _ _).alloc (Nat.le_refl _) _) 1)
    have HT4:Hid (Cp ((wr.alloc (.cells #[.int .i64 q.t.ser, .int .i64 q.t.kind, .int .i64 q.t.frm, .int .i64 q.t.till, .int .i64 q.t.cls, .int .i64 q.t.card, .int .i64 q.t.seat, .int .i64 q.t.day, .int .i64 q.t.days, .int .i64 q.t.uses, .int .i64 q.t.epoch] 37)).drew) wr.heap.size q.t):=Lib.hid (Cp.new wr q.t)
    have HNY:=Lib.hid (show N<wr.heap.size from HBq.out.lt)
    have HRY:=Lib.hid (show w.heap.size<wr.heap.size from HRr.out.lt)
    obtain⟨w4,hw4⟩: ∃w4,w4=((wr.alloc (.cells #[.int .i64 q.t.ser, .int .i64 q.t.kind, .int .i64 q.t.frm, .int .i64 q.t.till, .int .i64 q.t.cls, .int .i64 q.t.card, .int .i64 q.t.seat, .int .i64 q.t.day, .int .i64 q.t.days, .int .i64 q.t.uses, .int .i64 q.t.epoch] 37)).drew):=⟨_,rfl⟩
    rw[←hw4]at HW4 HT4⊢
    have HR4:=Lib.hid (HRr.out.next HW4.out)
    have HB4:=Lib.hid (HBr.out.trans (HW4.out.mono HBr.out.size))
    have HN4:=Lib.hid (HBq.out.next HW4.out)
    obtain⟨Y,hY⟩: ∃Y,Y=wr.heap.size:=⟨_,rfl⟩
    rw[←hY]at HT4 HNY HRY⊢
    clear hw4 hY HW4 HRr HBr HBq
    obtain⟨c0,c1,c2,c3,c4,c5,c6,c7,c8,c9,c10⟩:=HT4.out.cells
    have hfz:=HT4.out.frozen 9
    have HU:=Lib.hid (show q.t.kind % 3=q.t.kind.tmod 3 from(Int.tmod_eq_emod_of_nonneg k5).symm)
    go_upto_region 20 with fail
    obtain⟨w5,hw5⟩: ∃w5,w5=w4.setCell ⟨Y,9,none⟩ (.int .i64 (q.t.kind % 3)):=⟨_,rfl⟩
    rw[←hw5]
    have HT5:Hid (Cp w5 Y s.t):=Lib.hid (by rw[hw5,HS.out, ←HU.out];exact heap_setCell_same w4 Y 9 _ _ _ HT4.out)
    have HR5:Hid (Am w5 w.heap.size Ah):=Lib.hid (by rw[hw5];exact(heap_setCell_other w4 _ _ _ (by have:=HRY.out;simp;omega)).trans HR4.out)
    have HB5:Hid (Below w.heap.size w w5):=Lib.hid (by rw[hw5];exact HB4.out.setCell (p:=⟨Y,9,none⟩) (Nat.le_of_lt HRY.out) _)
    have HN5:Hid (Ef w5 N (numL q)):=Lib.hid (by rw[hw5];exact(heap_setCell_other w4 _ _ _ (by have:=HNY.out;simp;omega)).trans HN4.out)
    clear hw5 hfz c0 c1 c2 c3 c4 c5 c6 c7 c8 c9 c10
    obtain⟨c0,c1,c2,c3,c4,c5,c6,c7,c8,c9,c10⟩:=HT5.out.cells
    obtain⟨g0,g1,g2,g3,g4,g5,g6,g7,g8,g9,g10,g11,g12⟩:=HN5.out.cells
    by_cases hk9:99<q.key
    ·obtain⟨rfl,rfl⟩:E=9∧r=Ah:=by have:=HE.out;rw[Vv HI.out HFILL.out HQ.out HVX.out (Ns hk9)]at this;exact⟨(Prod.mk.inj this).1.symm,(Prod.mk.inj this).2.symm⟩
     have t7:decide (99<q.key)=true:=decide_eq_true hk9
     clear hk9
     go_wp2_with ((with_reducible refine Ac 2 ?_);refine Al HR5.out Ai (Bh _ _ _ _ _ _ _ _ _ _ _ _ _ _ _) ?_)
     intro w9 hw9
     go_wp2
     refine bodyPost_ret (Ab Tryz.results73 _ w9 w.heap.size 39 #[.int .i64 0, .int .i64 0, .int .i64 0, .int .i64 0, .int .i64 0, .int .i64 0, .int .i64 0, .int .i64 0, .int .i64 0, .int .i64 0, .int .i64 0, .int .i64 0, .int .i64 0, .int .i64 0, .int .i64 0] (0,0) _ rfl (by rw[hw9.out];exact setRow_heap _ _ _ _ _ _ HR5.out) Tryz.underlying39 rfl Ai) rfl ⟨rfl, ?_⟩
     rw[hw9.out]
     exact below_setRow HB5.out (Nat.le_refl _) _
    have t7:decide (99<q.key)=false:=decide_eq_false hk9
    cases ho:okT s.t with
    |false=>
     obtain⟨rfl,rfl⟩:E=9∧r=Ah:=by have:=HE.out;rw[Vv HI.out HFILL.out HQ.out HVX.out (Sm (by rw[←HSS.out];exact ho))]at this;exact⟨(Prod.mk.inj this).1.symm,(Prod.mk.inj this).2.symm⟩
     have HO:=Lib.hid ho
     clear ho
     go_wp2_with (first|(go_at_call 109;refine(Bf s.t _ HO.out _).mono ?_;rintro e w6 ⟨rfl,hb⟩;have HR6:=Lib.hid (HR5.out.next hb);have HB6:=Lib.hid (HB5.out.trans (hb.mono HB5.out.size));have HN6:=Lib.hid (HN5.out.next hb);have HT6:=Lib.hid (HT5.out.next hb);clear hb c0 c1 c2 c3 c4 c5 c6 c7 c8 c9 c10 g0 g1 g2 g3 g4 g5 g6 g7 g8 g9 g10 g11 g12;obtain⟨c0,c1,c2,c3,c4,c5,c6,c7,c8,c9,c10⟩:=HT6.out.cells;obtain⟨g0,g1,g2,g3,g4,g5,g6,g7,g8,g9,g10,g11,g12⟩:=HN6.out.cells)|((with_reducible refine Ac 2 ?_);refine Al HR6.out Ai (Bh _ _ _ _ _ _ _ _ _ _ _ _ _ _ _) ?_))
     intro w9 hw9
     go_wp2
     refine bodyPost_ret (Ab Tryz.results73 _ w9 w.heap.size 39 #[.int .i64 0, .int .i64 0, .int .i64 0, .int .i64 0, .int .i64 0, .int .i64 0, .int .i64 0, .int .i64 0, .int .i64 0, .int .i64 0, .int .i64 0, .int .i64 0, .int .i64 0, .int .i64 0, .int .i64 0] (0,0) _ rfl (by rw[hw9.out];exact setRow_heap _ _ _ _ _ _ HR6.out) Tryz.underlying39 rfl Ai) rfl ⟨rfl, ?_⟩
     rw[hw9.out]
     exact below_setRow HB6.out (Nat.le_refl _) _
    |true=>
     obtain⟨rfl,rfl⟩:E=0∧r=s:=by have:=HE.out;rw[zR HI.out HFILL.out HQ.out HVX.out (Pd HK4.out (by omega) (by rw[←HSS.out];exact ho)), ←HSS.out]at this;exact⟨(Prod.mk.inj this).1.symm,(Prod.mk.inj this).2.symm⟩
     have HRK:=Lib.hid (show r.key=q.key∧r.left=0∧r.inn=0∧r.ver=q.ver from by rw[HSS.out,Qw,Qv,Uz,Uy];exact⟨rfl,HQL.out.1,HQL.out.2,rfl⟩)
     have HO:=Lib.hid ho
     clear ho
     go_wp2_with (go_at_call 109;refine(Bf r.t _ HO.out _).mono ?_;rintro e w6 ⟨rfl,hb⟩;have HR6:=Lib.hid (HR5.out.next hb);have HB6:=Lib.hid (HB5.out.trans (hb.mono HB5.out.size));have HN6:=Lib.hid (HN5.out.next hb);have HT6:=Lib.hid (HT5.out.next hb);clear hb c0 c1 c2 c3 c4 c5 c6 c7 c8 c9 c10 g0 g1 g2 g3 g4 g5 g6 g7 g8 g9 g10 g11 g12;obtain⟨c0,c1,c2,c3,c4,c5,c6,c7,c8,c9,c10⟩:=HT6.out.cells;obtain⟨g0,g1,g2,g3,g4,g5,g6,g7,g8,g9,g10,g11,g12⟩:=HN6.out.cells)
     have hz:=HR6.out.cells
     have hfr:=HR6.out.frozen
     go_region
     go_wp2
     obtain⟨W,hW,z1,z2⟩:=Sn w.heap.size Ah r.t.ser r.t.kind r.t.frm r.t.till r.t.cls r.t.card r.t.seat r.t.day r.t.days r.t.uses r.t.epoch q.key 0 0 q.ver w6 HR6.out
     rw[←hW]
     refine bodyPost_ret (Ab Tryz.results73 _ W.drew w.heap.size 39 #[.int .i64 r.t.ser, .int .i64 r.t.kind, .int .i64 r.t.frm, .int .i64 r.t.till, .int .i64 r.t.cls, .int .i64 r.t.card, .int .i64 r.t.seat, .int .i64 r.t.day, .int .i64 r.t.days, .int .i64 r.t.uses, .int .i64 r.t.epoch, .int .i64 q.key, .int .i64 0, .int .i64 0, .int .i64 q.ver] (0,0) _ rfl z1 Tryz.underlying39 rfl Ai) rfl ⟨by rw[HRK.out.1,HRK.out.2.1,HRK.out.2.2.1,HRK.out.2.2.2];rfl, ?_⟩
     exact(HB6.out.trans ((z2 w.heap.size (Nat.le_refl _)))).drew
theorem Adf (l:List Tf) (n:Nat) (hn:n=l.length) (E:Nat) (r:Rg) (hE:Br l=(E,r)) (A:Option Addr) (c:Nat) (w:World) (hA:Ts w w.heap.size l A c) (hi:isT 0 l=true) (q:Rg) (hf:fdFill z13 l=(0,numL q)) (hq:rdL (numL q)=q) (hv:Jm (numL q)=true) (hk:q.t.kind≠4) (hu:0<q.t.uses):Calls Tryz.prog 73 #[.slice A n c] w fun e w'=>e= .returned (.tuple #[.agg #[.int .i64 r.t.ser, .int .i64 r.t.kind, .int .i64 r.t.frm, .int .i64 r.t.till, .int .i64 r.t.cls, .int .i64 r.t.card, .int .i64 r.t.seat, .int .i64 r.t.day, .int .i64 r.t.days, .int .i64 r.t.uses, .int .i64 r.t.epoch, .int .i64 r.key, .int .i64 r.left, .int .i64 r.inn, .int .i64 r.ver], .int .i64 (E:Int)])∧Below w.heap.size w w':=by
 have hpos: ∀x∈numL q,0≤x:=fun x hx=>by have:=Hx l z13 (by decide) x;rw[hf]at this;exact this hx
 have HVY:=Lib.hid ((Sc q).1 hv)
 have HVX:=Lib.hid hv
 have k1:=hpos q.t.card (List.mem_of_getElem? (i:=7) rfl)
 have k2:=hpos q.t.seat (List.mem_of_getElem? (i:=8) rfl)
 have k3:=hpos q.t.uses (List.mem_of_getElem? (i:=11) rfl)
 have k4:=hpos q.key (List.mem_of_getElem? (i:=1) rfl)
 have k5:=hpos q.t.kind (List.mem_of_getElem? (i:=2) rfl)
 have HFILL:=Lib.hid hf
 have HE:=Lib.hid hE
 have HQ:=Lib.hid hq
 have HQL:=Lib.hid (show q.left=0∧q.inn=0 from⟨by rw[←hq];rfl,by rw[←hq];rfl⟩)
 have q4:(q.t.kind !=4)=true:=by rw[bne_iff_ne];exact hk
 have t9:decide (0<q.t.uses)=true:=decide_eq_true (by omega)
 obtain⟨s,hs⟩: ∃s,s=Fh q:=⟨_,rfl⟩
 have HSS:=Lib.hid hs
 have q4s:(s.t.kind !=4)=true:=by rw[hs,Kn];exact q4
 have HS:=Lib.hid (show s= { q with t:= { q.t with uses:=q.t.kind.tmod 3 } } by rw[hs,Fh,if_neg hk])
 have HK4:=Lib.hid (show¬(q.t.kind=4∨q.t.uses=0) by omega)
 clear hf hq hpos hv hE hk hu hs
 have HN:=Lib.hid hn
 have HA:=Lib.hid hA
 have HI:=Lib.hid hi
 clear hn hA hi
 have HR0:=Lib.hid (Am.new w Ah)
 have hl0:=Aa w #[.int .i64 0, .int .i64 0, .int .i64 0, .int .i64 0, .int .i64 0, .int .i64 0, .int .i64 0, .int .i64 0, .int .i64 0, .int .i64 0, .int .i64 0, .int .i64 0, .int .i64 0, .int .i64 0, .int .i64 0] 39
 have HB0:=Lib.hid hl0
 have HA0:=Lib.hid (HA.out.next hl0)
 have h63:n≤9223372036854775807:=by have h1:=HA.out.len;have h2:=HA.out.cap;have h3:=HN.out;omega
 clear hl0
 go_enter Tryz.func73, Tryz.ntmps73
 go_wp2_with fail
 refine(Fi l n HN.out true HI.out A c _ HA0.out).mono ?_
 rintro e w1 ⟨rfl,hb⟩
 have HR1:=Lib.hid (HR0.out.next hb)
 have HB1:=Lib.hid (HB0.out.trans (hb.mono HB0.out.size))
 have HA1:=Lib.hid (HA0.out.next hb)
 clear hb HR0 HB0 HA0
 go_wp2_with fail
 obtain⟨N,hNN⟩: ∃N,N=w1.heap.size:=⟨_,rfl⟩
 obtain⟨w2,hw2⟩: ∃w2,w2=w1.alloc (.cells #[.int .i64 0, .int .i64 0, .int .i64 0, .int .i64 0, .int .i64 0, .int .i64 0, .int .i64 0, .int .i64 0, .int .i64 0, .int .i64 0, .int .i64 0, .int .i64 0, .int .i64 0] 3):=⟨_,rfl⟩
 have HZ2:=Lib.hid (show Ef w2 N z13 by rw[hw2,hNN];exact Kp w1 z13 #[.int .i64 0, .int .i64 0, .int .i64 0, .int .i64 0, .int .i64 0, .int .i64 0, .int .i64 0, .int .i64 0, .int .i64 0, .int .i64 0, .int .i64 0, .int .i64 0, .int .i64 0] rfl)
 have hl1:Below w1.heap.size w1 w2:=by rw[hw2];exact Aa w1 #[.int .i64 0, .int .i64 0, .int .i64 0, .int .i64 0, .int .i64 0, .int .i64 0, .int .i64 0, .int .i64 0, .int .i64 0, .int .i64 0, .int .i64 0, .int .i64 0, .int .i64 0] 3
 have HXW:=Lib.hid (show w.heap.size<N by rw[hNN];exact HR1.out.lt)
 have HR2:=Lib.hid (HR1.out.next hl1)
 have HB2:=Lib.hid (HB1.out.trans (hl1.mono HB1.out.size))
 have HA2:=Lib.hid (show Ts w2 N l A c by rw[hNN];exact HA1.out.below hl1)
 have hN2:=HZ2.out.lt
 rw[←hw2, ←hNN]
 clear hw2 hNN hl1 HR1 HB1 HA1
 go_loopw [5] (fun i wr=> ∃(k:Nat) (b:List Int),k≤n∧i= .int .i64 k∧b.length=13∧fdFill b (l.drop k)=(0,numL q)∧Ef wr N b∧w2.grownBy wr (some N)) (fun i _=>n - (intOf i).toNat)
 case atStart=>exact⟨0,z13,Nat.zero_le _,rfl,rfl,HFILL.out,HZ2.out,World.grownBy.refl _ _⟩
 case round=>
  obtain⟨k,b,hk,rfl,hbl,hfill,hbox,hg⟩:=hrel
  have HF:=Lib.hid hfill
  have HB:=Lib.hid hbox
  have HG:=Lib.hid hg
  have HL:=Lib.hid hbl
  have hsz:=hg.size
  have HRr:=Lib.hid (show Am wr w.heap.size Ah from(hg.block _ HR2.out.lt (by have:=HXW.out;simp;omega)).trans HR2.out)
  have HBr:=Lib.hid (HB2.out.trans (Aq hg (Nat.le_of_lt HXW.out) HB2.out.size))
  clear hfill hbox hg hbl
  by_cases hlt:k<n
  ·obtain⟨ad,S,cc,rfl,had,hk4⟩:=(HA2.out.below (Aq HG.out (Nat.le_refl _) (Nat.le_of_lt hN2))).rd k (by rw[←HN.out];exact hlt)
   have hc0:=hk4.c0
   have hc1:=hk4.c1
   have hcap:=hk4.bs.len
   have hcap2:=hk4.bs.cap
   have HKL:=Lib.hid (show k<l.length by rw[←HN.out];exact hlt)
   have h0:=Lb HI.out HKL.out
   have b1:(0:Int)≤(k:Int):=by omega
   have b2:(k:Int)<(n:Int):=by omega
   have F1:=Lib.hid (fun q=>Ew (a:=b) HKL.out q)
   have F2:=Lib.hid (fun q q2=>Cq (a:=b) HKL.out q q2)
   have F3:=Lib.hid (fun q2 (v E:Nat) hv hE=>Dz (a:=b) HKL.out q2 (v:=v) (E:=E) hv hE)
   have F4:=Lib.hid (fun q2 (v:Nat) hv=>Ex (a:=b) HKL.out q2 (v:=v) hv)
   obtain⟨x,hx⟩: ∃x,x=l.getD k TF0:=⟨_,rfl⟩
   rw[←hx]at hc0 hc1 hcap h0 F1 F2 F3 F4
   have HBS:=Lib.hid (show Bs wr wr.heap.size x.val S cc by rw[hx];exact hk4.bs.more (Nat.le_of_lt HB.out.lt))
   clear hx hk4
   by_cases q1:128≤x.tag
   ·have e:=F1.out q1
    rw[HF.out]at e
    obtain⟨e1,e2⟩:=Prod.mk.inj e
    exact absurd e1 (by decide)
   by_cases q2:13<x.tag
   ·have e:=F2.out q1 q2
    rw[HF.out]at e
    obtain⟨e1,e2⟩:=Prod.mk.inj e
    exact absurd e1 (by decide)
   obtain⟨s,hs⟩: ∃s:Nat,x.tag=(s:Int)+1:=⟨x.tag.toNat - 1,by omega⟩
   obtain⟨m,hm⟩: ∃m:Nat,x.val.length=m:=⟨_,rfl⟩
   obtain⟨v,Ev,hv⟩: ∃v Ev,Ib x.val=(v,Ev):=⟨_,_,rfl⟩
   have HV:=Lib.hid hv
   have HM:=Lib.hid hm
   have hs13:s<13:=by omega
   rw[hm]at hc1 hcap
   rw[hs]at hc0
   have G3:=F3.out q2 v Ev hv
   have G4:=F4.out q2 v
   rw[show x.tag.toNat - 1=s by omega]at G4
   have HG3:=Lib.hid G3
   have HG4:=Lib.hid G4
   have b3: ¬((128:Int)≤(s:Int)+1):=by omega
   have b4: ¬((13:Int)<(s:Int)+1):=by omega
   clear hv hm G3 G4 F1 F2 F3 F4 q1 q2 hs h0
   by_cases hE0:Ev=0
   rotate_left
   ·have e:=HG3.out hE0
    rw[HF.out]at e
    obtain⟨e1,e2⟩:=Prod.mk.inj e
    exact absurd e1.symm hE0
   subst hE0
   have e:=HG4.out HV.out
   rw[HF.out]at e
   have HE4:=Lib.hid e.symm
   obtain⟨y,hy⟩: ∃y,b[s]?=some y:=⟨_,List.getElem?_eq_getElem (by rw[HL.out];exact hs13)⟩
   have hcy:=HB.out.cell hy
   have hfy:=HB.out.frozen s
   have i1:IntKind.i64.wrap ((s:Int)+1 - 1)=(s:Int):=by rw[Int.add_sub_cancel];exact IntWalk.i64_in _ (by omega)
   have i2:IntKind.i64.wrap (s:Int)=(s:Int):=IntWalk.i64_in _ (by omega)
   have i3:(0:Int)≤(s:Int):=by omega
   have i4:(s:Int)<13:=by omega
   clear e hy HG3 HG4
   go_wp2_with fail
   refine(Dj x.val m HM.out.symm v 0 HV.out S cc _ HBS.out).mono ?_
   rintro e w3 ⟨rfl,rfl⟩
   go_wp2
   go_roundw
   case rel=>exact⟨k+1,b.set s (v:Int),by omega,by go_num,by rw[List.length_set];exact HL.out,HE4.out,HB.out.set s (v:Int),At HG.out (Bl wr N s (.int .i64 (v:Int)))⟩
   case measure=>simp[intOf];omega
  ·have e:k=n:=by omega
   have e2:l.drop k=[]:=List.drop_eq_nil_of_le (by rw[←HN.out];omega)
   have e3:=HF.out
   rw[e2,fdFill]at e3
   obtain⟨_,e4⟩:=Prod.mk.inj e3
   have HBq:Hid (Ef wr N (numL q)):=Lib.hid (by rw[←e4];exact HB.out)
   clear e2 e3 e4 HB HF hlt
   obtain⟨g0,g1,g2,g3,g4,g5,g6,g7,g8,g9,g10,g11,g12⟩:=HBq.out.cells
   subst e
   have HVV:=HVY.out
   go_upto_region 15 with fail
   go_cut [89]from 56 to 89 (fun b wx=>b= .bool false∧wr=wx)
   case first=>
    by_cases d5:q.ver<2
    ·have t1:decide (q.ver<1)=false:=decide_eq_false (by omega)
     have t2:decide (3<q.ver)=false:=decide_eq_false (by omega)
     have t3:decide (q.ver<2)=true:=decide_eq_true (by omega)
     have t4:decide (0<q.t.card)=false:=decide_eq_false (by omega)
     have t5:decide (q.ver<3)=true:=decide_eq_true (by omega)
     have t6:decide (0<q.t.seat)=false:=decide_eq_false (by omega)
     go_wp2_with fail
     go_meet
     exact⟨rfl,rfl⟩
    by_cases d6:q.ver<3
    ·have t1:decide (q.ver<1)=false:=decide_eq_false (by omega)
     have t2:decide (3<q.ver)=false:=decide_eq_false (by omega)
     have t3:decide (q.ver<2)=false:=decide_eq_false (by omega)
     have t5:decide (q.ver<3)=true:=decide_eq_true (by omega)
     have t6:decide (0<q.t.seat)=false:=decide_eq_false (by omega)
     go_wp2_with fail
     go_meet
     exact⟨rfl,rfl⟩
    ·have t1:decide (q.ver<1)=false:=decide_eq_false (by omega)
     have t2:decide (3<q.ver)=false:=decide_eq_false (by omega)
     have t3:decide (q.ver<2)=false:=decide_eq_false (by omega)
     have t5:decide (q.ver<3)=false:=decide_eq_false (by omega)
     go_wp2_with fail
     go_meet
     exact⟨rfl,rfl⟩
   case rest=>
    obtain⟨rfl,rfl⟩:=hcut
    go_wp2_with fail
    go_region_held3 (fun w'=>w'.cell? ⟨N,2,none⟩=some (.int .i64 q.t.kind)∧w'.cell? ⟨N,3,none⟩=some (.int .i64 q.t.ser)∧w'.cell? ⟨N,4,none⟩=some (.int .i64 q.t.frm)∧w'.cell? ⟨N,5,none⟩=some (.int .i64 q.t.till)∧w'.cell? ⟨N,6,none⟩=some (.int .i64 q.t.cls)∧w'.cell? ⟨N,7,none⟩=some (.int .i64 q.t.card)∧w'.cell? ⟨N,8,none⟩=some (.int .i64 q.t.seat)∧w'.cell? ⟨N,9,none⟩=some (.int .i64 q.t.day)∧w'.cell? ⟨N,10,none⟩=some (.int .i64 q.t.days)∧w'.cell? ⟨N,11,none⟩=some (.int .i64 q.t.uses)∧w'.cell? ⟨N,12,none⟩=some (.int .i64 q.t.epoch)) (first|exact⟨g2,g3,g4,g5,g6,g7,g8,g9,g10,g11,g12⟩|go_keep) (fail)
    rename_i hS3
    clear hS3 g0 g1 g2 g3 g4 g5 g6 g7 g8 g9 g10 g11 g12
    have HW4:Hid (Below wr.heap.size wr ((wr.alloc (.cells #[.int .i64 q.t.ser, .int .i64 q.t.kind, .int .i64 q.t.frm, .int .i64 q.t.till, .int .i64 q.t.cls, .int .i64 q.t.card, .int .i64 q.t.seat, .int .i64 q.t.day, .int .i64 q.t.days, .int .i64 q.t.uses, .int .i64 q.t.epoch] 37)).drew)):=Lib.hid (Ae ((Below.refl _ _).alloc (Nat.le_refl _) _) 1)
    have HT4:Hid (Cp ((wr.alloc (.cells #[.int .i64 q.t.ser, .int .i64 q.t.kind, .int .i64 q.t.frm, .int .i64 q.t.till, .int .i64 q.t.cls, .int .i64 q.t.card, .int .i64 q.t.seat, .int .i64 q.t.day, .int .i64 q.t.days, .int .i64 q.t.uses, .int .i64 q.t.epoch] 37)).drew) wr.heap.size q.t):=Lib.hid (Cp.new wr q.t)
    have HNY:=Lib.hid (show N<wr.heap.size from HBq.out.lt)
    have HRY:=Lib.hid (show w.heap.size<wr.heap.size from HRr.out.lt)
    obtain⟨w4,hw4⟩: ∃w4,w4=((wr.alloc (.cells #[.int .i64 q.t.ser, .int .i64 q.t.kind, .int .i64 q.t.frm, .int .i64 q.t.till, .int .i64 q.t.cls, .int .i64 q.t.card, .int .i64 q.t.seat, .int .i64 q.t.day, .int .i64 q.t.days, .int .i64 q.t.uses, .int .i64 q.t.epoch] 37)).drew):=⟨_,rfl⟩
    rw[←hw4]at HW4 HT4⊢
    have HR4:=Lib.hid (HRr.out.next HW4.out)
    have HB4:=Lib.hid (HBr.out.trans (HW4.out.mono HBr.out.size))
    have HN4:=Lib.hid (HBq.out.next HW4.out)
    obtain⟨Y,hY⟩: ∃Y,Y=wr.heap.size:=⟨_,rfl⟩
    rw[←hY]at HT4 HNY HRY⊢
    clear hw4 hY HW4 HRr HBr HBq
    obtain⟨c0,c1,c2,c3,c4,c5,c6,c7,c8,c9,c10⟩:=HT4.out.cells
    have hfz:=HT4.out.frozen 9
    have HU:=Lib.hid (show q.t.kind % 3=q.t.kind.tmod 3 from(Int.tmod_eq_emod_of_nonneg k5).symm)
    go_upto_region 20 with fail
    obtain⟨w5,hw5⟩: ∃w5,w5=w4.setCell ⟨Y,9,none⟩ (.int .i64 (q.t.kind % 3)):=⟨_,rfl⟩
    rw[←hw5]
    have HT5:Hid (Cp w5 Y s.t):=Lib.hid (by rw[hw5,HS.out, ←HU.out];exact heap_setCell_same w4 Y 9 _ _ _ HT4.out)
    have HR5:Hid (Am w5 w.heap.size Ah):=Lib.hid (by rw[hw5];exact(heap_setCell_other w4 _ _ _ (by have:=HRY.out;simp;omega)).trans HR4.out)
    have HB5:Hid (Below w.heap.size w w5):=Lib.hid (by rw[hw5];exact HB4.out.setCell (p:=⟨Y,9,none⟩) (Nat.le_of_lt HRY.out) _)
    have HN5:Hid (Ef w5 N (numL q)):=Lib.hid (by rw[hw5];exact(heap_setCell_other w4 _ _ _ (by have:=HNY.out;simp;omega)).trans HN4.out)
    clear hw5 hfz c0 c1 c2 c3 c4 c5 c6 c7 c8 c9 c10
    obtain⟨c0,c1,c2,c3,c4,c5,c6,c7,c8,c9,c10⟩:=HT5.out.cells
    obtain⟨g0,g1,g2,g3,g4,g5,g6,g7,g8,g9,g10,g11,g12⟩:=HN5.out.cells
    obtain⟨rfl,rfl⟩:E=9∧r=Ah:=by have:=HE.out;rw[Vv HI.out HFILL.out HQ.out HVX.out (iK HK4.out)]at this;exact⟨(Prod.mk.inj this).1.symm,(Prod.mk.inj this).2.symm⟩
    go_wp2_with ((with_reducible refine Ac 2 ?_);refine Al HR5.out Ai (Bh _ _ _ _ _ _ _ _ _ _ _ _ _ _ _) ?_)
    intro w9 hw9
    go_wp2
    refine bodyPost_ret (Ab Tryz.results73 _ w9 w.heap.size 39 #[.int .i64 0, .int .i64 0, .int .i64 0, .int .i64 0, .int .i64 0, .int .i64 0, .int .i64 0, .int .i64 0, .int .i64 0, .int .i64 0, .int .i64 0, .int .i64 0, .int .i64 0, .int .i64 0, .int .i64 0] (0,0) _ rfl (by rw[hw9.out];exact setRow_heap _ _ _ _ _ _ HR5.out) Tryz.underlying39 rfl Ai) rfl ⟨rfl, ?_⟩
    rw[hw9.out]
    exact below_setRow HB5.out (Nat.le_refl _) _
theorem uY (l:List Tf) (n:Nat) (hn:n=l.length) (E:Nat) (r:Rg) (hE:Br l=(E,r)) (A:Option Addr) (c:Nat) (w:World) (hA:Ts w w.heap.size l A c):Calls Tryz.prog 73 #[.slice A n c] w fun e w'=>e= .returned (.tuple #[.agg #[.int .i64 r.t.ser, .int .i64 r.t.kind, .int .i64 r.t.frm, .int .i64 r.t.till, .int .i64 r.t.cls, .int .i64 r.t.card, .int .i64 r.t.seat, .int .i64 r.t.day, .int .i64 r.t.days, .int .i64 r.t.uses, .int .i64 r.t.epoch, .int .i64 r.key, .int .i64 r.left, .int .i64 r.inn, .int .i64 r.ver], .int .i64 (E:Int)])∧Below w.heap.size w w':=by
 cases hi:isT 0 l with
 |false=>exact zP l n hn E r hE A c w hA hi
 |true=>
  obtain⟨F,a,hf⟩: ∃F a,fdFill z13 l=(F,a):=⟨_,_,rfl⟩
  by_cases h0:F=0
  rotate_left
  ·exact zQ l n hn E r hE A c w hA hi a F hf h0
  subst h0
  obtain⟨q,hq⟩: ∃q,q=rdL a:=⟨_,rfl⟩
  have ha:a=numL q:=by
   have:=Pf l z13
   rw[hf]at this
   rw[hq];exact eD this
  subst ha
  cases hv:Jm (numL q)with
  |false=>exact AcM l n hn E r hE A c w hA hi q hf hq.symm hv
  |true=>
   have hpos:0≤q.t.uses:=by have:=Hx l z13 (by decide) q.t.uses;rw[hf]at this;exact this (List.mem_of_getElem? (i:=11) rfl)
   by_cases hk:q.t.kind=4
   ·by_cases hu:0<q.t.uses
    ·exact AcN l n hn E r hE A c w hA hi q hf hq.symm hv hk hu
    ·exact Add l n hn E r hE A c w hA hi q hf hq.symm hv hk (by omega)
   ·by_cases hu:0<q.t.uses
    ·exact Adf l n hn E r hE A c w hA hi q hf hq.symm hv hk hu
    ·exact Ade l n hn E r hE A c w hA hi q hf hq.symm hv hk (by omega)
end Go.Proofs.YtmdbfogjfbbpjaaGreatDoor
