import Derived.Test.YtmdbfogjfbbpjaaGreatDoorFieldsPSmall
import Derived.Test.YtmdbfogjfbbpjaaGreatDoorTrackRefPut
import Derived.Test.YtmdbfogjfbbpjaaGreatDoorBarRefTag
import Derived.OwnWalk
import Derived.IntWalk
import Derived.Test.YtmdbfogjfbbpjaaGreatDoorFieldsVer
import Derived.Test.YtmdbfogjfbbpjaaGreatDoorMem
import Derived.Test.YtmdbfogjfbbpjaaGreatDoorMacRefBlock
import Derived.RegionTactic
import Derived.BigRegion
import Derived.Deep.RegionHeld3
import Derived.Deep.CutRange
set_option maxHeartbeats 1600000
set_option maxRecDepth 100000
set_option linter.unusedVariables false
namespace Go.Proofs.YtmdbfogjfbbpjaaGreatDoor
open Go.ChangeShapes Go.WideShapes Go.ChangeAt Go.RowKit
theorem zP (l:List Tf) (n:Nat) (hn:n=l.length) (E:Nat) (r:Rg) (hE:Br l=(E,r)) (A:Option Addr) (c:Nat) (w:World) (hA:Ts w w.heap.size l A c) (hi:isT 0 l=false):Calls Tryz.prog 73 #[.slice A n c] w fun e w'=>e= .returned (.tuple #[.agg #[.int .i64 r.t.ser, .int .i64 r.t.kind, .int .i64 r.t.frm, .int .i64 r.t.till, .int .i64 r.t.cls, .int .i64 r.t.card, .int .i64 r.t.seat, .int .i64 r.t.day, .int .i64 r.t.days, .int .i64 r.t.uses, .int .i64 r.t.epoch, .int .i64 r.key, .int .i64 r.left, .int .i64 r.inn, .int .i64 r.ver], .int .i64 (E:Int)])∧Below w.heap.size w w':=by
 obtain⟨rfl,rfl⟩:E=1∧r=Ah:=by have:=hE;rw[Br,if_pos hi]at this;exact⟨(Prod.mk.inj this).1.symm,(Prod.mk.inj this).2.symm⟩
 clear hE
 have HN:=Lib.hid hn
 have HA:=Lib.hid hA
 have HI:=Lib.hid hi
 clear hn hA hi
 have HR0:=Lib.hid (Am.new w Ah)
 have hl0:=Aa w #[.int .i64 0, .int .i64 0, .int .i64 0, .int .i64 0, .int .i64 0, .int .i64 0, .int .i64 0, .int .i64 0, .int .i64 0, .int .i64 0, .int .i64 0, .int .i64 0, .int .i64 0, .int .i64 0, .int .i64 0] 39
 have HB0:=Lib.hid hl0
 have HA0:=Lib.hid (HA.out.next hl0)
 have h63:n≤9223372036854775807:=by have h1:=HA.out.len;have h2:=HA.out.cap;have h3:=HN.out;omega
 clear hl0
 go_enter Tryz.func73, Tryz.ntmps73
 go_wp2_with fail
 refine(Fi l n HN.out false HI.out A c _ HA0.out).mono ?_
 rintro e w1 ⟨rfl,hb⟩
 have HR1:=Lib.hid (HR0.out.next hb)
 have HB1:=Lib.hid (HB0.out.trans (hb.mono HB0.out.size))
 have HA1:=Lib.hid (HA0.out.next hb)
 clear hb HR0 HB0 HA0
 go_wp2_with ((with_reducible refine Ac 2 ?_);refine Al HR1.out Ai (Bh _ _ _ _ _ _ _ _ _ _ _ _ _ _ _) ?_)
 intro w9 hw9
 go_wp2
 refine bodyPost_ret (Ab Tryz.results73 _ w9 w.heap.size 39 #[.int .i64 0, .int .i64 0, .int .i64 0, .int .i64 0, .int .i64 0, .int .i64 0, .int .i64 0, .int .i64 0, .int .i64 0, .int .i64 0, .int .i64 0, .int .i64 0, .int .i64 0, .int .i64 0, .int .i64 0] (0,0) _ rfl (by rw[hw9.out];exact setRow_heap _ _ _ _ _ _ HR1.out) Tryz.underlying39 rfl Ai) rfl ⟨rfl, ?_⟩
 rw[hw9.out]
 exact below_setRow HB1.out (Nat.le_refl _) _
theorem zQ (l:List Tf) (n:Nat) (hn:n=l.length) (E:Nat) (r:Rg) (hE:Br l=(E,r)) (A:Option Addr) (c:Nat) (w:World) (hA:Ts w w.heap.size l A c) (hi:isT 0 l=true) (a:List Int) (F:Nat) (hf:fdFill z13 l=(F,a)) (h0:F≠0):Calls Tryz.prog 73 #[.slice A n c] w fun e w'=>e= .returned (.tuple #[.agg #[.int .i64 r.t.ser, .int .i64 r.t.kind, .int .i64 r.t.frm, .int .i64 r.t.till, .int .i64 r.t.cls, .int .i64 r.t.card, .int .i64 r.t.seat, .int .i64 r.t.day, .int .i64 r.t.days, .int .i64 r.t.uses, .int .i64 r.t.epoch, .int .i64 r.key, .int .i64 r.left, .int .i64 r.inn, .int .i64 r.ver], .int .i64 (E:Int)])∧Below w.heap.size w w':=by
 obtain⟨rfl,rfl⟩:E=F∧r=Ah:=by have:=hE;rw[Br,if_neg (by rw[hi];decide),hf,if_pos h0]at this;exact⟨(Prod.mk.inj this).1.symm,(Prod.mk.inj this).2.symm⟩
 clear hE
 have HFILL:=Lib.hid hf
 have HE0:=Lib.hid h0
 clear hf h0
 have HN:=Lib.hid hn
 have HA:=Lib.hid hA
 have HI:=Lib.hid hi
 clear hn hA hi
 have HR0:=Lib.hid (Am.new w Ah)
 have hl0:=Aa w #[.int .i64 0, .int .i64 0, .int .i64 0, .int .i64 0, .int .i64 0, .int .i64 0, .int .i64 0, .int .i64 0, .int .i64 0, .int .i64 0, .int .i64 0, .int .i64 0, .int .i64 0, .int .i64 0, .int .i64 0] 39
 have HB0:=Lib.hid hl0
 have HA0:=Lib.hid (HA.out.next hl0)
 have h63:n≤9223372036854775807:=by have h1:=HA.out.len;have h2:=HA.out.cap;have h3:=HN.out;omega
 clear hl0
 go_enter Tryz.func73, Tryz.ntmps73
 go_wp2_with fail
 refine(Fi l n HN.out true HI.out A c _ HA0.out).mono ?_
 rintro e w1 ⟨rfl,hb⟩
 have HR1:=Lib.hid (HR0.out.next hb)
 have HB1:=Lib.hid (HB0.out.trans (hb.mono HB0.out.size))
 have HA1:=Lib.hid (HA0.out.next hb)
 clear hb HR0 HB0 HA0
 go_wp2_with fail
 obtain⟨N,hNN⟩: ∃N,N=w1.heap.size:=⟨_,rfl⟩
 obtain⟨w2,hw2⟩: ∃w2,w2=w1.alloc (.cells #[.int .i64 0, .int .i64 0, .int .i64 0, .int .i64 0, .int .i64 0, .int .i64 0, .int .i64 0, .int .i64 0, .int .i64 0, .int .i64 0, .int .i64 0, .int .i64 0, .int .i64 0] 3):=⟨_,rfl⟩
 have HZ2:=Lib.hid (show Ef w2 N z13 by rw[hw2,hNN];exact Kp w1 z13 #[.int .i64 0, .int .i64 0, .int .i64 0, .int .i64 0, .int .i64 0, .int .i64 0, .int .i64 0, .int .i64 0, .int .i64 0, .int .i64 0, .int .i64 0, .int .i64 0, .int .i64 0] rfl)
 have hl1:Below w1.heap.size w1 w2:=by rw[hw2];exact Aa w1 #[.int .i64 0, .int .i64 0, .int .i64 0, .int .i64 0, .int .i64 0, .int .i64 0, .int .i64 0, .int .i64 0, .int .i64 0, .int .i64 0, .int .i64 0, .int .i64 0, .int .i64 0] 3
 have HXW:=Lib.hid (show w.heap.size<N by rw[hNN];exact HR1.out.lt)
 have HR2:=Lib.hid (HR1.out.next hl1)
 have HB2:=Lib.hid (HB1.out.trans (hl1.mono HB1.out.size))
 have HA2:=Lib.hid (show Ts w2 N l A c by rw[hNN];exact HA1.out.below hl1)
 have hN2:=HZ2.out.lt
 rw[←hw2, ←hNN]
 clear hw2 hNN hl1 HR1 HB1 HA1
 go_loopw [5] (fun i wr=> ∃(k:Nat) (b:List Int),k≤n∧i= .int .i64 k∧b.length=13∧fdFill b (l.drop k)=(E,a)∧Ef wr N b∧w2.grownBy wr (some N)) (fun i _=>n - (intOf i).toNat)
 case atStart=>exact⟨0,z13,Nat.zero_le _,rfl,rfl,HFILL.out,HZ2.out,World.grownBy.refl _ _⟩
 case round=>
  obtain⟨k,b,hk,rfl,hbl,hfill,hbox,hg⟩:=hrel
  have HF:=Lib.hid hfill
  have HB:=Lib.hid hbox
  have HG:=Lib.hid hg
  have HL:=Lib.hid hbl
  have hsz:=hg.size
  have HRr:=Lib.hid (show Am wr w.heap.size Ah from(hg.block _ HR2.out.lt (by have:=HXW.out;simp;omega)).trans HR2.out)
  have HBr:=Lib.hid (HB2.out.trans (Aq hg (Nat.le_of_lt HXW.out) HB2.out.size))
  clear hfill hbox hg hbl
  by_cases hlt:k<n
  ·obtain⟨ad,S,cc,rfl,had,hk4⟩:=(HA2.out.below (Aq HG.out (Nat.le_refl _) (Nat.le_of_lt hN2))).rd k (by rw[←HN.out];exact hlt)
   have hc0:=hk4.c0
   have hc1:=hk4.c1
   have hcap:=hk4.bs.len
   have hcap2:=hk4.bs.cap
   have HKL:=Lib.hid (show k<l.length by rw[←HN.out];exact hlt)
   have h0:=Lb HI.out HKL.out
   have b1:(0:Int)≤(k:Int):=by omega
   have b2:(k:Int)<(n:Int):=by omega
   have F1:=Lib.hid (fun q=>Ew (a:=b) HKL.out q)
   have F2:=Lib.hid (fun q q2=>Cq (a:=b) HKL.out q q2)
   have F3:=Lib.hid (fun q2 (v E:Nat) hv hE=>Dz (a:=b) HKL.out q2 (v:=v) (E:=E) hv hE)
   have F4:=Lib.hid (fun q2 (v:Nat) hv=>Ex (a:=b) HKL.out q2 (v:=v) hv)
   obtain⟨x,hx⟩: ∃x,x=l.getD k TF0:=⟨_,rfl⟩
   rw[←hx]at hc0 hc1 hcap h0 F1 F2 F3 F4
   have HBS:=Lib.hid (show Bs wr wr.heap.size x.val S cc by rw[hx];exact hk4.bs.more (Nat.le_of_lt HB.out.lt))
   clear hx hk4
   by_cases q1:128≤x.tag
   ·have e:=F1.out q1
    rw[HF.out]at e
    obtain⟨e1,e2⟩:=Prod.mk.inj e
    have HE1:=Lib.hid e1
    clear e e1 e2
    go_wp2_with ((with_reducible refine Ac 2 ?_);refine Al HRr.out Ai (Bh _ _ _ _ _ _ _ _ _ _ _ _ _ _ _) ?_)
    intro w9 hw9
    go_wp2
    refine bodyPost_ret (Ab Tryz.results73 _ w9 w.heap.size 39 #[.int .i64 0, .int .i64 0, .int .i64 0, .int .i64 0, .int .i64 0, .int .i64 0, .int .i64 0, .int .i64 0, .int .i64 0, .int .i64 0, .int .i64 0, .int .i64 0, .int .i64 0, .int .i64 0, .int .i64 0] (0,0) _ rfl (by rw[hw9.out];exact setRow_heap _ _ _ _ _ _ HRr.out) Tryz.underlying39 rfl Ai) rfl ⟨by rw[HE1.out];rfl, ?_⟩
    rw[hw9.out]
    exact below_setRow HBr.out (Nat.le_refl _) _
   by_cases q2:13<x.tag
   ·have e:=F2.out q1 q2
    rw[HF.out]at e
    obtain⟨e1,e2⟩:=Prod.mk.inj e
    have HE1:=Lib.hid e1
    clear e e1 e2
    go_wp2_with ((with_reducible refine Ac 2 ?_);refine Al HRr.out Ai (Bh _ _ _ _ _ _ _ _ _ _ _ _ _ _ _) ?_)
    intro w9 hw9
    go_wp2
    refine bodyPost_ret (Ab Tryz.results73 _ w9 w.heap.size 39 #[.int .i64 0, .int .i64 0, .int .i64 0, .int .i64 0, .int .i64 0, .int .i64 0, .int .i64 0, .int .i64 0, .int .i64 0, .int .i64 0, .int .i64 0, .int .i64 0, .int .i64 0, .int .i64 0, .int .i64 0] (0,0) _ rfl (by rw[hw9.out];exact setRow_heap _ _ _ _ _ _ HRr.out) Tryz.underlying39 rfl Ai) rfl ⟨by rw[HE1.out];rfl, ?_⟩
    rw[hw9.out]
    exact below_setRow HBr.out (Nat.le_refl _) _
   obtain⟨s,hs⟩: ∃s:Nat,x.tag=(s:Int)+1:=⟨x.tag.toNat - 1,by omega⟩
   obtain⟨m,hm⟩: ∃m:Nat,x.val.length=m:=⟨_,rfl⟩
   obtain⟨v,Ev,hv⟩: ∃v Ev,Ib x.val=(v,Ev):=⟨_,_,rfl⟩
   have HV:=Lib.hid hv
   have HM:=Lib.hid hm
   have hs13:s<13:=by omega
   rw[hm]at hc1 hcap
   rw[hs]at hc0
   have G3:=F3.out q2 v Ev hv
   have G4:=F4.out q2 v
   rw[show x.tag.toNat - 1=s by omega]at G4
   have HG3:=Lib.hid G3
   have HG4:=Lib.hid G4
   have b3: ¬((128:Int)≤(s:Int)+1):=by omega
   have b4: ¬((13:Int)<(s:Int)+1):=by omega
   clear hv hm G3 G4 F1 F2 F3 F4 q1 q2 hs h0
   by_cases hE0:Ev=0
   rotate_left
   ·have e:=HG3.out hE0
    rw[HF.out]at e
    obtain⟨e1,e2⟩:=Prod.mk.inj e
    have HE1:=Lib.hid e1
    have s1:((Ev:Int)==0)=false:=by rw[beq_eq_false_iff_ne];omega
    have s2:((Ev:Int) !=0)=true:=by rw[bne_iff_ne];omega
    have s3:(Ev==0)=false:=by rw[beq_eq_false_iff_ne];exact hE0
    have s4:(Ev !=0)=true:=by rw[bne_iff_ne];exact hE0
    clear e e1 e2 hE0
    go_wp2_with fail
    refine(Dj x.val m HM.out.symm v Ev HV.out S cc _ HBS.out).mono ?_
    rintro e w3 ⟨rfl,rfl⟩
    go_wp2_with ((with_reducible refine Ac 2 ?_);refine Al HRr.out Ai (Bh _ _ _ _ _ _ _ _ _ _ _ _ _ _ _) ?_)
    intro w9 hw9
    go_wp2
    refine bodyPost_ret (Ab Tryz.results73 _ w9 w.heap.size 39 #[.int .i64 0, .int .i64 0, .int .i64 0, .int .i64 0, .int .i64 0, .int .i64 0, .int .i64 0, .int .i64 0, .int .i64 0, .int .i64 0, .int .i64 0, .int .i64 0, .int .i64 0, .int .i64 0, .int .i64 0] (0,0) _ rfl (by rw[hw9.out];exact setRow_heap _ _ _ _ _ _ HRr.out) Tryz.underlying39 rfl Ai) rfl ⟨by rw[HE1.out];rfl, ?_⟩
    rw[hw9.out]
    exact below_setRow HBr.out (Nat.le_refl _) _
   subst hE0
   have e:=HG4.out HV.out
   rw[HF.out]at e
   have HE4:=Lib.hid e.symm
   obtain⟨y,hy⟩: ∃y,b[s]?=some y:=⟨_,List.getElem?_eq_getElem (by rw[HL.out];exact hs13)⟩
   have hcy:=HB.out.cell hy
   have hfy:=HB.out.frozen s
   have i1:IntKind.i64.wrap ((s:Int)+1 - 1)=(s:Int):=by rw[Int.add_sub_cancel];exact IntWalk.i64_in _ (by omega)
   have i2:IntKind.i64.wrap (s:Int)=(s:Int):=IntWalk.i64_in _ (by omega)
   have i3:(0:Int)≤(s:Int):=by omega
   have i4:(s:Int)<13:=by omega
   clear e hy HG3 HG4
   go_wp2_with fail
   refine(Dj x.val m HM.out.symm v 0 HV.out S cc _ HBS.out).mono ?_
   rintro e w3 ⟨rfl,rfl⟩
   go_wp2
   go_roundw
   case rel=>exact⟨k+1,b.set s (v:Int),by omega,by go_num,by rw[List.length_set];exact HL.out,HE4.out,HB.out.set s (v:Int),At HG.out (Bl wr N s (.int .i64 (v:Int)))⟩
   case measure=>simp[intOf];omega
  ·have e:k=n:=by omega
   have e2:l.drop k=[]:=List.drop_eq_nil_of_le (by rw[←HN.out];omega)
   have e3:=HF.out
   rw[e2,fdFill]at e3
   exact absurd (Prod.mk.inj e3).1.symm HE0.out
theorem AcM (l:List Tf) (n:Nat) (hn:n=l.length) (E:Nat) (r:Rg) (hE:Br l=(E,r)) (A:Option Addr) (c:Nat) (w:World) (hA:Ts w w.heap.size l A c) (hi:isT 0 l=true) (q:Rg) (hf:fdFill z13 l=(0,numL q)) (hq:rdL (numL q)=q) (hv:Jm (numL q)=false):Calls Tryz.prog 73 #[.slice A n c] w fun e w'=>e= .returned (.tuple #[.agg #[.int .i64 r.t.ser, .int .i64 r.t.kind, .int .i64 r.t.frm, .int .i64 r.t.till, .int .i64 r.t.cls, .int .i64 r.t.card, .int .i64 r.t.seat, .int .i64 r.t.day, .int .i64 r.t.days, .int .i64 r.t.uses, .int .i64 r.t.epoch, .int .i64 r.key, .int .i64 r.left, .int .i64 r.inn, .int .i64 r.ver], .int .i64 (E:Int)])∧Below w.heap.size w w':=by
 obtain⟨rfl,rfl⟩:E=12∧r=Ah:=by have:=hE;rw[Br,if_neg (by rw[hi];decide),hf,if_neg (by simp),Pm,hq]at this;dsimp only at this;rw[if_pos hv]at this;exact⟨(Prod.mk.inj this).1.symm,(Prod.mk.inj this).2.symm⟩
 clear hE
 have hpos: ∀x∈numL q,0≤x:=fun x hx=>by have:=Hx l z13 (by decide) x;rw[hf]at this;exact this hx
 have HVN:=Lib.hid (show¬q.ver<1→ ¬3<q.ver→ ¬(q.ver<2∧0<q.t.card)→q.ver<3∧0<q.t.seat from fun d1 d2 d3=>by
  have k1:=hpos q.t.card (List.mem_of_getElem? (i:=7) rfl)
  have k2:=hpos q.t.seat (List.mem_of_getElem? (i:=8) rfl)
  have k3: ¬_:=fun h=>Bool.noConfusion ((hv.symm.trans ((Sc q).2 h)))
  omega)
 have HFILL:=Lib.hid hf
 clear hf hq hpos hv
 have HN:=Lib.hid hn
 have HA:=Lib.hid hA
 have HI:=Lib.hid hi
 clear hn hA hi
 have HR0:=Lib.hid (Am.new w Ah)
 have hl0:=Aa w #[.int .i64 0, .int .i64 0, .int .i64 0, .int .i64 0, .int .i64 0, .int .i64 0, .int .i64 0, .int .i64 0, .int .i64 0, .int .i64 0, .int .i64 0, .int .i64 0, .int .i64 0, .int .i64 0, .int .i64 0] 39
 have HB0:=Lib.hid hl0
 have HA0:=Lib.hid (HA.out.next hl0)
 have h63:n≤9223372036854775807:=by have h1:=HA.out.len;have h2:=HA.out.cap;have h3:=HN.out;omega
 clear hl0
 go_enter Tryz.func73, Tryz.ntmps73
 go_wp2_with fail
 refine(Fi l n HN.out true HI.out A c _ HA0.out).mono ?_
 rintro e w1 ⟨rfl,hb⟩
 have HR1:=Lib.hid (HR0.out.next hb)
 have HB1:=Lib.hid (HB0.out.trans (hb.mono HB0.out.size))
 have HA1:=Lib.hid (HA0.out.next hb)
 clear hb HR0 HB0 HA0
 go_wp2_with fail
 obtain⟨N,hNN⟩: ∃N,N=w1.heap.size:=⟨_,rfl⟩
 obtain⟨w2,hw2⟩: ∃w2,w2=w1.alloc (.cells #[.int .i64 0, .int .i64 0, .int .i64 0, .int .i64 0, .int .i64 0, .int .i64 0, .int .i64 0, .int .i64 0, .int .i64 0, .int .i64 0, .int .i64 0, .int .i64 0, .int .i64 0] 3):=⟨_,rfl⟩
 have HZ2:=Lib.hid (show Ef w2 N z13 by rw[hw2,hNN];exact Kp w1 z13 #[.int .i64 0, .int .i64 0, .int .i64 0, .int .i64 0, .int .i64 0, .int .i64 0, .int .i64 0, .int .i64 0, .int .i64 0, .int .i64 0, .int .i64 0, .int .i64 0, .int .i64 0] rfl)
 have hl1:Below w1.heap.size w1 w2:=by rw[hw2];exact Aa w1 #[.int .i64 0, .int .i64 0, .int .i64 0, .int .i64 0, .int .i64 0, .int .i64 0, .int .i64 0, .int .i64 0, .int .i64 0, .int .i64 0, .int .i64 0, .int .i64 0, .int .i64 0] 3
 have HXW:=Lib.hid (show w.heap.size<N by rw[hNN];exact HR1.out.lt)
 have HR2:=Lib.hid (HR1.out.next hl1)
 have HB2:=Lib.hid (HB1.out.trans (hl1.mono HB1.out.size))
 have HA2:=Lib.hid (show Ts w2 N l A c by rw[hNN];exact HA1.out.below hl1)
 have hN2:=HZ2.out.lt
 rw[←hw2, ←hNN]
 clear hw2 hNN hl1 HR1 HB1 HA1
 go_loopw [5] (fun i wr=> ∃(k:Nat) (b:List Int),k≤n∧i= .int .i64 k∧b.length=13∧fdFill b (l.drop k)=(0,numL q)∧Ef wr N b∧w2.grownBy wr (some N)) (fun i _=>n - (intOf i).toNat)
 case atStart=>exact⟨0,z13,Nat.zero_le _,rfl,rfl,HFILL.out,HZ2.out,World.grownBy.refl _ _⟩
 case round=>
  obtain⟨k,b,hk,rfl,hbl,hfill,hbox,hg⟩:=hrel
  have HF:=Lib.hid hfill
  have HB:=Lib.hid hbox
  have HG:=Lib.hid hg
  have HL:=Lib.hid hbl
  have hsz:=hg.size
  have HRr:=Lib.hid (show Am wr w.heap.size Ah from(hg.block _ HR2.out.lt (by have:=HXW.out;simp;omega)).trans HR2.out)
  have HBr:=Lib.hid (HB2.out.trans (Aq hg (Nat.le_of_lt HXW.out) HB2.out.size))
  clear hfill hbox hg hbl
  by_cases hlt:k<n
  ·obtain⟨ad,S,cc,rfl,had,hk4⟩:=(HA2.out.below (Aq HG.out (Nat.le_refl _) (Nat.le_of_lt hN2))).rd k (by rw[←HN.out];exact hlt)
   have hc0:=hk4.c0
   have hc1:=hk4.c1
   have hcap:=hk4.bs.len
   have hcap2:=hk4.bs.cap
   have HKL:=Lib.hid (show k<l.length by rw[←HN.out];exact hlt)
   have h0:=Lb HI.out HKL.out
   have b1:(0:Int)≤(k:Int):=by omega
   have b2:(k:Int)<(n:Int):=by omega
   have F1:=Lib.hid (fun q=>Ew (a:=b) HKL.out q)
   have F2:=Lib.hid (fun q q2=>Cq (a:=b) HKL.out q q2)
   have F3:=Lib.hid (fun q2 (v E:Nat) hv hE=>Dz (a:=b) HKL.out q2 (v:=v) (E:=E) hv hE)
   have F4:=Lib.hid (fun q2 (v:Nat) hv=>Ex (a:=b) HKL.out q2 (v:=v) hv)
   obtain⟨x,hx⟩: ∃x,x=l.getD k TF0:=⟨_,rfl⟩
   rw[←hx]at hc0 hc1 hcap h0 F1 F2 F3 F4
   have HBS:=Lib.hid (show Bs wr wr.heap.size x.val S cc by rw[hx];exact hk4.bs.more (Nat.le_of_lt HB.out.lt))
   clear hx hk4
   by_cases q1:128≤x.tag
   ·have e:=F1.out q1
    rw[HF.out]at e
    obtain⟨e1,e2⟩:=Prod.mk.inj e
    exact absurd e1 (by decide)
   by_cases q2:13<x.tag
   ·have e:=F2.out q1 q2
    rw[HF.out]at e
    obtain⟨e1,e2⟩:=Prod.mk.inj e
    exact absurd e1 (by decide)
   obtain⟨s,hs⟩: ∃s:Nat,x.tag=(s:Int)+1:=⟨x.tag.toNat - 1,by omega⟩
   obtain⟨m,hm⟩: ∃m:Nat,x.val.length=m:=⟨_,rfl⟩
   obtain⟨v,Ev,hv⟩: ∃v Ev,Ib x.val=(v,Ev):=⟨_,_,rfl⟩
   have HV:=Lib.hid hv
   have HM:=Lib.hid hm
   have hs13:s<13:=by omega
   rw[hm]at hc1 hcap
   rw[hs]at hc0
   have G3:=F3.out q2 v Ev hv
   have G4:=F4.out q2 v
   rw[show x.tag.toNat - 1=s by omega]at G4
   have HG3:=Lib.hid G3
   have HG4:=Lib.hid G4
   have b3: ¬((128:Int)≤(s:Int)+1):=by omega
   have b4: ¬((13:Int)<(s:Int)+1):=by omega
   clear hv hm G3 G4 F1 F2 F3 F4 q1 q2 hs h0
   by_cases hE0:Ev=0
   rotate_left
   ·have e:=HG3.out hE0
    rw[HF.out]at e
    obtain⟨e1,e2⟩:=Prod.mk.inj e
    exact absurd e1.symm hE0
   subst hE0
   have e:=HG4.out HV.out
   rw[HF.out]at e
   have HE4:=Lib.hid e.symm
   obtain⟨y,hy⟩: ∃y,b[s]?=some y:=⟨_,List.getElem?_eq_getElem (by rw[HL.out];exact hs13)⟩
   have hcy:=HB.out.cell hy
   have hfy:=HB.out.frozen s
   have i1:IntKind.i64.wrap ((s:Int)+1 - 1)=(s:Int):=by rw[Int.add_sub_cancel];exact IntWalk.i64_in _ (by omega)
   have i2:IntKind.i64.wrap (s:Int)=(s:Int):=IntWalk.i64_in _ (by omega)
   have i3:(0:Int)≤(s:Int):=by omega
   have i4:(s:Int)<13:=by omega
   clear e hy HG3 HG4
   go_wp2_with fail
   refine(Dj x.val m HM.out.symm v 0 HV.out S cc _ HBS.out).mono ?_
   rintro e w3 ⟨rfl,rfl⟩
   go_wp2
   go_roundw
   case rel=>exact⟨k+1,b.set s (v:Int),by omega,by go_num,by rw[List.length_set];exact HL.out,HE4.out,HB.out.set s (v:Int),At HG.out (Bl wr N s (.int .i64 (v:Int)))⟩
   case measure=>simp[intOf];omega
  ·have e:k=n:=by omega
   have e2:l.drop k=[]:=List.drop_eq_nil_of_le (by rw[←HN.out];omega)
   have e3:=HF.out
   rw[e2,fdFill]at e3
   obtain⟨_,e4⟩:=Prod.mk.inj e3
   have HBq:Hid (Ef wr N (numL q)):=Lib.hid (by rw[←e4];exact HB.out)
   clear e2 e3 e4 HB HF hlt
   obtain⟨g0,g1,g2,g3,g4,g5,g6,g7,g8,g9,g10,g11,g12⟩:=HBq.out.cells
   by_cases d1:q.ver<1
   ·have t1:decide (q.ver<1)=true:=decide_eq_true (by omega)
    go_wp2_with ((with_reducible refine Ac 2 ?_);refine Al HRr.out Ai (Bh _ _ _ _ _ _ _ _ _ _ _ _ _ _ _) ?_)
    intro w9 hw9
    go_wp2
    refine bodyPost_ret (Ab Tryz.results73 _ w9 w.heap.size 39 #[.int .i64 0, .int .i64 0, .int .i64 0, .int .i64 0, .int .i64 0, .int .i64 0, .int .i64 0, .int .i64 0, .int .i64 0, .int .i64 0, .int .i64 0, .int .i64 0, .int .i64 0, .int .i64 0, .int .i64 0] (0,0) _ rfl (by rw[hw9.out];exact setRow_heap _ _ _ _ _ _ HRr.out) Tryz.underlying39 rfl Ai) rfl ⟨rfl, ?_⟩
    rw[hw9.out]
    exact below_setRow HBr.out (Nat.le_refl _) _
   by_cases d2:3<q.ver
   ·have t1:decide (q.ver<1)=false:=decide_eq_false (by omega)
    have t2:decide (3<q.ver)=true:=decide_eq_true (by omega)
    go_wp2_with ((with_reducible refine Ac 2 ?_);refine Al HRr.out Ai (Bh _ _ _ _ _ _ _ _ _ _ _ _ _ _ _) ?_)
    intro w9 hw9
    go_wp2
    refine bodyPost_ret (Ab Tryz.results73 _ w9 w.heap.size 39 #[.int .i64 0, .int .i64 0, .int .i64 0, .int .i64 0, .int .i64 0, .int .i64 0, .int .i64 0, .int .i64 0, .int .i64 0, .int .i64 0, .int .i64 0, .int .i64 0, .int .i64 0, .int .i64 0, .int .i64 0] (0,0) _ rfl (by rw[hw9.out];exact setRow_heap _ _ _ _ _ _ HRr.out) Tryz.underlying39 rfl Ai) rfl ⟨rfl, ?_⟩
    rw[hw9.out]
    exact below_setRow HBr.out (Nat.le_refl _) _
   by_cases d3:q.ver<2∧0<q.t.card
   ·have t1:decide (q.ver<1)=false:=decide_eq_false (by omega)
    have t2:decide (3<q.ver)=false:=decide_eq_false (by omega)
    have t3:decide (q.ver<2)=true:=decide_eq_true (by omega)
    have t4:decide (0<q.t.card)=true:=decide_eq_true (by omega)
    go_wp2_with ((with_reducible refine Ac 2 ?_);refine Al HRr.out Ai (Bh _ _ _ _ _ _ _ _ _ _ _ _ _ _ _) ?_)
    intro w9 hw9
    go_wp2
    refine bodyPost_ret (Ab Tryz.results73 _ w9 w.heap.size 39 #[.int .i64 0, .int .i64 0, .int .i64 0, .int .i64 0, .int .i64 0, .int .i64 0, .int .i64 0, .int .i64 0, .int .i64 0, .int .i64 0, .int .i64 0, .int .i64 0, .int .i64 0, .int .i64 0, .int .i64 0] (0,0) _ rfl (by rw[hw9.out];exact setRow_heap _ _ _ _ _ _ HRr.out) Tryz.underlying39 rfl Ai) rfl ⟨rfl, ?_⟩
    rw[hw9.out]
    exact below_setRow HBr.out (Nat.le_refl _) _
   have d4:q.ver<3∧0<q.t.seat:=HVN.out (by omega) (by omega) (by omega)
   by_cases d5:q.ver<2
   ·have t1:decide (q.ver<1)=false:=decide_eq_false (by omega)
    have t2:decide (3<q.ver)=false:=decide_eq_false (by omega)
    have t3:decide (q.ver<2)=true:=decide_eq_true (by omega)
    have t4:decide (0<q.t.card)=false:=decide_eq_false (by omega)
    have t5:decide (q.ver<3)=true:=decide_eq_true (by omega)
    have t6:decide (0<q.t.seat)=true:=decide_eq_true (by omega)
    go_wp2_with ((with_reducible refine Ac 2 ?_);refine Al HRr.out Ai (Bh _ _ _ _ _ _ _ _ _ _ _ _ _ _ _) ?_)
    intro w9 hw9
    go_wp2
    refine bodyPost_ret (Ab Tryz.results73 _ w9 w.heap.size 39 #[.int .i64 0, .int .i64 0, .int .i64 0, .int .i64 0, .int .i64 0, .int .i64 0, .int .i64 0, .int .i64 0, .int .i64 0, .int .i64 0, .int .i64 0, .int .i64 0, .int .i64 0, .int .i64 0, .int .i64 0] (0,0) _ rfl (by rw[hw9.out];exact setRow_heap _ _ _ _ _ _ HRr.out) Tryz.underlying39 rfl Ai) rfl ⟨rfl, ?_⟩
    rw[hw9.out]
    exact below_setRow HBr.out (Nat.le_refl _) _
   ·have t1:decide (q.ver<1)=false:=decide_eq_false (by omega)
    have t2:decide (3<q.ver)=false:=decide_eq_false (by omega)
    have t3:decide (q.ver<2)=false:=decide_eq_false (by omega)
    have t5:decide (q.ver<3)=true:=decide_eq_true (by omega)
    have t6:decide (0<q.t.seat)=true:=decide_eq_true (by omega)
    go_wp2_with ((with_reducible refine Ac 2 ?_);refine Al HRr.out Ai (Bh _ _ _ _ _ _ _ _ _ _ _ _ _ _ _) ?_)
    intro w9 hw9
    go_wp2
    refine bodyPost_ret (Ab Tryz.results73 _ w9 w.heap.size 39 #[.int .i64 0, .int .i64 0, .int .i64 0, .int .i64 0, .int .i64 0, .int .i64 0, .int .i64 0, .int .i64 0, .int .i64 0, .int .i64 0, .int .i64 0, .int .i64 0, .int .i64 0, .int .i64 0, .int .i64 0] (0,0) _ rfl (by rw[hw9.out];exact setRow_heap _ _ _ _ _ _ HRr.out) Tryz.underlying39 rfl Ai) rfl ⟨rfl, ?_⟩
    rw[hw9.out]
    exact below_setRow HBr.out (Nat.le_refl _) _
theorem Vv {l:List Tf} {q:Rg} (hi:isT 0 l=true) (hf:fdFill z13 l=(0,numL q)) (hq:rdL (numL q)=q) (hv:Jm (numL q)=true) (hr:Dp q=false):Br l=(9,Ah):=by
 rw[Br,if_neg (by rw[hi];decide),hf,if_neg (by simp),Pm,hq]
 dsimp only
 rw[if_neg (by rw[hv];decide),if_pos hr]
theorem zR {l:List Tf} {q:Rg} (hi:isT 0 l=true) (hf:fdFill z13 l=(0,numL q)) (hq:rdL (numL q)=q) (hv:Jm (numL q)=true) (hr:Dp q=true):Br l=(0,Fh q):=by
 rw[Br,if_neg (by rw[hi];decide),hf,if_neg (by simp),Pm,hq]
 dsimp only
 rw[if_neg (by rw[hv];decide),if_neg (by rw[hr];decide)]
theorem Sm {r:Rg} (h:okT (Fh r).t=false):Dp r=false:=iL (by rw[Uw];exact h)
theorem Pd {r:Rg} (h:r.t.kind=4∨r.t.uses=0) (h1:r.key≤99) (h2:okT (Fh r).t=true):Dp r=true:=aF h h1 (by rw[Uw];exact h2)
theorem Sn (D:Nat) (r:Rg) (a0 a1 a2 a3 a4 a5 a6 a7 a8 a9 a10 a11 a12 a13 a14:Int) (w:World) (hd:Am w D r): ∃W,W=(((((((((((((((w.setCell ⟨D,0,none⟩ (.int .i64 a0)).setCell ⟨D,1,none⟩ (.int .i64 a1)).setCell ⟨D,2,none⟩ (.int .i64 a2)).setCell ⟨D,3,none⟩ (.int .i64 a3)).setCell ⟨D,4,none⟩ (.int .i64 a4)).setCell ⟨D,5,none⟩ (.int .i64 a5)).setCell ⟨D,6,none⟩ (.int .i64 a6)).setCell ⟨D,7,none⟩ (.int .i64 a7)).setCell ⟨D,8,none⟩ (.int .i64 a8)).setCell ⟨D,9,none⟩ (.int .i64 a9)).setCell ⟨D,10,none⟩ (.int .i64 a10)).setCell ⟨D,11,none⟩ (.int .i64 a11)).setCell ⟨D,12,none⟩ (.int .i64 a12)).setCell ⟨D,13,none⟩ (.int .i64 a13)).setCell ⟨D,14,none⟩ (.int .i64 a14))∧W.heap[D]?=some (.cells #[.int .i64 a0, .int .i64 a1, .int .i64 a2, .int .i64 a3, .int .i64 a4, .int .i64 a5, .int .i64 a6, .int .i64 a7, .int .i64 a8, .int .i64 a9, .int .i64 a10, .int .i64 a11, .int .i64 a12, .int .i64 a13, .int .i64 a14] 39 (0,0))∧ ∀B,B≤D→Below B w W:=by
 have Hm:w.heap[D]?=some (.cells #[.int .i64 r.t.ser, .int .i64 r.t.kind, .int .i64 r.t.frm, .int .i64 r.t.till, .int .i64 r.t.cls, .int .i64 r.t.card, .int .i64 r.t.seat, .int .i64 r.t.day, .int .i64 r.t.days, .int .i64 r.t.uses, .int .i64 r.t.epoch, .int .i64 r.key, .int .i64 r.left, .int .i64 r.inn, .int .i64 r.ver] 39 (0,0)):=hd
 have Bm: ∀B,B≤D→Below B w w:=fun B _=>Below.refl B w
 obtain⟨W0,hW0⟩: ∃W,W=w.setCell ⟨D,0,none⟩ (.int .i64 a0):=⟨_,rfl⟩
 rw[←hW0]
 have H0:W0.heap[D]?=some (.cells #[.int .i64 a0, .int .i64 r.t.kind, .int .i64 r.t.frm, .int .i64 r.t.till, .int .i64 r.t.cls, .int .i64 r.t.card, .int .i64 r.t.seat, .int .i64 r.t.day, .int .i64 r.t.days, .int .i64 r.t.uses, .int .i64 r.t.epoch, .int .i64 r.key, .int .i64 r.left, .int .i64 r.inn, .int .i64 r.ver] 39 (0,0)):=by rw[hW0];exact heap_setCell_same w D 0 _ _ (.int .i64 a0) Hm
 have B0: ∀B,B≤D→Below B w W0:=fun B h=>by rw[hW0];exact(Bm B h).setCell (p:=⟨D,0,none⟩) h _
 obtain⟨W1,hW1⟩: ∃W,W=W0.setCell ⟨D,1,none⟩ (.int .i64 a1):=⟨_,rfl⟩
 rw[←hW1]
 have H1:W1.heap[D]?=some (.cells #[.int .i64 a0, .int .i64 a1, .int .i64 r.t.frm, .int .i64 r.t.till, .int .i64 r.t.cls, .int .i64 r.t.card, .int .i64 r.t.seat, .int .i64 r.t.day, .int .i64 r.t.days, .int .i64 r.t.uses, .int .i64 r.t.epoch, .int .i64 r.key, .int .i64 r.left, .int .i64 r.inn, .int .i64 r.ver] 39 (0,0)):=by rw[hW1];exact heap_setCell_same W0 D 1 _ _ (.int .i64 a1) H0
 have B1: ∀B,B≤D→Below B w W1:=fun B h=>by rw[hW1];exact(B0 B h).setCell (p:=⟨D,1,none⟩) h _
 obtain⟨W2,hW2⟩: ∃W,W=W1.setCell ⟨D,2,none⟩ (.int .i64 a2):=⟨_,rfl⟩
 rw[←hW2]
 have H2:W2.heap[D]?=some (.cells #[.int .i64 a0, .int .i64 a1, .int .i64 a2, .int .i64 r.t.till, .int .i64 r.t.cls, .int .i64 r.t.card, .int .i64 r.t.seat, .int .i64 r.t.day, .int .i64 r.t.days, .int .i64 r.t.uses, .int .i64 r.t.epoch, .int .i64 r.key, .int .i64 r.left, .int .i64 r.inn, .int .i64 r.ver] 39 (0,0)):=by rw[hW2];exact heap_setCell_same W1 D 2 _ _ (.int .i64 a2) H1
 have B2: ∀B,B≤D→Below B w W2:=fun B h=>by rw[hW2];exact(B1 B h).setCell (p:=⟨D,2,none⟩) h _
 obtain⟨W3,hW3⟩: ∃W,W=W2.setCell ⟨D,3,none⟩ (.int .i64 a3):=⟨_,rfl⟩
 rw[←hW3]
 have H3:W3.heap[D]?=some (.cells #[.int .i64 a0, .int .i64 a1, .int .i64 a2, .int .i64 a3, .int .i64 r.t.cls, .int .i64 r.t.card, .int .i64 r.t.seat, .int .i64 r.t.day, .int .i64 r.t.days, .int .i64 r.t.uses, .int .i64 r.t.epoch, .int .i64 r.key, .int .i64 r.left, .int .i64 r.inn, .int .i64 r.ver] 39 (0,0)):=by rw[hW3];exact heap_setCell_same W2 D 3 _ _ (.int .i64 a3) H2
 have B3: ∀B,B≤D→Below B w W3:=fun B h=>by rw[hW3];exact(B2 B h).setCell (p:=⟨D,3,none⟩) h _
 obtain⟨W4,hW4⟩: ∃W,W=W3.setCell ⟨D,4,none⟩ (.int .i64 a4):=⟨_,rfl⟩
 rw[←hW4]
 have H4:W4.heap[D]?=some (.cells #[.int .i64 a0, .int .i64 a1, .int .i64 a2, .int .i64 a3, .int .i64 a4, .int .i64 r.t.card, .int .i64 r.t.seat, .int .i64 r.t.day, .int .i64 r.t.days, .int .i64 r.t.uses, .int .i64 r.t.epoch, .int .i64 r.key, .int .i64 r.left, .int .i64 r.inn, .int .i64 r.ver] 39 (0,0)):=by rw[hW4];exact heap_setCell_same W3 D 4 _ _ (.int .i64 a4) H3
 have B4: ∀B,B≤D→Below B w W4:=fun B h=>by rw[hW4];exact(B3 B h).setCell (p:=⟨D,4,none⟩) h _
 obtain⟨W5,hW5⟩: ∃W,W=W4.setCell ⟨D,5,none⟩ (.int .i64 a5):=⟨_,rfl⟩
 rw[←hW5]
 have H5:W5.heap[D]?=some (.cells #[.int .i64 a0, .int .i64 a1, .int .i64 a2, .int .i64 a3, .int .i64 a4, .int .i64 a5, .int .i64 r.t.seat, .int .i64 r.t.day, .int .i64 r.t.days, .int .i64 r.t.uses, .int .i64 r.t.epoch, .int .i64 r.key, .int .i64 r.left, .int .i64 r.inn, .int .i64 r.ver] 39 (0,0)):=by rw[hW5];exact heap_setCell_same W4 D 5 _ _ (.int .i64 a5) H4
 have B5: ∀B,B≤D→Below B w W5:=fun B h=>by rw[hW5];exact(B4 B h).setCell (p:=⟨D,5,none⟩) h _
 obtain⟨W6,hW6⟩: ∃W,W=W5.setCell ⟨D,6,none⟩ (.int .i64 a6):=⟨_,rfl⟩
 rw[←hW6]
 have H6:W6.heap[D]?=some (.cells #[.int .i64 a0, .int .i64 a1, .int .i64 a2, .int .i64 a3, .int .i64 a4, .int .i64 a5, .int .i64 a6, .int .i64 r.t.day, .int .i64 r.t.days, .int .i64 r.t.uses, .int .i64 r.t.epoch, .int .i64 r.key, .int .i64 r.left, .int .i64 r.inn, .int .i64 r.ver] 39 (0,0)):=by rw[hW6];exact heap_setCell_same W5 D 6 _ _ (.int .i64 a6) H5
 have B6: ∀B,B≤D→Below B w W6:=fun B h=>by rw[hW6];exact(B5 B h).setCell (p:=⟨D,6,none⟩) h _
 obtain⟨W7,hW7⟩: ∃W,W=W6.setCell ⟨D,7,none⟩ (.int .i64 a7):=⟨_,rfl⟩
 rw[←hW7]
 have H7:W7.heap[D]?=some (.cells #[.int .i64 a0, .int .i64 a1, .int .i64 a2, .int .i64 a3, .int .i64 a4, .int .i64 a5, .int .i64 a6, .int .i64 a7, .int .i64 r.t.days, .int .i64 r.t.uses, .int .i64 r.t.epoch, .int .i64 r.key, .int .i64 r.left, .int .i64 r.inn, .int .i64 r.ver] 39 (0,0)):=by rw[hW7];exact heap_setCell_same W6 D 7 _ _ (.int .i64 a7) H6
 have B7: ∀B,B≤D→Below B w W7:=fun B h=>by rw[hW7];exact(B6 B h).setCell (p:=⟨D,7,none⟩) h _
 obtain⟨W8,hW8⟩: ∃W,W=W7.setCell ⟨D,8,none⟩ (.int .i64 a8):=⟨_,rfl⟩
 rw[←hW8]
 have H8:W8.heap[D]?=some (.cells #[.int .i64 a0, .int .i64 a1, .int .i64 a2, .int .i64 a3, .int .i64 a4, .int .i64 a5, .int .i64 a6, .int .i64 a7, .int .i64 a8, .int .i64 r.t.uses, .int .i64 r.t.epoch, .int .i64 r.key, .int .i64 r.left, .int .i64 r.inn, .int .i64 r.ver] 39 (0,0)):=by rw[hW8];exact heap_setCell_same W7 D 8 _ _ (.int .i64 a8) H7
 have B8: ∀B,B≤D→Below B w W8:=fun B h=>by rw[hW8];exact(B7 B h).setCell (p:=⟨D,8,none⟩) h _
 obtain⟨W9,hW9⟩: ∃W,W=W8.setCell ⟨D,9,none⟩ (.int .i64 a9):=⟨_,rfl⟩
 rw[←hW9]
 have H9:W9.heap[D]?=some (.cells #[.int .i64 a0, .int .i64 a1, .int .i64 a2, .int .i64 a3, .int .i64 a4, .int .i64 a5, .int .i64 a6, .int .i64 a7, .int .i64 a8, .int .i64 a9, .int .i64 r.t.epoch, .int .i64 r.key, .int .i64 r.left, .int .i64 r.inn, .int .i64 r.ver] 39 (0,0)):=by rw[hW9];exact heap_setCell_same W8 D 9 _ _ (.int .i64 a9) H8
 have B9: ∀B,B≤D→Below B w W9:=fun B h=>by rw[hW9];exact(B8 B h).setCell (p:=⟨D,9,none⟩) h _
 obtain⟨W10,hW10⟩: ∃W,W=W9.setCell ⟨D,10,none⟩ (.int .i64 a10):=⟨_,rfl⟩
 rw[←hW10]
 have H10:W10.heap[D]?=some (.cells #[.int .i64 a0, .int .i64 a1, .int .i64 a2, .int .i64 a3, .int .i64 a4, .int .i64 a5, .int .i64 a6, .int .i64 a7, .int .i64 a8, .int .i64 a9, .int .i64 a10, .int .i64 r.key, .int .i64 r.left, .int .i64 r.inn, .int .i64 r.ver] 39 (0,0)):=by rw[hW10];exact heap_setCell_same W9 D 10 _ _ (.int .i64 a10) H9
 have B10: ∀B,B≤D→Below B w W10:=fun B h=>by rw[hW10];exact(B9 B h).setCell (p:=⟨D,10,none⟩) h _
 obtain⟨W11,hW11⟩: ∃W,W=W10.setCell ⟨D,11,none⟩ (.int .i64 a11):=⟨_,rfl⟩
 rw[←hW11]
 have H11:W11.heap[D]?=some (.cells #[.int .i64 a0, .int .i64 a1, .int .i64 a2, .int .i64 a3, .int .i64 a4, .int .i64 a5, .int .i64 a6, .int .i64 a7, .int .i64 a8, .int .i64 a9, .int .i64 a10, .int .i64 a11, .int .i64 r.left, .int .i64 r.inn, .int .i64 r.ver] 39 (0,0)):=by rw[hW11];exact heap_setCell_same W10 D 11 _ _ (.int .i64 a11) H10
 have B11: ∀B,B≤D→Below B w W11:=fun B h=>by rw[hW11];exact(B10 B h).setCell (p:=⟨D,11,none⟩) h _
 obtain⟨W12,hW12⟩: ∃W,W=W11.setCell ⟨D,12,none⟩ (.int .i64 a12):=⟨_,rfl⟩
 rw[←hW12]
 have H12:W12.heap[D]?=some (.cells #[.int .i64 a0, .int .i64 a1, .int .i64 a2, .int .i64 a3, .int .i64 a4, .int .i64 a5, .int .i64 a6, .int .i64 a7, .int .i64 a8, .int .i64 a9, .int .i64 a10, .int .i64 a11, .int .i64 a12, .int .i64 r.inn, .int .i64 r.ver] 39 (0,0)):=by rw[hW12];exact heap_setCell_same W11 D 12 _ _ (.int .i64 a12) H11
 have B12: ∀B,B≤D→Below B w W12:=fun B h=>by rw[hW12];exact(B11 B h).setCell (p:=⟨D,12,none⟩) h _
 obtain⟨W13,hW13⟩: ∃W,W=W12.setCell ⟨D,13,none⟩ (.int .i64 a13):=⟨_,rfl⟩
 rw[←hW13]
 have H13:W13.heap[D]?=some (.cells #[.int .i64 a0, .int .i64 a1, .int .i64 a2, .int .i64 a3, .int .i64 a4, .int .i64 a5, .int .i64 a6, .int .i64 a7, .int .i64 a8, .int .i64 a9, .int .i64 a10, .int .i64 a11, .int .i64 a12, .int .i64 a13, .int .i64 r.ver] 39 (0,0)):=by rw[hW13];exact heap_setCell_same W12 D 13 _ _ (.int .i64 a13) H12
 have B13: ∀B,B≤D→Below B w W13:=fun B h=>by rw[hW13];exact(B12 B h).setCell (p:=⟨D,13,none⟩) h _
 obtain⟨W14,hW14⟩: ∃W,W=W13.setCell ⟨D,14,none⟩ (.int .i64 a14):=⟨_,rfl⟩
 rw[←hW14]
 have H14:W14.heap[D]?=some (.cells #[.int .i64 a0, .int .i64 a1, .int .i64 a2, .int .i64 a3, .int .i64 a4, .int .i64 a5, .int .i64 a6, .int .i64 a7, .int .i64 a8, .int .i64 a9, .int .i64 a10, .int .i64 a11, .int .i64 a12, .int .i64 a13, .int .i64 a14] 39 (0,0)):=by rw[hW14];exact heap_setCell_same W13 D 14 _ _ (.int .i64 a14) H13
 have B14: ∀B,B≤D→Below B w W14:=fun B h=>by rw[hW14];exact(B13 B h).setCell (p:=⟨D,14,none⟩) h _
 exact⟨_,rfl,H14,B14⟩
theorem AcN (l:List Tf) (n:Nat) (hn:n=l.length) (E:Nat) (r:Rg) (hE:Br l=(E,r)) (A:Option Addr) (c:Nat) (w:World) (hA:Ts w w.heap.size l A c) (hi:isT 0 l=true) (q:Rg) (hf:fdFill z13 l=(0,numL q)) (hq:rdL (numL q)=q) (hv:Jm (numL q)=true) (hk:q.t.kind=4) (hu:0<q.t.uses):Calls Tryz.prog 73 #[.slice A n c] w fun e w'=>e= .returned (.tuple #[.agg #[.int .i64 r.t.ser, .int .i64 r.t.kind, .int .i64 r.t.frm, .int .i64 r.t.till, .int .i64 r.t.cls, .int .i64 r.t.card, .int .i64 r.t.seat, .int .i64 r.t.day, .int .i64 r.t.days, .int .i64 r.t.uses, .int .i64 r.t.epoch, .int .i64 r.key, .int .i64 r.left, .int .i64 r.inn, .int .i64 r.ver], .int .i64 (E:Int)])∧Below w.heap.size w w':=by
 have hpos: ∀x∈numL q,0≤x:=fun x hx=>by have:=Hx l z13 (by decide) x;rw[hf]at this;exact this hx
 have HVY:=Lib.hid ((Sc q).1 hv)
 have HVX:=Lib.hid hv
 have k1:=hpos q.t.card (List.mem_of_getElem? (i:=7) rfl)
 have k2:=hpos q.t.seat (List.mem_of_getElem? (i:=8) rfl)
 have k3:=hpos q.t.uses (List.mem_of_getElem? (i:=11) rfl)
 have k4:=hpos q.key (List.mem_of_getElem? (i:=1) rfl)
 have k5:=hpos q.t.kind (List.mem_of_getElem? (i:=2) rfl)
 have HFILL:=Lib.hid hf
 have HE:=Lib.hid hE
 have HQ:=Lib.hid hq
 have HQL:=Lib.hid (show q.left=0∧q.inn=0 from⟨by rw[←hq];rfl,by rw[←hq];rfl⟩)
 have q4:(q.t.kind !=4)=false:=by rw[hk];rfl
 have t9:decide (0<q.t.uses)=true:=decide_eq_true (by omega)
 obtain⟨s,hs⟩: ∃s,s=Fh q:=⟨_,rfl⟩
 have HSS:=Lib.hid hs
 have q4s:(s.t.kind !=4)=false:=by rw[hs,Kn];exact q4
 have HS:=Lib.hid (show s=q by rw[hs,Fh,if_pos hk])
 have HK4:=Lib.hid (show q.t.kind=4∨q.t.uses=0 by omega)
 clear hf hq hpos hv hE hk hu hs
 have HN:=Lib.hid hn
 have HA:=Lib.hid hA
 have HI:=Lib.hid hi
 clear hn hA hi
 have HR0:=Lib.hid (Am.new w Ah)
 have hl0:=Aa w #[.int .i64 0, .int .i64 0, .int .i64 0, .int .i64 0, .int .i64 0, .int .i64 0, .int .i64 0, .int .i64 0, .int .i64 0, .int .i64 0, .int .i64 0, .int .i64 0, .int .i64 0, .int .i64 0, .int .i64 0] 39
 have HB0:=Lib.hid hl0
 have HA0:=Lib.hid (HA.out.next hl0)
 have h63:n≤9223372036854775807:=by have h1:=HA.out.len;have h2:=HA.out.cap;have h3:=HN.out;omega
 clear hl0
 go_enter Tryz.func73, Tryz.ntmps73
 go_wp2_with fail
 refine(Fi l n HN.out true HI.out A c _ HA0.out).mono ?_
 rintro e w1 ⟨rfl,hb⟩
 have HR1:=Lib.hid (HR0.out.next hb)
 have HB1:=Lib.hid (HB0.out.trans (hb.mono HB0.out.size))
 have HA1:=Lib.hid (HA0.out.next hb)
 clear hb HR0 HB0 HA0
 go_wp2_with fail
 obtain⟨N,hNN⟩: ∃N,N=w1.heap.size:=⟨_,rfl⟩
 obtain⟨w2,hw2⟩: ∃w2,w2=w1.alloc (.cells #[.int .i64 0, .int .i64 0, .int .i64 0, .int .i64 0, .int .i64 0, .int .i64 0, .int .i64 0, .int .i64 0, .int .i64 0, .int .i64 0, .int .i64 0, .int .i64 0, .int .i64 0] 3):=⟨_,rfl⟩
 have HZ2:=Lib.hid (show Ef w2 N z13 by rw[hw2,hNN];exact Kp w1 z13 #[.int .i64 0, .int .i64 0, .int .i64 0, .int .i64 0, .int .i64 0, .int .i64 0, .int .i64 0, .int .i64 0, .int .i64 0, .int .i64 0, .int .i64 0, .int .i64 0, .int .i64 0] rfl)
 have hl1:Below w1.heap.size w1 w2:=by rw[hw2];exact Aa w1 #[.int .i64 0, .int .i64 0, .int .i64 0, .int .i64 0, .int .i64 0, .int .i64 0, .int .i64 0, .int .i64 0, .int .i64 0, .int .i64 0, .int .i64 0, .int .i64 0, .int .i64 0] 3
 have HXW:=Lib.hid (show w.heap.size<N by rw[hNN];exact HR1.out.lt)
 have HR2:=Lib.hid (HR1.out.next hl1)
 have HB2:=Lib.hid (HB1.out.trans (hl1.mono HB1.out.size))
 have HA2:=Lib.hid (show Ts w2 N l A c by rw[hNN];exact HA1.out.below hl1)
 have hN2:=HZ2.out.lt
 rw[←hw2, ←hNN]
 clear hw2 hNN hl1 HR1 HB1 HA1
 go_loopw [5] (fun i wr=> ∃(k:Nat) (b:List Int),k≤n∧i= .int .i64 k∧b.length=13∧fdFill b (l.drop k)=(0,numL q)∧Ef wr N b∧w2.grownBy wr (some N)) (fun i _=>n - (intOf i).toNat)
 case atStart=>exact⟨0,z13,Nat.zero_le _,rfl,rfl,HFILL.out,HZ2.out,World.grownBy.refl _ _⟩
 case round=>
  obtain⟨k,b,hk,rfl,hbl,hfill,hbox,hg⟩:=hrel
  have HF:=Lib.hid hfill
  have HB:=Lib.hid hbox
  have HG:=Lib.hid hg
  have HL:=Lib.hid hbl
  have hsz:=hg.size
  have HRr:=Lib.hid (show Am wr w.heap.size Ah from(hg.block _ HR2.out.lt (by have:=HXW.out;simp;omega)).trans HR2.out)
  have HBr:=Lib.hid (HB2.out.trans (Aq hg (Nat.le_of_lt HXW.out) HB2.out.size))
  clear hfill hbox hg hbl
  by_cases hlt:k<n
  ·obtain⟨ad,S,cc,rfl,had,hk4⟩:=(HA2.out.below (Aq HG.out (Nat.le_refl _) (Nat.le_of_lt hN2))).rd k (by rw[←HN.out];exact hlt)
   have hc0:=hk4.c0
   have hc1:=hk4.c1
   have hcap:=hk4.bs.len
   have hcap2:=hk4.bs.cap
   have HKL:=Lib.hid (show k<l.length by rw[←HN.out];exact hlt)
   have h0:=Lb HI.out HKL.out
   have b1:(0:Int)≤(k:Int):=by omega
   have b2:(k:Int)<(n:Int):=by omega
   have F1:=Lib.hid (fun q=>Ew (a:=b) HKL.out q)
   have F2:=Lib.hid (fun q q2=>Cq (a:=b) HKL.out q q2)
   have F3:=Lib.hid (fun q2 (v E:Nat) hv hE=>Dz (a:=b) HKL.out q2 (v:=v) (E:=E) hv hE)
   have F4:=Lib.hid (fun q2 (v:Nat) hv=>Ex (a:=b) HKL.out q2 (v:=v) hv)
   obtain⟨x,hx⟩: ∃x,x=l.getD k TF0:=⟨_,rfl⟩
   rw[←hx]at hc0 hc1 hcap h0 F1 F2 F3 F4
   have HBS:=Lib.hid (show Bs wr wr.heap.size x.val S cc by rw[hx];exact hk4.bs.more (Nat.le_of_lt HB.out.lt))
   clear hx hk4
   by_cases q1:128≤x.tag
   ·have e:=F1.out q1
    rw[HF.out]at e
    obtain⟨e1,e2⟩:=Prod.mk.inj e
    exact absurd e1 (by decide)
   by_cases q2:13<x.tag
   ·have e:=F2.out q1 q2
    rw[HF.out]at e
    obtain⟨e1,e2⟩:=Prod.mk.inj e
    exact absurd e1 (by decide)
   obtain⟨s,hs⟩: ∃s:Nat,x.tag=(s:Int)+1:=⟨x.tag.toNat - 1,by omega⟩
   obtain⟨m,hm⟩: ∃m:Nat,x.val.length=m:=⟨_,rfl⟩
   obtain⟨v,Ev,hv⟩: ∃v Ev,Ib x.val=(v,Ev):=⟨_,_,rfl⟩
   have HV:=Lib.hid hv
   have HM:=Lib.hid hm
   have hs13:s<13:=by omega
   rw[hm]at hc1 hcap
   rw[hs]at hc0
   have G3:=F3.out q2 v Ev hv
   have G4:=F4.out q2 v
   rw[show x.tag.toNat - 1=s by omega]at G4
   have HG3:=Lib.hid G3
   have HG4:=Lib.hid G4
   have b3: ¬((128:Int)≤(s:Int)+1):=by omega
   have b4: ¬((13:Int)<(s:Int)+1):=by omega
   clear hv hm G3 G4 F1 F2 F3 F4 q1 q2 hs h0
   by_cases hE0:Ev=0
   rotate_left
   ·have e:=HG3.out hE0
    rw[HF.out]at e
    obtain⟨e1,e2⟩:=Prod.mk.inj e
    exact absurd e1.symm hE0
   subst hE0
   have e:=HG4.out HV.out
   rw[HF.out]at e
   have HE4:=Lib.hid e.symm
   obtain⟨y,hy⟩: ∃y,b[s]?=some y:=⟨_,List.getElem?_eq_getElem (by rw[HL.out];exact hs13)⟩
   have hcy:=HB.out.cell hy
   have hfy:=HB.out.frozen s
   have i1:IntKind.i64.wrap ((s:Int)+1 - 1)=(s:Int):=by rw[Int.add_sub_cancel];exact IntWalk.i64_in _ (by omega)
   have i2:IntKind.i64.wrap (s:Int)=(s:Int):=IntWalk.i64_in _ (by omega)
   have i3:(0:Int)≤(s:Int):=by omega
   have i4:(s:Int)<13:=by omega
   clear e hy HG3 HG4
   go_wp2_with fail
   refine(Dj x.val m HM.out.symm v 0 HV.out S cc _ HBS.out).mono ?_
   rintro e w3 ⟨rfl,rfl⟩
   go_wp2
   go_roundw
   case rel=>exact⟨k+1,b.set s (v:Int),by omega,by go_num,by rw[List.length_set];exact HL.out,HE4.out,HB.out.set s (v:Int),At HG.out (Bl wr N s (.int .i64 (v:Int)))⟩
   case measure=>simp[intOf];omega
  ·have e:k=n:=by omega
   have e2:l.drop k=[]:=List.drop_eq_nil_of_le (by rw[←HN.out];omega)
   have e3:=HF.out
   rw[e2,fdFill]at e3
   obtain⟨_,e4⟩:=Prod.mk.inj e3
   have HBq:Hid (Ef wr N (numL q)):=Lib.hid (by rw[←e4];exact HB.out)
   clear e2 e3 e4 HB HF hlt
   obtain⟨g0,g1,g2,g3,g4,g5,g6,g7,g8,g9,g10,g11,g12⟩:=HBq.out.cells
   subst e
   have HVV:=HVY.out
   go_upto_region 15 with fail
   go_cut [89]from 56 to 89 (fun b wx=>b= .bool false∧wr=wx)
   case first=>
    by_cases d5:q.ver<2
    ·have t1:decide (q.ver<1)=false:=decide_eq_false (by omega)
     have t2:decide (3<q.ver)=false:=decide_eq_false (by omega)
     have t3:decide (q.ver<2)=true:=decide_eq_true (by omega)
     have t4:decide (0<q.t.card)=false:=decide_eq_false (by omega)
     have t5:decide (q.ver<3)=true:=decide_eq_true (by omega)
     have t6:decide (0<q.t.seat)=false:=decide_eq_false (by omega)
     go_wp2_with fail
     go_meet
     exact⟨rfl,rfl⟩
    by_cases d6:q.ver<3
    ·have t1:decide (q.ver<1)=false:=decide_eq_false (by omega)
     have t2:decide (3<q.ver)=false:=decide_eq_false (by omega)
     have t3:decide (q.ver<2)=false:=decide_eq_false (by omega)
     have t5:decide (q.ver<3)=true:=decide_eq_true (by omega)
     have t6:decide (0<q.t.seat)=false:=decide_eq_false (by omega)
     go_wp2_with fail
     go_meet
     exact⟨rfl,rfl⟩
    ·have t1:decide (q.ver<1)=false:=decide_eq_false (by omega)
     have t2:decide (3<q.ver)=false:=decide_eq_false (by omega)
     have t3:decide (q.ver<2)=false:=decide_eq_false (by omega)
     have t5:decide (q.ver<3)=false:=decide_eq_false (by omega)
     go_wp2_with fail
     go_meet
     exact⟨rfl,rfl⟩
   case rest=>
    obtain⟨rfl,rfl⟩:=hcut
    go_wp2_with fail
    go_region_held3 (fun w'=>w'.cell? ⟨N,2,none⟩=some (.int .i64 q.t.kind)∧w'.cell? ⟨N,3,none⟩=some (.int .i64 q.t.ser)∧w'.cell? ⟨N,4,none⟩=some (.int .i64 q.t.frm)∧w'.cell? ⟨N,5,none⟩=some (.int .i64 q.t.till)∧w'.cell? ⟨N,6,none⟩=some (.int .i64 q.t.cls)∧w'.cell? ⟨N,7,none⟩=some (.int .i64 q.t.card)∧w'.cell? ⟨N,8,none⟩=some (.int .i64 q.t.seat)∧w'.cell? ⟨N,9,none⟩=some (.int .i64 q.t.day)∧w'.cell? ⟨N,10,none⟩=some (.int .i64 q.t.days)∧w'.cell? ⟨N,11,none⟩=some (.int .i64 q.t.uses)∧w'.cell? ⟨N,12,none⟩=some (.int .i64 q.t.epoch)) (first|exact⟨g2,g3,g4,g5,g6,g7,g8,g9,g10,g11,g12⟩|go_keep) (fail)
    rename_i hS3
    clear hS3 g0 g1 g2 g3 g4 g5 g6 g7 g8 g9 g10 g11 g12
    have HW4:Hid (Below wr.heap.size wr ((wr.alloc (.cells #[.int .i64 q.t.ser, .int .i64 q.t.kind, .int .i64 q.t.frm, .int .i64 q.t.till, .int .i64 q.t.cls, .int .i64 q.t.card, .int .i64 q.t.seat, .int .i64 q.t.day, .int .i64 q.t.days, .int .i64 q.t.uses, .int .i64 q.t.epoch] 37)).drew)):=Lib.hid (Ae ((Below.refl _ _).alloc (Nat.le_refl _) _) 1)
    have HT4:Hid (Cp ((wr.alloc (.cells #[.int .i64 q.t.ser, .int .i64 q.t.kind, .int .i64 q.t.frm, .int .i64 q.t.till, .int .i64 q.t.cls, .int .i64 q.t.card, .int .i64 q.t.seat, .int .i64 q.t.day, .int .i64 q.t.days, .int .i64 q.t.uses, .int .i64 q.t.epoch] 37)).drew) wr.heap.size q.t):=Lib.hid (Cp.new wr q.t)
    have HNY:=Lib.hid (show N<wr.heap.size from HBq.out.lt)
    have HRY:=Lib.hid (show w.heap.size<wr.heap.size from HRr.out.lt)
    obtain⟨w4,hw4⟩: ∃w4,w4=((wr.alloc (.cells #[.int .i64 q.t.ser, .int .i64 q.t.kind, .int .i64 q.t.frm, .int .i64 q.t.till, .int .i64 q.t.cls, .int .i64 q.t.card, .int .i64 q.t.seat, .int .i64 q.t.day, .int .i64 q.t.days, .int .i64 q.t.uses, .int .i64 q.t.epoch] 37)).drew):=⟨_,rfl⟩
    rw[←hw4]at HW4 HT4⊢
    have HR4:=Lib.hid (HRr.out.next HW4.out)
    have HB4:=Lib.hid (HBr.out.trans (HW4.out.mono HBr.out.size))
    have HN4:=Lib.hid (HBq.out.next HW4.out)
    obtain⟨Y,hY⟩: ∃Y,Y=wr.heap.size:=⟨_,rfl⟩
    rw[←hY]at HT4 HNY HRY⊢
    clear hw4 hY HW4 HRr HBr HBq
    obtain⟨c0,c1,c2,c3,c4,c5,c6,c7,c8,c9,c10⟩:=HT4.out.cells
    have HT5:=Lib.hid (show Cp w4 Y s.t by rw[HS.out];exact HT4.out)
    have HR5:=HR4
    have HB5:=HB4
    have HN5:=HN4
    obtain⟨g0,g1,g2,g3,g4,g5,g6,g7,g8,g9,g10,g11,g12⟩:=HN5.out.cells
    go_upto_region 20 with fail
    clear c0 c1 c2 c3 c4 c5 c6 c7 c8 c9 c10
    obtain⟨c0,c1,c2,c3,c4,c5,c6,c7,c8,c9,c10⟩:=HT5.out.cells
    by_cases hk9:99<q.key
    ·obtain⟨rfl,rfl⟩:E=9∧r=Ah:=by have:=HE.out;rw[Vv HI.out HFILL.out HQ.out HVX.out (Ns hk9)]at this;exact⟨(Prod.mk.inj this).1.symm,(Prod.mk.inj this).2.symm⟩
     have t7:decide (99<q.key)=true:=decide_eq_true hk9
     clear hk9
     go_wp2_with ((with_reducible refine Ac 2 ?_);refine Al HR5.out Ai (Bh _ _ _ _ _ _ _ _ _ _ _ _ _ _ _) ?_)
     intro w9 hw9
     go_wp2
     refine bodyPost_ret (Ab Tryz.results73 _ w9 w.heap.size 39 #[.int .i64 0, .int .i64 0, .int .i64 0, .int .i64 0, .int .i64 0, .int .i64 0, .int .i64 0, .int .i64 0, .int .i64 0, .int .i64 0, .int .i64 0, .int .i64 0, .int .i64 0, .int .i64 0, .int .i64 0] (0,0) _ rfl (by rw[hw9.out];exact setRow_heap _ _ _ _ _ _ HR5.out) Tryz.underlying39 rfl Ai) rfl ⟨rfl, ?_⟩
     rw[hw9.out]
     exact below_setRow HB5.out (Nat.le_refl _) _
    have t7:decide (99<q.key)=false:=decide_eq_false hk9
    cases ho:okT s.t with
    |false=>
     obtain⟨rfl,rfl⟩:E=9∧r=Ah:=by have:=HE.out;rw[Vv HI.out HFILL.out HQ.out HVX.out (Sm (by rw[←HSS.out];exact ho))]at this;exact⟨(Prod.mk.inj this).1.symm,(Prod.mk.inj this).2.symm⟩
     have HO:=Lib.hid ho
     clear ho
     go_wp2_with (first|(go_at_call 109;refine(Bf s.t _ HO.out _).mono ?_;rintro e w6 ⟨rfl,hb⟩;have HR6:=Lib.hid (HR5.out.next hb);have HB6:=Lib.hid (HB5.out.trans (hb.mono HB5.out.size));have HN6:=Lib.hid (HN5.out.next hb);have HT6:=Lib.hid (HT5.out.next hb);clear hb c0 c1 c2 c3 c4 c5 c6 c7 c8 c9 c10 g0 g1 g2 g3 g4 g5 g6 g7 g8 g9 g10 g11 g12;obtain⟨c0,c1,c2,c3,c4,c5,c6,c7,c8,c9,c10⟩:=HT6.out.cells;obtain⟨g0,g1,g2,g3,g4,g5,g6,g7,g8,g9,g10,g11,g12⟩:=HN6.out.cells)|((with_reducible refine Ac 2 ?_);refine Al HR6.out Ai (Bh _ _ _ _ _ _ _ _ _ _ _ _ _ _ _) ?_))
     intro w9 hw9
     go_wp2
     refine bodyPost_ret (Ab Tryz.results73 _ w9 w.heap.size 39 #[.int .i64 0, .int .i64 0, .int .i64 0, .int .i64 0, .int .i64 0, .int .i64 0, .int .i64 0, .int .i64 0, .int .i64 0, .int .i64 0, .int .i64 0, .int .i64 0, .int .i64 0, .int .i64 0, .int .i64 0] (0,0) _ rfl (by rw[hw9.out];exact setRow_heap _ _ _ _ _ _ HR6.out) Tryz.underlying39 rfl Ai) rfl ⟨rfl, ?_⟩
     rw[hw9.out]
     exact below_setRow HB6.out (Nat.le_refl _) _
    |true=>
     obtain⟨rfl,rfl⟩:E=0∧r=s:=by have:=HE.out;rw[zR HI.out HFILL.out HQ.out HVX.out (Pd HK4.out (by omega) (by rw[←HSS.out];exact ho)), ←HSS.out]at this;exact⟨(Prod.mk.inj this).1.symm,(Prod.mk.inj this).2.symm⟩
     have HRK:=Lib.hid (show r.key=q.key∧r.left=0∧r.inn=0∧r.ver=q.ver from by rw[HSS.out,Qw,Qv,Uz,Uy];exact⟨rfl,HQL.out.1,HQL.out.2,rfl⟩)
     have HO:=Lib.hid ho
     clear ho
     go_wp2_with (go_at_call 109;refine(Bf r.t _ HO.out _).mono ?_;rintro e w6 ⟨rfl,hb⟩;have HR6:=Lib.hid (HR5.out.next hb);have HB6:=Lib.hid (HB5.out.trans (hb.mono HB5.out.size));have HN6:=Lib.hid (HN5.out.next hb);have HT6:=Lib.hid (HT5.out.next hb);clear hb c0 c1 c2 c3 c4 c5 c6 c7 c8 c9 c10 g0 g1 g2 g3 g4 g5 g6 g7 g8 g9 g10 g11 g12;obtain⟨c0,c1,c2,c3,c4,c5,c6,c7,c8,c9,c10⟩:=HT6.out.cells;obtain⟨g0,g1,g2,g3,g4,g5,g6,g7,g8,g9,g10,g11,g12⟩:=HN6.out.cells)
     have hz:=HR6.out.cells
     have hfr:=HR6.out.frozen
     go_region
     go_wp2
     obtain⟨W,hW,z1,z2⟩:=Sn w.heap.size Ah r.t.ser r.t.kind r.t.frm r.t.till r.t.cls r.t.card r.t.seat r.t.day r.t.days r.t.uses r.t.epoch q.key 0 0 q.ver w6 HR6.out
     rw[←hW]
     refine bodyPost_ret (Ab Tryz.results73 _ W.drew w.heap.size 39 #[.int .i64 r.t.ser, .int .i64 r.t.kind, .int .i64 r.t.frm, .int .i64 r.t.till, .int .i64 r.t.cls, .int .i64 r.t.card, .int .i64 r.t.seat, .int .i64 r.t.day, .int .i64 r.t.days, .int .i64 r.t.uses, .int .i64 r.t.epoch, .int .i64 q.key, .int .i64 0, .int .i64 0, .int .i64 q.ver] (0,0) _ rfl z1 Tryz.underlying39 rfl Ai) rfl ⟨by rw[HRK.out.1,HRK.out.2.1,HRK.out.2.2.1,HRK.out.2.2.2];rfl, ?_⟩
     exact(HB6.out.trans ((z2 w.heap.size (Nat.le_refl _)))).drew
end Go.Proofs.YtmdbfogjfbbpjaaGreatDoor
