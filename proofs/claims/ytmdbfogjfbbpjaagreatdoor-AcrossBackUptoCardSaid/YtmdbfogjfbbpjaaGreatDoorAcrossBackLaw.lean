import Derived.Test.YtmdbfogjfbbpjaaGreatDoorAcrossCrossed
import Derived.Test.YtmdbfogjfbbpjaaGreatDoorTrackPGet
import Derived.Test.YtmdbfogjfbbpjaaGreatDoorRingAddMath
import Derived.Test.YtmdbfogjfbbpjaaGreatDoorOpenBs
import Derived.Test.YtmdbfogjfbbpjaaGreatDoorEqualBytes
import Derived.Deep.Grids
import Derived.JoinedCond
set_option maxHeartbeats 1600000
set_option maxRecDepth 100000
set_option linter.unusedVariables false
section
namespace Go.Proofs.YtmdbfogjfbbpjaaGreatDoor
open Go.ChangeShapes Go.WideShapes Go.ChangeAt Go.RowKit
theorem Aeh {r:Rg} (h:Hf r=true):Cl r.left∧Cl r.inn∧Cl r.key:=by
 obtain⟨h1,h2,h3,h4,_⟩:=(Cc r).1 h
 obtain⟨s1,s2,s3,s4⟩:=(cE _ _ _).1 h2
 obtain⟨hn,_,_,hu⟩:=(Dm r.t).1 h1
 have n3:=(Dc r.t).1 hn
 have hus:r.t.uses≤1000:=by
  rw[Fr]at hu
  split at hu
  ·simp at hu;omega
  ·have:r.t.uses=r.t.kind.tmod 3:=by simpa using hu
   rw[this]
   rcases(show r.t.kind=1∨r.t.kind=2∨r.t.kind=3∨r.t.kind=4 by omega)with e|e|e|e<;>rw[e]<;>decide
 unfold Cl
 omega
theorem rG (C:XC) (l:List K) (n:Nat) (hn:n=l.length) (hn3:n≤9223372036854775807) (A:Option Addr) (c:Nat) (b:List Nat) (m:Nat) (hm:m=b.length) (B:Option Addr) (d:Nat) (v k:Int) (hv:Cl v) (hk:Cl k) (h48:m≤1048576) (w:World) (hT:Cx w) (hA:Ks w w.heap.size A l) (hB:Bs w w.heap.size b B d):Calls Tryz.prog 5 #[.slice A n c, .slice B m d, .int .i64 v, .int .i64 k] w fun e w'=>e= .returned (.bool true)∧Below w.heap.size w w':=by
 have hm2:=hB.len
 have hm3:=hB.cap
 have hb256:=hB.lt
 have HN:=Lib.hid hn
 have HM:=Lib.hid hm
 have HT:=Lib.hid hT
 have HA:=Lib.hid hA
 have HB:=Lib.hid hB
 have HBT:=Lib.hid hb256
 clear hn hm hT hA hB hb256
 obtain⟨bb,hbb⟩: ∃bb,Ss l=bb:=⟨_,rfl⟩
 have HBB:=Lib.hid hbb
 clear hbb
 obtain⟨E,p,i,j,hE⟩: ∃E p i j,toB l b v k=(E,p,i,j):=⟨_,_,_,_,rfl⟩
 have HE:=Lib.hid hE
 clear hE
 have HBL:=Lib.hid (Below.refl w.heap.size w)
 go_enter Tryz.func5, Tryz.ntmps5
 go_wp2_with fail
 refine(C.tob l n b m A c B d v k E p i j w HN.out hn3 HM.out h48 hv hk HE.out HT.out HA.out HB.out).mono ?_
 rintro e w1 ⟨AP1,cP1,rfl,hs,hb⟩
 replace HT:=Lib.hid (HT.out.next hb)
 replace HA:=Lib.hid (HA.out.next hb)
 replace HB:=Lib.hid (HB.out.next hb)
 replace HBL:=Lib.hid (HBL.out.trans (hb.mono HBL.out.size))
 have P1:=Lib.hid hs
 clear hb hs
 go_wp2_with fail
 obtain⟨w2,hw⟩: ∃w2,w2=w1.alloc (.cells #[.int .i64 i, .int .i64 j] 26):=⟨_,rfl⟩
 rw[←hw]
 have hx:Cd w2 w1.heap.size i j:=by rw[hw];exact Cd.new w1 i j
 have hb:Below w1.heap.size w1 w2:=by rw[hw];exact Aa w1 _ _
 replace HT:=Lib.hid (HT.out.next hb)
 replace HA:=Lib.hid (HA.out.next hb)
 replace HB:=Lib.hid (HB.out.next hb)
 replace P1:=Lib.hid (P1.out.next hb)
 replace HBL:=Lib.hid (HBL.out.trans (hb.mono HBL.out.size))
 have J1:=Lib.hid hx
 clear hx hb hw
 obtain⟨B1,hB⟩: ∃B,B=w1.heap.size:=⟨_,rfl⟩
 rw[←hB]at J1⊢
 clear hB
 refine(Dd l n HN.out bb HBB.out A c w2 HA.out hn3).mono ?_
 rintro e w3 ⟨rfl,hb⟩
 replace HT:=Lib.hid (HT.out.next hb)
 replace HA:=Lib.hid (HA.out.next hb)
 replace HB:=Lib.hid (HB.out.next hb)
 replace P1:=Lib.hid (P1.out.next hb)
 replace J1:=Lib.hid (J1.out.next hb)
 replace HBL:=Lib.hid (HBL.out.trans (hb.mono HBL.out.size))
 clear hb
 cases bb
 rotate_left
 focus
  go_wp2_with fail
  refine(Az C w3 HT.out).mono ?_
  rintro e w4 ⟨rfl,hb⟩
  replace HT:=Lib.hid (HT.out.next hb)
  replace HA:=Lib.hid (HA.out.next hb)
  replace HB:=Lib.hid (HB.out.next hb)
  replace P1:=Lib.hid (P1.out.next hb)
  replace J1:=Lib.hid (J1.out.next hb)
  replace HBL:=Lib.hid (HBL.out.trans (hb.mono HBL.out.size))
  clear hb
  go_wp2
  go_ret
  exact⟨rfl,HBL.out⟩
 rotate_left
 focus
  by_cases q0:1000<m
  focus
   have p0:(1000:Int)<(m:Int):=by omega
   go_wp2_with fail
   refine(Az C w3 HT.out).mono ?_
   rintro e w4 ⟨rfl,hb⟩
   replace HT:=Lib.hid (HT.out.next hb)
   replace HA:=Lib.hid (HA.out.next hb)
   replace HB:=Lib.hid (HB.out.next hb)
   replace P1:=Lib.hid (P1.out.next hb)
   replace J1:=Lib.hid (J1.out.next hb)
   replace HBL:=Lib.hid (HBL.out.trans (hb.mono HBL.out.size))
   clear hb
   go_wp2
   go_ret
   exact⟨rfl,HBL.out⟩
  rotate_left
  focus
   have p0: ¬((1000:Int)<(m:Int)):=by omega
   by_cases h0:E≠0
   focus
    have s1:(E==0)=false:=by rw[beq_eq_false_iff_ne];exact h0
    have s2:(E !=0)=true:=by rw[bne_iff_ne];exact h0
    clear h0
    go_wp2_with fail
    refine(Az C w3 HT.out).mono ?_
    rintro e w4 ⟨rfl,hb⟩
    replace HT:=Lib.hid (HT.out.next hb)
    replace HA:=Lib.hid (HA.out.next hb)
    replace HB:=Lib.hid (HB.out.next hb)
    replace P1:=Lib.hid (P1.out.next hb)
    replace J1:=Lib.hid (J1.out.next hb)
    replace HBL:=Lib.hid (HBL.out.trans (hb.mono HBL.out.size))
    clear hb
    go_wp2
    go_ret
    exact⟨rfl,HBL.out⟩
   rotate_left
   focus
    obtain rfl:=Decidable.not_not.1 h0
    clear h0
    obtain⟨r,q,hr,hq,ho⟩:=Ae6 HBT.out HE.out
    obtain⟨r',hr',_,hi',hj'⟩:=dO HE.out
    obtain rfl:r=r':=(Prod.mk.inj (hr.symm.trans hr')).2
    have hin:=Aeh (iC HBT.out hr).1
    have HI:=Lib.hid (show Cl i∧Cl j∧Cl r.key by rw[hi',hj'];exact hin)
    have HR:=Lib.hid hr
    have HQ:=Lib.hid hq
    have hpl:p.length≤140737488355328:=by
     obtain⟨_,_,h2,_⟩:=dO HE.out
     have:=(Kq h2).2.2.2.2
     omega
    have HO:=Lib.hid ho
    clear hr hq ho hr' hi' hj' hin
    go_wp2_with fail
    refine(mO l n HN.out hn3 b m HM.out h48 A c B d 0 r HR.out w3 HT.out HA.out HB.out).mono ?_
    rintro e w4 ⟨rfl,hb⟩
    replace HT:=Lib.hid (HT.out.next hb)
    replace HA:=Lib.hid (HA.out.next hb)
    replace HB:=Lib.hid (HB.out.next hb)
    replace P1:=Lib.hid (P1.out.next hb)
    replace J1:=Lib.hid (J1.out.next hb)
    replace HBL:=Lib.hid (HBL.out.trans (hb.mono HBL.out.size))
    clear hb
    have J1a:=Lib.hid (J1.out.alloc (.cells #[.int .i64 r.t.ser, .int .i64 r.t.kind, .int .i64 r.t.frm, .int .i64 r.t.till, .int .i64 r.t.cls, .int .i64 r.t.card, .int .i64 r.t.seat, .int .i64 r.t.day, .int .i64 r.t.days, .int .i64 r.t.uses, .int .i64 r.t.epoch, .int .i64 r.key, .int .i64 r.left, .int .i64 r.inn, .int .i64 r.ver] 39))
    obtain⟨e0,e1⟩:=J1a.out.cells
    go_wp2_with fail
    obtain⟨w5,hw,hx,hb⟩:=El w4 r
    rw[←hw]
    clear e0 e1
    replace HT:=Lib.hid (HT.out.next hb)
    replace HA:=Lib.hid (HA.out.next hb)
    replace HB:=Lib.hid (HB.out.next hb)
    replace P1:=Lib.hid (P1.out.next hb)
    replace J1:=Lib.hid (J1.out.next hb)
    replace HBL:=Lib.hid (HBL.out.trans (hb.mono HBL.out.size))
    have X1:=Lib.hid hx
    clear hx hb hw
    obtain⟨B2,hB⟩: ∃B,B=w4.heap.size:=⟨_,rfl⟩
    rw[←hB]at X1⊢
    clear hB
    clear J1a
    refine(C.tos l n p p.length A c AP1 cP1 i j r.key 0 q w5 HN.out hn3 rfl hpl HI.out.1 HI.out.2.1 HI.out.2.2 HQ.out HT.out HA.out P1.out).mono ?_
    rintro e w6 ⟨AP2,cP2,rfl,hs,hb⟩
    replace HT:=Lib.hid (HT.out.next hb)
    replace HA:=Lib.hid (HA.out.next hb)
    replace HB:=Lib.hid (HB.out.next hb)
    replace P1:=Lib.hid (P1.out.next hb)
    replace J1:=Lib.hid (J1.out.next hb)
    replace X1:=Lib.hid (X1.out.next hb)
    replace HBL:=Lib.hid (HBL.out.trans (hb.mono HBL.out.size))
    have P2:=Lib.hid hs
    clear hb hs
    go_wp2_with fail
    refine(Az C w6 HT.out).mono ?_
    rintro e w7 ⟨rfl,hb⟩
    replace HT:=Lib.hid (HT.out.next hb)
    replace HA:=Lib.hid (HA.out.next hb)
    replace HB:=Lib.hid (HB.out.next hb)
    replace P1:=Lib.hid (P1.out.next hb)
    replace J1:=Lib.hid (J1.out.next hb)
    replace X1:=Lib.hid (X1.out.next hb)
    replace P2:=Lib.hid (P2.out.next hb)
    replace HBL:=Lib.hid (HBL.out.trans (hb.mono HBL.out.size))
    clear hb
    by_cases hqb:q=b
    focus
     subst hqb
     go_wp2_with fail
     refine(Iv q m q.length HM.out rfl B AP2 d cP2 w7 HB.out P2.out).mono ?_
     rintro e w8 ⟨rfl,hb⟩
     replace HT:=Lib.hid (HT.out.next hb)
     replace HA:=Lib.hid (HA.out.next hb)
     replace HB:=Lib.hid (HB.out.next hb)
     replace P1:=Lib.hid (P1.out.next hb)
     replace J1:=Lib.hid (J1.out.next hb)
     replace X1:=Lib.hid (X1.out.next hb)
     replace P2:=Lib.hid (P2.out.next hb)
     replace HBL:=Lib.hid (HBL.out.trans (hb.mono HBL.out.size))
     clear hb
     go_wp2
     go_ret
     exact⟨rfl,HBL.out⟩
    rotate_left
    focus
     have ht:(b==q)=false:=by rw[beq_eq_false_iff_ne];exact fun h=>hqb h.symm
     have HQT:=Lib.hid (HO.out.resolve_left hqb)
     have HTT:=Lib.hid ht
     clear hqb ht
     go_wp2_with fail
     refine(dF b q false HTT.out m q.length HM.out rfl B AP2 d cP2 w7 HB.out P2.out).mono ?_
     rintro e w8 ⟨rfl,hb⟩
     replace HT:=Lib.hid (HT.out.next hb)
     replace HA:=Lib.hid (HA.out.next hb)
     replace HB:=Lib.hid (HB.out.next hb)
     replace P1:=Lib.hid (P1.out.next hb)
     replace J1:=Lib.hid (J1.out.next hb)
     replace X1:=Lib.hid (X1.out.next hb)
     replace P2:=Lib.hid (P2.out.next hb)
     replace HBL:=Lib.hid (HBL.out.trans (hb.mono HBL.out.size))
     clear hb
     go_wp2_with fail
     refine(Zz b m HM.out h48 B d w8 HB.out).mono ?_
     rintro e w9 ⟨AP3,cP3,rfl,hs,hb⟩
     replace HT:=Lib.hid (HT.out.next hb)
     replace HA:=Lib.hid (HA.out.next hb)
     replace HB:=Lib.hid (HB.out.next hb)
     replace P1:=Lib.hid (P1.out.next hb)
     replace J1:=Lib.hid (J1.out.next hb)
     replace X1:=Lib.hid (X1.out.next hb)
     replace P2:=Lib.hid (P2.out.next hb)
     replace HBL:=Lib.hid (HBL.out.trans (hb.mono HBL.out.size))
     have P3:=Lib.hid hs
     clear hb hs
     rw[←HQT.out]at P3
     go_wp2_with fail
     refine(Iv q q.length m rfl (by rw[HQT.out,HM.out,Qq]) AP2 AP3 cP2 cP3 w9 P2.out P3.out).mono ?_
     rintro e w10 ⟨rfl,hb⟩
     replace HT:=Lib.hid (HT.out.next hb)
     replace HA:=Lib.hid (HA.out.next hb)
     replace HB:=Lib.hid (HB.out.next hb)
     replace P1:=Lib.hid (P1.out.next hb)
     replace J1:=Lib.hid (J1.out.next hb)
     replace X1:=Lib.hid (X1.out.next hb)
     replace P2:=Lib.hid (P2.out.next hb)
     replace P3:=Lib.hid (P3.out.next hb)
     replace HBL:=Lib.hid (HBL.out.trans (hb.mono HBL.out.size))
     clear hb
     go_wp2
     go_ret
     exact⟨rfl,HBL.out⟩
end Go.Proofs.YtmdbfogjfbbpjaaGreatDoor
end
section
namespace Go.Proofs.YtmdbfogjfbbpjaaGreatDoor
set_option maxRecDepth 100000
open Go.ChangeShapes Go.WideShapes Go.ChangeAt Go.RowKit
theorem Ac3 {H:Type} (d:DataW H):1≤Rows.uptoBulk d:=by
 cases d with
 |lit l=>cases l<;>simp[Rows.uptoBulk]
 |nil=>simp[Rows.uptoBulk]
 |ptr d=>simp[Rows.uptoBulk]
 |slice elems spare=>simp[Rows.uptoBulk]
 |agg parts=>simp[Rows.uptoBulk]
 |iface t d=>simp[Rows.uptoBulk]
 |map entries=>simp[Rows.uptoBulk]
 |held h=>simp[Rows.uptoBulk]
theorem nA {H:Type} : ∀l:List (DataW H),l.length≤Rows.uptoBulkAll l
 |[]=>by simp
 |x::r=>by
  have h1:=Ac3 x
  have h2:=nA r
  simp only[Rows.uptoBulkAll,List.length_cons]
  omega
theorem dL {H:Type} {d:DataW H} : ∀ {l:List (DataW H)},d∈l→Rows.uptoBulk d≤Rows.uptoBulkAll l
 |x::r,h=>by
  simp only[Rows.uptoBulkAll]
  rcases List.mem_cons.1 h with rfl|h
  ·omega
  ·have:=dL h
   omega
theorem rH {H:Type} {l:List (DataW H)} (hk:Rows.uptoSmall H l=true):Rows.uptoBulkAll l≤1048576:=of_decide_eq_true hk
section
variable {H:Type} {enc:TypeId × Value→H}
theorem gV {W:World} {r:Reach} {b0:Nat} {v:Value} {d:DataW H} {ps:List MemPlace} (hval:Value.okWide Tryz.prog W r b0 23 v) (hd:DataW.Trod enc Tryz.prog W 0 (fun _=>true) true 23 v d ps):
  ∃(A:Option Addr) (s:List Nat) (c:Nat),v= .slice A s.length c∧Bs W W.heap.size s A c∧s.length≤Rows.uptoBulk d:=by
 obtain⟨A,s,c,rfl,h⟩:=gS hval hd
 refine⟨A,s,c,rfl,h, ?_⟩
 obtain⟨fuel,hf⟩:=hd
 rcases open_ints Tryz.underlying23 Tryz.underlying5 Tryz.cellsU8 hf with⟨hcs,_⟩|⟨a,len',cap',zs,hcs,_,h1,h2,hz,hx,_,_⟩
 ·simp[Value.cells]at hcs
  have h0:s.length=0:=by simp[hcs]
  omega
 ·simp[Value.cells]at hcs
  obtain⟨_,h0,h3⟩:=hcs
  obtain⟨rfl,_⟩:=Prod.mk.inj hx
  simp at hz
  simp only[Rows.uptoBulk]
  refine Nat.le_trans ?_ (Nat.le_trans (nA _) (Nat.le_trans (Nat.le_add_right _ _) (Nat.le_add_right _ _)))
  simp[lits]
  omega
end
end Go.Proofs.YtmdbfogjfbbpjaaGreatDoor
end
