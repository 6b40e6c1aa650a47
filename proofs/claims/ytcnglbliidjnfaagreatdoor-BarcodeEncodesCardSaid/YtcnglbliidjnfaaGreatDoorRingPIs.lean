import Derived.Test.YtcnglbliidjnfaaGreatDoorRingIs
import Derived.Test.YtcnglbliidjnfaaGreatDoorMacTag
import Derived.RangeFuncNested
import Derived.RangeFuncBound
import Derived.RangeFuncLeaves
import Derived.Shelf.Abstract
import Derived.WalkKit
import Derived.OwnWalkIn
import Derived.TacticsInMore
import Derived.LoopNIn
import Derived.LoopIn
section
namespace Go.Proofs.YtcnglbliidjnfaaGreatDoor
set_option linter.unusedVariables false
open Go.ChangeShapes Go.WideShapes Go.ChangeAt Go.RowKit
def InBox (w:World) (b:Nat) (k:K) (S:Option Addr) (c:Nat):Prop:=
 w.cell? ⟨b,0,none⟩=some (.int .i64 k.id)∧w.cell? ⟨b,1,none⟩=some (.slice S k.sec.length c)∧w.cell? ⟨b,2,none⟩=some (.int .i64 k.frm)∧w.cell? ⟨b,3,none⟩=some (.int .i64 k.til)
theorem inBox_of {w:World} {b:Nat} {k:K} {S:Option Addr} {c:Nat} (h:w.heap[b]?=some (.cells #[.int .i64 k.id, .slice S k.sec.length c, .int .i64 k.frm, .int .i64 k.til] 48 (0,0))):InBox w b k S c:=
 ⟨by rw[cell_of_row w b 0 _ _ (0,0) h];rfl,by rw[cell_of_row w b 1 _ _ (0,0) h];rfl,by rw[cell_of_row w b 2 _ _ (0,0) h];rfl,by rw[cell_of_row w b 3 _ _ (0,0) h];rfl⟩
theorem InBox.below {w w':World} {b B:Nat} {k:K} {S:Option Addr} {c:Nat} (h:InBox w b k S c) (hb:b<B) (hB:Below B w w'):InBox w' b k S c:=
 ⟨(hB.cell (p:=⟨b,0,none⟩) hb).trans h.1,(hB.cell (p:=⟨b,1,none⟩) hb).trans h.2.1,(hB.cell (p:=⟨b,2,none⟩) hb).trans h.2.2.1,(hB.cell (p:=⟨b,3,none⟩) hb).trans h.2.2.2⟩
theorem pright_k (k:K) (n:Nat) (hn:n=k.sec.length) (b:Bool) (hb:k.right=b) (A:Option Addr) (c:Nat) (w:World) (h1:n≤9223372036854775807):
  Calls Tryz.prog 57 #[.agg #[.int .i64 k.id, .slice A n c, .int .i64 k.frm, .int .i64 k.til]] w fun e w'=>e= .returned (.bool b)∧Below w.heap.size w w':=by
 subst hb hn
 exact pright_any k.id k.frm k.til k.sec.length A c w h1
set_option maxRecDepth 20000 in
set_option maxHeartbeats 1600000 in
theorem pis_any (l:List K) (n:Nat) (hn:n=l.length) (A:Option Addr) (c:Nat) (w:World) (hA:Ks w w.heap.size A l) (h1:n≤9223372036854775807):
  Calls Tryz.prog 24 #[.slice A n c] w fun e w'=>e= .returned (.bool (isR l))∧Below w.heap.size w w':=by
 have HN:=Lib.hid hn
 clear hn
 go_enter Tryz.func24, Tryz.ntmps24
 go_wp2
 go_loopw [7] (fun i wr=> ∃k:Nat,k≤n∧i= .int .i64 k∧Below w.heap.size w wr∧ ∀j,j<k→goodAt l j=true) (fun i _=>n - (intOf i).toNat)
 case atStart=>exact⟨0,Nat.zero_le _,rfl,Below.refl _ _,by omega⟩
 case round=>
  obtain⟨k,hk,rfl,hbel,hall⟩:=hrel
  by_cases hlt:k<n
  ·have HA:=Lib.hid hA
   obtain⟨ad,S,cc,rfl,had,hk4⟩:=(hA.below hbel) k (by rw[←HN.out];exact hlt)
   have HLEN:=Lib.hid (Nat.le_trans hk4.bs.len hk4.bs.cap)
   have b1:(0:Int)≤(k:Int):=by omega
   have b2:(k:Int)<(n:Int):=by omega
   have HH:=Lib.hid hall
   have HBL:=Lib.hid hbel
   have hkl:k<l.length:=by rw[←HN.out];exact hlt
   have HKL:=Lib.hid hkl
   clear hall hA hkl hbel
   obtain⟨x,hx⟩: ∃x,x=l.getD k K0:=⟨_,rfl⟩
   rw[←hx]at hk4 HLEN
   have HX:=Lib.hid hx
   clear hx
   have hc0:=hk4.c0
   have hc1:=hk4.c1
   have hc2:=hk4.c2
   have hc3:=hk4.c3
   clear hk4
   have HBX0:Hid (Below w.heap.size w (wr.alloc (.cells #[.int .i64 x.id, .slice S x.sec.length cc, .int .i64 x.frm, .int .i64 x.til] 48))):=Lib.hid (HBL.out.trans ((below_lit wr _ _).mono HBL.out.size))
   have HBXw:Hid (InBox (wr.alloc (.cells #[.int .i64 x.id, .slice S x.sec.length cc, .int .i64 x.frm, .int .i64 x.til] 48)).drew wr.heap.size x S cc):=Lib.hid (inBox_of (heap_alloc_new wr _))
   have hlw:wr.heap.size<(wr.alloc (.cells #[.int .i64 x.id, .slice S x.sec.length cc, .int .i64 x.frm, .int .i64 x.til] 48)).drew.heap.size:=by show _<(wr.alloc _).heap.size;simp
   have HLW:=Lib.hid hlw
   clear hlw
   cases hr:x.right with
   |false=>
    have HIS:=Lib.hid (isR_false k HKL.out (by rw[goodAt, ←HX.out,hr,Bool.false_and]))
    have HRT:=Lib.hid hr
    have HS:=HBXw
    clear hr
    go_wp2
    refine wp_region_held_drew (S:=fun w'=>InBox w' wr.heap.size x S cc) (by kernel_rfl) HS.out (fun hHeld=> ?_)
    refine wpAnyH_take (i:=0) (oi:=⟨some 12,_,_,_,_,_⟩) (v:= ?_) rfl (by kernel_rfl) (by kernel_rfl) (by kernel_rfl) (fun _ _ _ h=>h) (Or.inl ⟨by rfl, ?_⟩) hHeld ?_
    rotate_left
    ·intro w hSw
     obtain⟨h0,h1,h2,h3⟩:=hSw
     go_simp
     first|done|with_reducible rfl
    try simp only[Act.put,List.setIfInBounds_toArray,List.set_cons_zero,List.set_cons_succ]
    refine wpAnyH_ready (rs:=[1]) (by kernel_rfl) (by simp) ?_
    refine AllReadyH.cons (o:=⟨some 13, .call _,_,_,_,_⟩) rfl (fun K hK=> ?_) AllReadyH.nil
    go_simp
    go_at_call 57
    refine(pright_k x x.sec.length rfl false HRT.out S cc (wr.alloc (.cells #[.int .i64 x.id, .slice S x.sec.length cc, .int .i64 x.frm, .int .i64 x.til] 48)).drew HLEN.out).mono ?_
    rintro e w3 ⟨rfl,hb3⟩
    go_wp2_with fail
    have HB3:=Lib.hid (HBX0.out.drew.trans (hb3.mono HBX0.out.drew.size))
    have HS3:=Lib.hid (HS.out.below HLW.out hb3)
    clear hb3
    refine hK.out _ _ HS3.out (fun hHeld=> ?_)
    clear hK K
    try simp only[Act.put,List.setIfInBounds_toArray,List.set_cons_zero,List.set_cons_succ]
    refine wpAnyH_take (i:=2) (oi:=⟨some 14,_,_,_,_,_⟩) (v:= ?_) rfl (by kernel_rfl) (by kernel_rfl) (by kernel_rfl) (fun _ _ _ h=>h) (Or.inl ⟨by rfl, ?_⟩) hHeld ?_
    rotate_left
    ·intro w hSw
     go_simp
     first|done|with_reducible rfl
    try simp only[Act.put,List.setIfInBounds_toArray,List.set_cons_zero,List.set_cons_succ]
    refine wpAnyH_take (i:=3) (oi:=⟨some 15,_,_,_,_,_⟩) (v:= ?_) rfl (by kernel_rfl) (by kernel_rfl) (by kernel_rfl) (fun _ _ _ h=>h) (Or.inl ⟨by rfl, ?_⟩) hHeld ?_
    rotate_left
    ·intro w hSw
     go_simp
     first|done|with_reducible rfl
    try simp only[Act.put,List.setIfInBounds_toArray,List.set_cons_zero,List.set_cons_succ]
    refine wpAnyH_take (i:=4) (oi:=⟨some 16,_,_,_,_,_⟩) (v:=undef) rfl (by kernel_rfl) (by kernel_rfl) (by kernel_rfl) (fun _ _ _ h=>h) (Or.inr ⟨by rfl,rfl⟩) hHeld ?_
    try simp only[Act.put,List.setIfInBounds_toArray,List.set_cons_zero,List.set_cons_succ]
    refine wpAnyH_take (i:=5) (oi:=⟨some 17,_,_,_,_,_⟩) (v:=undef) rfl (by kernel_rfl) (by kernel_rfl) (by kernel_rfl) (fun _ _ _ h=>h) (Or.inr ⟨by rfl,rfl⟩) hHeld ?_
    try simp only[Act.put,List.setIfInBounds_toArray,List.set_cons_zero,List.set_cons_succ]
    refine wpAnyH_take (i:=6) (oi:=⟨some 18,_,_,_,_,_⟩) (v:=undef) rfl (by kernel_rfl) (by kernel_rfl) (by kernel_rfl) (fun _ _ _ h=>h) (Or.inr ⟨by rfl,rfl⟩) hHeld ?_
    try simp only[Act.put,List.setIfInBounds_toArray,List.set_cons_zero,List.set_cons_succ]
    refine wpAnyH_take (i:=7) (oi:=⟨some 19,_,_,_,_,_⟩) (v:=undef) rfl (by kernel_rfl) (by kernel_rfl) (by kernel_rfl) (fun _ _ _ h=>h) (Or.inr ⟨by rfl,rfl⟩) hHeld ?_
    try simp only[Act.put,List.setIfInBounds_toArray,List.set_cons_zero,List.set_cons_succ]
    refine wpAnyH_take (i:=8) (oi:=⟨some 20,_,_,_,_,_⟩) (v:=undef) rfl (by kernel_rfl) (by kernel_rfl) (by kernel_rfl) (fun _ _ _ h=>h) (Or.inr ⟨by rfl,rfl⟩) hHeld ?_
    try simp only[Act.put,List.setIfInBounds_toArray,List.set_cons_zero,List.set_cons_succ]
    refine wpAnyH_take (i:=9) (oi:=⟨some 21,_,_,_,_,_⟩) (v:=undef) rfl (by kernel_rfl) (by kernel_rfl) (by kernel_rfl) (fun _ _ _ h=>h) (Or.inr ⟨by rfl,rfl⟩) hHeld ?_
    try simp only[Act.put,List.setIfInBounds_toArray,List.set_cons_zero,List.set_cons_succ]
    refine wpAnyH_take (i:=10) (oi:=⟨some 22,_,_,_,_,_⟩) (v:=undef) rfl (by kernel_rfl) (by kernel_rfl) (by kernel_rfl) (fun _ _ _ h=>h) (Or.inr ⟨by rfl,rfl⟩) hHeld ?_
    try simp only[Act.put,List.setIfInBounds_toArray,List.set_cons_zero,List.set_cons_succ]
    refine wpAnyH_take (i:=11) (oi:=⟨some 23,_,_,_,_,_⟩) (v:=undef) rfl (by kernel_rfl) (by kernel_rfl) (by kernel_rfl) (fun _ _ _ h=>h) (Or.inr ⟨by rfl,rfl⟩) hHeld ?_
    try simp only[Act.put,List.setIfInBounds_toArray,List.set_cons_zero,List.set_cons_succ]
    refine wpAnyH_take (i:=12) (oi:=⟨some 24,_,_,_,_,_⟩) (v:=undef) rfl (by kernel_rfl) (by kernel_rfl) (by kernel_rfl) (fun _ _ _ h=>h) (Or.inr ⟨by rfl,rfl⟩) hHeld ?_
    try simp only[Act.put,List.setIfInBounds_toArray,List.set_cons_zero,List.set_cons_succ]
    refine wpAnyH_take (i:=13) (oi:=⟨some 25,_,_,_,_,_⟩) (v:=undef) rfl (by kernel_rfl) (by kernel_rfl) (by kernel_rfl) (fun _ _ _ h=>h) (Or.inr ⟨by rfl,rfl⟩) hHeld ?_
    try simp only[Act.put,List.setIfInBounds_toArray,List.set_cons_zero,List.set_cons_succ]
    refine wpAnyH_take (i:=14) (oi:=⟨some 26,_,_,_,_,_⟩) (v:=undef) rfl (by kernel_rfl) (by kernel_rfl) (by kernel_rfl) (fun _ _ _ h=>h) (Or.inr ⟨by rfl,rfl⟩) hHeld ?_
    try simp only[Act.put,List.setIfInBounds_toArray,List.set_cons_zero,List.set_cons_succ]
    refine wpAnyH_take (i:=15) (oi:=⟨some 27,_,_,_,_,_⟩) (v:=undef) rfl (by kernel_rfl) (by kernel_rfl) (by kernel_rfl) (fun _ _ _ h=>h) (Or.inr ⟨by rfl,rfl⟩) hHeld ?_
    try simp only[Act.put,List.setIfInBounds_toArray,List.set_cons_zero,List.set_cons_succ]
    refine wpAnyH_take (i:=16) (oi:=⟨some 28,_,_,_,_,_⟩) (v:=undef) rfl (by kernel_rfl) (by kernel_rfl) (by kernel_rfl) (fun _ _ _ h=>h) (Or.inr ⟨by rfl,rfl⟩) hHeld ?_
    try simp only[Act.put,List.setIfInBounds_toArray,List.set_cons_zero,List.set_cons_succ]
    refine wpAnyH_take (i:=17) (oi:=⟨some 29,_,_,_,_,_⟩) (v:= ?_) rfl (by kernel_rfl) (by kernel_rfl) (by kernel_rfl) (fun _ _ _ h=>h) (Or.inl ⟨by rfl, ?_⟩) hHeld ?_
    rotate_left
    ·intro w hSw
     go_simp
     first|done|with_reducible rfl
    try simp only[Act.put,List.setIfInBounds_toArray,List.set_cons_zero,List.set_cons_succ]
    refine wpAnyH_done (by kernel_rfl) ?_ _
    go_wp2
    go_ret
    exact⟨by rw[HIS.out];rfl,HB3.out⟩
   |true=>
    have HRT:=Lib.hid hr
    clear hr
    by_cases h0:k=0
    ·have HG:=Lib.hid (show∀i,i<k+1→goodAt l i=true from by
      intro i hi
      have e:i=k:=by omega
      subst e
      subst h0
      rw[goodAt, ←HX.out,HRT.out];rfl)
     have HS:=HBXw
     have b3: ¬((0:Int)<(k:Int)):=by omega
     clear h0
     go_wp2
     refine wp_region_held_drew (S:=fun w'=>InBox w' wr.heap.size x S cc) (by kernel_rfl) HS.out (fun hHeld=> ?_)
     refine wpAnyH_take (i:=0) (oi:=⟨some 12,_,_,_,_,_⟩) (v:= ?_) rfl (by kernel_rfl) (by kernel_rfl) (by kernel_rfl) (fun _ _ _ h=>h) (Or.inl ⟨by rfl, ?_⟩) hHeld ?_
     rotate_left
     ·intro w hSw
      obtain⟨h0,h1,h2,h3⟩:=hSw
      go_simp
      first|done|with_reducible rfl
     try simp only[Act.put,List.setIfInBounds_toArray,List.set_cons_zero,List.set_cons_succ]
     refine wpAnyH_ready (rs:=[1]) (by kernel_rfl) (by simp) ?_
     refine AllReadyH.cons (o:=⟨some 13, .call _,_,_,_,_⟩) rfl (fun K hK=> ?_) AllReadyH.nil
     go_simp
     go_at_call 57
     refine(pright_k x x.sec.length rfl true HRT.out S cc (wr.alloc (.cells #[.int .i64 x.id, .slice S x.sec.length cc, .int .i64 x.frm, .int .i64 x.til] 48)).drew HLEN.out).mono ?_
     rintro e w3 ⟨rfl,hb3⟩
     go_wp2_with fail
     have HB3:=Lib.hid (HBX0.out.drew.trans (hb3.mono HBX0.out.drew.size))
     have HS3:=Lib.hid (HS.out.below HLW.out hb3)
     clear hb3
     refine hK.out _ _ HS3.out (fun hHeld=> ?_)
     clear hK K
     try simp only[Act.put,List.setIfInBounds_toArray,List.set_cons_zero,List.set_cons_succ]
     refine wpAnyH_take (i:=2) (oi:=⟨some 14,_,_,_,_,_⟩) (v:= ?_) rfl (by kernel_rfl) (by kernel_rfl) (by kernel_rfl) (fun _ _ _ h=>h) (Or.inl ⟨by rfl, ?_⟩) hHeld ?_
     rotate_left
     ·intro w hSw
      go_simp
      first|done|with_reducible rfl
     try simp only[Act.put,List.setIfInBounds_toArray,List.set_cons_zero,List.set_cons_succ]
     refine wpAnyH_take (i:=3) (oi:=⟨some 15,_,_,_,_,_⟩) (v:= ?_) rfl (by kernel_rfl) (by kernel_rfl) (by kernel_rfl) (fun _ _ _ h=>h) (Or.inl ⟨by rfl, ?_⟩) hHeld ?_
     rotate_left
     ·intro w hSw
      go_simp
      first|done|with_reducible rfl
     try simp only[Act.put,List.setIfInBounds_toArray,List.set_cons_zero,List.set_cons_succ]
     refine wpAnyH_take (i:=4) (oi:=⟨some 16,_,_,_,_,_⟩) (v:= ?_) rfl (by kernel_rfl) (by kernel_rfl) (by kernel_rfl) (fun _ _ _ h=>h) (Or.inl ⟨by rfl, ?_⟩) hHeld ?_
     rotate_left
     ·intro w hSw
      go_simp
      first|done|with_reducible rfl
     try simp only[Act.put,List.setIfInBounds_toArray,List.set_cons_zero,List.set_cons_succ]
     refine wpAnyH_take (i:=5) (oi:=⟨some 17,_,_,_,_,_⟩) (v:= .bool false) rfl (by kernel_rfl) (by kernel_rfl) (by kernel_rfl) (fun _ _ _ h=>h) (Or.inl ⟨by rfl, ?_⟩) hHeld ?_
     ·intro w hSw
      go_simp
      first|done|omega|(simp[b3];done)|(simp;omega)
     try simp only[Act.put,List.setIfInBounds_toArray,List.set_cons_zero,List.set_cons_succ]
     refine wpAnyH_take (i:=6) (oi:=⟨some 18,_,_,_,_,_⟩) (v:= ?_) rfl (by kernel_rfl) (by kernel_rfl) (by kernel_rfl) (fun _ _ _ h=>h) (Or.inl ⟨by rfl, ?_⟩) hHeld ?_
     rotate_left
     ·intro w hSw
      go_simp
      first|done|with_reducible rfl
     try simp only[Act.put,List.setIfInBounds_toArray,List.set_cons_zero,List.set_cons_succ]
     refine wpAnyH_take (i:=7) (oi:=⟨some 19,_,_,_,_,_⟩) (v:=undef) rfl (by kernel_rfl) (by kernel_rfl) (by kernel_rfl) (fun _ _ _ h=>h) (Or.inr ⟨by rfl,rfl⟩) hHeld ?_
     try simp only[Act.put,List.setIfInBounds_toArray,List.set_cons_zero,List.set_cons_succ]
     refine wpAnyH_take (i:=8) (oi:=⟨some 20,_,_,_,_,_⟩) (v:=undef) rfl (by kernel_rfl) (by kernel_rfl) (by kernel_rfl) (fun _ _ _ h=>h) (Or.inr ⟨by rfl,rfl⟩) hHeld ?_
     try simp only[Act.put,List.setIfInBounds_toArray,List.set_cons_zero,List.set_cons_succ]
     refine wpAnyH_take (i:=9) (oi:=⟨some 21,_,_,_,_,_⟩) (v:=undef) rfl (by kernel_rfl) (by kernel_rfl) (by kernel_rfl) (fun _ _ _ h=>h) (Or.inr ⟨by rfl,rfl⟩) hHeld ?_
     try simp only[Act.put,List.setIfInBounds_toArray,List.set_cons_zero,List.set_cons_succ]
     refine wpAnyH_take (i:=10) (oi:=⟨some 22,_,_,_,_,_⟩) (v:=undef) rfl (by kernel_rfl) (by kernel_rfl) (by kernel_rfl) (fun _ _ _ h=>h) (Or.inr ⟨by rfl,rfl⟩) hHeld ?_
     try simp only[Act.put,List.setIfInBounds_toArray,List.set_cons_zero,List.set_cons_succ]
     refine wpAnyH_take (i:=11) (oi:=⟨some 23,_,_,_,_,_⟩) (v:=undef) rfl (by kernel_rfl) (by kernel_rfl) (by kernel_rfl) (fun _ _ _ h=>h) (Or.inr ⟨by rfl,rfl⟩) hHeld ?_
     try simp only[Act.put,List.setIfInBounds_toArray,List.set_cons_zero,List.set_cons_succ]
     refine wpAnyH_take (i:=12) (oi:=⟨some 24,_,_,_,_,_⟩) (v:=undef) rfl (by kernel_rfl) (by kernel_rfl) (by kernel_rfl) (fun _ _ _ h=>h) (Or.inr ⟨by rfl,rfl⟩) hHeld ?_
     try simp only[Act.put,List.setIfInBounds_toArray,List.set_cons_zero,List.set_cons_succ]
     refine wpAnyH_take (i:=13) (oi:=⟨some 25,_,_,_,_,_⟩) (v:=undef) rfl (by kernel_rfl) (by kernel_rfl) (by kernel_rfl) (fun _ _ _ h=>h) (Or.inr ⟨by rfl,rfl⟩) hHeld ?_
     try simp only[Act.put,List.setIfInBounds_toArray,List.set_cons_zero,List.set_cons_succ]
     refine wpAnyH_take (i:=14) (oi:=⟨some 26,_,_,_,_,_⟩) (v:=undef) rfl (by kernel_rfl) (by kernel_rfl) (by kernel_rfl) (fun _ _ _ h=>h) (Or.inr ⟨by rfl,rfl⟩) hHeld ?_
     try simp only[Act.put,List.setIfInBounds_toArray,List.set_cons_zero,List.set_cons_succ]
     refine wpAnyH_take (i:=15) (oi:=⟨some 27,_,_,_,_,_⟩) (v:=undef) rfl (by kernel_rfl) (by kernel_rfl) (by kernel_rfl) (fun _ _ _ h=>h) (Or.inr ⟨by rfl,rfl⟩) hHeld ?_
     try simp only[Act.put,List.setIfInBounds_toArray,List.set_cons_zero,List.set_cons_succ]
     refine wpAnyH_take (i:=16) (oi:=⟨some 28,_,_,_,_,_⟩) (v:= ?_) rfl (by kernel_rfl) (by kernel_rfl) (by kernel_rfl) (fun _ _ _ h=>h) (Or.inl ⟨by rfl, ?_⟩) hHeld ?_
     rotate_left
     ·intro w hSw
      go_simp
      first|done|with_reducible rfl
     try simp only[Act.put,List.setIfInBounds_toArray,List.set_cons_zero,List.set_cons_succ]
     refine wpAnyH_take (i:=17) (oi:=⟨some 29,_,_,_,_,_⟩) (v:= ?_) rfl (by kernel_rfl) (by kernel_rfl) (by kernel_rfl) (fun _ _ _ h=>h) (Or.inl ⟨by rfl, ?_⟩) hHeld ?_
     rotate_left
     ·intro w hSw
      go_simp
      first|done|with_reducible rfl
     try simp only[Act.put,List.setIfInBounds_toArray,List.set_cons_zero,List.set_cons_succ]
     refine wpAnyH_done (by kernel_rfl) ?_ _
     go_wp2
     go_roundw
     case rel=>exact⟨k+1,by omega,by go_num,HB3.out,HG.out⟩
     case measure=>simp[intOf];omega
    ·obtain⟨j,hj⟩: ∃j,k=j+1:=⟨k - 1,by omega⟩
     obtain⟨ad',S',cc',e,_,hj4⟩:=(HA.out.below HBX0.out) j (by have:=HKL.out;omega)
     cases e
     obtain⟨y,hy⟩: ∃y,y=l.getD j K0:=⟨_,rfl⟩
     rw[←hy]at hj4
     have HY:=Lib.hid hy
     have HJ:=Lib.hid hj
     have HS:Hid (InBox (wr.alloc (.cells #[.int .i64 x.id, .slice S x.sec.length cc, .int .i64 x.frm, .int .i64 x.til] 48)).drew wr.heap.size x S cc∧KAt (wr.alloc (.cells #[.int .i64 x.id, .slice S x.sec.length cc, .int .i64 x.frm, .int .i64 x.til] 48)).drew w.heap.size (ad.add (j*4)) y S' cc'):=Lib.hid ⟨HBXw.out,hj4.below (by rw[add_block];exact Nat.lt_of_lt_of_le had HBX0.out.size) HBX0.out.size (Below.refl _ _).drew⟩
     have b3:(0:Int)<(k:Int):=by omega
     have hkj:(k:Int) - 1=(j:Int):=by omega
     have bj:(0:Int)≤(j:Int):=by omega
     have hwj:IntKind.i64.wrap (j:Int)=(j:Int):=IntWalk.i64_in _ (by omega)
     have bj2:(j:Int)<(n:Int):=by omega
     clear hj4 hy h0 hj
     by_cases hxy:x.id≤y.id
     ·have HIS:=Lib.hid (isR_false k HKL.out (by
       have e1:(decide (y.id<x.id))=false:=by simp;omega
       rw[goodAt,HJ.out,Nat.add_sub_cancel, ←HJ.out, ←HX.out, ←HY.out,e1,Bool.or_false]
       have e2:(k==0)=false:=by simp;omega
       rw[e2,Bool.and_false]))
      go_wp2
      refine wp_region_held_drew (S:=fun w'=>InBox w' wr.heap.size x S cc∧KAt w' w.heap.size (ad.add (j*4)) y S' cc') (by kernel_rfl) HS.out (fun hHeld=> ?_)
      refine wpAnyH_take (i:=0) (oi:=⟨some 12,_,_,_,_,_⟩) (v:= ?_) rfl (by kernel_rfl) (by kernel_rfl) (by kernel_rfl) (fun _ _ _ h=>h) (Or.inl ⟨by rfl, ?_⟩) hHeld ?_
      rotate_left
      ·intro w hSw
       obtain⟨⟨h0,h1,h2,h3⟩,_⟩:=hSw
       go_simp
       first|done|with_reducible rfl
      try simp only[Act.put,List.setIfInBounds_toArray,List.set_cons_zero,List.set_cons_succ]
      refine wpAnyH_ready (rs:=[1]) (by kernel_rfl) (by simp) ?_
      refine AllReadyH.cons (o:=⟨some 13, .call _,_,_,_,_⟩) rfl (fun K hK=> ?_) AllReadyH.nil
      go_simp
      go_at_call 57
      refine(pright_k x x.sec.length rfl true HRT.out S cc (wr.alloc (.cells #[.int .i64 x.id, .slice S x.sec.length cc, .int .i64 x.frm, .int .i64 x.til] 48)).drew HLEN.out).mono ?_
      rintro e w3 ⟨rfl,hb3⟩
      go_wp2_with fail
      have HB3:=Lib.hid (HBX0.out.drew.trans (hb3.mono HBX0.out.drew.size))
      have HS3:=Lib.hid (And.intro (HS.out.1.below HLW.out hb3) (HS.out.2.below (by rw[add_block];exact Nat.lt_of_lt_of_le had HBX0.out.drew.size) HBX0.out.drew.size hb3))
      clear hb3
      refine hK.out _ _ HS3.out (fun hHeld=> ?_)
      clear hK K
      try simp only[Act.put,List.setIfInBounds_toArray,List.set_cons_zero,List.set_cons_succ]
      refine wpAnyH_take (i:=2) (oi:=⟨some 14,_,_,_,_,_⟩) (v:= ?_) rfl (by kernel_rfl) (by kernel_rfl) (by kernel_rfl) (fun _ _ _ h=>h) (Or.inl ⟨by rfl, ?_⟩) hHeld ?_
      rotate_left
      ·intro w hSw
       go_simp
       first|done|with_reducible rfl
      try simp only[Act.put,List.setIfInBounds_toArray,List.set_cons_zero,List.set_cons_succ]
      refine wpAnyH_take (i:=3) (oi:=⟨some 15,_,_,_,_,_⟩) (v:= ?_) rfl (by kernel_rfl) (by kernel_rfl) (by kernel_rfl) (fun _ _ _ h=>h) (Or.inl ⟨by rfl, ?_⟩) hHeld ?_
      rotate_left
      ·intro w hSw
       go_simp
       first|done|with_reducible rfl
      try simp only[Act.put,List.setIfInBounds_toArray,List.set_cons_zero,List.set_cons_succ]
      refine wpAnyH_take (i:=4) (oi:=⟨some 16,_,_,_,_,_⟩) (v:= ?_) rfl (by kernel_rfl) (by kernel_rfl) (by kernel_rfl) (fun _ _ _ h=>h) (Or.inl ⟨by rfl, ?_⟩) hHeld ?_
      rotate_left
      ·intro w hSw
       go_simp
       first|done|with_reducible rfl
      try simp only[Act.put,List.setIfInBounds_toArray,List.set_cons_zero,List.set_cons_succ]
      refine wpAnyH_take (i:=5) (oi:=⟨some 17,_,_,_,_,_⟩) (v:= .bool true) rfl (by kernel_rfl) (by kernel_rfl) (by kernel_rfl) (fun _ _ _ h=>h) (Or.inl ⟨by rfl, ?_⟩) hHeld ?_
      ·intro w hSw
       go_simp
       first|done|omega|(simp[b3];done)|(simp;omega)
      try simp only[Act.put,List.setIfInBounds_toArray,List.set_cons_zero,List.set_cons_succ]
      refine wpAnyH_take (i:=6) (oi:=⟨some 18,_,_,_,_,_⟩) (v:= ?_) rfl (by kernel_rfl) (by kernel_rfl) (by kernel_rfl) (fun _ _ _ h=>h) (Or.inl ⟨by rfl, ?_⟩) hHeld ?_
      rotate_left
      ·intro w hSw
       go_simp
       first|done|with_reducible rfl
      try simp only[Act.put,List.setIfInBounds_toArray,List.set_cons_zero,List.set_cons_succ]
      refine wpAnyH_take (i:=7) (oi:=⟨some 19,_,_,_,_,_⟩) (v:= ?_) rfl (by kernel_rfl) (by kernel_rfl) (by kernel_rfl) (fun _ _ _ h=>h) (Or.inl ⟨by rfl, ?_⟩) hHeld ?_
      rotate_left
      ·intro w hSw
       go_simp
       first|done|with_reducible rfl
      try simp only[Act.put,List.setIfInBounds_toArray,List.set_cons_zero,List.set_cons_succ]
      refine wpAnyH_take (i:=8) (oi:=⟨some 20,_,_,_,_,_⟩) (v:= ?_) rfl (by kernel_rfl) (by kernel_rfl) (by kernel_rfl) (fun _ _ _ h=>h) (Or.inl ⟨by rfl, ?_⟩) hHeld ?_
      rotate_left
      ·intro w hSw
       go_simp
       first|done|with_reducible rfl
      try simp only[Act.put,List.setIfInBounds_toArray,List.set_cons_zero,List.set_cons_succ]
      refine wpAnyH_take (i:=9) (oi:=⟨some 21,_,_,_,_,_⟩) (v:= .int .i64 (j:Int)) rfl (by kernel_rfl) (by kernel_rfl) (by kernel_rfl) (fun _ _ _ h=>h) (Or.inl ⟨by rfl, ?_⟩) hHeld ?_
      ·intro w hSw
       go_simp
       first|done|omega|(simp[hkj,hwj];done)|(simp;omega)
      try simp only[Act.put,List.setIfInBounds_toArray,List.set_cons_zero,List.set_cons_succ]
      refine wpAnyH_take (i:=10) (oi:=⟨some 22,_,_,_,_,_⟩) (v:= ?_) rfl (by kernel_rfl) (by kernel_rfl) (by kernel_rfl) (fun _ _ _ h=>h) (Or.inl ⟨by rfl, ?_⟩) hHeld ?_
      rotate_left
      ·intro w hSw
       go_simp
       first|done|with_reducible rfl
      try simp only[Act.put,List.setIfInBounds_toArray,List.set_cons_zero,List.set_cons_succ]
      refine wpAnyH_take (i:=11) (oi:=⟨some 23,_,_,_,_,_⟩) (v:= ?_) rfl (by kernel_rfl) (by kernel_rfl) (by kernel_rfl) (fun _ _ _ h=>h) (Or.inl ⟨by rfl, ?_⟩) hHeld ?_
      rotate_left
      ·intro w hSw
       go_simp
       first|done|with_reducible rfl
      try simp only[Act.put,List.setIfInBounds_toArray,List.set_cons_zero,List.set_cons_succ]
      refine wpAnyH_take (i:=12) (oi:=⟨some 24,_,_,_,_,_⟩) (v:= ?_) rfl (by kernel_rfl) (by kernel_rfl) (by kernel_rfl) (fun _ _ _ h=>h) (Or.inl ⟨by rfl, ?_⟩) hHeld ?_
      rotate_left
      ·intro w hSw
       obtain⟨_,⟨k0,k1,k2,k3,_⟩⟩:=hSw
       go_simp
       first|done|with_reducible rfl
      try simp only[Act.put,List.setIfInBounds_toArray,List.set_cons_zero,List.set_cons_succ]
      refine wpAnyH_take (i:=13) (oi:=⟨some 25,_,_,_,_,_⟩) (v:= ?_) rfl (by kernel_rfl) (by kernel_rfl) (by kernel_rfl) (fun _ _ _ h=>h) (Or.inl ⟨by rfl, ?_⟩) hHeld ?_
      rotate_left
      ·intro w hSw
       go_simp
       first|done|with_reducible rfl
      try simp only[Act.put,List.setIfInBounds_toArray,List.set_cons_zero,List.set_cons_succ]
      refine wpAnyH_take (i:=14) (oi:=⟨some 26,_,_,_,_,_⟩) (v:= ?_) rfl (by kernel_rfl) (by kernel_rfl) (by kernel_rfl) (fun _ _ _ h=>h) (Or.inl ⟨by rfl, ?_⟩) hHeld ?_
      rotate_left
      ·intro w hSw
       obtain⟨⟨h0,h1,h2,h3⟩,_⟩:=hSw
       go_simp
       first|done|with_reducible rfl
      try simp only[Act.put,List.setIfInBounds_toArray,List.set_cons_zero,List.set_cons_succ]
      refine wpAnyH_take (i:=15) (oi:=⟨some 27,_,_,_,_,_⟩) (v:= .bool true) rfl (by kernel_rfl) (by kernel_rfl) (by kernel_rfl) (fun _ _ _ h=>h) (Or.inl ⟨by rfl, ?_⟩) hHeld ?_
      ·intro w hSw
       go_simp
       first|done|omega|(simp[hxy];done)|(simp;omega)
      try simp only[Act.put,List.setIfInBounds_toArray,List.set_cons_zero,List.set_cons_succ]
      refine wpAnyH_take (i:=16) (oi:=⟨some 28,_,_,_,_,_⟩) (v:= ?_) rfl (by kernel_rfl) (by kernel_rfl) (by kernel_rfl) (fun _ _ _ h=>h) (Or.inl ⟨by rfl, ?_⟩) hHeld ?_
      rotate_left
      ·intro w hSw
       go_simp
       first|done|with_reducible rfl
      try simp only[Act.put,List.setIfInBounds_toArray,List.set_cons_zero,List.set_cons_succ]
      refine wpAnyH_take (i:=17) (oi:=⟨some 29,_,_,_,_,_⟩) (v:= ?_) rfl (by kernel_rfl) (by kernel_rfl) (by kernel_rfl) (fun _ _ _ h=>h) (Or.inl ⟨by rfl, ?_⟩) hHeld ?_
      rotate_left
      ·intro w hSw
       go_simp
       first|done|with_reducible rfl
      try simp only[Act.put,List.setIfInBounds_toArray,List.set_cons_zero,List.set_cons_succ]
      refine wpAnyH_done (by kernel_rfl) ?_ _
      go_wp2
      go_ret
      exact⟨by rw[HIS.out];rfl,HB3.out⟩
     ·have HG:=Lib.hid (show∀i,i<k+1→goodAt l i=true from by
       intro i hi
       rcases Nat.lt_or_ge i k with h|h
       ·exact HH.out i h
       ·have e:i=k:=by omega
        subst e
        have e1:(decide (y.id<x.id))=true:=by simp;omega
        rw[goodAt,HJ.out,Nat.add_sub_cancel, ←HJ.out, ←HX.out, ←HY.out,HRT.out,e1,Bool.or_true];rfl)
      go_wp2
      refine wp_region_held_drew (S:=fun w'=>InBox w' wr.heap.size x S cc∧KAt w' w.heap.size (ad.add (j*4)) y S' cc') (by kernel_rfl) HS.out (fun hHeld=> ?_)
      refine wpAnyH_take (i:=0) (oi:=⟨some 12,_,_,_,_,_⟩) (v:= ?_) rfl (by kernel_rfl) (by kernel_rfl) (by kernel_rfl) (fun _ _ _ h=>h) (Or.inl ⟨by rfl, ?_⟩) hHeld ?_
      rotate_left
      ·intro w hSw
       obtain⟨⟨h0,h1,h2,h3⟩,_⟩:=hSw
       go_simp
       first|done|with_reducible rfl
      try simp only[Act.put,List.setIfInBounds_toArray,List.set_cons_zero,List.set_cons_succ]
      refine wpAnyH_ready (rs:=[1]) (by kernel_rfl) (by simp) ?_
      refine AllReadyH.cons (o:=⟨some 13, .call _,_,_,_,_⟩) rfl (fun K hK=> ?_) AllReadyH.nil
      go_simp
      go_at_call 57
      refine(pright_k x x.sec.length rfl true HRT.out S cc (wr.alloc (.cells #[.int .i64 x.id, .slice S x.sec.length cc, .int .i64 x.frm, .int .i64 x.til] 48)).drew HLEN.out).mono ?_
      rintro e w3 ⟨rfl,hb3⟩
      go_wp2_with fail
      have HB3:=Lib.hid (HBX0.out.drew.trans (hb3.mono HBX0.out.drew.size))
      have HS3:=Lib.hid (And.intro (HS.out.1.below HLW.out hb3) (HS.out.2.below (by rw[add_block];exact Nat.lt_of_lt_of_le had HBX0.out.drew.size) HBX0.out.drew.size hb3))
      clear hb3
      refine hK.out _ _ HS3.out (fun hHeld=> ?_)
      clear hK K
      try simp only[Act.put,List.setIfInBounds_toArray,List.set_cons_zero,List.set_cons_succ]
      refine wpAnyH_take (i:=2) (oi:=⟨some 14,_,_,_,_,_⟩) (v:= ?_) rfl (by kernel_rfl) (by kernel_rfl) (by kernel_rfl) (fun _ _ _ h=>h) (Or.inl ⟨by rfl, ?_⟩) hHeld ?_
      rotate_left
      ·intro w hSw
       go_simp
       first|done|with_reducible rfl
      try simp only[Act.put,List.setIfInBounds_toArray,List.set_cons_zero,List.set_cons_succ]
      refine wpAnyH_take (i:=3) (oi:=⟨some 15,_,_,_,_,_⟩) (v:= ?_) rfl (by kernel_rfl) (by kernel_rfl) (by kernel_rfl) (fun _ _ _ h=>h) (Or.inl ⟨by rfl, ?_⟩) hHeld ?_
      rotate_left
      ·intro w hSw
       go_simp
       first|done|with_reducible rfl
      try simp only[Act.put,List.setIfInBounds_toArray,List.set_cons_zero,List.set_cons_succ]
      refine wpAnyH_take (i:=4) (oi:=⟨some 16,_,_,_,_,_⟩) (v:= ?_) rfl (by kernel_rfl) (by kernel_rfl) (by kernel_rfl) (fun _ _ _ h=>h) (Or.inl ⟨by rfl, ?_⟩) hHeld ?_
      rotate_left
      ·intro w hSw
       go_simp
       first|done|with_reducible rfl
      try simp only[Act.put,List.setIfInBounds_toArray,List.set_cons_zero,List.set_cons_succ]
      refine wpAnyH_take (i:=5) (oi:=⟨some 17,_,_,_,_,_⟩) (v:= .bool true) rfl (by kernel_rfl) (by kernel_rfl) (by kernel_rfl) (fun _ _ _ h=>h) (Or.inl ⟨by rfl, ?_⟩) hHeld ?_
      ·intro w hSw
       go_simp
       first|done|omega|(simp[b3];done)|(simp;omega)
      try simp only[Act.put,List.setIfInBounds_toArray,List.set_cons_zero,List.set_cons_succ]
      refine wpAnyH_take (i:=6) (oi:=⟨some 18,_,_,_,_,_⟩) (v:= ?_) rfl (by kernel_rfl) (by kernel_rfl) (by kernel_rfl) (fun _ _ _ h=>h) (Or.inl ⟨by rfl, ?_⟩) hHeld ?_
      rotate_left
      ·intro w hSw
       go_simp
       first|done|with_reducible rfl
      try simp only[Act.put,List.setIfInBounds_toArray,List.set_cons_zero,List.set_cons_succ]
      refine wpAnyH_take (i:=7) (oi:=⟨some 19,_,_,_,_,_⟩) (v:= ?_) rfl (by kernel_rfl) (by kernel_rfl) (by kernel_rfl) (fun _ _ _ h=>h) (Or.inl ⟨by rfl, ?_⟩) hHeld ?_
      rotate_left
      ·intro w hSw
       go_simp
       first|done|with_reducible rfl
      try simp only[Act.put,List.setIfInBounds_toArray,List.set_cons_zero,List.set_cons_succ]
      refine wpAnyH_take (i:=8) (oi:=⟨some 20,_,_,_,_,_⟩) (v:= ?_) rfl (by kernel_rfl) (by kernel_rfl) (by kernel_rfl) (fun _ _ _ h=>h) (Or.inl ⟨by rfl, ?_⟩) hHeld ?_
      rotate_left
      ·intro w hSw
       go_simp
       first|done|with_reducible rfl
      try simp only[Act.put,List.setIfInBounds_toArray,List.set_cons_zero,List.set_cons_succ]
      refine wpAnyH_take (i:=9) (oi:=⟨some 21,_,_,_,_,_⟩) (v:= .int .i64 (j:Int)) rfl (by kernel_rfl) (by kernel_rfl) (by kernel_rfl) (fun _ _ _ h=>h) (Or.inl ⟨by rfl, ?_⟩) hHeld ?_
      ·intro w hSw
       go_simp
       first|done|omega|(simp[hkj,hwj];done)|(simp;omega)
      try simp only[Act.put,List.setIfInBounds_toArray,List.set_cons_zero,List.set_cons_succ]
      refine wpAnyH_take (i:=10) (oi:=⟨some 22,_,_,_,_,_⟩) (v:= ?_) rfl (by kernel_rfl) (by kernel_rfl) (by kernel_rfl) (fun _ _ _ h=>h) (Or.inl ⟨by rfl, ?_⟩) hHeld ?_
      rotate_left
      ·intro w hSw
       go_simp
       first|done|with_reducible rfl
      try simp only[Act.put,List.setIfInBounds_toArray,List.set_cons_zero,List.set_cons_succ]
      refine wpAnyH_take (i:=11) (oi:=⟨some 23,_,_,_,_,_⟩) (v:= ?_) rfl (by kernel_rfl) (by kernel_rfl) (by kernel_rfl) (fun _ _ _ h=>h) (Or.inl ⟨by rfl, ?_⟩) hHeld ?_
      rotate_left
      ·intro w hSw
       go_simp
       first|done|with_reducible rfl
      try simp only[Act.put,List.setIfInBounds_toArray,List.set_cons_zero,List.set_cons_succ]
      refine wpAnyH_take (i:=12) (oi:=⟨some 24,_,_,_,_,_⟩) (v:= ?_) rfl (by kernel_rfl) (by kernel_rfl) (by kernel_rfl) (fun _ _ _ h=>h) (Or.inl ⟨by rfl, ?_⟩) hHeld ?_
      rotate_left
      ·intro w hSw
       obtain⟨_,⟨k0,k1,k2,k3,_⟩⟩:=hSw
       go_simp
       first|done|with_reducible rfl
      try simp only[Act.put,List.setIfInBounds_toArray,List.set_cons_zero,List.set_cons_succ]
      refine wpAnyH_take (i:=13) (oi:=⟨some 25,_,_,_,_,_⟩) (v:= ?_) rfl (by kernel_rfl) (by kernel_rfl) (by kernel_rfl) (fun _ _ _ h=>h) (Or.inl ⟨by rfl, ?_⟩) hHeld ?_
      rotate_left
      ·intro w hSw
       go_simp
       first|done|with_reducible rfl
      try simp only[Act.put,List.setIfInBounds_toArray,List.set_cons_zero,List.set_cons_succ]
      refine wpAnyH_take (i:=14) (oi:=⟨some 26,_,_,_,_,_⟩) (v:= ?_) rfl (by kernel_rfl) (by kernel_rfl) (by kernel_rfl) (fun _ _ _ h=>h) (Or.inl ⟨by rfl, ?_⟩) hHeld ?_
      rotate_left
      ·intro w hSw
       obtain⟨⟨h0,h1,h2,h3⟩,_⟩:=hSw
       go_simp
       first|done|with_reducible rfl
      try simp only[Act.put,List.setIfInBounds_toArray,List.set_cons_zero,List.set_cons_succ]
      refine wpAnyH_take (i:=15) (oi:=⟨some 27,_,_,_,_,_⟩) (v:= .bool false) rfl (by kernel_rfl) (by kernel_rfl) (by kernel_rfl) (fun _ _ _ h=>h) (Or.inl ⟨by rfl, ?_⟩) hHeld ?_
      ·intro w hSw
       go_simp
       first|done|omega|(simp[hxy];done)|(simp;omega)
      try simp only[Act.put,List.setIfInBounds_toArray,List.set_cons_zero,List.set_cons_succ]
      refine wpAnyH_take (i:=16) (oi:=⟨some 28,_,_,_,_,_⟩) (v:= ?_) rfl (by kernel_rfl) (by kernel_rfl) (by kernel_rfl) (fun _ _ _ h=>h) (Or.inl ⟨by rfl, ?_⟩) hHeld ?_
      rotate_left
      ·intro w hSw
       go_simp
       first|done|with_reducible rfl
      try simp only[Act.put,List.setIfInBounds_toArray,List.set_cons_zero,List.set_cons_succ]
      refine wpAnyH_take (i:=17) (oi:=⟨some 29,_,_,_,_,_⟩) (v:= ?_) rfl (by kernel_rfl) (by kernel_rfl) (by kernel_rfl) (fun _ _ _ h=>h) (Or.inl ⟨by rfl, ?_⟩) hHeld ?_
      rotate_left
      ·intro w hSw
       go_simp
       first|done|with_reducible rfl
      try simp only[Act.put,List.setIfInBounds_toArray,List.set_cons_zero,List.set_cons_succ]
      refine wpAnyH_done (by kernel_rfl) ?_ _
      go_wp2
      go_roundw
      case rel=>exact⟨k+1,by omega,by go_num,HB3.out,HG.out⟩
      case measure=>simp[intOf];omega
  ·have e:k=n:=by omega
   have HB:=Lib.hid (isR_true.2 (by rw[←HN.out, ←e];exact hall))
   clear hall
   go_wp2
   go_ret
   exact⟨by rw[HB.out];rfl,hbel⟩
theorem pis_named (l:List K) (n:Nat) (hn:n=l.length) (b:Bool) (hb:isR l=b) (A:Option Addr) (c:Nat) (w:World) (hA:Ks w w.heap.size A l) (h1:n≤9223372036854775807):
  Calls Tryz.prog 24 #[.slice A n c] w fun e w'=>e= .returned (.bool b)∧Below w.heap.size w w':=by
 subst hb
 exact pis_any l n hn A c w hA h1
end Go.Proofs.YtcnglbliidjnfaaGreatDoor
end
section
namespace Go.Proofs.YtcnglbliidjnfaaGreatDoor
set_option linter.unusedVariables false
open Go.ChangeShapes Go.WideShapes Go.ChangeAt Go.RowKit Go.Shelf
attribute [local go_sem] Oper.semAt_some
def KV0:KV:=⟨K0,none,0⟩
def back (L:List KV) (k:Nat):Nat × KV:=(L.length - 1 - k,L.getD (L.length - 1 - k) KV0)
def upto (L:List KV) (k:Nat):List (Nat × KV):=(List.range k).map (back L)
theorem upto_succ (L:List KV) (k:Nat):upto L (k+1)=upto L k++ [back L k]:=by simp[upto,List.range_succ]
theorem upto_length (L:List KV) (k:Nat):(upto L k).length=k:=by simp[upto]
def encB (x:Nat × KV):Array Value:= #[.int .i64 (x.1:Int), .agg #[.int .i64 x.2.k.id, .slice x.2.S x.2.k.sec.length x.2.c, .int .i64 x.2.k.frm, .int .i64 x.2.k.til]]
theorem KVs.below {w w':World} {B:Nat} {A:Option Addr} {L:List KV} (h:KVs w B A L) (hb:Below B w w'):KVs w' B A L:=by
 intro i q hq
 obtain⟨ad,e,hlt,hk⟩:=h i q hq
 exact⟨ad,e,hlt,hk.below (by rw[add_block];exact hlt) (Nat.le_refl _) hb⟩
set_option maxRecDepth 100000 in
set_option maxHeartbeats 2000000 in
theorem back1_in (F : Fence) (n : Nat) (hf : F.fn 121) (hro : F.round = none) (hn : 1 ≤ n) (l Bx n₀ : Nat) (A : Option Addr) (m c : Nat) (L : List KV) (hm : m = L.length) (h100 : m ≤ 1000) (hBx : Bx < n₀) (J Jx : List (Nat × KV) → World → Prop)
    (hY : ∀ pre x W, J pre W → pre.length < m → YieldAt F (n - 1) Tryz.prog l (encB x) W fun e W' =>
      (e = .returned (.bool true) ∧ J (pre ++ [x]) W' ∧ Below n₀ W W') ∨ (e = .returned (.bool false) ∧ Jx (pre ++ [x]) W'))
    (W : World) (hc : W.cell? ⟨Bx, 0, none⟩ = some (.slice A m c)) (hL : KVs W n₀ A L) (h0 : J [] W) :
    CallsIn F n Tryz.prog 121 #[.func (.yield l) #[] #[], .pointer (some ⟨Bx, 0, none⟩)] W fun e W' => (∃ v, e = .returned v) ∧
      ((∃ ys, ys = upto L m ∧ J ys W') ∨ (∃ pre, (∃ k, k ≤ m ∧ pre = upto L k) ∧ Jx pre W')) := by
  have HM := Lib.hid hm
  have HL := Lib.hid hL
  have HC := Lib.hid hc
  clear hm hL
  refine callsIn_of_wp Tryz.func121 rfl hf ?_ hro
  simp only [Tryz.ntmps121, List.size_toArray, List.length_cons, List.length_nil, Nat.reduceAdd, Nat.reduceSub, Array.replicate_succ, Array.replicate_zero, List.push_toArray, List.append_toArray, List.nil_append, List.cons_append]
  gi_wp2
  gi_loopw [3] (fun i wr => ∃ k : Nat, k ≤ m ∧ i = .int .i64 ((m : Int) - 1 - k) ∧ J (upto L k) wr ∧ Below n₀ W wr)
    (fun i _ => (intOf i + 1).toNat)
  case atStart =>
    exact ⟨0, Nat.zero_le _, by go_num, h0, Below.refl _ _⟩
  case round =>
    obtain ⟨k, hk, rfl, hJs, hnx⟩ := hrel
    by_cases hlt : k < m
    · obtain ⟨j, hj⟩ : ∃ j : Nat, j = m - 1 - k := ⟨_, rfl⟩
      have e : (m : Int) - 1 - (k : Int) = (j : Int) := by omega
      rw [e]
      have hjl : j < L.length := by rw [← HM.out]; omega
      obtain ⟨ad, rfl, had, hk4⟩ := (HL.out.below hnx) j _ (List.getElem?_eq_getElem hjl)
      have hbk : back L k = (j, L[j]) := by
        have : L.length - 1 - k = j := by rw [← HM.out]; omega
        rw [back, this, List.getD_eq_getElem?_getD, List.getElem?_eq_getElem hjl]; rfl
      obtain ⟨fn, tmps, assign, body, hy, hR⟩ := hY _ (j, L[j]) wr hJs (by rw [upto_length]; exact hlt)
      have HBK := Lib.hid hbk
      generalize L[j] = x at *
      dsimp only [encB] at hy
      have hcx : wr.cell? ⟨Bx, 0, none⟩ = some (.slice (some ad) m c) := (hnx.cell (p := ⟨Bx, 0, none⟩) hBx).trans HC.out
      have hc0 := hk4.c0
      have hc1 := hk4.c1
      have hc2 := hk4.c2
      have hc3 := hk4.c3
      have b1 : (0 : Int) ≤ (j : Int) := by omega
      have b2 : (j : Int) < (m : Int) := by omega
      have HNX := Lib.hid hnx
      have HJ := Lib.hid hj
      clear hk4 hnx hbk hj e
      gi_wp2
      refine hR.mono ?_
      rintro e' W3 (⟨rfl, hJ3, hk3⟩ | ⟨rfl, hJx3⟩)
      · gi_wp2
        go_roundw
        case rel => exact ⟨k + 1, by omega, by have := HJ.out; go_num, by rw [upto_succ, HBK.out]; exact hJ3, HNX.out.trans hk3⟩
        case measure => have := HJ.out; simp [intOf] <;> omega
      · gi_wp2
        refine bodyPost_ret (results_none rfl _ _ _) rfl ?_
        exact ⟨⟨_, rfl⟩, .inr ⟨_, ⟨k + 1, by omega, by rw [upto_succ, HBK.out]⟩, hJx3⟩⟩
    · obtain rfl : k = m := by omega
      have e : (k : Int) - 1 - (k : Int) = -1 := by omega
      rw [e]
      gi_wp2
      go_end0
      exact ⟨⟨_, rfl⟩, .inl ⟨_, rfl, hJs⟩⟩
end Go.Proofs.YtcnglbliidjnfaaGreatDoor
end
