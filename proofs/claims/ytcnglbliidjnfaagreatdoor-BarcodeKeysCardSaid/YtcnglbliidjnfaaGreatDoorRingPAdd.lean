import Derived.Test.YtcnglbliidjnfaaGreatDoorRingLast
import Derived.Test.YtcnglbliidjnfaaGreatDoorRingWith
import Derived.BigQuiet
namespace Go.Proofs.YtcnglbliidjnfaaGreatDoor
set_option linter.unusedVariables false
open Go.ChangeShapes Go.WideShapes Go.ChangeAt Go.RowKit
theorem padd_bad {l:List K} {k:K} (h:(isR l&&k.right)=false):addK l k=[]∧addE l k=1:=by
 rw[addK,addE,h];exact⟨rfl,rfl⟩
theorem padd_none {l:List K} {k:K} (hr:isR l=true) (hk:k.right=true) (h: ∀j,j<l.length→decide ((l.getD j K0).id≤k.id)=false):addK l k=l.take 0++k::l.drop 0∧addE l k=0:=by
 have hlt: ∀j,j<l.length→k.id<(l.getD j K0).id:=fun j hj=>by have:=h j hj;simp at this;simpa using this
 have ha:l.any (fun q=>q.id==k.id)=false:=any_false (fun t ht=>by have:=hlt t ht;omega)
 have hp:placeN l k.id=0:=place_at 0 (Nat.zero_le _) (by omega) (fun h0=>by have:=hlt 0 h0;omega)
 rw[addK,addE,hr,hk,ha,hp]
 exact⟨rfl,rfl⟩
theorem padd_same {l:List K} {k:K} (hr:isR l=true) (hk:k.right=true) (i:Nat) (hi:i<l.length) (h:(l.getD i K0).id=k.id):addK l k=[]∧addE l k=10:=by
 rw[addK,addE,hr,hk,any_true i hi h]
 exact⟨rfl,rfl⟩
theorem padd_some {l:List K} {k:K} (hr:isR l=true) (hk:k.right=true) (i:Nat) (hi:i<l.length) (hp:decide ((l.getD i K0).id≤k.id)=true) (hne:(l.getD i K0).id≠k.id) (h: ∀j,i<j→j<l.length→decide ((l.getD j K0).id≤k.id)=false):
  addK l k=l.take (i+1)++k::l.drop (i+1)∧addE l k=0:=by
 have hle:(l.getD i K0).id≤k.id:=of_decide_eq_true hp
 have hlow: ∀t,t<i+1→(l.getD t K0).id<k.id:=fun t ht=>by
  rcases Nat.lt_or_ge t i with h1|h1
  ·have:=ring_lt hr h1 hi;omega
  ·have e:t=i:=by omega
   subst e;omega
 have hhigh: ∀t,i+1≤t→t<l.length→k.id<(l.getD t K0).id:=fun t h1 h2=>by
  have:=of_decide_eq_false (h t (by omega) h2);omega
 have ha:l.any (fun q=>q.id==k.id)=false:=any_false (fun t ht=>by
  rcases Nat.lt_or_ge t (i+1)with h1|h1
  ·have:=hlow t h1;omega
  ·have:=hhigh t h1 ht;omega)
 have hpl:placeN l k.id=i+1:=place_at (i+1) (by omega) hlow (fun h0=>by have:=hhigh (i+1) (Nat.le_refl _) h0;omega)
 rw[addK,addE,hr,hk,ha,hpl]
 exact⟨rfl,rfl⟩
theorem len_with (l:List K) (k:K) (p:Nat) (hp:p≤l.length):(l.take p++k::l.drop p).length=l.length+1:=by
 simp;omega
theorem with_int (kv:KV) (l:List K) (n place:Nat) (z:Int) (hz:z=(place:Int)) (hn:n=l.length) (h100:n≤100) (hpl:place≤n) (A:Option Addr) (c:Nat) (w:World) (hA:Ks w w.heap.size A l) (hsl:Sl A n c) (hB:Bs w w.heap.size kv.k.sec kv.S kv.c)
  (hs: ∀k∈l,1≤k.sec.length∧k.sec.length≤64) (hks:1≤kv.k.sec.length∧kv.k.sec.length≤64):
  Calls Tryz.prog 60 #[.slice A n c, .int .i64 z, .agg #[.int .i64 kv.k.id, .slice kv.S kv.k.sec.length kv.c, .int .i64 kv.k.frm, .int .i64 kv.k.til]] w fun e w'=> ∃A' c',e= .returned (.slice A' (n+1) c')∧Ks w' w'.heap.size A' (l.take place++kv.k::l.drop place)∧Sl A' (n+1) c'∧Below w.heap.size w w':=by
 subst hz
 exact with_any kv l n place hn h100 hpl A c w hA hsl hB hs hks
set_option maxRecDepth 20000 in
set_option maxHeartbeats 1600000 in
theorem padd_any (l:List K) (kv:KV) (n:Nat) (A:Option Addr) (c:Nat) (w:World) (R:List K) (E:Int) (m:Nat) (hn:n=l.length) (hr:R=addK l kv.k) (hE:E=addE l kv.k) (hm:m=R.length) (hsl:Sl A n c) (hA:Ks w w.heap.size A l) (hB:Bs w w.heap.size kv.k.sec kv.S kv.c):
  Calls Tryz.prog 23 #[.slice A n c, .agg #[.int .i64 kv.k.id, .slice kv.S kv.k.sec.length kv.c, .int .i64 kv.k.frm, .int .i64 kv.k.til]] w fun e w'=> ∃A' c',e= .returned (.tuple #[.slice A' m c', .int .i64 E])∧Ks w' w'.heap.size A' R∧Sl A' m c'∧Below w.heap.size w w':=by
 have HN:=Lib.hid hn
 have HA:=Lib.hid hA
 have HR:=Lib.hid hr
 have HE:=Lib.hid hE
 have HM:=Lib.hid hm
 have HB:=Lib.hid hB
 have HSL:=Lib.hid hsl
 have h1:n≤9223372036854775807:=Nat.le_trans hsl.1 hsl.2.1
 have hsec:kv.k.sec.length≤9223372036854775807:=Nat.le_trans hB.len hB.cap
 clear hn hA hr hE hm hB hsl
 obtain⟨w0,hw0⟩: ∃w0,w0=w.alloc (.cells #[.int .i64 kv.k.id, .slice kv.S kv.k.sec.length kv.c, .int .i64 kv.k.frm, .int .i64 kv.k.til] 48):=⟨_,rfl⟩
 have hb0:Below w.heap.size w w0:=by rw[hw0];exact below_lit w _ _
 have hx0:w0.heap[w.heap.size]?=some (.cells #[.int .i64 kv.k.id, .slice kv.S kv.k.sec.length kv.c, .int .i64 kv.k.frm, .int .i64 kv.k.til] 48 (0,0)):=by rw[hw0];exact heap_alloc_new w _
 have hs0:w.heap.size<w0.heap.size:=(Array.getElem?_eq_some_iff.1 hx0).1
 have HW0:=Lib.hid hw0
 have HA0:=Lib.hid (HA.out.next hb0)
 clear hw0
 cases his:isR l with
 |false=>
  obtain⟨e1,e2⟩:=padd_bad (k:=kv.k) (show(isR l&&kv.k.right)=false by rw[his];rfl)
  have hr:R=[]:=HR.out.trans e1
  have hE:E=1:=HE.out.trans e2
  have hm:m=0:=by rw[HM.out,hr];rfl
  subst hr hE hm
  clear e1 e2
  go_enter Tryz.func23, Tryz.ntmps23
  go_wp2_with fail
  rw[←HW0.out]
  refine(pis_named l n HN.out false his A c w0 HA0.out h1).mono ?_
  rintro e w1 ⟨rfl,hb1⟩
  have HB1:=Lib.hid (hb0.trans (hb1.mono hb0.size))
  clear hb1 hx0 hb0 hs0
  go_wp2
  go_ret2
  exact⟨none,0,rfl,by intro i hi;simp at hi,⟨by omega,by omega,fun _=>rfl⟩,HB1.out⟩
 |true=>
  have h100:n≤100:=by rw[HN.out];exact ring_len his
  have HRING:=Lib.hid his
  clear his
  cases hrt:kv.k.right with
  |false=>
   obtain⟨e1,e2⟩:=padd_bad (l:=l) (k:=kv.k) (by rw[hrt,Bool.and_false])
   have hr:R=[]:=HR.out.trans e1
   have hE:E=1:=HE.out.trans e2
   have hm:m=0:=by rw[HM.out,hr];rfl
   subst hr hE hm
   have HRT:=Lib.hid hrt
   clear e1 e2 hrt
   go_enter Tryz.func23, Tryz.ntmps23
   go_wp2_with fail
   rw[←HW0.out]
   refine(pis_named l n HN.out true HRING.out A c w0 HA0.out h1).mono ?_
   rintro e w1 ⟨rfl,hb1⟩
   have hx1:=(hb1.block _ hs0).trans hx0
   have HB1:=Lib.hid (hb0.trans (hb1.mono hb0.size))
   obtain⟨hk0,hk1,hk2,hk3⟩:=inBox_of hx1
   clear hb1 hx0 hb0 hs0 hx1
   go_wp2_with (go_at_call 57;refine(pright_k kv.k kv.k.sec.length rfl false HRT.out kv.S kv.c w1 hsec).mono ?_;rintro e w2 ⟨rfl,hb2⟩;have HB2:=Lib.hid (HB1.out.trans (hb2.mono HB1.out.size));clear hb2)
   go_ret2
   exact⟨none,0,rfl,by intro i hi;simp at hi,⟨by omega,by omega,fun _=>rfl⟩,HB2.out⟩
  |true=>
   have HRT:=Lib.hid hrt
   have HKS:=Lib.hid (show 1≤kv.k.sec.length∧kv.k.sec.length≤64 by have:=(rightN_iff _ _ _ _).1 hrt;exact⟨this.2.2.1,this.2.2.2.1⟩)
   have HLS:=Lib.hid (fun k (hk:k∈l)=>ring_right HRING.out hk)
   have HE27:=Lib.hid (enters_of Tryz.func59 (by kernel_rfl) rfl)
   clear hrt
   go_enter Tryz.func23, Tryz.ntmps23
   go_wp2_with fail
   rw[←HW0.out]
   refine(pis_named l n HN.out true HRING.out A c w0 HA0.out h1).mono ?_
   rintro e w1 ⟨rfl,hb1⟩
   have hx1:=(hb1.block _ hs0).trans hx0
   have hB1:=hb0.trans (hb1.mono hb0.size)
   obtain⟨hk0,hk1,hk2,hk3⟩:=inBox_of hx1
   have HX1:=Lib.hid hx1
   have HB1:=Lib.hid hB1
   clear hb1 hx0 hb0 hs0 hx1 hB1
   rcases lastIx_cases (fun j=>(fun q:K=>decide (q.id≤kv.k.id)) (l.getD j K0)) n with⟨hlx,hall⟩|⟨k,hk,hlx,hpk,hall⟩
   ·obtain⟨e1,e2⟩:=padd_none HRING.out HRT.out (by rw[←HN.out];exact hall)
    have hr:R=l.take 0++kv.k::l.drop 0:=HR.out.trans e1
    have hE:E=0:=HE.out.trans e2
    have hm:m=n+1:=by rw[HM.out,hr,len_with l kv.k 0 (Nat.zero_le _), ←HN.out]
    have HRE:=Lib.hid hr
    subst hE hm
    have HLX:=Lib.hid hlx
    clear e1 e2 hall hlx hr
    go_wp2_with (first|(go_at_call 57;refine(pright_k kv.k kv.k.sec.length rfl true HRT.out kv.S kv.c w1 hsec).mono ?_;rintro e w2 ⟨rfl,hb2⟩;have HB2:=Lib.hid (HB1.out.trans (hb2.mono HB1.out.size));have HX2:=Lib.hid ((hb2.block _ (Array.getElem?_eq_some_iff.1 HX1.out).1).trans HX1.out);have HA2:=Lib.hid (HA.out.next HB2.out);have HF2:=Lib.hid (add_fits kv w.heap.size w2 HX2.out);clear hb2 hk0 hk1 hk2 hk3)|(go_at_call 58;refine(last_any (fun q=>decide (q.id≤kv.k.id)) l n HN.out (by omega) 59 #[.pointer (some ⟨w.heap.size,0,none⟩)] HE27.out A c w2 HA2.out HF2.out).mono ?_;rintro e w3 ⟨rfl,hb3⟩;rw[HLX.out];have HB3:=Lib.hid (HB2.out.trans (hb3.mono HB2.out.size));have HX3:=Lib.hid ((hb3.block _ (Array.getElem?_eq_some_iff.1 HX2.out).1).trans HX2.out);have HA3:=Lib.hid (HA.out.next HB3.out);clear hb3))
    obtain⟨h30,h31,h32,h33⟩:=inBox_of HX3.out
    go_quiet (fail)
    go_wp2_with (go_at_call 60;refine(with_any kv l n 0 HN.out h100 (Nat.zero_le _) A c _ (HA.out.next (below_drewN HB3.out _)) HSL.out (HB.out.next (below_drewN HB3.out _)) HLS.out HKS.out).mono ?_;rintro e w4 ⟨A4,c4,rfl,hks4,hsl4,hb4⟩;have HKS4:=Lib.hid hks4;have HSL4:=Lib.hid hsl4;have HB4:=Lib.hid ((below_drewN HB3.out _).trans (hb4.mono (below_drewN HB3.out _).size));clear hks4 hsl4 hb4)
    go_ret2
    exact⟨A4,c4,rfl,by rw[HRE.out];exact HKS4.out,HSL4.out,HB4.out⟩
   ·have hkl:k<l.length:=by rw[←HN.out];exact hk
    have HKL:=Lib.hid hkl
    have b0:(0:Int)≤(k:Int):=by omega
    have b1:(k:Int)<(n:Int):=by omega
    have HLX:=Lib.hid hlx
    by_cases hid:(l.getD k K0).id=kv.k.id
    ·obtain⟨e1,e2⟩:=padd_same HRING.out HRT.out k hkl hid
     have hr:R=[]:=HR.out.trans e1
     have hE:E=10:=HE.out.trans e2
     have hm:m=0:=by rw[HM.out,hr];rfl
     subst hr hE hm
     have HID:=Lib.hid hid
     clear e1 e2 hall hlx hpk hid hkl
     go_wp2_with (first|(go_at_call 57;refine(pright_k kv.k kv.k.sec.length rfl true HRT.out kv.S kv.c w1 hsec).mono ?_;rintro e w2 ⟨rfl,hb2⟩;have HB2:=Lib.hid (HB1.out.trans (hb2.mono HB1.out.size));have HX2:=Lib.hid ((hb2.block _ (Array.getElem?_eq_some_iff.1 HX1.out).1).trans HX1.out);have HA2:=Lib.hid (HA.out.next HB2.out);have HF2:=Lib.hid (add_fits kv w.heap.size w2 HX2.out);clear hb2 hk0 hk1 hk2 hk3)|(go_at_call 58;refine(last_any (fun q=>decide (q.id≤kv.k.id)) l n HN.out (by omega) 59 #[.pointer (some ⟨w.heap.size,0,none⟩)] HE27.out A c w2 HA2.out HF2.out).mono ?_;rintro e w3 ⟨rfl,hb3⟩;rw[HLX.out];have HB3:=Lib.hid (HB2.out.trans (hb3.mono HB2.out.size));have HX3:=Lib.hid ((hb3.block _ (Array.getElem?_eq_some_iff.1 HX2.out).1).trans HX2.out);have HA3:=Lib.hid (HA.out.next HB3.out);clear hb3))
     obtain⟨h30,h31,h32,h33⟩:=inBox_of HX3.out
     obtain⟨ad,S,cc,rfl,had,hk4⟩:=HA3.out k HKL.out
     have hc0:=hk4.c0
     rw[HID.out]at hc0
     clear hk4
     go_quiet (fail)
     go_wp2
     go_ret2
     exact⟨none,0,rfl,by intro i hi;simp at hi,⟨by omega,by omega,fun _=>rfl⟩,below_drewN HB3.out _⟩
    ·obtain⟨e1,e2⟩:=padd_some HRING.out HRT.out k hkl hpk hid (by rw[←HN.out];exact hall)
     have hr:R=l.take (k+1)++kv.k::l.drop (k+1):=HR.out.trans e1
     have hE:E=0:=HE.out.trans e2
     have hm:m=n+1:=by rw[HM.out,hr,len_with l kv.k (k+1) (by omega), ←HN.out]
     have HRE:=Lib.hid hr
     subst hE hm
     have HID:=Lib.hid hid
     have hwk:IntKind.i64.wrap ((k:Int)+1)=(k:Int)+1:=IntWalk.i64_in _ (by omega)
     clear e1 e2 hall hlx hpk hid hkl hr
     go_wp2_with (first|(go_at_call 57;refine(pright_k kv.k kv.k.sec.length rfl true HRT.out kv.S kv.c w1 hsec).mono ?_;rintro e w2 ⟨rfl,hb2⟩;have HB2:=Lib.hid (HB1.out.trans (hb2.mono HB1.out.size));have HX2:=Lib.hid ((hb2.block _ (Array.getElem?_eq_some_iff.1 HX1.out).1).trans HX1.out);have HA2:=Lib.hid (HA.out.next HB2.out);have HF2:=Lib.hid (add_fits kv w.heap.size w2 HX2.out);clear hb2 hk0 hk1 hk2 hk3)|(go_at_call 58;refine(last_any (fun q=>decide (q.id≤kv.k.id)) l n HN.out (by omega) 59 #[.pointer (some ⟨w.heap.size,0,none⟩)] HE27.out A c w2 HA2.out HF2.out).mono ?_;rintro e w3 ⟨rfl,hb3⟩;rw[HLX.out];have HB3:=Lib.hid (HB2.out.trans (hb3.mono HB2.out.size));have HX3:=Lib.hid ((hb3.block _ (Array.getElem?_eq_some_iff.1 HX2.out).1).trans HX2.out);have HA3:=Lib.hid (HA.out.next HB3.out);clear hb3))
     obtain⟨h30,h31,h32,h33⟩:=inBox_of HX3.out
     obtain⟨ad,S,cc,rfl,had,hk4⟩:=HA3.out k HKL.out
     obtain⟨x,hx⟩: ∃x,x=l.getD k K0:=⟨_,rfl⟩
     rw[←hx]at hk4
     have hne:(x.id==kv.k.id)=false:=by rw[hx,beq_eq_false_iff_ne];exact HID.out
     have hc0:=hk4.c0
     clear hk4 hx
     go_quiet (fail)
     go_wp2_with (go_at_call 60;refine(with_int kv l n (k+1) ((k:Int)+1) (by omega) HN.out h100 (by omega) _ c _ (HA.out.next (below_drewN HB3.out _)) HSL.out (HB.out.next (below_drewN HB3.out _)) HLS.out HKS.out).mono ?_;rintro e w4 ⟨A4,c4,rfl,hks4,hsl4,hb4⟩;have HKS4:=Lib.hid hks4;have HSL4:=Lib.hid hsl4;have HB4:=Lib.hid ((below_drewN HB3.out _).trans (hb4.mono (below_drewN HB3.out _).size));clear hks4 hsl4 hb4)
     go_ret2
     exact⟨A4,c4,rfl,by rw[HRE.out];exact HKS4.out,HSL4.out,HB4.out⟩
end Go.Proofs.YtcnglbliidjnfaaGreatDoor
