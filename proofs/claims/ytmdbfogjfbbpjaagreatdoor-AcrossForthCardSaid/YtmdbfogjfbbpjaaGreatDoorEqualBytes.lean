import Derived.Test.YtmdbfogjfbbpjaaGreatDoorShaRefSum
import Derived.Test.YtmdbfogjfbbpjaaGreatDoorMem
import Derived.OpenShut
import Derived.SizedLaws
import Derived.Test.YtmdbfogjfbbpjaaGreatDoorRingPFind
import Derived.Test.YtmdbfogjfbbpjaaGreatDoorShaPSum
import Derived.Test.YtmdbfogjfbbpjaaGreatDoorTrackBackMath
import Derived.Test.YtmdbfogjfbbpjaaGreatDoorLineMath
import Derived.Test.YtmdbfogjfbbpjaaGreatDoorLayPFields
import Derived.Test.YtmdbfogjfbbpjaaGreatDoorBarMath
import Derived.BigQuiet
import Derived.Laws.EntriesVeiled
import Derived.RangeFuncNested
import Derived.RangeFuncBound
import Derived.RangeFuncLeaves
import Derived.RangeFuncBox
import Derived.Shelf.Abstract
import Derived.WalkKit
import Derived.OwnWalkIn
import Derived.TacticsInMore
import Derived.LoopNIn
import Derived.LoopIn
import Derived.Maps.OwnIn
import Derived.Maps.AppendAt
import Derived.Maps.Views
set_option maxHeartbeats 3200000
set_option maxRecDepth 100000
set_option linter.unusedVariables false
section
namespace Go.Proofs.YtmdbfogjfbbpjaaGreatDoor
open Go.ChangeShapes Go.WideShapes Go.ChangeAt Go.RowKit
theorem Ac4 (l:List Nat) (A A':Option Addr) (c c' B:Nat) (w:World) (hA:Rd w B A (U8 l)) (hA':Rd w B A' (U8 l)) (hl:l.length≤maxLen):
  Calls Tryz.prog 182 #[.slice A l.length c, .slice A' l.length c'] w fun e w'=>e= .returned (.bool true)∧Below w.heap.size w w':=by
 unfold maxLen at hl
 obtain⟨n,hn⟩: ∃n,n=l.length:=⟨_,rfl⟩
 have HN:=Lib.hid hn
 rw[←hn]at hl⊢
 clear hn
 go_enter Tryz.func182, Tryz.ntmps182
 go_wp2
 go_loopw [13] (fun i wr=> ∃k d:Nat,k≤n∧i= .int .i64 k∧wr=w.drewN d) (fun i _=>n - (intOf i).toNat)
 case atStart=>exact⟨0,0,Nat.zero_le _,rfl,rfl⟩
 case round=>
  obtain⟨k,d,hk,rfl,rfl⟩:=hrel
  by_cases hlt:k<n
  ·obtain⟨ad,rfl,_,hc⟩:=hA k _ (Co l k (by rw[←HN.out];exact hlt))
   obtain⟨ad',rfl,_,hc'⟩:=hA' k _ (Co l k (by rw[←HN.out];exact hlt))
   clear hA hA'
   have b1:(0:Int)≤(k:Int):=by omega
   have b2:(k:Int)<(n:Int):=by omega
   generalize l[k]=x at hc hc'
   go_wp2
   go_quiet (fail)
   go_wp2
   go_roundw
   case rel=>exact⟨k+1,_,by omega,by go_num,rfl⟩
   case measure=>simp[intOf];omega
  ·go_wp2
   go_ret
   exact⟨rfl,Ae (Below.refl _ _) _⟩
theorem nB (n n':Nat) (hne:n≠n') (A A':Option Addr) (c c':Nat) (w:World) (h1:n≤9223372036854775807) (h2:n'≤9223372036854775807):
  Calls Tryz.prog 182 #[.slice A n c, .slice A' n' c'] w fun e w'=>e= .returned (.bool false)∧Below w.heap.size w w':=by
 have e1:((n:Int) !=(n':Int))=true:=by simp;omega
 have e2:((n:Int)==(n':Int))=false:=by simp;omega
 have e3:(n !=n')=true:=by simpa using hne
 go_enter Tryz.func182, Tryz.ntmps182
 go_wp2
 go_ret
 exact⟨rfl,Below.refl _ _⟩
theorem nC (l l':List Nat) (n k:Nat) (hn:n=l.length) (hn':n=l'.length) (hk:k<n) (ht:l.take k=l'.take k) (hd:l.getD k 0≠l'.getD k 0) (A A':Option Addr) (c c' B:Nat) (w:World) (hA:Rd w B A (U8 l)) (hA':Rd w B A' (U8 l')) (hl:n≤9223372036854775807):
  Calls Tryz.prog 182 #[.slice A n c, .slice A' n c'] w fun e w'=>e= .returned (.bool false)∧Below w.heap.size w w':=by
 have HN:=Lib.hid hn
 have HN':=Lib.hid hn'
 have HT:=Lib.hid ht
 have HD:=Lib.hid hd
 clear hn hn' ht hd
 go_enter Tryz.func182, Tryz.ntmps182
 go_wp2
 go_loopw [13] (fun i wr=> ∃j d:Nat,j≤k∧i= .int .i64 j∧wr=w.drewN d) (fun i _=>n - (intOf i).toNat)
 case atStart=>exact⟨0,0,Nat.zero_le _,rfl,rfl⟩
 case round=>
  obtain⟨j,d,hj,rfl,rfl⟩:=hrel
  have hjn:j<n:=by omega
  obtain⟨ad,rfl,_,hc⟩:=hA j _ (Co l j (by rw[←HN.out];exact hjn))
  obtain⟨ad',rfl,_,hc'⟩:=hA' j _ (Co l' j (by rw[←HN'.out];exact hjn))
  clear hA hA'
  have b1:(0:Int)≤(j:Int):=by omega
  have b2:(j:Int)<(n:Int):=by omega
  by_cases hlt:j<k
  ·have he:l[j]'(by rw[←HN.out];exact hjn)=l'[j]'(by rw[←HN'.out];exact hjn):=by
    have h1:(l.take k)[j]?=(l'.take k)[j]?:=by rw[HT.out]
    rw[List.getElem?_take,List.getElem?_take,if_pos hlt,if_pos hlt,List.getElem?_eq_getElem (by rw[←HN.out];exact hjn),List.getElem?_eq_getElem (by rw[←HN'.out];exact hjn)]at h1
    exact Option.some.inj h1
   rw[he]at hc
   clear he
   generalize l'[j]'(by rw[←HN'.out];exact hjn)=x at hc hc'
   go_wp2
   go_quiet (fail)
   go_wp2
   go_roundw
   case rel=>exact⟨j+1,_,by omega,by go_num,rfl⟩
   case measure=>simp[intOf];omega
  ·have ej:j=k:=by omega
   subst ej
   have hne:l[j]'(by rw[←HN.out];exact hjn)≠l'[j]'(by rw[←HN'.out];exact hjn):=by
    have h1:=HD.out
    rwa[List.getD_eq_getElem?_getD,List.getD_eq_getElem?_getD,List.getElem?_eq_getElem (by rw[←HN.out];exact hjn),List.getElem?_eq_getElem (by rw[←HN'.out];exact hjn)]at h1
   generalize l[j]'(by rw[←HN.out];exact hjn)=x at hc hne
   generalize l'[j]'(by rw[←HN'.out];exact hjn)=y at hc' hne
   have e1:((x:Int) !=(y:Int))=true:=by simp;omega
   have e2:((x:Int)==(y:Int))=false:=by simp;omega
   clear hne
   go_wp2
   go_quiet (fail)
   go_wp2
   go_ret
   exact⟨rfl,Ae (Ae (Below.refl _ _) _) _⟩
theorem dM (l l':List Nat) (n n':Nat) (hn:n=l.length) (hn':n'=l'.length) (A A':Option Addr) (c c' B:Nat) (w:World) (hA:Rd w B A (U8 l)) (hA':Rd w B A' (U8 l')) (hl:n≤9223372036854775807) (hl':n'≤9223372036854775807):
  Calls Tryz.prog 182 #[.slice A n c, .slice A' n' c'] w fun e w'=>e= .returned (.bool (l==l'))∧Below w.heap.size w w':=by
 by_cases e:l=l'
 ·subst e
  subst hn
  subst hn'
  have:=Ac4 l A A' c c' B w hA hA' (by unfold maxLen;exact hl)
  simpa using this
 ·have eb:(l==l')=false:=by simpa using e
  rw[eb]
  by_cases h:n=n'
  ·subst h
   obtain⟨k,h1,h2,h3⟩:=Qh l l' (by omega) e
   exact nC l l' n k hn hn' (by omega) h2 h3 A A' c c' B w hA hA' hl
  ·exact nB n n' h A A' c c' w hl hl'
section
variable {H:Type} {enc:TypeId × Value→H} {P:Program}
theorem Jk {W:World} {t e:TypeId} {k:IntKind} {r:Reach} {b0 m:Nat} {v:Value} {d:DataW H} {ps:List MemPlace} (ht:P.underlying t=some (.slice e)) (he:P.underlying e=some (.int k)) (hc:P.cellsOf e=1)
  (hm: ∀z,(Lit.int k z).wf=true→0≤z∧z<m) (hval:Value.okWide P W r b0 t v) (hd:DataW.Trod enc P W 0 (fun _=>true) true t v d ps):
  ∃(A:Option Addr) (l:List Nat) (c:Nat),v= .slice A l.length c∧Rd W W.heap.size A (l.map fun x:Nat=>Value.int k (x:Int))∧(∀x∈l,x<m)∧l.length≤c∧c≤maxLen∧(A=none→c=0)∧
   ∀b,(d.weights P t).all (·≤b)=true→c*P.bytesOf e≤b:=by
 obtain⟨a0,len,cap,rfl⟩:=okWide_slice ht hval
 obtain⟨fuel,hf⟩:=hd
 rcases open_ints ht he hc hf with⟨hcs,_⟩|⟨a,len',cap',zs,hcs,_,h1,h2,hz,hx,hcell,hwf⟩
 ·simp[Value.cells]at hcs
  obtain⟨rfl,rfl,rfl⟩:=hcs
  exact⟨none,[],0,rfl,by intro k u hu;simp at hu,by simp,by simp,by simp,by simp,by simp⟩
 ·simp[Value.cells]at hcs
  obtain⟨rfl,rfl,rfl⟩:=hcs
  simp at hz
  refine⟨some a,(zs.take len).map Int.toNat,cap,by simp;omega, ?_, ?_,by simp;omega,h2,by simp, ?_⟩
  ·intro j u hu
   simp only[List.getElem?_map,Option.map_eq_some_iff]at hu
   obtain⟨x,⟨z,hz1,rfl⟩,rfl⟩:=hu
   have hj:j<len:=by
    rcases Nat.lt_or_ge j len with h|h
    ·exact h
    ·rw[List.getElem?_eq_none (by simp;omega)]at hz1;cases hz1
   have hcj:=hcell j (by omega)
   rw[List.getElem?_take,if_pos hj]at hz1
   rw[List.getD_eq_getElem?_getD,hz1,Option.getD_some]at hcj
   have hzw:=hm z (hwf z (List.mem_of_getElem? hz1))
   refine⟨a,rfl, ?_, ?_⟩
   ·have:=Ll hcj
    rwa[add_block]at this
   ·rw[hcj]
    congr 2
    omega
  ·intro x hx
   simp only[List.mem_map]at hx
   obtain⟨z,hz1,rfl⟩:=hx
   have:=hm z (hwf z (List.mem_of_mem_take hz1))
   omega
  ·intro b hb
   obtain⟨rfl,_⟩:=Prod.mk.inj hx
   simp only[DataW.weights,ht,List.all_cons,Bool.and_eq_true,decide_eq_true_eq]at hb
   have h3:=hb.1
   simp[lits]at h3
   have h4:min len zs.length+(zs.length - len)=cap:=by omega
   rw[h4]at h3
   exact h3
theorem Mj {ts:List TypeId} {ds:List (DataW H)} {b:Nat} (h:(DataW.weightsEach P ts ds).all (·≤b)=true) (j:Nat) {t:TypeId} {d:DataW H} (ht:ts[j]?=some t) (hd:ds[j]?=some d):(d.weights P t).all (·≤b)=true:=
 List.all_eq_true.2 fun n hn=>List.all_eq_true.1 h n (DataW.weights_mem_each ht hd n hn)
end
end Go.Proofs.YtmdbfogjfbbpjaaGreatDoor
end
section
namespace Go.Proofs.YtmdbfogjfbbpjaaGreatDoor
set_option maxRecDepth 100000
open Go.ChangeShapes Go.WideShapes Go.ChangeAt Go.RowKit
theorem Ac5 (s l:List Nat) (n m:Nat) (hn:n=s.length) (hm:m=l.length) (A B:Option Addr) (c d:Nat) (w:World) (hT:Cx w) (hA:Bs w w.heap.size s A c) (hB:Bs w w.heap.size l B d) (h5:n≤5000) (h4:m≤3999) (T:List Nat) (hTg:tagS s l=T):
  Calls Tryz.prog 121 #[.slice A n c, .slice B m d] w fun e w'=> ∃g cap,e= .returned (.slice (some ⟨g,0,none⟩) 10 cap)∧Rd w' w'.heap.size (some ⟨g,0,none⟩) (U8 T)∧Below w.heap.size w w':=by
 obtain⟨L,hL⟩: ∃L,83::l=L:=⟨_,rfl⟩
 obtain⟨k,hk⟩: ∃k,k=m+1:=⟨_,rfl⟩
 obtain⟨V,hV⟩: ∃V,Zg s L=V:=⟨_,rfl⟩
 obtain⟨v,hv⟩: ∃v,valB (V.take 4)=v:=⟨_,rfl⟩
 obtain⟨F,hF⟩: ∃F:Array Value,F=(U8 V).toArray:=⟨_,rfl⟩
 have HVL:=Lib.hid (show V.length=32 by rw[←hV];exact Cs _)
 have HVB:=Lib.hid (show∀x∈V,x<256 by rw[←hV];exact Sy _)
 have HL1:=Lib.hid (show [83]++l=L by rw[←hL];rfl)
 have HLK:=Lib.hid (show k=L.length by rw[←hL,hk,hm];rfl)
 have HLB:=Lib.hid (show∀x∈L,x<256 by rw[←hL];intro x hx;rcases List.mem_cons.1 hx with rfl|h;decide;exact hB.lt x h)
 have HFV:=Lib.hid (show F=(U8 (Zg s L)).toArray by rw[hV];exact hF)
 have HF:=Lib.hid hF
 have HV:=Lib.hid hv
 have HVLT:=Lib.hid (show v≤4294967295 by
  rw[←hv]
  have h:=Gx (V.take 4) (fun x hx=>HVB.out x (List.mem_of_mem_take hx))
  rw[List.length_take,HVL.out]at h
  exact Nat.le_of_lt_succ h)
 have HTV:=Lib.hid (show dec v=T by rw[←hTg,tagS,hL,hV,hv])
 have HN:=Lib.hid hn
 have HM:=Lib.hid hm
 have HT:=Lib.hid hT
 have HA:=Lib.hid hA
 have HB:=Lib.hid hB
 have HK:=Lib.hid hk
 have hk4:k≤4000:=by omega
 clear hL hV hv hF hn hm hT hA hB hTg hk
 go_enter Tryz.func121, Tryz.ntmps121
 go_wp2_with fail
 obtain⟨w1,hw1⟩: ∃w1,w.alloc (.cells #[.int .u8 83] 5)=w1:=⟨_,rfl⟩
 have hs1:w.heap.size+1=w1.heap.size:=by rw[←hw1];simp
 rw[hw1,hs1]
 have h83:Rd w1 w1.heap.size (some ⟨w.heap.size,0,none⟩) (U8 [83]):=by rw[←hw1];exact Cm w #[.int .u8 83] 5
 have hb01:Below w.heap.size w w1:=by rw[←hw1];exact Aa w _ _
 have HB01:=Lib.hid hb01
 have HB1:=Lib.hid (HB.out.next hb01)
 clear hs1 hw1 hb01
 refine(Uu [83] l L HL1.out 1 m k rfl HM.out HLK.out _ B 1 d w1 h83 HB1.out.rd (fun h=>by cases h) HB1.out.nil (by decide) HB1.out.lt (by have:=HK.out;omega) (by omega)).mono ?_
 rintro e w2 ⟨AL,cL,rfl,hs2,hb2⟩
 have HS2:=Lib.hid hs2
 have HB2:=Lib.hid (HB01.out.trans (hb2.mono HB01.out.size))
 clear hs2 hb2 h83
 go_wp2_with fail
 refine(Yu s L n k HN.out HLK.out A AL c cL w2 (HT.out.next HB2.out) (HA.out.next HB2.out).rd HS2.out.rd HA.out.nil HS2.out.nil HA.out.lt HLB.out h5 hk4 F HFV.out).mono ?_
 rintro e w3 ⟨rfl,hb3⟩
 have HB3:=Lib.hid (HB2.out.trans (hb3.mono HB2.out.size))
 have HIS:=Lib.hid (Fx HF.out HVL.out)
 clear hb3
 go_wp2_with (first
  |((with_reducible refine Ac 5 ?_);refine Al (heap_alloc_new w3 _) HIS.out.1 HIS.out.2.2 ?_ (hold:=HIS.out.2.1);intro w4 hw4;have HR4:=Lib.hid (Bg hw4.out))
  |((with_reducible refine Dl 15 ?_);refine wpList_load_row (o:=⟨some 15, .load 83 (.tmp 5),_,_,_,_⟩) rfl 83 (.tmp 5) rfl w3.heap.size rfl 83 F (0,0) _ HR4.out.2.1 Tryz.underlying83 rfl HIS.out.1 ?_))
 have HB4:=Lib.hid (HB3.out.trans (HR4.out.2.2.mono HB3.out.size))
 refine(Ad0 V F HF.out _ HVB.out HVL.out).mono ?_
 rintro e w5 ⟨rfl,hb5⟩
 have HB5:=Lib.hid (HB4.out.trans (hb5.mono HB4.out.size))
 clear hb5
 rw[HV.out]
 go_wp2_with fail
 refine(vU v _ HVLT.out).mono ?_
 rintro e w6 ⟨g,cap,rfl,hr6,hb6⟩
 rw[HTV.out]at hr6
 have HR6:=Lib.hid hr6
 have HB6:=Lib.hid (HB5.out.trans (hb6.mono HB5.out.size))
 clear hr6 hb6
 go_wp2
 go_ret
 exact⟨g,cap,rfl,HR6.out,HB6.out⟩
end Go.Proofs.YtmdbfogjfbbpjaaGreatDoor
end
section
namespace Go.Proofs.YtmdbfogjfbbpjaaGreatDoor
open Go.ChangeShapes Go.WideShapes Go.ChangeAt Go.RowKit


theorem Hr (n:Int) (b:Bool) (hb:decide (0≤n∧n≤18)=b) (w:World):Calls Tryz.prog 215 #[.int .i64 n] w fun e w'=>e= .returned (.bool b)∧w=w':=by
 have HB:=Lib.hid hb
 clear hb
 by_cases h0: ¬0≤n
 ·have h1:n<0:=by omega
  obtain rfl:b=false:=by rw[←HB.out];exact decide_eq_false (by omega)
  clear HB
  go_enter Tryz.func215, Tryz.ntmps215
  go_wp2
  go_ret
  exact⟨rfl,rfl⟩
 have h1:0≤n:=by omega
 by_cases h2:n≤18
 ·obtain rfl:b=true:=by rw[←HB.out];exact decide_eq_true (by omega)
  clear HB h0
  go_enter Tryz.func215, Tryz.ntmps215
  go_wp2
  go_ret
  exact⟨rfl,rfl⟩
 ·obtain rfl:b=false:=by rw[←HB.out];exact decide_eq_false (by omega)
  have h3:18<n:=by omega
  clear HB h0
  go_enter Tryz.func215, Tryz.ntmps215
  go_wp2
  go_ret
  exact⟨rfl,rfl⟩
theorem dN (l:List Nat) (n:Nat) (hn:n=l.length) (E:Int) (N:Nat) (hE:Bt l=(E,N)) (A:Option Addr) (c:Nat) (w:World) (hA:Bs w w.heap.size l A c):
  Calls Tryz.prog 183 #[.slice A n c] w fun e w'=>e= .returned (.tuple #[.int .i64 (N:Nat), .int .i64 E])∧w=w':=by
 have h63:n≤9223372036854775807:=by have:=hA.len;have:=hA.cap;omega
 have HN:=Lib.hid hn
 have HA:=Lib.hid hA
 have HE:=Lib.hid hE
 clear hn hA hE
 by_cases h18:18<n
 ·have h1:Bt l=(1,0):=by rw[Bt,if_pos (by rw[←HN.out];exact h18)]
  obtain⟨rfl,rfl⟩:E=1∧N=0:=by have:=HE.out;rw[h1]at this;exact⟨(Prod.mk.inj this).1.symm,(Prod.mk.inj this).2.symm⟩
  clear HE h1
  have hd:=decide_eq_false (show¬((0:Int)≤(n:Int)∧(n:Int)≤18) by omega)
  go_enter Tryz.func183, Tryz.ntmps183
  go_wp2_with (go_at_call 215;refine(Hr (n:Int) false hd _).mono ?_;rintro e w1 ⟨rfl,rfl⟩)
  go_ret2
  exact⟨rfl,rfl⟩
 have h18':n≤18:=by omega
 have HR:=Lib.hid (show Kx l 0=(E,N) by rw[←HE.out,Bt,if_neg (by rw[←HN.out];exact h18)])
 clear h18 HE h63
 have hd:=decide_eq_true (show(0:Int)≤(n:Int)∧(n:Int)≤18 by omega)
 go_enter Tryz.func183, Tryz.ntmps183
 go_wp2_with (go_at_call 215;refine(Hr (n:Int) true hd _).mono ?_;rintro e w1 ⟨rfl,rfl⟩)
 clear hd
 go_loop [4,6,13] (fun t _ i=> ∃(k a:Nat),k≤n∧i= .int .i64 k∧t= .int .i64 (a:Nat)∧a<10^k∧Kx (l.drop k) a=(E,N)) (fun _ _ i=>n - (intOf i).toNat)
 case atStart=>exact⟨0,0,Nat.zero_le _,rfl,rfl,by decide,HR.out⟩
 case round=>
  obtain⟨k,a,hk,rfl,rfl,ha,hr⟩:=hrel
  by_cases hlt:k<n
  ·have hkl:k<l.length:=by rw[←HN.out];exact hlt
   obtain⟨ad,rfl,hb,hc⟩:=HA.out.rd k _ (Co l k hkl)
   rw[Hv hkl]at hr
   generalize l[k]=x at*
   have h10:=cB (show k≤18 by omega)
   have h11:k+1≤18:=by omega
   have HS:=Lib.hid hr
   clear hr hkl
   by_cases hx:9<x
   ·obtain⟨rfl,rfl⟩:E=7∧N=0:=by have:=HS.out;rw[Kx,if_pos hx]at this;exact⟨(Prod.mk.inj this).1.symm,(Prod.mk.inj this).2.symm⟩
    clear HS
    go_wp2
    go_ret2
    exact⟨rfl,rfl⟩
   ·have hx9:x≤9:=by omega
    have hr2:Kx (l.drop (k+1)) (10*a+x)=(E,N):=by have:=HS.out;rwa[Kx,if_neg hx]at this
    have ha2:10*a+x<10^(k+1):=by rw[Nat.pow_succ];omega
    have hb2:=Nat.lt_of_lt_of_le ha2 (cB h11)
    have HR2:=Lib.hid hr2
    have HA2:=Lib.hid ha2
    have HAK:=Lib.hid ha
    have w1:IntKind.i64.wrap (10*(a:Int))=10*(a:Int):=IntWalk.i64_in _ (by omega)
    have w2:IntKind.i64.wrap ((a:Int)*10)=(a:Int)*10:=IntWalk.i64_in _ (by omega)
    have w3:IntKind.i64.wrap (10*(a:Int)+(x:Int))=10*(a:Int)+(x:Int):=IntWalk.i64_in _ (by omega)
    have w4:IntKind.i64.wrap ((a:Int)*10+(x:Int))=(a:Int)*10+(x:Int):=IntWalk.i64_in _ (by omega)
    clear HS hx hr2 ha2 ha h10
    go_wp2
    go_round
    case rel=>exact⟨k+1,10*a+x,by omega,by go_num,by go_num,HA2.out,HR2.out⟩
    case measure=>simp[intOf];omega
  ·have e:l.drop k=[]:=List.drop_of_length_le (by rw[←HN.out];omega)
   rw[e,Kx]at hr
   obtain⟨rfl,rfl⟩:E=0∧N=a:=⟨(Prod.mk.inj hr).1.symm,(Prod.mk.inj hr).2.symm⟩
   have h10:=Nat.lt_of_lt_of_le ha (cB (show k≤18 by omega))
   clear hr e ha
   go_wp2
   go_ret2
   exact⟨rfl,rfl⟩
theorem No (n a b:Int) (v:Bool) (hv:(decide (a≤n)&&decide (n≤b))=v) (w:World):Calls Tryz.prog 53 #[.int .i64 n, .int .i64 a, .int .i64 b] w fun e w'=>e= .returned (.bool v)∧w=w':=by
 have HB:=Lib.hid hv
 clear hv
 cases h0:decide (a≤n)<;>cases h1:decide (n≤b)
 all_goals
  have H0:=Lib.hid h0
  have H1:=Lib.hid h1
  go_enter Tryz.func53, Tryz.ntmps53
  go_wp2
  go_ret
  refine⟨congrArg Ending.returned (congrArg Value.bool ?_),rfl⟩
  rw[←HB.out,H0.out,H1.out]
  rfl
theorem Hs (t:Tk) (left inn:Int) (b:Bool) (hb:Ft t.uses left inn=b) (w:World):Calls Tryz.prog 20 #[.agg #[.int .i64 t.ser, .int .i64 t.kind, .int .i64 t.frm, .int .i64 t.till, .int .i64 t.cls, .int .i64 t.card, .int .i64 t.seat, .int .i64 t.day, .int .i64 t.days, .int .i64 t.uses, .int .i64 t.epoch], .agg #[.int .i64 left, .int .i64 inn]] w fun e w'=>e= .returned (.bool b)∧Below w.heap.size w w':=by
 have HB:=Lib.hid (show((decide (0≤left)&&decide (left≤t.uses))&&(decide (0≤inn)&&decide (inn≤40)))=b by rw[←hb,Ft,Bool.and_assoc])
 clear hb
 cases h0:(decide (0≤left)&&decide (left≤t.uses))<;>cases h1:(decide (0≤inn)&&decide (inn≤40))
 all_goals
  have hb:=HB.out
  rw[h0,h1]at hb
  subst hb
  have H0:=Lib.hid h0
  have H1:=Lib.hid h1
  clear h0 h1
  go_enter Tryz.func20, Tryz.ntmps20
  go_wp2_with (go_at_call 53;refine(No _ _ _ _ (by first|exact H0.out|exact H1.out) _).mono ?_;rintro e w1 ⟨rfl,rfl⟩)
  go_ret
  exact⟨rfl,((Below.refl _ _).alloc (Nat.le_refl _) _).alloc (by simp) _⟩
theorem Gb (t:Tk) (left inn:Int) (b:Bool) (hb:Ft t.uses left inn=b) (w:World):Calls Tryz.prog 110 #[.agg #[.int .i64 t.ser, .int .i64 t.kind, .int .i64 t.frm, .int .i64 t.till, .int .i64 t.cls, .int .i64 t.card, .int .i64 t.seat, .int .i64 t.day, .int .i64 t.days, .int .i64 t.uses, .int .i64 t.epoch], .agg #[.int .i64 left, .int .i64 inn]] w fun e w'=>e= .returned (.bool b)∧Below w.heap.size w w':=by
 have HB:=Lib.hid hb
 clear hb
 cases h0:decide (0≤left)<;>cases h1:decide (left≤t.uses)<;>cases h2:decide (0≤inn)<;>cases h3:decide (inn≤40)
 all_goals
  have hb:=HB.out
  rw[Ft,h0,h1,h2,h3]at hb
  subst hb
  go_enter Tryz.func110, Tryz.ntmps110
  go_wp2
  go_ret
  exact⟨rfl,((Below.refl _ _).alloc (Nat.le_refl _) _).alloc (by simp) _⟩
def yP (k:Int):Int:=if k=1 then 1 else if k=2 then 2 else 0
theorem Ac6 (k u:Int) (hu:yP k=u) (w:World):Calls Tryz.prog 186 #[.int .i64 k] w fun e w'=>e= .returned (.int .i64 u)∧w=w':=by
 by_cases h1:k=1
 ·obtain rfl:u=1:=by rw[←hu,yP,if_pos h1]
  have q1:(k==1)=true:=by rw[beq_iff_eq];exact h1
  clear hu h1
  go_enter Tryz.func186, Tryz.ntmps186
  go_wp2
  go_ret
  exact⟨rfl,rfl⟩
 have q1:(k==1)=false:=by rw[beq_eq_false_iff_ne];exact h1
 by_cases h2:k=2
 ·obtain rfl:u=2:=by rw[←hu,yP,if_neg h1,if_pos h2]
  have q2:(k==2)=true:=by rw[beq_iff_eq];exact h2
  clear hu h1 h2
  go_enter Tryz.func186, Tryz.ntmps186
  go_wp2
  go_ret
  exact⟨rfl,rfl⟩
 have q2:(k==2)=false:=by rw[beq_eq_false_iff_ne];exact h2
 obtain rfl:u=0:=by rw[←hu,yP,if_neg h1,if_neg h2]
 clear hu h1 h2
 go_enter Tryz.func186, Tryz.ntmps186
 go_wp2
 go_ret
 exact⟨rfl,rfl⟩
theorem gW (c:Nat) (A:Option Addr) (w:World):Calls Tryz.prog 134 #[.slice A 0 c] w fun e w'=>e= .returned (.tuple #[.int .i64 0, .int .i64 14])∧w=w':=by
 go_enter Tryz.func134, Tryz.ntmps134
 go_wp2
 go_ret2
 exact⟨rfl,rfl⟩
theorem Si (x:Nat) (l:List Nat) (n:Nat) (hn:n=(x::l).length) (E:Int) (N:Nat) (hE:Bt [x]=(E,N)) (A:Option Addr) (c:Nat) (w:World) (hA:Bs w w.heap.size (x::l) A c):Calls Tryz.prog 134 #[.slice A n c] w fun e w'=>e= .returned (.tuple #[.int .i64 (N:Nat), .int .i64 E])∧w=w':=by
 have h1:=hA.len
 have h2:=hA.cap
 simp only[List.length_cons]at hn h1
 have h3:1≤c:=by omega
 have h4:1≤n:=by omega
 have h5:n≤c:=by omega
 have hz:((n:Int)==0)=false:=by rw[beq_eq_false_iff_ne];omega
 have hs:Bs w w.heap.size [x] A c:=⟨fun k u hu=>hA.rd k u (by
  rcases k with _|k
  ·simpa[U8]using hu
  ·simp[U8]at hu),hA.nil,by simpa using h3,h2,fun y hy=>hA.lt y (by simp at hy;simp[hy])⟩
 have HA:=Lib.hid hs
 have HE:=Lib.hid hE
 clear hA hs hE hn
 go_enter Tryz.func134, Tryz.ntmps134
 go_wp2_with (go_at_call 183;refine(dN [x] 1 rfl E N HE.out A c _ HA.out).mono ?_;rintro e w1 ⟨rfl,rfl⟩)
 go_ret2
 exact⟨rfl,rfl⟩
def Np (w:World) (b:Nat) (t:Tk):Prop:=w.heap[b]?=some (.cells #[.int .i64 t.ser, .int .i64 t.kind, .int .i64 t.frm, .int .i64 t.till, .int .i64 t.cls, .int .i64 t.card, .int .i64 t.seat, .int .i64 t.day, .int .i64 t.days, .int .i64 t.uses, .int .i64 t.epoch] 167 (0,0))
theorem Np.lt {w:World} {b:Nat} {t:Tk} (h:Np w b t):b<w.heap.size:=(Array.getElem?_eq_some_iff.1 h).1
theorem Np.next {w w':World} {b:Nat} {t:Tk} (h:Np w b t) (hb:Below w.heap.size w w'):Np w' b t:=(hb.block _ h.lt).trans h
theorem Np.cells {w:World} {b:Nat} {t:Tk} (h:Np w b t):w.cell? ⟨b,0,none⟩=some (.int .i64 t.ser)∧w.cell? ⟨b,1,none⟩=some (.int .i64 t.kind)∧w.cell? ⟨b,2,none⟩=some (.int .i64 t.frm)∧w.cell? ⟨b,3,none⟩=some (.int .i64 t.till)∧w.cell? ⟨b,4,none⟩=some (.int .i64 t.cls)∧w.cell? ⟨b,5,none⟩=some (.int .i64 t.card)∧w.cell? ⟨b,6,none⟩=some (.int .i64 t.seat)∧w.cell? ⟨b,7,none⟩=some (.int .i64 t.day)∧w.cell? ⟨b,8,none⟩=some (.int .i64 t.days)∧w.cell? ⟨b,9,none⟩=some (.int .i64 t.uses)∧w.cell? ⟨b,10,none⟩=some (.int .i64 t.epoch):=
 ⟨by rw[cell_of_row w b 0 _ _ (0,0) h];rfl,by rw[cell_of_row w b 1 _ _ (0,0) h];rfl,by rw[cell_of_row w b 2 _ _ (0,0) h];rfl,by rw[cell_of_row w b 3 _ _ (0,0) h];rfl,by rw[cell_of_row w b 4 _ _ (0,0) h];rfl,by rw[cell_of_row w b 5 _ _ (0,0) h];rfl,by rw[cell_of_row w b 6 _ _ (0,0) h];rfl,by rw[cell_of_row w b 7 _ _ (0,0) h];rfl,by rw[cell_of_row w b 8 _ _ (0,0) h];rfl,by rw[cell_of_row w b 9 _ _ (0,0) h];rfl,by rw[cell_of_row w b 10 _ _ (0,0) h];rfl⟩
theorem Np.frozen {w:World} {b:Nat} {t:Tk} (h:Np w b t) (j:Nat):w.frozen? ⟨b,j,none⟩=false:=frozen_of_row w b j _ _ h
theorem Np.new (w:World) (t:Tk):Np (w.alloc (.cells #[.int .i64 t.ser, .int .i64 t.kind, .int .i64 t.frm, .int .i64 t.till, .int .i64 t.cls, .int .i64 t.card, .int .i64 t.seat, .int .i64 t.day, .int .i64 t.days, .int .i64 t.uses, .int .i64 t.epoch] 167)) w.heap.size t:=heap_alloc_new w _
theorem Vo (t:Tk) (hk:t.kind=1) (w:World):Calls Tryz.prog 150 #[.agg #[.int .i64 t.ser, .int .i64 t.kind, .int .i64 t.frm, .int .i64 t.till, .int .i64 t.cls, .int .i64 t.card, .int .i64 t.seat, .int .i64 t.day, .int .i64 t.days, .int .i64 t.uses, .int .i64 t.epoch]] w fun e w'=>e= .returned (.tuple #[.agg #[.int .i64 1, .int .i64 1, .func (.func 188) #[.agg #[.int .i64 t.ser, .int .i64 t.kind, .int .i64 t.frm, .int .i64 t.till, .int .i64 t.cls, .int .i64 t.card, .int .i64 t.seat, .int .i64 t.day, .int .i64 t.days, .int .i64 t.uses, .int .i64 t.epoch]] #[], .func (.func 189) #[.agg #[.int .i64 t.ser, .int .i64 t.kind, .int .i64 t.frm, .int .i64 t.till, .int .i64 t.cls, .int .i64 t.card, .int .i64 t.seat, .int .i64 t.day, .int .i64 t.days, .int .i64 t.uses, .int .i64 t.epoch]] #[], .func (.func 190) #[.agg #[.int .i64 t.ser, .int .i64 t.kind, .int .i64 t.frm, .int .i64 t.till, .int .i64 t.cls, .int .i64 t.card, .int .i64 t.seat, .int .i64 t.day, .int .i64 t.days, .int .i64 t.uses, .int .i64 t.epoch]] #[]], .bool true])∧Below w.heap.size w w':=by
 have q1:(t.kind==1)=true:=by rw[beq_iff_eq];omega
 clear hk
 go_enter Tryz.func150, Tryz.ntmps150
 go_wp2
 exact bodyPost_ret (v:= .tuple #[.agg #[.int .i64 1, .int .i64 1, .func (.func 188) #[.agg #[.int .i64 t.ser, .int .i64 t.kind, .int .i64 t.frm, .int .i64 t.till, .int .i64 t.cls, .int .i64 t.card, .int .i64 t.seat, .int .i64 t.day, .int .i64 t.days, .int .i64 t.uses, .int .i64 t.epoch]] #[], .func (.func 189) #[.agg #[.int .i64 t.ser, .int .i64 t.kind, .int .i64 t.frm, .int .i64 t.till, .int .i64 t.cls, .int .i64 t.card, .int .i64 t.seat, .int .i64 t.day, .int .i64 t.days, .int .i64 t.uses, .int .i64 t.epoch]] #[], .func (.func 190) #[.agg #[.int .i64 t.ser, .int .i64 t.kind, .int .i64 t.frm, .int .i64 t.till, .int .i64 t.cls, .int .i64 t.card, .int .i64 t.seat, .int .i64 t.day, .int .i64 t.days, .int .i64 t.uses, .int .i64 t.epoch]] #[]], .bool true]) (by simp[results, Tryz.results150,go_sem]) rfl ⟨rfl,((Below.refl _ _).alloc (Nat.le_refl _) _).alloc (by simp) _⟩
theorem Vp (t:Tk) (hk:t.kind=2) (w:World):Calls Tryz.prog 150 #[.agg #[.int .i64 t.ser, .int .i64 t.kind, .int .i64 t.frm, .int .i64 t.till, .int .i64 t.cls, .int .i64 t.card, .int .i64 t.seat, .int .i64 t.day, .int .i64 t.days, .int .i64 t.uses, .int .i64 t.epoch]] w fun e w'=>e= .returned (.tuple #[.agg #[.int .i64 2, .int .i64 2, .func (.func 188) #[.agg #[.int .i64 t.ser, .int .i64 t.kind, .int .i64 t.frm, .int .i64 t.till, .int .i64 t.cls, .int .i64 t.card, .int .i64 t.seat, .int .i64 t.day, .int .i64 t.days, .int .i64 t.uses, .int .i64 t.epoch]] #[], .func (.func 189) #[.agg #[.int .i64 t.ser, .int .i64 t.kind, .int .i64 t.frm, .int .i64 t.till, .int .i64 t.cls, .int .i64 t.card, .int .i64 t.seat, .int .i64 t.day, .int .i64 t.days, .int .i64 t.uses, .int .i64 t.epoch]] #[], .func (.func 191) #[.agg #[.int .i64 t.ser, .int .i64 t.kind, .int .i64 t.frm, .int .i64 t.till, .int .i64 t.cls, .int .i64 t.card, .int .i64 t.seat, .int .i64 t.day, .int .i64 t.days, .int .i64 t.uses, .int .i64 t.epoch]] #[]], .bool true])∧Below w.heap.size w w':=by
 have q1:(t.kind==1)=false:=by rw[beq_eq_false_iff_ne];omega
 have q2:(t.kind==2)=true:=by rw[beq_iff_eq];omega
 clear hk
 go_enter Tryz.func150, Tryz.ntmps150
 go_wp2
 exact bodyPost_ret (v:= .tuple #[.agg #[.int .i64 2, .int .i64 2, .func (.func 188) #[.agg #[.int .i64 t.ser, .int .i64 t.kind, .int .i64 t.frm, .int .i64 t.till, .int .i64 t.cls, .int .i64 t.card, .int .i64 t.seat, .int .i64 t.day, .int .i64 t.days, .int .i64 t.uses, .int .i64 t.epoch]] #[], .func (.func 189) #[.agg #[.int .i64 t.ser, .int .i64 t.kind, .int .i64 t.frm, .int .i64 t.till, .int .i64 t.cls, .int .i64 t.card, .int .i64 t.seat, .int .i64 t.day, .int .i64 t.days, .int .i64 t.uses, .int .i64 t.epoch]] #[], .func (.func 191) #[.agg #[.int .i64 t.ser, .int .i64 t.kind, .int .i64 t.frm, .int .i64 t.till, .int .i64 t.cls, .int .i64 t.card, .int .i64 t.seat, .int .i64 t.day, .int .i64 t.days, .int .i64 t.uses, .int .i64 t.epoch]] #[]], .bool true]) (by simp[results, Tryz.results150,go_sem]) rfl ⟨rfl,((Below.refl _ _).alloc (Nat.le_refl _) _).alloc (by simp) _⟩
theorem Vq (t:Tk) (hk:t.kind=3) (w:World):Calls Tryz.prog 150 #[.agg #[.int .i64 t.ser, .int .i64 t.kind, .int .i64 t.frm, .int .i64 t.till, .int .i64 t.cls, .int .i64 t.card, .int .i64 t.seat, .int .i64 t.day, .int .i64 t.days, .int .i64 t.uses, .int .i64 t.epoch]] w fun e w'=>e= .returned (.tuple #[.agg #[.int .i64 0, .int .i64 0, .func (.func 192) #[.agg #[.int .i64 t.ser, .int .i64 t.kind, .int .i64 t.frm, .int .i64 t.till, .int .i64 t.cls, .int .i64 t.card, .int .i64 t.seat, .int .i64 t.day, .int .i64 t.days, .int .i64 t.uses, .int .i64 t.epoch]] #[], .func (.func 193) #[.agg #[.int .i64 t.ser, .int .i64 t.kind, .int .i64 t.frm, .int .i64 t.till, .int .i64 t.cls, .int .i64 t.card, .int .i64 t.seat, .int .i64 t.day, .int .i64 t.days, .int .i64 t.uses, .int .i64 t.epoch]] #[], .func (.func 194) #[.agg #[.int .i64 t.ser, .int .i64 t.kind, .int .i64 t.frm, .int .i64 t.till, .int .i64 t.cls, .int .i64 t.card, .int .i64 t.seat, .int .i64 t.day, .int .i64 t.days, .int .i64 t.uses, .int .i64 t.epoch]] #[]], .bool true])∧Below w.heap.size w w':=by
 have q1:(t.kind==1)=false:=by rw[beq_eq_false_iff_ne];omega
 have q2:(t.kind==2)=false:=by rw[beq_eq_false_iff_ne];omega
 have q3:(t.kind==3)=true:=by rw[beq_iff_eq];omega
 clear hk
 go_enter Tryz.func150, Tryz.ntmps150
 go_wp2
 exact bodyPost_ret (v:= .tuple #[.agg #[.int .i64 0, .int .i64 0, .func (.func 192) #[.agg #[.int .i64 t.ser, .int .i64 t.kind, .int .i64 t.frm, .int .i64 t.till, .int .i64 t.cls, .int .i64 t.card, .int .i64 t.seat, .int .i64 t.day, .int .i64 t.days, .int .i64 t.uses, .int .i64 t.epoch]] #[], .func (.func 193) #[.agg #[.int .i64 t.ser, .int .i64 t.kind, .int .i64 t.frm, .int .i64 t.till, .int .i64 t.cls, .int .i64 t.card, .int .i64 t.seat, .int .i64 t.day, .int .i64 t.days, .int .i64 t.uses, .int .i64 t.epoch]] #[], .func (.func 194) #[.agg #[.int .i64 t.ser, .int .i64 t.kind, .int .i64 t.frm, .int .i64 t.till, .int .i64 t.cls, .int .i64 t.card, .int .i64 t.seat, .int .i64 t.day, .int .i64 t.days, .int .i64 t.uses, .int .i64 t.epoch]] #[]], .bool true]) (by simp[results, Tryz.results150,go_sem]) rfl ⟨rfl,((Below.refl _ _).alloc (Nat.le_refl _) _).alloc (by simp) _⟩
theorem Vr (t:Tk) (hk:t.kind=4) (w:World):Calls Tryz.prog 150 #[.agg #[.int .i64 t.ser, .int .i64 t.kind, .int .i64 t.frm, .int .i64 t.till, .int .i64 t.cls, .int .i64 t.card, .int .i64 t.seat, .int .i64 t.day, .int .i64 t.days, .int .i64 t.uses, .int .i64 t.epoch]] w fun e w'=>e= .returned (.tuple #[.agg #[.int .i64 2, .int .i64 20, .func (.func 188) #[.agg #[.int .i64 t.ser, .int .i64 t.kind, .int .i64 t.frm, .int .i64 t.till, .int .i64 t.cls, .int .i64 t.card, .int .i64 t.seat, .int .i64 t.day, .int .i64 t.days, .int .i64 t.uses, .int .i64 t.epoch]] #[], .func (.func 189) #[.agg #[.int .i64 t.ser, .int .i64 t.kind, .int .i64 t.frm, .int .i64 t.till, .int .i64 t.cls, .int .i64 t.card, .int .i64 t.seat, .int .i64 t.day, .int .i64 t.days, .int .i64 t.uses, .int .i64 t.epoch]] #[], .func (.func 195) #[.agg #[.int .i64 t.ser, .int .i64 t.kind, .int .i64 t.frm, .int .i64 t.till, .int .i64 t.cls, .int .i64 t.card, .int .i64 t.seat, .int .i64 t.day, .int .i64 t.days, .int .i64 t.uses, .int .i64 t.epoch]] #[]], .bool true])∧Below w.heap.size w w':=by
 have q1:(t.kind==1)=false:=by rw[beq_eq_false_iff_ne];omega
 have q2:(t.kind==2)=false:=by rw[beq_eq_false_iff_ne];omega
 have q3:(t.kind==3)=false:=by rw[beq_eq_false_iff_ne];omega
 have q4:(t.kind==4)=true:=by rw[beq_iff_eq];omega
 clear hk
 go_enter Tryz.func150, Tryz.ntmps150
 go_wp2
 exact bodyPost_ret (v:= .tuple #[.agg #[.int .i64 2, .int .i64 20, .func (.func 188) #[.agg #[.int .i64 t.ser, .int .i64 t.kind, .int .i64 t.frm, .int .i64 t.till, .int .i64 t.cls, .int .i64 t.card, .int .i64 t.seat, .int .i64 t.day, .int .i64 t.days, .int .i64 t.uses, .int .i64 t.epoch]] #[], .func (.func 189) #[.agg #[.int .i64 t.ser, .int .i64 t.kind, .int .i64 t.frm, .int .i64 t.till, .int .i64 t.cls, .int .i64 t.card, .int .i64 t.seat, .int .i64 t.day, .int .i64 t.days, .int .i64 t.uses, .int .i64 t.epoch]] #[], .func (.func 195) #[.agg #[.int .i64 t.ser, .int .i64 t.kind, .int .i64 t.frm, .int .i64 t.till, .int .i64 t.cls, .int .i64 t.card, .int .i64 t.seat, .int .i64 t.day, .int .i64 t.days, .int .i64 t.uses, .int .i64 t.epoch]] #[]], .bool true]) (by simp[results, Tryz.results150,go_sem]) rfl ⟨rfl,((Below.refl _ _).alloc (Nat.le_refl _) _).alloc (by simp) _⟩
theorem Aei (t:Tk) (hk:t.kind<1∨4<t.kind) (w:World):Calls Tryz.prog 150 #[.agg #[.int .i64 t.ser, .int .i64 t.kind, .int .i64 t.frm, .int .i64 t.till, .int .i64 t.cls, .int .i64 t.card, .int .i64 t.seat, .int .i64 t.day, .int .i64 t.days, .int .i64 t.uses, .int .i64 t.epoch]] w fun e w'=>e= .returned (.tuple #[.agg #[.int .i64 0, .int .i64 0, .nilFunc, .nilFunc, .nilFunc], .bool false])∧Below w.heap.size w w':=by
 have q1:(t.kind==1)=false:=by rw[beq_eq_false_iff_ne];omega
 have q2:(t.kind==2)=false:=by rw[beq_eq_false_iff_ne];omega
 have q3:(t.kind==3)=false:=by rw[beq_eq_false_iff_ne];omega
 have q4:(t.kind==4)=false:=by rw[beq_eq_false_iff_ne];omega
 clear hk
 go_enter Tryz.func150, Tryz.ntmps150
 go_wp2
 exact bodyPost_ret (v:= .tuple #[.agg #[.int .i64 0, .int .i64 0, .nilFunc, .nilFunc, .nilFunc], .bool false]) (by simp[results, Tryz.results150,go_sem]) rfl ⟨rfl,((Below.refl _ _).alloc (Nat.le_refl _) _).alloc (by simp) _⟩
end Go.Proofs.YtmdbfogjfbbpjaaGreatDoor
end
section
namespace Go.Proofs.YtmdbfogjfbbpjaaGreatDoor
open Go.ChangeShapes Go.WideShapes Go.ChangeAt Go.RowKit Go.Shelf
attribute [local go_sem] Oper.semAt_some
theorem Ac7 (s:Int) (b:Bool) (hb:isN s=b) (w:World):Calls Tryz.prog 222 #[.int .i64 s] w fun e w'=>e= .returned (.bool b)∧w'=w:=by
 have HB:=Lib.hid hb
 clear hb
 cases h0:decide (0≤s)<;>cases h1:decide (s≤39)
 all_goals
  have H0:=Lib.hid h0
  have H1:=Lib.hid h1
  go_enter Tryz.func222, Tryz.ntmps222
  go_wp2
  go_ret
  refine⟨congrArg Ending.returned (congrArg Value.bool ?_),rfl⟩
  rw[←HB.out,isN,H0.out,H1.out]
  rfl
def Zx (BA BB:Nat) (W W':World):Prop:= ∀k v,(k=BA∨k=BB)→W.cell? ⟨k,0,none⟩=some v→W'.cell? ⟨k,0,none⟩=some v
theorem Zx.refl (BA BB:Nat) (W:World):Zx BA BB W W:=fun _ _ _ h=>h
theorem Zx.trans {BA BB:Nat} {X Y Z:World} (h:Zx BA BB X Y) (g:Zx BA BB Y Z):Zx BA BB X Z:=fun k v hk hv=>g k v hk (h k v hk hv)
theorem Zx.below {BA BB n₀:Nat} {W W':World} (hA:BA<n₀) (hB:BB<n₀) (h:Below n₀ W W'):Zx BA BB W W':=fun k v hk hv=>(h.cell (p:=⟨k,0,none⟩) (by show k<n₀;rcases hk with rfl|rfl<;>omega)).trans hv
theorem Zx.put {BA BB:Nat} (W:World) (l:Nat) (o o':Obj) (hl:W.heap[l]?=some o) (ho:o.isCells=false):Zx BA BB W (W.putObj l o'):=fun k v _ hv=>cell_kept hv (grownBy_putObj' W l o') (fun r e=>by cases e;exact⟨o,hl,ho⟩)
end Go.Proofs.YtmdbfogjfbbpjaaGreatDoor
end
section
namespace Go.Proofs.YtmdbfogjfbbpjaaGreatDoor
set_option linter.unusedSimpArgs false
open Go.ChangeShapes Go.WideShapes Go.ChangeAt Go.RowKit

end Go.Proofs.YtmdbfogjfbbpjaaGreatDoor
end
section
namespace Go.Proofs.YtmdbfogjfbbpjaaGreatDoor
set_option linter.unusedSimpArgs false
open Go.ChangeShapes Go.WideShapes Go.ChangeAt Go.RowKit Go.Shelf
attribute [local go_sem] Oper.semAt_some
def zF {H:Type} (D:DataW H) (xs:List (Fin 40)):DataW H:=xs.foldl (fun D x=>D.put (.int .i64 (x.val:Int)) (.lit (.int .i64 (zn (x.val:Int))))) D
def zD {H:Type} (xs:List (Fin 40)):DataW H:=zF (.map []) xs
attribute [local go_sem] Oper.semAt_some
end Go.Proofs.YtmdbfogjfbbpjaaGreatDoor
end
section
namespace Go.Proofs.YtmdbfogjfbbpjaaGreatDoor
open Go.ChangeShapes Go.WideShapes Go.ChangeAt Go.RowKit
theorem Bp (n a b:Int) (v:Bool) (hv:(decide (a≤n)&&decide (n≤b))=v) (w:World):Calls Tryz.prog 152 #[.int .i64 n, .int .i64 a, .int .i64 b] w fun e w'=>e= .returned (.bool v)∧w'=w:=by
 have HB:=Lib.hid hv
 clear hv
 cases h0:decide (a≤n)<;>cases h1:decide (n≤b)
 all_goals
  have H0:=Lib.hid h0
  have H1:=Lib.hid h1
  go_enter Tryz.func152, Tryz.ntmps152
  go_wp2
  go_ret
  refine⟨congrArg Ending.returned (congrArg Value.bool ?_),rfl⟩
  rw[←HB.out,H0.out,H1.out]
  rfl
def Zy (t:Tk):Bool:=isN t.frm&&(isN t.till&&(t.frm !=t.till))
def Zb (t:Tk):Bool:=decide (1≤t.frm)&&(decide (t.frm≤t.till)&&decide (t.till≤6))
theorem Gi (t:Tk) (b:Bool) (hb:Zy t=b) (w:World):Calls Tryz.prog 188 #[.agg #[.int .i64 t.ser, .int .i64 t.kind, .int .i64 t.frm, .int .i64 t.till, .int .i64 t.cls, .int .i64 t.card, .int .i64 t.seat, .int .i64 t.day, .int .i64 t.days, .int .i64 t.uses, .int .i64 t.epoch]] w fun e w'=>e= .returned (.bool b)∧Below w.heap.size w w':=by
 have HV:=Lib.hid hb
 clear hb
 obtain⟨w0,hw0⟩: ∃w0,w0=w.alloc (.cells #[.int .i64 t.ser, .int .i64 t.kind, .int .i64 t.frm, .int .i64 t.till, .int .i64 t.cls, .int .i64 t.card, .int .i64 t.seat, .int .i64 t.day, .int .i64 t.days, .int .i64 t.uses, .int .i64 t.epoch] 167):=⟨_,rfl⟩
 have HX:Hid (Np w0 w.heap.size t):=Lib.hid (by rw[hw0];exact Np.new w t)
 have HB:Hid (Below w.heap.size w w0):=Lib.hid (by rw[hw0];exact Aa w _ _)
 have HW:=Lib.hid hw0
 clear hw0
 obtain⟨c0,c1,c2,c3,c4,c5,c6,c7,c8,c9,c10⟩:=HX.out.cells
 cases q1:isN t.frm<;>cases q2:isN t.till<;>cases q3:(t.frm !=t.till)
 all_goals
  have hb:(isN t.frm&&(isN t.till&&(t.frm !=t.till)))=b:=HV.out
  rw[q1,q2,q3]at hb
  subst hb
  have HI:=Lib.hid q1
  have HJ:=Lib.hid q2
  clear q1 q2
  go_enter Tryz.func188, Tryz.ntmps188
  go_wp2_with (go_at_call 222;refine(Ac7 _ _ (by first|exact HI.out|exact HJ.out) _).mono ?_;rintro e w1 ⟨rfl,rfl⟩)
  go_ret
  refine⟨rfl, ?_⟩
  rw[←HW.out]
  exact HB.out
theorem Oz (t:Tk) (b:Bool) (hb:Zb t=b) (w:World):Calls Tryz.prog 192 #[.agg #[.int .i64 t.ser, .int .i64 t.kind, .int .i64 t.frm, .int .i64 t.till, .int .i64 t.cls, .int .i64 t.card, .int .i64 t.seat, .int .i64 t.day, .int .i64 t.days, .int .i64 t.uses, .int .i64 t.epoch]] w fun e w'=>e= .returned (.bool b)∧Below w.heap.size w w':=by
 have HV:=Lib.hid hb
 clear hb
 obtain⟨w0,hw0⟩: ∃w0,w0=w.alloc (.cells #[.int .i64 t.ser, .int .i64 t.kind, .int .i64 t.frm, .int .i64 t.till, .int .i64 t.cls, .int .i64 t.card, .int .i64 t.seat, .int .i64 t.day, .int .i64 t.days, .int .i64 t.uses, .int .i64 t.epoch] 167):=⟨_,rfl⟩
 have HX:Hid (Np w0 w.heap.size t):=Lib.hid (by rw[hw0];exact Np.new w t)
 have HB:Hid (Below w.heap.size w w0):=Lib.hid (by rw[hw0];exact Aa w _ _)
 have HW:=Lib.hid hw0
 clear hw0
 obtain⟨c0,c1,c2,c3,c4,c5,c6,c7,c8,c9,c10⟩:=HX.out.cells
 obtain⟨x,hx⟩: ∃x,(decide (1≤t.frm)&&decide (t.frm≤t.till))=x:=⟨_,rfl⟩
 have hb:(x&&decide (t.till≤6))=b:=by rw[←hx, ←HV.out,Zb,Bool.and_assoc]
 have HX2:=Lib.hid hx
 have HV2:=Lib.hid hb
 clear hx hb
 cases x<;>cases q3:decide (t.till≤6)
 all_goals
  have hb:=HV2.out
  rw[q3]at hb
  subst hb
  go_enter Tryz.func192, Tryz.ntmps192
  go_wp2_with (go_at_call 152;refine(Bp _ _ _ _ HX2.out _).mono ?_;rintro e w1 ⟨rfl,rfl⟩)
  go_ret
  refine⟨rfl, ?_⟩
  rw[←HW.out]
  exact HB.out
def inB (n a b:Int):Bool:=decide (a≤n)&&decide (n≤b)
theorem Hd {n a b:Int} :inB n a b=true↔a≤n∧n≤b:=by simp[inB]
def hbB (t:Tk):Bool:=inB t.ser 1 1099511627776&&(inB t.cls 1 2&&(inB t.card 0 3&&(inB t.seat 0 999&&(inB t.day 0 99999&&(inB t.days 1 999&&(decide (t.day+t.days - 1≤99999)&&(inB t.epoch 0 9)))))))
theorem Kc (t:Tk) (b:Bool) (hb:hbB t=b) (w:World):Calls Tryz.prog 151 #[.agg #[.int .i64 t.ser, .int .i64 t.kind, .int .i64 t.frm, .int .i64 t.till, .int .i64 t.cls, .int .i64 t.card, .int .i64 t.seat, .int .i64 t.day, .int .i64 t.days, .int .i64 t.uses, .int .i64 t.epoch]] w fun e w'=>e= .returned (.bool b)∧Below w.heap.size w w':=by
 have HV:=Lib.hid hb
 clear hb
 obtain⟨w0,hw0⟩: ∃w0,w0=w.alloc (.cells #[.int .i64 t.ser, .int .i64 t.kind, .int .i64 t.frm, .int .i64 t.till, .int .i64 t.cls, .int .i64 t.card, .int .i64 t.seat, .int .i64 t.day, .int .i64 t.days, .int .i64 t.uses, .int .i64 t.epoch] 167):=⟨_,rfl⟩
 have HX:Hid (Np w0 w.heap.size t):=Lib.hid (by rw[hw0];exact Np.new w t)
 have HB:Hid (Below w.heap.size w w0):=Lib.hid (by rw[hw0];exact Aa w _ _)
 have HW:=Lib.hid hw0
 clear hw0
 obtain⟨c0,c1,c2,c3,c4,c5,c6,c7,c8,c9,c10⟩:=HX.out.cells
 cases q0:inB t.ser 1 1099511627776
 case false=>
  have Q0:=Lib.hid q0
  clear q0
  have hb:b=false:=by rw[←HV.out,hbB,Q0.out];try rfl
  subst hb
  go_enter Tryz.func151, Tryz.ntmps151
  go_wp2_with (go_at_call 152;refine(Bp _ _ _ _ (by first|exact Q0.out) _).mono ?_;rintro e w1 ⟨rfl,rfl⟩)
  go_ret
  refine⟨rfl, ?_⟩
  rw[←HW.out]
  exact HB.out
 case true=>
  have Q0:=Lib.hid q0
  clear q0
  cases q1:inB t.cls 1 2
  case false=>
   have Q1:=Lib.hid q1
   clear q1
   have hb:b=false:=by rw[←HV.out,hbB,Q0.out,Q1.out];try rfl
   subst hb
   go_enter Tryz.func151, Tryz.ntmps151
   go_wp2_with (go_at_call 152;refine(Bp _ _ _ _ (by first|exact Q0.out|exact Q1.out) _).mono ?_;rintro e w1 ⟨rfl,rfl⟩)
   go_ret
   refine⟨rfl, ?_⟩
   rw[←HW.out]
   exact HB.out
  case true=>
   have Q1:=Lib.hid q1
   clear q1
   cases q2:inB t.card 0 3
   case false=>
    have Q2:=Lib.hid q2
    clear q2
    have hb:b=false:=by rw[←HV.out,hbB,Q0.out,Q1.out,Q2.out];try rfl
    subst hb
    go_enter Tryz.func151, Tryz.ntmps151
    go_wp2_with (go_at_call 152;refine(Bp _ _ _ _ (by first|exact Q0.out|exact Q1.out|exact Q2.out) _).mono ?_;rintro e w1 ⟨rfl,rfl⟩)
    go_ret
    refine⟨rfl, ?_⟩
    rw[←HW.out]
    exact HB.out
   case true=>
    have Q2:=Lib.hid q2
    clear q2
    cases q3:inB t.seat 0 999
    case false=>
     have Q3:=Lib.hid q3
     clear q3
     have hb:b=false:=by rw[←HV.out,hbB,Q0.out,Q1.out,Q2.out,Q3.out];try rfl
     subst hb
     go_enter Tryz.func151, Tryz.ntmps151
     go_wp2_with (go_at_call 152;refine(Bp _ _ _ _ (by first|exact Q0.out|exact Q1.out|exact Q2.out|exact Q3.out) _).mono ?_;rintro e w1 ⟨rfl,rfl⟩)
     go_ret
     refine⟨rfl, ?_⟩
     rw[←HW.out]
     exact HB.out
    case true=>
     have Q3:=Lib.hid q3
     clear q3
     cases q4:inB t.day 0 99999
     case false=>
      have Q4:=Lib.hid q4
      clear q4
      have hb:b=false:=by rw[←HV.out,hbB,Q0.out,Q1.out,Q2.out,Q3.out,Q4.out];try rfl
      subst hb
      go_enter Tryz.func151, Tryz.ntmps151
      go_wp2_with (go_at_call 152;refine(Bp _ _ _ _ (by first|exact Q0.out|exact Q1.out|exact Q2.out|exact Q3.out|exact Q4.out) _).mono ?_;rintro e w1 ⟨rfl,rfl⟩)
      go_ret
      refine⟨rfl, ?_⟩
      rw[←HW.out]
      exact HB.out
     case true=>
      have Q4:=Lib.hid q4
      clear q4
      cases q5:inB t.days 1 999
      case false=>
       have Q5:=Lib.hid q5
       clear q5
       have hb:b=false:=by rw[←HV.out,hbB,Q0.out,Q1.out,Q2.out,Q3.out,Q4.out,Q5.out];try rfl
       subst hb
       go_enter Tryz.func151, Tryz.ntmps151
       go_wp2_with (go_at_call 152;refine(Bp _ _ _ _ (by first|exact Q0.out|exact Q1.out|exact Q2.out|exact Q3.out|exact Q4.out|exact Q5.out) _).mono ?_;rintro e w1 ⟨rfl,rfl⟩)
       go_ret
       refine⟨rfl, ?_⟩
       rw[←HW.out]
       exact HB.out
      case true=>
       have Q5:=Lib.hid q5
       clear q5
       have h4:=Hd.1 Q4.out
       have h5:=Hd.1 Q5.out
       have v1:IntKind.i64.wrap (t.day+t.days)=t.day+t.days:=IntWalk.i64_in _ (by omega)
       have v2:IntKind.i64.wrap (t.day+t.days - 1)=t.day+t.days - 1:=IntWalk.i64_in _ (by omega)
       clear h4 h5
       cases q6:decide (t.day+t.days - 1≤99999)
       case false=>
        have Q6:=Lib.hid q6
        have hb:b=false:=by rw[←HV.out,hbB,Q0.out,Q1.out,Q2.out,Q3.out,Q4.out,Q5.out,Q6.out];try rfl
        subst hb
        go_enter Tryz.func151, Tryz.ntmps151
        go_wp2_with (go_at_call 152;refine(Bp _ _ _ _ (by first|exact Q0.out|exact Q1.out|exact Q2.out|exact Q3.out|exact Q4.out|exact Q5.out) _).mono ?_;rintro e w1 ⟨rfl,rfl⟩)
        go_ret
        refine⟨rfl, ?_⟩
        rw[←HW.out]
        exact HB.out
       case true=>
        have Q6:=Lib.hid q6
        cases q7:inB t.epoch 0 9
        case false=>
         have Q7:=Lib.hid q7
         clear q7
         have hb:b=false:=by rw[←HV.out,hbB,Q0.out,Q1.out,Q2.out,Q3.out,Q4.out,Q5.out,Q6.out,Q7.out];try rfl
         subst hb
         go_enter Tryz.func151, Tryz.ntmps151
         go_wp2_with (go_at_call 152;refine(Bp _ _ _ _ (by first|exact Q0.out|exact Q1.out|exact Q2.out|exact Q3.out|exact Q4.out|exact Q5.out|exact Q7.out) _).mono ?_;rintro e w1 ⟨rfl,rfl⟩)
         go_ret
         refine⟨rfl, ?_⟩
         rw[←HW.out]
         exact HB.out
        case true=>
         have Q7:=Lib.hid q7
         clear q7
         have hb:b=true:=by rw[←HV.out,hbB,Q0.out,Q1.out,Q2.out,Q3.out,Q4.out,Q5.out,Q6.out,Q7.out];try rfl
         subst hb
         go_enter Tryz.func151, Tryz.ntmps151
         go_wp2_with (go_at_call 152;refine(Bp _ _ _ _ (by first|exact Q0.out|exact Q1.out|exact Q2.out|exact Q3.out|exact Q4.out|exact Q5.out|exact Q7.out) _).mono ?_;rintro e w1 ⟨rfl,rfl⟩)
         go_ret
         refine⟨rfl, ?_⟩
         rw[←HW.out]
         exact HB.out
end Go.Proofs.YtmdbfogjfbbpjaaGreatDoor
end
