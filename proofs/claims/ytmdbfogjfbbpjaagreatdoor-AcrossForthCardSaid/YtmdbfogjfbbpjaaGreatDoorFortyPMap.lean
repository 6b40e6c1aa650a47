import Derived.Test.YtmdbfogjfbbpjaaGreatDoorStripePDec
import Derived.Maps.OwnIn
import Derived.Maps.OwnSet
import Derived.Maps.Views
import Derived.RangeFuncNested
import Derived.RangeFuncBound
import Derived.RangeFuncLeaves
import Derived.RangeFuncBox
import Derived.Shelf.Abstract
import Derived.WalkKit
import Derived.OwnWalkIn
import Derived.TacticsInMore
import Derived.LoopNIn
import Derived.LoopIn
import Derived.Maps.AppendAt
import Derived.Test.YtmdbfogjfbbpjaaGreatDoorLayPFields
import Derived.Test.YtmdbfogjfbbpjaaGreatDoorFieldsMath
import Derived.RegionIn
import Derived.Test.YtmdbfogjfbbpjaaGreatDoorMem
import Derived.Test.YtmdbfogjfbbpjaaGreatDoorShaPSum
import Derived.Test.YtmdbfogjfbbpjaaGreatDoorShaPad
import Derived.Test.YtmdbfogjfbbpjaaGreatDoorTrackBackMath
import Derived.IntWalk
set_option maxHeartbeats 2000000
set_option maxRecDepth 100000
set_option linter.unusedVariables false
section
namespace Go.Proofs.YtmdbfogjfbbpjaaGreatDoor
set_option linter.unusedSimpArgs false
open Go.ChangeShapes Go.WideShapes Go.ChangeAt Go.RowKit
def sD {H:Type} :Nat→DataW H
 |0=> .map []
 |k+1=>(sD k).put (.int .u8 ((sg k:Nat):Int)) (.lit (.int .i64 (k:Int)))
theorem qO {H:Type} : ∀k,Maps.IsMap (sD (H:=H) k)
 |0=>Maps.isMap_empty
 |k+1=>(qO k).put _ _
theorem tK {s x:Nat} (h:s≠x):Lit.int .u8 (s:Int)≠Lit.int .u8 (x:Int):=by
 intro e
 injection e with _ e
 exact h (by omega)
theorem Ae3 {H:Type} (c:Nat) (z:DataW H): ∀k,k≤45→vl c<k→(sD k).atKey (.int .u8 (c:Int)) z= .lit (.int .i64 ((vl c:Nat):Int))
 |0,_,h=>absurd h (by omega)
 |k+1,hk,h=>by
  by_cases e:vl c=k
  ·have hs:sg k=c:=by rw[←e];exact Uf (by omega)
   rw[sD,hs,e]
   exact Maps.atKey_put_same (qO k) (by simp[WideAt.IsKeyLit]) _ _
  ·have hs:c≠sg k:=by rintro rfl;exact e (Ud k (by omega))
   rw[sD]
   exact(Maps.atKey_put_other (tK hs) _ _).trans (Ae3 c z k (by omega) (by omega))
theorem Ace {H:Type} (c:Nat): ∀k,k≤45→Maps.has (sD (H:=H) k) (.int .u8 (c:Int))=decide (vl c<k)
 |0,_=>rfl
 |k+1,hk=>by
  by_cases e:vl c=k
  ·have hs:sg k=c:=by rw[←e];exact Uf (by omega)
   rw[sD,hs,Maps.has_put_same (qO k) (by simp[WideAt.IsKeyLit]),e]
   simp
  ·have hs:c≠sg k:=by rintro rfl;exact e (Ud k (by omega))
   rw[sD,Maps.has_put_other (tK hs),Ace c k (by omega)]
   have:(vl c<k)=(vl c<k+1):=by apply propext;omega
   simp only[this]
def Acf {H:Type} :DataW H:=sD 45
theorem mH {H:Type} (c:Nat):Maps.has (Acf (H:=H)) (.int .u8 (c:Int))=Ee c:=Ace c 45 (Nat.le_refl _)
theorem AdX {H:Type} {c:Nat} (h:Ee c=true) (z:DataW H):(Acf (H:=H)).atKey (.int .u8 (c:Int)) z= .lit (.int .i64 ((vl c:Nat):Int)):=Ae3 c z 45 (Nat.le_refl _) (Mu h)
theorem Ae4 {s:Nat} (h:s<256):(Lit.int .u8 (s:Int)).wf=true:=by
 simp[Lit.wf,IntKind.min,IntKind.max,IntKind.signed,IntKind.bits]
 omega
theorem AdY {s:Nat} (h:s<9223372036854775808):(Lit.int .i64 (s:Int)).wf=true:=by
 simp only[Lit.wf,IntKind.min,IntKind.max,IntKind.signed,IntKind.bits,Bool.and_eq_true,decide_eq_true_eq,if_true]
 omega
abbrev qP (w:World) (g:Nat):Prop:=w.ownsMap Tryz.prog 5 (plainElem (H:=Unit) Tryz.prog 3) g 45 Acf
theorem mI (w:World):Calls Tryz.prog 143 #[] w fun e w'=>e= .returned (.map (some w.heap.size))∧qP w' w.heap.size∧Below w.heap.size w w':=by
 have hmm:= @run_makeMap Tryz.prog
 go_enter Tryz.func143, Tryz.ntmps143
 go_wp2
 go_loopw [4] (fun i wr=> ∃k:Nat,k≤45∧i= .int .i64 (k:Int)∧wr.ownsMap Tryz.prog 5 (plainElem (H:=Unit) Tryz.prog 3) w.heap.size k (sD k)∧Below w.heap.size w wr) (fun i _=>45 - (intOf i).toNat)
 case atStart=>exact⟨0,by omega,rfl,World.ownsMap_made w Tryz.prog 5 (plainElem (H:=Unit) Tryz.prog 3),(Below.refl _ w).alloc (Nat.le_refl _) _⟩
 case round=>
  obtain⟨k,hk,rfl,hown,hbel⟩:=hrel
  by_cases hlt:k<45
  ·have hkey:=Maps.keyOf_int_mk (P:= Tryz.prog) Tryz.underlying5 (Ae4 (sA k))
   have hix:=Dh k hlt
   have hwf:=AdY (s:=k) (by omega)
   have HBL:=Lib.hid hbel
   clear hbel
   go_wp2_with (at_mapUpdate;refine wpList_mapUpdate_own _ rfl _ _ _ 157 rfl 5 3 (Maps.int_keyed Tryz.underlying5) Tryz.underlying157 _ w.heap.size k _ rfl hown (by unfold maxLen;omega) _ _ _ rfl rfl hkey _ [] (plainElem_int Tryz.underlying3 hwf) ?_;intro w1 hown1 hgrow1)
   have HO:=Lib.hid hown1
   have HB:=Lib.hid (HBL.out.grown hgrow1 HBL.out.size (fun k e=>by cases e;exact Nat.le_refl _))
   clear hown1 hgrow1 hown HBL
   go_wp2
   go_roundw
   case rel=>exact⟨k+1,by omega,by go_num,HO.out,HB.out⟩
   case measure=>simp[intOf];omega
  ·obtain rfl:k=45:=by omega
   have HO:=Lib.hid hown
   have HB:=Lib.hid hbel
   clear hown hbel
   go_wp2
   go_ret
   exact⟨rfl,HO.out,HB.out⟩
def nS:List Nat→Nat
 |[]=>0
 |c::r=>vl c+45*nS r
def okL (l:List Nat):Bool:=l.all Ee
theorem gG: ∀(l:List Nat) (c:Nat),nS (l++ [c])=nS l+45^l.length*vl c
 |[],c=>by simp[nS]
 |x::l,c=>by
  rw[List.cons_append,nS,nS,gG l c,List.length_cons,Nat.pow_succ,Nat.mul_add, ←Nat.add_assoc, ←Nat.mul_assoc,Nat.mul_comm 45 (45^l.length)]
theorem cZ: ∀(l:List Nat),l.length≤3→nS l<100000
 |[],_=>by decide
 |[a],_=>by have:=Ws a;simp[nS];omega
 |[a,b],_=>by have:=Ws a;have:=Ws b;simp[nS];omega
 |[a,b,c],_=>by have:=Ws a;have:=Ws b;have:=Ws c;simp[nS];omega
 |_::_::_::_::_,h=>by simp at h
theorem mJ (l:List Nat) (c:Nat):okL (l++ [c])=(okL l&&Ee c):=by simp[okL]
theorem tL {l:List Nat} {k c:Nat} (h:l[k]?=some c) (hc:Ee c=false):okL l=false:=by
 cases h1:okL l with
 |false=>rfl
 |true=>rw[okL,List.all_eq_true]at h1;rw[h1 c (List.mem_of_getElem? h)]at hc;cases hc
theorem Sa (l:List Nat) (n:Nat) (hn:n=l.length) (h3:n≤3) (E:Bool) (N:Nat) (hE:okL l=E) (hN:(if E then nS l else 0)=N) (A:Option Addr) (c g:Nat) (w:World) (hA:Bs w w.heap.size l A c) (hown:qP w g):
  Calls Tryz.prog 144 #[.slice A n c, .map (some g)] w fun e w'=>e= .returned (.tuple #[.int .i64 N, .bool E])∧w=w':=by
 have HN:=Lib.hid hn
 have HA:=Lib.hid hA
 have HE:=Lib.hid hE
 have HNN:=Lib.hid hN
 clear hn hA hE hN
 go_enter Tryz.func144, Tryz.ntmps144
 go_wp2
 go_loop [6,7,9,14] (fun t p _ i=> ∃k:Nat,k≤n∧i= .int .i64 k∧t= .int .i64 (nS (l.take k):Nat)∧p= .int .i64 (45^k:Nat)∧okL (l.take k)=true) (fun _ _ _ i=>n - (intOf i).toNat)
 case atStart=>exact⟨0,Nat.zero_le _,rfl,rfl,rfl,rfl⟩
 case round=>
  obtain⟨k,hk,rfl,rfl,rfl,hok⟩:=hrel
  have HOK:=Lib.hid hok
  clear hok
  by_cases hlt:k<n
  ·have hkl:k<l.length:=by rw[←HN.out];exact hlt
   obtain⟨x,hx⟩: ∃x,l[k]?=some x:=⟨_,List.getElem?_eq_getElem hkl⟩
   obtain⟨ad,rfl,hb,hc⟩:=HA.out.rd k (.int .u8 (x:Int)) (by rw[U8,List.getElem?_map,hx];rfl)
   have hx2:x<256:=HA.out.lt x (List.mem_of_getElem? hx)
   have hkey:=Maps.keyOf_int_mk (P:= Tryz.prog) Tryz.underlying5 (Ae4 hx2)
   have HK:=Lib.hid hkey
   have HX:=Lib.hid hx
   have b1:(0:Int)≤(k:Int):=by omega
   have b2:(k:Int)<(n:Int):=by omega
   have hl:=cZ (l.take k) (by rw[List.length_take];omega)
   have hl2:=cZ (l.take (k+1)) (by rw[List.length_take];omega)
   have hst:nS (l.take (k+1))=nS (l.take k)+45^k*vl x:=by rw[Fg hx,gG,List.length_take,Nat.min_eq_left (by omega)]
   have hp:45^k≤2025:=Nat.le_trans (Nat.pow_le_pow_right (by omega) (show k≤2 by omega)) (by decide)
   have hp2:45^(k+1)=45^k*45:=Nat.pow_succ 45 k
   have hokn:okL (l.take (k+1))=Ee x:=by rw[Fg hx,mJ,HOK.out,Bool.true_and]
   have HOKN:=Lib.hid hokn
   have HP2:=Lib.hid hp2
   rw[hst]at hl2
   have HST:=Lib.hid hst
   clear hkey hx hkl hst hp2 hokn
   generalize nS (l.take k)=a at*
   generalize 45^k=p at*
   cases hs:Ee x with
   |true=>
    have hh:Maps.has (Acf (H:=Unit)) (.int .u8 (x:Int))=true:=by rw[mH,hs]
    have ha:=AdX (H:=Unit) hs (.lit (.int .i64 0))
    have hvl:=Mu hs
    have HS:=Lib.hid hs
    generalize vl x=y at*
    have HAT:=Lib.hid ha
    obtain⟨m,hm⟩: ∃m,m=p*y:=⟨_,rfl⟩
    rw[←hm]at HST hl2
    have hpm:(p:Int)*(y:Int)=(m:Int):=by rw[hm];push_cast;rfl
    have w1:IntKind.i64.wrap (m:Int)=(m:Int):=IntWalk.i64_in _ (by omega)
    have w2:IntKind.i64.wrap ((a:Int)+(m:Int))=(a:Int)+(m:Int):=IntWalk.i64_in _ (by omega)
    have w3:IntKind.i64.wrap ((p:Int)*45)=(p:Int)*45:=IntWalk.i64_in _ (by omega)
    clear hs ha hm
    go_wp2_with (at_lookup;refine wpList_lookup_own_ok_int _ rfl _ _ 157 rfl 5 3 .i64 (Maps.int_keyed Tryz.underlying5) Tryz.underlying157 Tryz.underlying3 (Tryz.zeroValue3 _) g 45 _ rfl hown _ _ rfl HK.out ?_;intro c hat hwc;obtain rfl:(y:Int)=c:=(by have:=HAT.out.symm.trans hat;simpa using this);rw[hh];clear hat hwc)
    go_round
    case rel=>exact⟨k+1,by omega,by go_num,by rw[HST.out];go_num,by rw[HP2.out];go_num,by rw[HOKN.out];exact HS.out⟩
    case measure=>simp[intOf];omega
   |false=>
    have hh:Maps.has (Acf (H:=Unit)) (.int .u8 (x:Int))=false:=by rw[mH,hs]
    obtain rfl:E=false:=by rw[←HE.out];exact tL HX.out hs
    obtain rfl:N=0:=by rw[←HNN.out];rfl
    clear hs HE HNN HST HP2 HOKN
    go_wp2_with (at_lookup;refine wpList_lookup_own_ok_int _ rfl _ _ 157 rfl 5 3 .i64 (Maps.int_keyed Tryz.underlying5) Tryz.underlying157 Tryz.underlying3 (Tryz.zeroValue3 _) g 45 _ rfl hown _ _ rfl HK.out ?_;intro c hat hwc;rw[hh];clear hat hwc)
    go_ret2
    exact⟨rfl,rfl⟩
  ·obtain rfl:k=n:=by omega
   have e:l.take k=l:=List.take_of_length_le (by rw[←HN.out];omega)
   have h1:=HOK.out
   rw[e]at h1⊢
   obtain rfl:E=true:=by rw[←HE.out];exact h1
   have h2:nS l=N:=by rw[←HNN.out];rfl
   rw[h2]
   clear e h1 h2 HE HNN HOK
   go_wp2
   go_ret2
   exact⟨rfl,rfl⟩
end Go.Proofs.YtmdbfogjfbbpjaaGreatDoor
end
section
namespace Go.Proofs.YtmdbfogjfbbpjaaGreatDoor
open Go.ChangeShapes Go.WideShapes Go.ChangeAt Go.RowKit Go.Shelf
attribute [local go_sem] Oper.semAt_some
def grp (l:List Nat) (sz k:Nat):List Nat:=(l.drop (sz*k)).take sz
def eOf (n sz f:Nat):Nat:=if n<f+sz then n else f+sz
theorem gH (l:List Nat) (sz k:Nat) (h:sz*k<l.length):(grp l sz k).length=eOf l.length sz (sz*k) - sz*k:=by
 rw[grp,List.length_take,List.length_drop,eOf]
 split<;>omega
theorem xX (ad:Addr) (i j:Nat):(ad.add i).add j=ad.add (i+j):=by
 unfold Addr.add
 split<;>split<;>simp_all<;>omega
theorem AdZ {l:List Nat} {sz k x:Nat} (h:x∈grp l sz k):x∈l:=List.mem_of_mem_drop (List.mem_of_mem_take h)
theorem Acg {W:World} {B:Nat} {l:List Nat} {A:Option Addr} {c:Nat} (h:Bs W B l A c) (sz k:Nat) (hk:sz*k<l.length):Bs W B (grp l sz k) (A.map (fun x=>x.add (sz*k))) (c - sz*k):=by
 have hl:=h.len
 have hcap:=h.cap
 refine⟨fun j u hu=> ?_,fun he=> ?_, ?_,by omega,fun x hx=>h.lt x (AdZ hx)⟩
 ·have hat:(U8 l)[sz*k+j]?=some u:=by
   rw[U8,List.getElem?_map]at hu⊢
   rw[grp]at hu
   have hj:j<sz:=by
    rcases Nat.lt_or_ge j sz with h1|h1
    ·exact h1
    ·rw[List.getElem?_eq_none (by rw[List.length_take];omega)]at hu;cases hu
   rw[List.getElem?_take_of_lt hj,List.getElem?_drop]at hu
   exact hu
  obtain⟨ad,rfl,hb,hc⟩:=h.rd _ _ hat
  refine⟨ad.add (sz*k),rfl,by rw[add_block];exact hb, ?_⟩
  rw[xX];exact hc
 ·obtain⟨ad,rfl,hb,hc⟩:=h.rd _ _ (Co l _ hk)
  cases he
 ·rw[grp,List.length_take,List.length_drop];omega
def Ach {m:Nat} (A:Option Addr) (n sz c:Nat) (x:Fin m):Array Value:= #[.slice (A.map (fun a=>a.add (sz*x.val))) (eOf n sz (sz*x.val) - sz*x.val) (c - sz*x.val)]
def idx {m:Nat} (pre:List (Fin m)):List Nat:=pre.map (·.val)
theorem Ng {m:Nat} (pre:List (Fin m)) (x:Fin m):idx (pre++ [x])=idx pre++ [x.val]:=by simp[idx]
theorem tM {m:Nat} (pre:List (Fin m)):(idx pre).length=pre.length:=by simp[idx]
def KpG (BA BB:Nat) (W W':World):Prop:= ∀k v,(k=BA∨k=BB)→W.cell? ⟨k,0,none⟩=some v→W'.cell? ⟨k,0,none⟩=some v
theorem KpG.refl (BA BB:Nat) (W:World):KpG BA BB W W:=fun _ _ _ h=>h
theorem KpG.trans {BA BB:Nat} {X Y Z:World} (h:KpG BA BB X Y) (g:KpG BA BB Y Z):KpG BA BB X Z:=fun k v hk hv=>g k v hk (h k v hk hv)
theorem KpG.put {BA BB:Nat} (W:World) (l:Nat) (o o':Obj) (hl:W.heap[l]?=some o) (ho:o.isCells=false):KpG BA BB W (W.putObj l o'):=fun k v _ hv=>cell_kept hv (grownBy_putObj' W l o') (fun r e=>by cases e;exact⟨o,hl,ho⟩)
theorem KpG.boxed {BA BB:Nat} {t t':TypeId} {u u':Value} {W W':World} (h1:Boxed W BA t u) (h2:Boxed W BB t' u') (g1:Boxed W' BA t u) (g2:Boxed W' BB t' u'):KpG BA BB W W':=by
 intro k v hk hv
 rcases hk with rfl|rfl
 ·rw[h1.cell]at hv;cases hv;exact g1.cell
 ·rw[h2.cell]at hv;cases hv;exact g2.cell
theorem dA (F:Fence) (n:Nat) (hf:F.fn 100) (hro:F.round=none) (A:Option Addr) (m c:Nat) (sz:Int) (w:World):
  CallsIn F n Tryz.prog 100 #[.slice A m c, .int .i64 sz] w fun e w'=>e= .returned (.func (.func 158) #[] #[.pointer (some ⟨w.heap.size,0,none⟩), .pointer (some ⟨w.heap.size+1,0,none⟩)])∧w'=(w.alloc (.cells #[.slice A m c] 23)).alloc (.cells #[.int .i64 sz] 3):=by
 refine callsIn_of_wp Tryz.func100 rfl hf ?_ hro
 simp only[Tryz.ntmps100,List.size_toArray,List.length_cons,List.length_nil,Nat.reduceAdd,Nat.reduceSub,Array.replicate_succ,Array.replicate_zero,List.push_toArray,List.append_toArray,List.nil_append,List.cons_append]
 gi_wp2
 go_ret
 exact⟨rfl,rfl⟩
theorem qQ (F:Fence) (N:Nat) (hf:F.fn 158) (hro:F.round=none) (hN:1≤N) (lp BA BB:Nat) (A:Option Addr) (n c sz m:Nat) (hm: ∀k,k<m↔sz*k<n) (hsz:sz≤3) (hn4:n≤140737488355328) (hnc:n≤c) (hcc:c≤9223372036854775807) (J Jx:List (Fin m)→World→Prop)
    (hY: ∀pre x W,J pre W→pre.length<m→YieldAt F (N - 1) Tryz.prog lp (Ach A n sz c x) W fun e W'=>
      (e= .returned (.bool true)∧J (pre++ [x]) W'∧KpG BA BB W W')∨(e= .returned (.bool false)∧Jx (pre++ [x]) W'))
    (W:World) (hA:W.cell? ⟨BA,0,none⟩=some (.slice A n c)) (hB:W.cell? ⟨BB,0,none⟩=some (.int .i64 sz)) (h0:J [] W):
    CallsIn F N Tryz.prog 158 #[.func (.yield lp) #[] #[], .pointer (some ⟨BA,0,none⟩), .pointer (some ⟨BB,0,none⟩)] W fun e W'=>(∃v,e= .returned v)∧
      ((∃ys,idx ys=List.range m∧J ys W')∨(∃pre,(∃k,k≤m∧idx pre=List.range k)∧Jx pre W')):=by
  have HA:=Lib.hid hA
  have HB:=Lib.hid hB
  have HM:=Lib.hid hm
  have HY:=Lib.hid hY
  clear hm hY
  refine callsIn_of_wp Tryz.func158 rfl hf ?_ hro
  simp only[Tryz.ntmps158,List.size_toArray,List.length_cons,List.length_nil,Nat.reduceAdd,Nat.reduceSub,Array.replicate_succ,Array.replicate_zero,List.push_toArray,List.append_toArray,List.nil_append,List.cons_append]
  gi_wp2
  gi_loopw [4] (fun i wr=> ∃(k:Nat) (pre:List (Fin m)),k≤m∧i= .int .i64 ((sz*k:Nat):Int)∧idx pre=List.range k∧J pre wr∧KpG BA BB W wr)
    (fun i _=>((n:Int) - intOf i).toNat)
  case atStart=>
    exact⟨0,[],Nat.zero_le _,rfl,rfl,h0,KpG.refl _ _ _⟩
  case round=>
    obtain⟨k,pre,hk,rfl,hpre,hJs,hnx⟩:=hrel
    have hcA:wr.cell? ⟨BA,0,none⟩=some (.slice A n c):=hnx BA _ (.inl rfl) HA.out
    have hcB:wr.cell? ⟨BB,0,none⟩=some (.int .i64 sz):=hnx BB _ (.inr rfl) HB.out
    have hpl:pre.length=k:=by rw[←tM,hpre,List.length_range]
    by_cases hlt:k<m
    · have hf:=(HM.out k).1 hlt
      have hs1:1≤sz:=by
        rcases Nat.eq_zero_or_pos sz with h1|h1
        · have:=(HM.out m).2 (by rw[h1,Nat.zero_mul];rw[h1,Nat.zero_mul]at hf;exact hf);omega
        · exact h1
      obtain⟨x,hx⟩: ∃x:Fin m,x.val=k:=⟨⟨k,hlt⟩,rfl⟩
      obtain⟨fn,tmps,assign,body,hy,hR⟩:=HY.out pre x wr hJs (by rw[hpl];exact hlt)
      dsimp only[Ach]at hy
      have hsn:idx (pre++ [x])=List.range (k+1):=by rw[Ng,hpre,List.range_succ,hx]
      rw[hx]at hy
      have hnext:sz*(k+1)=sz*k+sz:=Nat.mul_succ sz k
      have HSN:=Lib.hid hsn
      have HNEXT:=Lib.hid hnext
      have HK:=Lib.hid hlt
      have HNX:=Lib.hid hnx
      have HR:=Lib.hid hR
      clear hnx hlt hsn hnext hpre hpl hR hJs
      generalize sz*k=f at*
      obtain⟨e,he⟩: ∃e,e=eOf n sz f:=⟨_,rfl⟩
      rw[←he]at hy
      have hmin:(if(n:Int)<(f:Int)+(sz:Int)then(n:Int)else(f:Int)+(sz:Int))=(e:Int):=by
        rw[he,eOf]
        split<;>split<;>omega
      have he1:e≤n:=by rw[he,eOf];split<;>omega
      have he2:f<e:=by rw[he,eOf];split<;>omega
      have hcf: ¬c=f:=by omega
      have w1:IntKind.i64.wrap ((f:Int)+(sz:Int))=(f:Int)+(sz:Int):=IntWalk.i64_in _ (by omega)
      have b1:(f:Int)<(n:Int):=by omega
      have b2:(f:Int)≤(e:Int):=by omega
      have b3:(e:Int)≤(c:Int):=by omega
      have b4:(0:Int)≤(f:Int):=by omega
      clear he
      clear hx
      gi_wp2
      refine HR.out.mono ?_
      rintro e' W3 (⟨rfl,hJ3,hk3⟩|⟨rfl,hJx3⟩)
      · have hcB3:W3.cell? ⟨BB,0,none⟩=some (.int .i64 sz):=hk3 BB _ (.inr rfl) hcB
        gi_wp2
        go_roundw
        case rel=>exact⟨k+1,pre++ [x],by have:=HK.out;omega,by rw[HNEXT.out];go_num,HSN.out,hJ3,HNX.out.trans hk3⟩
        case measure=>simp[intOf]<;>omega
      · gi_wp2
        refine bodyPost_ret (results_none rfl _ _ _) rfl ?_
        exact⟨⟨_,rfl⟩, .inr ⟨_,⟨k+1,by have:=HK.out;omega,HSN.out⟩,hJx3⟩⟩
    · obtain rfl:k=m:=by omega
      have hf: ¬sz*k<n:=fun h=>hlt ((HM.out k).2 h)
      generalize sz*k=f at*
      have b1: ¬((f:Int)<(n:Int)):=by omega
      have HPRE:=Lib.hid hpre
      clear hpre hpl
      gi_wp2
      go_end0
      exact⟨⟨_,rfl⟩, .inl ⟨pre,HPRE.out,hJs⟩⟩
theorem Sb (F:Fence) (N:Nat) (hf:F.fn 158) (hro:F.round=none) (hN:1≤N) (BA BB:Nat) (A:Option Addr) (n c sz m:Nat) (hm: ∀k,k<m↔sz*k<n) (hsz:sz≤3) (hn4:n≤140737488355328) (hnc:n≤c) (hcc:c≤9223372036854775807) (w:World) (hBA:BA<w.heap.size) (hBB:BB<w.heap.size)
  (hA:w.cell? ⟨BA,0,none⟩=some (.slice A n c)) (hB:w.cell? ⟨BB,0,none⟩=some (.int .i64 sz)):
  SeqStopsK F N Tryz.prog 158 #[.pointer (some ⟨BA,0,none⟩), .pointer (some ⟨BB,0,none⟩)] (Ach (m:=m) A n sz c) (KpG BA BB) (fun ys=>idx ys=List.range m) (fun pre=> ∃k,k≤m∧idx pre=List.range k) m w:=fun lp J Jx W hW _ _ hY h0=>
 qQ F N hf hro hN lp BA BB A n c sz m hm hsz hn4 hnc hcc J Jx hY W ((hW.cell (p:=⟨BA,0,none⟩) hBA).trans hA) ((hW.cell (p:=⟨BB,0,none⟩) hBB).trans hB) h0
end Go.Proofs.YtmdbfogjfbbpjaaGreatDoor
end
section
namespace Go.Proofs.YtmdbfogjfbbpjaaGreatDoor
open Go.ChangeShapes Go.WideShapes Go.ChangeAt Go.RowKit
theorem gI {F:Fence} {n:Nat} {P:Program} {Q:Exit→Act→World→Prop} (l:Nat) (hro:F.round=none) {o:Oper} (hd: ∀c,o.op≠ .defer c) {a:Act} {w:World} {K:Act→World→Prop} (h:o.wpIn F n P a w K Q):o.wpIn (F.inRound l) n P a w K Q:=by
 unfold Oper.wpIn at h⊢
 obtain⟨h1,h2⟩:=h
 refine⟨h1, ?_⟩
 rw[hro,Oper.semAt_none]at h2
 rw[Fence.inRound_round,Oper.semAt_some l _ _ hd]
 generalize (execOp a.eval o).run P w=r at*
 cases r with
 |ok x w'=>cases x<;>exact h2
 |halt x w'=>cases x<;>exact h2
theorem Uo {F:Fence} {n:Nat} {P:Program} {ops:Array Oper} {Q:Exit→Act→World→Prop} {md:Region.Mode} (l:Nat) (hro:F.round=none) (hd: ∀(i:Nat) (o:Oper),ops[i]?=some o→ ∀c,o.op≠ .defer c):
  ∀(fuel:Nat) (listed:Array Bool) (a:Act) (w:World),wpAnyIn F n P md ops Q fuel listed a w→wpAnyIn (F.inRound l) n P md ops Q fuel listed a w
 |0,listed,a,w,h=>h
 |fuel+1,listed,a,w,h=>by
  refine⟨h.1,fun i hi=> ?_⟩
  have h2:=wpOpIn_mono (fun a w=>Uo l hro hd fuel (listed.setIfInBounds i true) a w) (h.2 i hi)
  unfold wpOpIn at h2⊢
  split
  ·rename_i e;rw[e]at h2;exact h2
  ·rename_i o e
   rw[e]at h2
   simp only at h2
   split
   ·rename_i hw
    rw[if_pos hw]at h2
    exact gI l hro (hd i o e) h2
   ·rename_i hw
    rw[if_neg hw]at h2
    exact h2
def Aea (ops:Array Oper):Bool:=ops.all (fun o=>match o.op with| .defer _=>false|_=>true)
theorem gJ {ops:Array Oper} (h:Aea ops=true): ∀(i:Nat) (o:Oper),ops[i]?=some o→ ∀c,o.op≠ .defer c:=by
 intro i o ho c hc
 obtain⟨hi,he⟩:=Array.getElem?_eq_some_iff.1 ho
 have:=Array.all_eq_true.1 h i hi
 rw[he,hc]at this
 cases this
theorem Jj {F:Fence} {nF:Nat} {P:Program} (w:World) {ops:Array Oper} {o:Oper} {a:Act} {K:Act→World→Prop} {Q:Exit→Act→World→Prop} {E:Prop} (hw:Region.wanted o (yielded ops a.tmps)=true) (s x:Operand) (t:TypeId)
  (ho:o.op= .call { callee:= .builtin .append,args:= #[s,x],argTypes:= #[t,t] })
  (base:Nat) (e:TypeId) (i:TypeInfo) (z:Value) (bytes:Nat) (ht:P.underlying t=some (.slice e)) (hi:P.info? e=some i) (hz:i.zero=some z) (hsize:i.size=1) (hby:i.bytes=bytes) (hzs:z.cells.size=1)
  (v:Value) (n:Nat) (xs:List Value) (hs:a.eval s=v) (hown:w.ownsRow base e 1 v n xs)
  (ad:Addr) (m c:Nat) (news:List Value) (hx:a.eval x= .slice (some ad) m c) (hl:news.length=m) (hnews: ∀j u,news[j]?=some u→w.cell? (ad.add j)=some u)
  (h1: ∀u∈news,u.oneCell'=true) (h63:n+m≤maxLen) (hbytes:(n+m)*bytes≤140737488355328) (hbase:base≤w.heap.size)
  (h: ∀v' w',w'.ownsRow base e 1 v' (n+m) (xs++news)→w.grownBy w' v.ownBlock→K (a.put o.dst v') w'):
  if Region.wanted o (yielded ops a.tmps)=true then Oper.wpIn F nF P o a w K Q else E:=by
 rw[if_pos hw]
 obtain⟨v',w',hrun,h2,h3,_⟩:=run_append_own (P:=P) w base t o.type e i z 1 bytes ht hi hz hsize hby hzs (by omega) v n xs hown ad m c news (by omega) hnews h1 h63 hbytes hbase
 unfold Oper.wpIn
 refine⟨by simp[Oper.about,ho,resolve,Target.leads,Sem.run_pure], ?_⟩
 rw[Oper.semAt_plain F _ _ (by rw[ho];intro c hc';cases hc')]
 simp[execOp,ho,resolve,invoke,builtin,hs,hx,hrun,Result.andThen]
 exact h v' w' h2 h3
theorem Nh (a b:List Nat):U8 (a++b)=U8 a++U8 b:=by simp[U8]
theorem Up {B:Nat} {W W':World} (hb:Below W.heap.size W W'):KeepsFrom B W W':=⟨hb.size,fun k o _ hk _=>(hb.block k (Array.getElem?_eq_some_iff.1 hk).1).trans hk⟩
theorem Dg {W W':World} {B:Nat} {t:TypeId} {v:Value} (h:Boxed W B t v) (hb:Below W.heap.size W W'):Boxed W' B t v:=(hb.block B h.lt).trans h
theorem Jy {W Wc w1:World} {n₀ B:Nat} {t e:TypeId} {v v':Value} {k m:Nat} {xs ys:List Value} (K:Nat)
  (hv:Boxed W B t v) (hte:t≠e) (hrow:W.ownsRow n₀ e 1 v k xs) (hn₀:n₀≤W.heap.size) (hB:n₀≤B) (hb:Below W.heap.size W Wc)
  (hown':w1.ownsRow n₀ e 1 v' m ys) (hgrow:Wc.grownBy w1 v.ownBlock):
  Boxed w1 B t v∧Boxed (w1.setCell ⟨B,0,none⟩ v') B t v'∧(w1.setCell ⟨B,0,none⟩ v').ownsRow n₀ e 1 v' m ys∧KeepsFrom K W (w1.setCell ⟨B,0,none⟩ v')∧Below n₀ W (w1.setCell ⟨B,0,none⟩ v'):=by
 have hrow':=Aj hrow hb
 have hv1:Boxed w1 B t v:=(Dg hv hb).kept hgrow (hv.not_row hte hrow)
 refine⟨hv1,hv1.set v',hown'.kept (grownBy_setCell' w1 B v') (.inr (hv1.not_row hte hown').symm), ?_, ?_⟩
 ·refine((Up hb).trans ((KeepsOthers.of_grownBy hgrow fun j o ej hj=> ?_).from _)).trans ((KeepsOthers.setCell _ _ _).from _)
  rcases hrow'.2 with⟨rfl,_⟩|⟨g,cap,cur,rfl,_,hgb,_⟩
  ·simp[Value.ownBlock]at ej
  ·obtain rfl:g=j:=by simpa[Value.ownBlock]using ej
   rw[hgb]at hj;cases hj;rfl
 ·exact((hb.mono hn₀).grown hgrow (Nat.le_trans hn₀ hb.size) fun j ej=>Ak hrow ej).setCell (p:=⟨B,0,none⟩) hB v'
theorem Bw {W Wc w1:World} {n₀ B B':Nat} {t e:TypeId} {u v v':Value} {k:Nat} {xs:List Value}
  (hu:Boxed W B' t u) (hte:t≠e) (hrow:W.ownsRow n₀ e 1 v k xs) (hb:Below W.heap.size W Wc) (hgrow:Wc.grownBy w1 v.ownBlock) (hne:B'≠B):Boxed (w1.setCell ⟨B,0,none⟩ v') B' t u:=
 ((Dg hu hb).kept hgrow (hu.not_row hte hrow)).other hne _
theorem Af3 (l:List Nat) (A:Option Addr) (c B:Nat) (w:World) (hA:Rd w B A (U8 l)) (hb: ∀x∈l,x<256) (h8:l.length≤8) (h0:l.length=8→l.getD 0 0<128):
  Calls Tryz.prog 187 #[.slice A l.length c] w fun e w'=>e= .returned (.tuple #[.int .i64 (valB l:Nat), .int .i64 0])∧w=w':=by
 have h63:=bA l hb h8 h0
 obtain⟨n,hn⟩: ∃n,n=l.length:=⟨_,rfl⟩
 have hn8:n≤8:=by omega
 have HB:=Lib.hid hb
 have hcase:n<8∨8≤n∧ ∃(ad:Addr) (x:Nat),A=some ad∧w.cell? ad=some (.int .u8 (x:Int))∧(x:Int)<128:=by
  by_cases e8:n<8
  ·exact .inl e8
  ·obtain⟨ad,rfl,_,hc⟩:=hA 0 _ (Co l 0 (by omega))
   have e0:l.getD 0 0=l[0]:=by rw[List.getD_eq_getElem?_getD,List.getElem?_eq_getElem (by omega)];rfl
   have:=h0 (by omega)
   rw[Da]at hc
   exact .inr ⟨by omega,ad,_,rfl,hc,by omega⟩
 rw[←hn]
 have HN:=Lib.hid hn
 have H63:=Lib.hid h63
 clear hn h0 hb h8 h63
 rcases hcase with h|⟨h,ad0,x0,rfl,hc0,hx0⟩
 all_goals
  go_enter Tryz.func187, Tryz.ntmps187
  go_wp2
  go_loop [4,20] (fun t i=> ∃k:Nat,k≤n∧i= .int .i64 k∧t= .int .u64 (valB (l.take k):Nat)) (fun _ i=>n - (intOf i).toNat)
  case atStart=>exact⟨0,Nat.zero_le _,rfl,rfl⟩
  case round=>
   obtain⟨k,hk,rfl,rfl⟩:=hrel
   by_cases hlt:k<n
   ·have hkl:k<l.length:=by rw[←HN.out];exact hlt
    obtain⟨ad,hsome,_,hc⟩:=hA k _ (Co l k hkl)
    cases hsome
    have hv:=Lp l HB.out k (by omega)
    have hs:=Sz l k hkl
    have hx:=HB.out _ (List.getElem_mem hkl)
    generalize l[k]=x at*
    generalize valB (l.take k)=y at*
    have HS:=Lib.hid hs
    clear hA hkl hs
    go_wp2
    go_round
    case rel=>exact⟨k+1,by omega,by go_num,by rw[HS.out, ←vS y x hv hx]⟩
    case measure=>simp[intOf];omega
   ·have e:l.take k=l:=List.take_of_length_le (by rw[←HN.out];omega)
    rw[e]
    clear e
    have h63:=H63.out
    go_wp2
    go_ret2
    exact⟨rfl,rfl⟩
theorem xY (N s:Nat) (hs:En N=s) (h:N<9223372036854775808) (w:World):Calls Tryz.prog 197 #[.int .i64 N] w fun e w'=>e= .returned (.int .i64 (s:Int))∧w=w':=by
 have hs8:=(Ja h).1
 have HS:=Lib.hid hs
 clear hs
 go_enter Tryz.func197, Tryz.ntmps197
 go_wp2
 go_loop [0,3] (fun m i=> ∃k:Nat,k≤8∧m= .int .i64 (N / 256^k:Nat)∧i= .int .i64 k∧ ∀j,j<k→256^j≤N) (fun m _=>(intOf m).toNat)
 case atStart=>exact⟨0,by omega,by simp,rfl,by omega⟩
 case round=>
  obtain⟨k,hk,rfl,rfl,hall⟩:=hrel
  have HH:=Lib.hid hall
  clear hall
  by_cases h0:0<N / 256^k
  ·have hge:256^k≤N:=by
    rcases Nat.lt_or_ge N (256^k)with h1|h1
    ·rw[Nat.div_eq_of_lt h1]at h0;omega
    ·exact h1
   have hk7:k≤7:=by
    rcases Nat.lt_or_ge k 8 with h1|h1
    ·omega
    ·have:256^8≤256^k:=Nat.pow_le_pow_right (by omega) h1
     omega
   have HST:=Lib.hid (show∀j,j<k+1→256^j≤N from by
    intro j hj
    rcases Nat.lt_or_ge j k with h|h
    ·exact HH.out j h
    ·have e:j=k:=by omega
     subst e;exact hge)
   have HNX:=Lib.hid (show N / 256^(k+1)=N / 256^k / 256 by rw[Nat.pow_succ,Nat.div_div_eq_div_mul])
   have hy:N / 256^k<9223372036854775808:=Nat.lt_of_le_of_lt (Nat.div_le_self _ _) h
   clear hge
   generalize N / 256^k=y at*
   have b1:(0:Int)<(y:Int):=by omega
   go_wp2
   go_round
   case rel=>exact⟨k+1,by omega,by rw[HNX.out];go_num,by go_num,HST.out⟩
   case measure=>simp[intOf];omega
  ·have e:s=k:=by
    rw[←HS.out]
    refine Wl h ?_ HH.out
    rcases Nat.lt_or_ge N (256^k)with h1|h1
    ·exact h1
    ·exact absurd (Nat.div_pos h1 (Nat.pow_pos (by omega))) h0
   subst e
   have e0:N / 256^s=0:=Nat.eq_zero_of_le_zero (Nat.le_of_not_lt h0)
   rw[e0]
   clear h0 e0
   go_wp2
   go_ret
   exact⟨rfl,rfl⟩
theorem mK (N:Nat) (hN:N<9223372036854775808) (p:List Nat) (hp:numB N=p) (w:World):
  Calls Tryz.prog 153 #[.int .i64 N] w fun e w'=> ∃v,e= .returned (.tuple #[v, .int .i64 (0:Int)])∧w'.ownsRow w.heap.size 5 1 v p.length (U8 p)∧Below w.heap.size w w':=by
 obtain⟨h8,hlt,_⟩:=Ja hN
 obtain⟨s,hs⟩: ∃s,En N=s:=⟨_,rfl⟩
 have hl:p.length=s:=by rw[←hp,Kj,hs]
 have hq:putB N s=p:=by rw[←hp,numB,hs]
 rw[hs]at h8 hlt
 have HS:=Lib.hid hs
 have HL:=Lib.hid hl
 have HQ:=Lib.hid hq
 have HLT:=Lib.hid hlt
 clear hs hp hl hq hlt
 go_enter Tryz.func153, Tryz.ntmps153
 go_wp2_with fail
 refine(xY N s HS.out hN w).mono ?_
 rintro e w1 ⟨rfl,rfl⟩
 go_wp2_with fail
 refine(AbB N s w hN h8 HLT.out).mono ?_
 rintro e w1 ⟨g,cap,rfl,hown,hb⟩
 rw[HQ.out]at hown
 have HO:=Lib.hid hown
 have HB:=Lib.hid hb
 clear hown hb
 go_wp2_with fail
 go_ret2
 exact⟨_,rfl,by rw[HL.out];exact HO.out,HB.out⟩
theorem Mc (r:Nat) (h:r<256):IntKind.u8.wrap (r:Int)=(r:Int):=by simp[IntKind.wrap,IntKind.signed,IntKind.bits];omega
theorem Zt (N:Nat) (hN:N<9223372036854775808) (p:List Nat) (hp:numB N=p) (w:World):
  Calls Tryz.prog 116 #[.int .i64 N] w fun e w'=> ∃v,e= .returned (.tuple #[v, .int .i64 (0:Int)])∧w'.ownsRow w.heap.size 5 1 v p.length (U8 p)∧Below w.heap.size w w':=by
 obtain⟨i0,hi,hz0,hz1,hz2⟩:=info_parts Be
 have HP:=Lib.hid (show∀k,En N=k→putB N k=numB N from fun k h=>by rw[numB,h])
 have HL:=Lib.hid (Kj N)
 rw[hp]at HP HL
 clear hp
 have hge0:(0:Int)≤(N:Int):=by omega
 go_enter Tryz.func116, Tryz.ntmps116
 go_wp2
 go_loopw [0,4] (fun m v wr=> ∃k:Nat,k≤8∧m= .int .i64 (N / 256^k:Nat)∧wr.ownsRow w.heap.size 5 1 v k (U8 (putB N k))∧Below w.heap.size w wr∧ ∀j,j<k→256^j≤N) (fun m _ _=>(intOf m).toNat)
 case atStart=>exact⟨0,by omega,by simp,World.ownsRow_lit w #[] 0 (Nat.le_refl _) (by decide) rfl,(Below.refl _ _).alloc (Nat.le_refl _) _,by omega⟩
 case round=>
  obtain⟨k,hk,rfl,hown,hbel,hall⟩:=hrel
  have HH:=Lib.hid hall
  have HOW:=Lib.hid hown
  have HBL:=Lib.hid hbel
  clear hall hown hbel
  by_cases h0:0<N / 256^k
  ·have hge:256^k≤N:=by
    rcases Nat.lt_or_ge N (256^k)with h1|h1
    ·rw[Nat.div_eq_of_lt h1]at h0;omega
    ·exact h1
   have hk7:k≤7:=by
    rcases Nat.lt_or_ge k 8 with h1|h1
    ·omega
    ·have:256^8≤256^k:=Nat.pow_le_pow_right (by omega) h1
     omega
   have HST:=Lib.hid (show∀j,j<k+1→256^j≤N from by
    intro j hj
    rcases Nat.lt_or_ge j k with h|h
    ·exact HH.out j h
    ·have e:j=k:=by omega
     subst e;exact hge)
   have HNX:=Lib.hid (show N / 256^(k+1)=N / 256^k / 256 by rw[Nat.pow_succ,Nat.div_div_eq_div_mul])
   have HPX:=Lib.hid (show putB N (k+1)=N / 256^k % 256::putB N k from rfl)
   have HUL:=Lib.hid (show(U8 (putB N k)).length=k by simp[U8,De])
   have hy:N / 256^k<9223372036854775808:=Nat.lt_of_le_of_lt (Nat.div_le_self _ _) hN
   clear hge
   generalize N / 256^k=y at*
   obtain⟨r,hr⟩: ∃r,r=y % 256:=⟨_,rfl⟩
   obtain⟨q,hq⟩: ∃q,q=y / 256:=⟨_,rfl⟩
   rw[←hr]at HPX
   rw[←hq]at HNX
   have t1:(y:Int).tmod 256=(r:Int):=by rw[Int.tmod_eq_emod_of_nonneg (by omega)];omega
   have t2:(y:Int).tdiv 256=(q:Int):=by rw[Int.tdiv_eq_ediv_of_nonneg (by omega)];omega
   have w1:IntKind.i64.wrap (r:Int)=(r:Int):=IntWalk.i64_in _ (by omega)
   have w2:IntKind.i64.wrap (q:Int)=(q:Int):=IntWalk.i64_in _ (by omega)
   have w3:IntKind.u8.wrap (r:Int)=(r:Int):=Mc r (by omega)
   have hqy:q<y:=by omega
   have b1:(0:Int)<(y:Int):=by omega
   have hx1:1+k≤maxLen:=by unfold maxLen;omega
   have hsz:=HBL.out.size
   obtain⟨A0,c0,rfl,hrd⟩:=Iq HOW.out
   have hnil:A0=none→c0=0:=by
    intro e
    subst e
    rcases HOW.out.2 with⟨h,_⟩|⟨g,cap,cur,h,_⟩
    ·cases h;rfl
    ·cases h
   have HRD:=Lib.hid (hrd.alloc (Nat.le_refl _) (.cells #[.int .u8 (r:Int)] 5))
   have HOL:=Lib.hid (show(wr.alloc (.cells #[.int .u8 (r:Int)] 5)).ownsRow w.heap.size 5 1 (.slice (some ⟨wr.heap.size,0,none⟩) 1 1) 1 (U8 [r])from World.ownsRow_lit wr #[.int .u8 (r:Int)] 1 hsz (by decide) rfl)
   have hsz2:w.heap.size≤(wr.alloc (.cells #[.int .u8 (r:Int)] 5)).heap.size:=Nat.le_trans hsz (Aa wr _ _).size
   clear hr hq hrd
   go_wp2_with (at_builtin;refine Af _ rfl _ _ 23 rfl w.heap.size 5 i0 (.int .u8 0) 1 Tryz.underlying23 hi hz0 hz1 hz2 rfl _ 1 (U8 [r]) rfl HOL.out wr.heap.size A0 k c0 (U8 (putB N k)) rfl HRD.out HUL.out hnil (Bd _) hx1 (by omega) hsz2 ?_;intro v' w' hown' hg')
   have HO2:=Lib.hid (show w'.ownsRow w.heap.size 5 1 v' (k+1) (U8 (putB N (k+1))) by rw[HPX.out,Nat.add_comm k 1];exact hown')
   have HB2:=Lib.hid (show Below w.heap.size w w' from(HBL.out.trans ((Aa wr _ _).mono hsz)).grown hg' hsz2 (fun p hp=>Ak HOL.out hp))
   clear hown' hg'
   go_wp2
   go_roundw
   case rel=>exact⟨k+1,by omega,by rw[HNX.out],HO2.out,HB2.out,HST.out⟩
   case measure=>simp[intOf];omega
  ·have e:En N=k:=by
    refine Wl hN ?_ HH.out
    rcases Nat.lt_or_ge N (256^k)with h1|h1
    ·exact h1
    ·exact absurd (Nat.div_pos h1 (Nat.pow_pos (by omega))) h0
   have e0:N / 256^k=0:=Nat.eq_zero_of_le_zero (Nat.le_of_not_lt h0)
   rw[e0]
   have hl:p.length=k:=by rw[HL.out,e]
   have hown:=HOW.out
   rw[HP.out k e]at hown
   have HO:=Lib.hid hown
   have HLL:=Lib.hid hl
   clear h0 e0 e hl hown
   go_wp2
   go_ret2
   exact⟨_,rfl,by rw[HLL.out];exact HO.out,HBL.out⟩
theorem mL (b:List Nat) (n:Nat) (hn:n=b.length) (v E:Nat) (hv:Ib b=(v,E)) (A:Option Addr) (c:Nat) (w:World) (hA:Bs w w.heap.size b A c):
  Calls Tryz.prog 139 #[.slice A n c] w fun e w'=>e= .returned (.tuple #[.int .i64 (v:Int), .int .i64 (E:Int)])∧w=w':=by
 have h63:n≤9223372036854775807:=by have h1:=hA.len;have h2:=hA.cap;omega
 by_cases h0:n=0
 ·rw[Jb (.inl (by omega))]at hv
  cases hv
  subst h0
  clear hn hA
  go_enter Tryz.func139, Tryz.ntmps139
  go_wp2
  go_ret2
  exact⟨rfl,rfl⟩
 ·have b0:((n:Int)==0)=false:=by rw[beq_eq_false_iff_ne];omega
  have b0':(n==0)=false:=by rw[beq_eq_false_iff_ne];omega
  have b1:(0:Int)<(n:Int):=by omega
  have b1': ¬(n:Int)<1:=by omega
  by_cases h7:7<n
  ·rw[Jb (.inr (.inl (by omega)))]at hv
   cases hv
   have b7:(7:Int)<(n:Int):=by omega
   clear hn hA
   go_enter Tryz.func139, Tryz.ntmps139
   go_wp2
   go_ret2
   exact⟨rfl,rfl⟩
  ·have b7: ¬(7:Int)<(n:Int):=by omega
   obtain⟨ad,rfl,_,hc⟩:=hA.rd 0 _ (Co b 0 (by omega))
   rw[Da]at hc
   have e0:b.getD 0 0=b[0]'(by omega):=by rw[List.getD_eq_getElem?_getD,List.getElem?_eq_getElem (by omega)];rfl
   obtain⟨x,hx⟩: ∃x,x=b[0]'(by omega):=⟨_,rfl⟩
   rw[←hx]at hc e0
   clear hx
   have HN:=Lib.hid hn
   have HA:=Lib.hid hA
   have HV:=Lib.hid hv
   have HE:=Lib.hid e0
   clear hn hA hv e0
   by_cases hx0:x=0
   ·subst hx0
    have hv:=HV.out
    rw[Jb (.inr (.inr HE.out))]at hv
    cases hv
    go_enter Tryz.func139, Tryz.ntmps139
    go_wp2
    go_ret2
    exact⟨rfl,rfl⟩
   ·have x1:((x:Int)==0)=false:=by rw[beq_eq_false_iff_ne];omega
    have x2:(x==0)=false:=by rw[beq_eq_false_iff_ne];omega
    have hv:=HV.out
    rw[dY (by rw[←HN.out];omega) (by rw[←HN.out];omega) (by rw[HE.out];exact hx0)]at hv
    obtain⟨hv1,rfl⟩:=Prod.mk.inj hv
    have HV1:=Lib.hid hv1
    have hg:=Af3 b (some ad) c w.heap.size w HA.out.rd HA.out.lt (by rw[←HN.out];omega) (fun h=>by have:=HN.out;omega)
    rw[←HN.out]at hg
    have HG:=Lib.hid hg
    clear hv hv1 hg hx0
    go_enter Tryz.func139, Tryz.ntmps139
    go_wp2_with fail
    refine HG.out.mono ?_
    rintro e w1 ⟨rfl,rfl⟩
    rw[HV1.out]
    go_wp2
    go_ret2
    exact⟨rfl,rfl⟩
theorem Dj (b:List Nat) (n:Nat) (hn:n=b.length) (v E:Nat) (hv:Ib b=(v,E)) (A:Option Addr) (c:Nat) (w:World) (hA:Bs w w.heap.size b A c):
  Calls Tryz.prog 125 #[.slice A n c] w fun e w'=>e= .returned (.tuple #[.int .i64 (v:Int), .int .i64 (E:Int)])∧w=w':=by
 have h63:n≤9223372036854775807:=by have h1:=hA.len;have h2:=hA.cap;omega
 by_cases h0:n=0
 ·rw[Jb (.inl (by omega))]at hv
  cases hv
  subst h0
  clear hn hA
  go_enter Tryz.func125, Tryz.ntmps125
  go_wp2
  go_ret2
  exact⟨rfl,rfl⟩
 ·have b0:((n:Int)==0)=false:=by rw[beq_eq_false_iff_ne];omega
  have b0':(n==0)=false:=by rw[beq_eq_false_iff_ne];omega
  have b1:(0:Int)<(n:Int):=by omega
  have b1': ¬(n:Int)<1:=by omega
  by_cases h7:7<n
  ·rw[Jb (.inr (.inl (by omega)))]at hv
   cases hv
   have b7:(7:Int)<(n:Int):=by omega
   clear hn hA
   go_enter Tryz.func125, Tryz.ntmps125
   go_wp2
   go_ret2
   exact⟨rfl,rfl⟩
  ·have b7: ¬(7:Int)<(n:Int):=by omega
   obtain⟨ad,rfl,_,hc⟩:=hA.rd 0 _ (Co b 0 (by omega))
   rw[Da]at hc
   have e0:b.getD 0 0=b[0]'(by omega):=by rw[List.getD_eq_getElem?_getD,List.getElem?_eq_getElem (by omega)];rfl
   obtain⟨x,hx⟩: ∃x,x=b[0]'(by omega):=⟨_,rfl⟩
   rw[←hx]at hc e0
   clear hx
   have HN:=Lib.hid hn
   have HA:=Lib.hid hA
   have HV:=Lib.hid hv
   have HE:=Lib.hid e0
   clear hn hA hv e0
   by_cases hx0:x=0
   ·subst hx0
    have hv:=HV.out
    rw[Jb (.inr (.inr HE.out))]at hv
    cases hv
    go_enter Tryz.func125, Tryz.ntmps125
    go_wp2
    go_ret2
    exact⟨rfl,rfl⟩
   ·have x1:((x:Int)==0)=false:=by rw[beq_eq_false_iff_ne];omega
    have x2:(x==0)=false:=by rw[beq_eq_false_iff_ne];omega
    have hv:=HV.out
    rw[dY (by rw[←HN.out];omega) (by rw[←HN.out];omega) (by rw[HE.out];exact hx0)]at hv
    obtain⟨hv1,rfl⟩:=Prod.mk.inj hv
    have HV1:=Lib.hid hv1
    have hg:=bB b (some ad) c w.heap.size w HA.out.rd HA.out.lt (by rw[←HN.out];omega) (fun h=>by have:=HN.out;omega)
    rw[←HN.out]at hg
    have HG:=Lib.hid hg
    clear hv hv1 hg hx0
    go_enter Tryz.func125, Tryz.ntmps125
    go_wp2_with fail
    refine HG.out.mono ?_
    rintro e w1 ⟨rfl,rfl⟩
    rw[HV1.out]
    go_wp2
    go_ret2
    exact⟨rfl,rfl⟩
end Go.Proofs.YtmdbfogjfbbpjaaGreatDoor
end
