import Derived.Test.YtmdbfogjfbbpjaaGreatDoorShaRefSum
import Derived.Test.YtmdbfogjfbbpjaaGreatDoorLayPFields
import Derived.Test.YtmdbfogjfbbpjaaGreatDoorShaPSum
import Derived.Test.YtmdbfogjfbbpjaaGreatDoorTrackBackMath
import Derived.Test.YtmdbfogjfbbpjaaGreatDoorLineMath
import Derived.Test.YtmdbfogjfbbpjaaGreatDoorMem
import Derived.Test.YtmdbfogjfbbpjaaGreatDoorRingPFind
import Derived.Test.YtmdbfogjfbbpjaaGreatDoorEqualBytes
set_option maxHeartbeats 3200000
set_option maxRecDepth 100000
set_option linter.unusedVariables false
section
namespace Go.Proofs.YtmdbfogjfbbpjaaGreatDoor
set_option maxRecDepth 100000
open Go.ChangeShapes Go.WideShapes Go.ChangeAt Go.RowKit
def kz (k:List Nat) (j:Nat):List Nat:=k.take j++List.replicate (64 - j) 0
theorem tT (k:List Nat):kz k 0=List.replicate 64 0:=by simp[kz]
theorem Acw (k:List Nat):kz k k.length=k++List.replicate (64 - k.length) 0:=by simp[kz]
theorem dI (k:List Nat) (j:Nat) (h:j≤k.length) (hk:k.length≤64):(kz k j).length=64:=by simp[kz];omega
theorem Acx (k:List Nat) (j:Nat) (h:j<k.length) (hk:k.length≤64):(kz k j).set j (k.getD j 0)=kz k (j+1):=by
 unfold kz
 have hl:(k.take j).length=j:=by simp;omega
 have e:k.take (j+1)=k.take j++ [k[j]]:=List.take_succ_eq_append_getElem h
 have eg:k.getD j 0=k[j]:=by rw[List.getD_eq_getElem?_getD,List.getElem?_eq_getElem h];rfl
 rw[List.set_append_right _ _ (by rw[hl];exact Nat.le_refl _),hl,Nat.sub_self,show 64 - j=(64 - (j+1))+1 by omega,List.replicate_succ,List.set_cons_zero,e,eg,List.append_assoc,List.singleton_append]
def Acy (w:World) (g:Nat) (A:Option Addr) (xs:List Value):Prop:= ∀k u,xs[k]?=some u→ ∃ad,A=some ad∧ad.block≠g∧w.cell? (ad.add k)=some u
theorem Rd.beside {w:World} {B g:Nat} {A:Option Addr} {xs:List Value} (h:Rd w B A xs) (hg:B≤g):Acy w g A xs:=by
 intro k u hu
 obtain⟨ad,he,hlt,hc⟩:=h k u hu
 exact⟨ad,he,by omega,hc⟩
theorem Tt (l:List Nat) (n:Nat) (hn:n=l.length) (A:Option Addr) (c:Nat) (w:World) (hA:Rd w w.heap.size A (U8 l)) (h:n≤64) (F:Array Value) (hF:F=(U8 (blockM l)).toArray):
  Calls Tryz.prog 166 #[.slice A n c] w fun e w'=>e= .returned (.agg F)∧Below w.heap.size w w':=by
 have hkey:keyN l=l:=by unfold keyN;rw[if_neg (by omega)]
 have hFE:F=(U8 (l++List.replicate (64 - l.length) 0)).toArray:=by rw[hF];unfold blockM;rw[hkey]
 have h64:l.length≤64:=by omega
 have HA:=Lib.hid hA
 have HKN:=Lib.hid hn
 have HFE:=Lib.hid hFE
 have HK64:=Lib.hid h64
 have HIF:=Lib.hid (Vn hF (Ej l))
 clear hA hn hFE h64 hkey hF
 go_enter Tryz.func166, Tryz.ntmps166
 go_wp2_with ((with_reducible refine Ac 3 ?_);refine Ad (o:=⟨none, .store 169 (.tmp 3) (.tmp 6),_,_,_,_⟩) rfl 169 (.tmp 3) (.tmp 6) rfl (w.heap.size+1) b64 rfl rfl 169 b64 (heap_alloc2_new _ _ _) Kd rfl (Bv (List.replicate 64 0)) ?_;intro w0 hw0)
 obtain⟨hs0,hr0,hv0,hb0⟩:=Di hw0.out
 have HR:Hid (w0.heap[w.heap.size]?=some (.cells b64 169 (0,0))):=Lib.hid hr0
 have HV:Hid (w0.heap[w.heap.size+1]?=some (.cells b64 169 (0,0))):=Lib.hid hv0
 have HBS:=Lib.hid hb0
 have HSRC:=Lib.hid ((HA.out.below hb0).beside (g:=w.heap.size+1) (by omega))
 clear hr0 hv0 hb0 hw0
 go_loopw [5] (fun i wr=> ∃k:Nat,k≤n∧i= .int .i64 k∧wr.heap[w.heap.size+1]?=some (.cells (U8 (kz l k)).toArray 169 (0,0))∧Below (w.heap.size+1) w0 wr∧ ∀b,b≠w.heap.size+1→wr.heap[b]?=w0.heap[b]?) (fun i _=>n - (intOf i).toNat)
 case atStart=>exact⟨0,Nat.zero_le _,rfl,by rw[tT, ←zG];exact HV.out,Below.refl _ _,fun _ _=>rfl⟩
 case round=>
  obtain⟨k,hk,rfl,hv,hbel,hoth⟩:=hrel
  by_cases hlt:k<n
  ·have hkl:k<l.length:=by rw[←HKN.out];exact hlt
   obtain⟨ad,rfl,hne,hc0⟩:=HSRC.out k _ (dQ l k hkl)
   have hc:wr.cell? (ad.add k)=some (.int .u8 ((l.getD k 0:Nat):Int)):=(World.cell?_of_block (w:=w0) (w':=wr) (by rw[add_block];exact hoth _ hne)).trans hc0
   have hkz:=dI l k (by omega) HK64.out
   have hcur:=Uv hv k (by rw[hkz];omega)
   have hfz:=frozen_of_row wr _ k _ _ hv
   have hset:=heap_setCell_same wr _ k _ 169 (.int .u8 ((l.getD k 0:Nat):Int)) hv
   have hst:(U8 (kz l k)).toArray.setIfInBounds k (.int .u8 ((l.getD k 0:Nat):Int))=(U8 (kz l (k+1))).toArray:=by
    rw[List.setIfInBounds_toArray, ←Acx l k hkl HK64.out,U8,U8,List.map_set]
   rw[hst]at hset
   have HSET:=Lib.hid hset
   have HOTH:=Lib.hid (fun(b:Nat) (hb:b≠w.heap.size+1)=>(heap_setCell_other wr ⟨w.heap.size+1,k,none⟩ b (.int .u8 ((l.getD k 0:Nat):Int)) hb).trans (hoth b hb))
   have bk0:(0:Int)≤(k:Int):=Int.natCast_nonneg _
   have bk1:(k:Int)<(n:Nat):=by omega
   have bk2:(k:Int)<64:=by omega
   clear hset hst hv hoth hc0 hkz
   generalize l.getD k 0=y at*
   generalize (kz l k).getD k 0=z at*
   go_wp2
   go_roundw
   case rel=>exact⟨k+1,by omega,by go_num,HSET.out,hbel.setCell (Nat.le_refl _) _,HOTH.out⟩
   case measure=>simp[intOf];omega
  ·have ek:n=k:=by omega
   subst ek
   have hFv:(U8 (kz l n)).toArray=F:=by rw[HKN.out,Acw];exact HFE.out.symm
   rw[hFv]at hv
   have HVF:=Lib.hid hv
   have HRF:=Lib.hid ((hoth w.heap.size (by omega)).trans HR.out)
   have HBF:=Lib.hid (HBS.out.trans (hbel.mono (by omega)))
   clear hv hoth hbel hFv
   go_wp2_with (first
    |((with_reducible refine Dl 25 ?_);refine wpList_load_row (o:=⟨some 25, .load 169 (.tmp 3),_,_,_,_⟩) rfl 169 (.tmp 3) rfl (w.heap.size+1) rfl 169 F (0,0) _ HVF.out Tryz.underlying169 rfl HIF.out.1 ?_)
    |((with_reducible refine Ac 2 ?_);refine Ad (o:=⟨none, .store 169 (.tmp 2) (.tmp 25),_,_,_,_⟩) rfl 169 (.tmp 2) (.tmp 25) rfl w.heap.size F rfl rfl 169 b64 HRF.out HIF.out.1 HIF.out.2.1 HIF.out.2.2 ?_;intro w9 hw9))
   have hr9:w9.heap[w.heap.size]?=some (.cells F 169 (0,0)):=by rw[hw9.out];exact setRow_heap _ _ _ _ _ _ HRF.out
   refine bodyPost_ret (results_cell_row Tryz.results166 _ w9 w.heap.size 169 _ (0,0) _ rfl hr9 Tryz.underlying169 rfl HIF.out.1) rfl ⟨rfl, ?_⟩
   exact HBF.out.trans (An hw9.out (Nat.le_refl _))
theorem Ut (l:List Nat) (n:Nat) (hn:n=l.length) (A:Option Addr) (c:Nat) (w:World) (hA:Rd w w.heap.size A (U8 l)) (hb: ∀x∈l,x<256) (hnil:A=none→c=0) (h:64<n) (h5:n≤5000) (F:Array Value) (hF:F=(U8 (blockM l)).toArray):
  Calls Tryz.prog 166 #[.slice A n c] w fun e w'=>e= .returned (.agg F)∧Below w.heap.size w w':=by
 obtain⟨D,hD⟩: ∃D,D=digestN l:=⟨_,rfl⟩
 obtain⟨FD,hFD⟩: ∃FD:Array Value,FD=(U8 (digestN l)).toArray:=⟨_,rfl⟩
 have hDl:D.length=32:=by rw[hD,Cs]
 have hFD':FD=(U8 D).toArray:=by rw[hFD,hD]
 have hkey:keyN l=D:=by unfold keyN;rw[if_pos (by omega),hD]
 have hFE:F=(U8 (D++List.replicate (64 - D.length) 0)).toArray:=by rw[hF];unfold blockM;rw[hkey]
 have h64:D.length≤64:=by omega
 have HA:=Lib.hid hA
 have HN:=Lib.hid hn
 have HNIL:=Lib.hid hnil
 have HB:=Lib.hid hb
 have HFD:=Lib.hid hFD
 have HFD':=Lib.hid hFD'
 have HFE:=Lib.hid hFE
 have HK64:=Lib.hid h64
 have HKN:=Lib.hid hDl.symm
 have HID:=Lib.hid (Fx hFD' hDl)
 have HIF:=Lib.hid (Vn hF (Ej l))
 clear hA hn hnil hb hFD hFD' hFE h64 hDl hkey hF hD
 go_enter Tryz.func166, Tryz.ntmps166
 go_wp2_with ((with_reducible refine Ac 3 ?_);refine Ad (o:=⟨none, .store 169 (.tmp 3) (.tmp 6),_,_,_,_⟩) rfl 169 (.tmp 3) (.tmp 6) rfl (w.heap.size+1) b64 rfl rfl 169 b64 (heap_alloc2_new _ _ _) Kd rfl (Bv (List.replicate 64 0)) ?_;intro w0 hw0)
 obtain⟨hs0,hr0,hv0,hb0⟩:=Di hw0.out
 have HR0:Hid (w0.heap[w.heap.size]?=some (.cells b64 169 (0,0))):=Lib.hid hr0
 have HV0:Hid (w0.heap[w.heap.size+1]?=some (.cells b64 169 (0,0))):=Lib.hid hv0
 clear hr0 hv0 hw0
 refine(Qf l FD HFD n HN.out A c w0 (HA.out.next hb0) HNIL.out HB.out h5).mono ?_
 rintro e w1 ⟨rfl,hb1⟩
 have hs1:=hb1.size
 go_wp2_with ((with_reducible refine Ac 4 ?_);refine Al (heap_alloc_new w1 _) HID.out.1 HID.out.2.2 ?_ (hold:=HID.out.2.1);intro w2 hw2)
 obtain⟨hrd2,hv2,hr2,hb2⟩:=dE hs0 HR0.out HV0.out hb0 hb1 hw2.out HFD'.out
 have HR:=Lib.hid hr2
 have HV:=Lib.hid hv2
 have HBS:=Lib.hid hb2
 have hne:w1.heap.size≠w.heap.size+1:=by omega
 have hsrc:Acy w2 (w.heap.size+1) (some ⟨w1.heap.size,0,none⟩) (U8 D):=by
  intro k u hu
  obtain⟨ad,he,_,hc⟩:=hrd2 k u hu
  cases he
  exact⟨_,rfl,hne,hc⟩
 have HSRC:=Lib.hid hsrc
 clear hrd2 hv2 hr2 hb2 hw2 hb1 hb0 hsrc
 go_loopw [5] (fun i wr=> ∃k:Nat,k≤(32:Nat)∧i= .int .i64 k∧wr.heap[w.heap.size+1]?=some (.cells (U8 (kz D k)).toArray 169 (0,0))∧Below (w.heap.size+1) w2 wr∧ ∀b,b≠w.heap.size+1→wr.heap[b]?=w2.heap[b]?) (fun i _=>(32:Nat) - (intOf i).toNat)
 case atStart=>exact⟨0,Nat.zero_le _,rfl,by rw[tT, ←zG];exact HV.out,Below.refl _ _,fun _ _=>rfl⟩
 case round=>
  obtain⟨k,hk,rfl,hv,hbel,hoth⟩:=hrel
  by_cases hlt:k<(32:Nat)
  ·have hkl:k<D.length:=by rw[←HKN.out];exact hlt
   obtain⟨ad,hade,hne,hc0⟩:=HSRC.out k _ (dQ D k hkl)
   cases hade
   rw[Bu]at hc0
   have hc:wr.cell? ⟨w1.heap.size,k,none⟩=some (.int .u8 ((D.getD k 0:Nat):Int)):=(World.cell?_of_block (w:=w2) (w':=wr) (a:=⟨w1.heap.size,k,none⟩) (hoth w1.heap.size hne)).trans hc0
   have hkz:=dI D k (by omega) HK64.out
   have hcur:=Uv hv k (by rw[hkz];omega)
   have hfz:=frozen_of_row wr _ k _ _ hv
   have hset:=heap_setCell_same wr _ k _ 169 (.int .u8 ((D.getD k 0:Nat):Int)) hv
   have hst:(U8 (kz D k)).toArray.setIfInBounds k (.int .u8 ((D.getD k 0:Nat):Int))=(U8 (kz D (k+1))).toArray:=by
    rw[List.setIfInBounds_toArray, ←Acx D k hkl HK64.out,U8,U8,List.map_set]
   rw[hst]at hset
   have HSET:=Lib.hid hset
   have HOTH:=Lib.hid (fun(b:Nat) (hb:b≠w.heap.size+1)=>(heap_setCell_other wr ⟨w.heap.size+1,k,none⟩ b (.int .u8 ((D.getD k 0:Nat):Int)) hb).trans (hoth b hb))
   have bk0:(0:Int)≤(k:Int):=Int.natCast_nonneg _
   have bk1:(k:Int)<((32:Nat):Nat):=by omega
   have bk2:(k:Int)<64:=by omega
   clear hset hst hv hoth hc0 hkz
   generalize D.getD k 0=y at*
   generalize (kz D k).getD k 0=z at*
   go_wp2
   go_roundw
   case rel=>exact⟨k+1,by omega,by go_num,HSET.out,hbel.setCell (Nat.le_refl _) _,HOTH.out⟩
   case measure=>simp[intOf];omega
  ·have ek:(32:Nat)=k:=by omega
   subst ek
   have hFv:(U8 (kz D (32:Nat))).toArray=F:=by rw[HKN.out,Acw];exact HFE.out.symm
   rw[hFv]at hv
   have HVF:=Lib.hid hv
   have HRF:=Lib.hid ((hoth w.heap.size (by omega)).trans HR.out)
   have HBF:=Lib.hid (HBS.out.trans (hbel.mono (by omega)))
   clear hv hoth hbel hFv
   go_wp2_with (first
    |((with_reducible refine Dl 25 ?_);refine wpList_load_row (o:=⟨some 25, .load 169 (.tmp 3),_,_,_,_⟩) rfl 169 (.tmp 3) rfl (w.heap.size+1) rfl 169 F (0,0) _ HVF.out Tryz.underlying169 rfl HIF.out.1 ?_)
    |((with_reducible refine Ac 2 ?_);refine Ad (o:=⟨none, .store 169 (.tmp 2) (.tmp 25),_,_,_,_⟩) rfl 169 (.tmp 2) (.tmp 25) rfl w.heap.size F rfl rfl 169 b64 HRF.out HIF.out.1 HIF.out.2.1 HIF.out.2.2 ?_;intro w9 hw9))
   have hr9:w9.heap[w.heap.size]?=some (.cells F 169 (0,0)):=by rw[hw9.out];exact setRow_heap _ _ _ _ _ _ HRF.out
   refine bodyPost_ret (results_cell_row Tryz.results166 _ w9 w.heap.size 169 _ (0,0) _ rfl hr9 Tryz.underlying169 rfl HIF.out.1) rfl ⟨rfl, ?_⟩
   exact HBF.out.trans (An hw9.out (Nat.le_refl _))
theorem Yx (l:List Nat) (n:Nat) (hn:n=l.length) (A:Option Addr) (c:Nat) (w:World) (hA:Rd w w.heap.size A (U8 l)) (hb: ∀x∈l,x<256) (hnil:A=none→c=0) (h5:n≤5000) (F:Array Value) (hF:F=(U8 (blockM l)).toArray):
  Calls Tryz.prog 166 #[.slice A n c] w fun e w'=>e= .returned (.agg F)∧Below w.heap.size w w':=by
 by_cases h:64<n
 ·exact Ut l n hn A c w hA hb hnil h h5 F hF
 ·exact Tt l n hn A c w hA (by omega) F hF
theorem dJ (l:List Nat) (k:Nat) (h:k<l.length):U8 (l.take (k+1))=U8 (l.take k)++ [.int .u8 ((l.getD k 0:Nat):Int)]:=by
 rw[List.take_succ_eq_append_getElem h,Gg,List.getD_eq_getElem?_getD,List.getElem?_eq_getElem h];rfl
theorem Yy (K:List Nat) (m k:Nat) (h:k<K.length):(maskN K m).getD k 0=K.getD k 0^^^m:=by
 rw[List.getD_eq_getElem?_getD,List.getD_eq_getElem?_getD,List.getElem?_eq_getElem (by rw[Ea];exact h),List.getElem?_eq_getElem h]
 simp[maskN]
def Acz (base:Nat) (I O:List Nat) (k:Nat) (v6 v7:Value) (wr:World):Prop:= ∃g6 c6 g7 c7,v6= .slice (some ⟨g6,0,none⟩) k c6∧v7= .slice (some ⟨g7,0,none⟩) k c7∧
 Hid (wr.ownsRow base 5 1 (.slice (some ⟨g6,0,none⟩) k c6) k (U8 (I.take k)))∧Hid (wr.ownsRow base 5 1 (.slice (some ⟨g7,0,none⟩) k c7) k (U8 (O.take k)))∧g6≠g7
theorem dK {w:World} {g base:Nat} (h:w.heap[g]?=some (.cells #[] 5 (0,0))) (hb:base≤g):w.ownsRow base 5 1 (.slice (some ⟨g,0,none⟩) 0 0) 0 []:=
 ⟨rfl, .inr ⟨g,0, #[],rfl,hb,h,Nat.le_refl _,Nat.zero_le _,rfl,rfl⟩⟩
theorem mX (w:World) (I O:List Nat) (w':World) (h:w'=(w.alloc (.cells #[] 5)).alloc (.cells #[] 5)):Acz w.heap.size I O 0 (.slice (some ⟨w.heap.size,0,none⟩) 0 0) (.slice (some ⟨w.heap.size+1,0,none⟩) 0 0) w':=by
 subst h
 refine⟨w.heap.size,0,w.heap.size+1,0,rfl,rfl,Lib.hid ?_,Lib.hid ?_,by omega⟩
 ·rw[List.take_zero];exact dK (heap_alloc2_old _ _ _) (Nat.le_refl _)
 ·rw[List.take_zero];exact dK (heap_alloc2_new _ _ _) (by omega)
theorem Ac0 (x:Nat): ∀u∈ [Value.int .u8 (x:Int)],u.oneCell'=true:=by
 intro u hu
 rw[List.mem_singleton]at hu
 subst hu;rfl
theorem Aee {w:World} {base g n cap j:Nat} {e:TypeId} {xs:List Value} {b:Nat} (hb:b<base) (h:w.ownsRow base e 1 (.slice (some ⟨g,0,none⟩) n cap) n xs):some (⟨b,j,none⟩:Addr).block≠some g:=by
 have h1:=h.lt g rfl
 intro he
 have h2:b=g:=Option.some.inj he
 omega
theorem Ac1 {w:World} {base:Nat} {e:TypeId} {v:Value} {n:Nat} {xs:List Value} (h:w.ownsRow base e 1 v n xs): ∃A cap,v= .slice A n cap∧Rd w w.heap.size A xs∧(A=none→cap=0):=by
 obtain⟨A,cap,rfl,hr⟩:=Iq h
 refine⟨A,cap,rfl,hr, ?_⟩
 rintro rfl
 rcases h.2 with⟨h',_⟩|⟨g',cap',cur,h',_⟩
 ·simp at h';exact h'.2
 ·simp at h'
theorem tU {base g n c:Nat} (h:base≤g): ∀k,(Value.slice (some ⟨g,0,none⟩) n c).ownBlock=some k→base≤k:=by
 intro k hk
 cases hk
 exact h
theorem Ac2 {l r:List Nat} {b:Nat} (hl: ∀x∈l,x<b) (hr: ∀x∈r,x<b): ∀x∈l++r,x<b:=by
 intro x hx
 rcases List.mem_append.1 hx with h|h
 ·exact hl x h
 ·exact hr x h
theorem Yz {a:Nat} {w:World} (h:a≤w.heap.size) (o:Obj):a≤(w.alloc o).heap.size:=by simp;omega
theorem yO {base k g6 g7 c7:Nat} {O:List Value} {wr w3:World} {o:Obj} (h7:wr.ownsRow base 5 1 (.slice (some ⟨g7,0,none⟩) k c7) k O) (hg:(wr.alloc o).grownBy w3 (some g6)) (hne:g6≠g7):w3.ownsRow base 5 1 (.slice (some ⟨g7,0,none⟩) k c7) k O:=
 (h7.alloc o).kept hg (.inr (by simp[Value.ownBlock];omega))
theorem Sg {w:World} {base g n cap:Nat} {e:TypeId} {xs:List Value} (h:w.ownsRow base e 1 (.slice (some ⟨g,0,none⟩) n cap) n xs):base≤g∧g<w.heap.size:=h.lt g rfl
theorem rE {base k g6 c6 g7 c7 g6' c6' g7' c7':Nat} {I O:List Nat} {w2 wr w3 w4:World} {x y:Value} {o1 o2:Obj} (h6:wr.ownsRow base 5 1 (.slice (some ⟨g6,0,none⟩) k c6) k (U8 (I.take k))) (h7:wr.ownsRow base 5 1 (.slice (some ⟨g7,0,none⟩) k c7) k (U8 (O.take k)))
  (hne:g6≠g7) (hbel:Below base w2 wr) (hbs:base≤wr.heap.size)
  (hown6:w3.ownsRow base 5 1 (.slice (some ⟨g6',0,none⟩) (k+1) c6') (k+1) (U8 (I.take k)++ [x])) (hg6:(wr.alloc o1).grownBy w3 (some g6)) (hd6:g6'=g6∨(wr.alloc o1).heap.size≤g6')
  (hown7:w4.ownsRow base 5 1 (.slice (some ⟨g7',0,none⟩) (k+1) c7') (k+1) (U8 (O.take k)++ [y])) (hg7:(w3.alloc o2).grownBy w4 (some g7)) (hd7:g7'=g7∨(w3.alloc o2).heap.size≤g7')
  (hx:U8 (I.take (k+1))=U8 (I.take k)++ [x]) (hy:U8 (O.take (k+1))=U8 (O.take k)++ [y]):
  Acz base I O (k+1) (.slice (some ⟨g6',0,none⟩) (k+1) c6') (.slice (some ⟨g7',0,none⟩) (k+1) c7') w4∧Below base w2 w4:=by
 have l6:=Sg h6
 have l7:=Sg h7
 have l6':=Sg hown6
 have hsz:(wr.alloc o1).heap.size=wr.heap.size+1:=by simp
 have hsz3:(w3.alloc o2).heap.size=w3.heap.size+1:=by simp
 have hs3:=hg6.size
 have hne6:g6'≠g7:=by omega
 refine⟨⟨g6',c6',g7',c7',rfl,rfl,Lib.hid ?_,Lib.hid (by rw[hy];exact hown7),by omega⟩, ?_⟩
 ·rw[hx];exact(hown6.alloc o2).kept hg7 (.inr (by simp[Value.ownBlock];omega))
 ·exact((((hbel.alloc hbs o1).grown hg6 (by omega) (by rintro k' h';cases h';omega)).alloc (by omega) o2).grown hg7 (by omega) (by rintro k' h';cases h';omega))
theorem Za (s b:List Nat) (n m:Nat) (hn:n=s.length) (hm:m=b.length) (A A':Option Addr) (c c':Nat) (w:World) (hA:Rd w w.heap.size A (U8 s)) (hA':Rd w w.heap.size A' (U8 b)) (hnil:A=none→c=0) (hnil':A'=none→c'=0)
  (hs: ∀x∈s,x<256) (hb: ∀x∈b,x<256) (h5:n≤5000) (h4:m≤4000) (F:Array Value) (hF:F=(U8 (Zg s b)).toArray):
  Calls Tryz.prog 113 #[.slice A n c, .slice A' m c'] w fun e w'=>e= .returned (.agg F)∧Below w.heap.size w w':=by
 obtain⟨i0,hi,hz0,hz1,hz2⟩:=info_parts Be
 obtain⟨K,hK⟩: ∃K,K=blockM s:=⟨_,rfl⟩
 obtain⟨X,hX⟩: ∃X:Array Value,X=(U8 (blockM s)).toArray:=⟨_,rfl⟩
 obtain⟨I,hI⟩: ∃I,I=maskN K 54:=⟨_,rfl⟩
 obtain⟨O,hO⟩: ∃O,O=maskN K 92:=⟨_,rfl⟩
 obtain⟨D,hD⟩: ∃D,D=digestN (I++b):=⟨_,rfl⟩
 obtain⟨FD,hFD⟩: ∃FD:Array Value,FD=(U8 (digestN (I++b))).toArray:=⟨_,rfl⟩
 have hKl:K.length=64:=by rw[hK,Ej]
 have hKb: ∀x∈K,x<256:=by rw[hK];exact aZ s hs
 have hDl:D.length=32:=by rw[hD,Cs]
 have hDb: ∀x∈D,x<256:=by rw[hD];exact Sy _
 have hIl:I.length=64:=by rw[hI,Ea,hKl]
 have hOl:O.length=64:=by rw[hO,Ea,hKl]
 have hIb: ∀x∈I,x<256:=by rw[hI];exact Xa K 54 hKb (by omega)
 have hOb: ∀x∈O,x<256:=by rw[hO];exact Xa K 92 hKb (by omega)
 have hF':F=(U8 (digestN (O++D))).toArray:=by rw[hF,hD,hO,hI,hK];rfl
 have hXK:X=(U8 K).toArray:=by rw[hX,hK]
 have hFD':FD=(U8 D).toArray:=by rw[hFD,hD]
 have HN:=Lib.hid hn
 have HM:=Lib.hid hm
 have HA:=Lib.hid hA
 have HA':=Lib.hid hA'
 have HNIL:=Lib.hid hnil
 have HNIL':=Lib.hid hnil'
 have HS:=Lib.hid hs
 have HB:=Lib.hid hb
 have HX:=Lib.hid hX
 have HXK:=Lib.hid hXK
 have HFD:=Lib.hid hFD
 have HFD':=Lib.hid hFD'
 have HF:=Lib.hid hF'
 have HKL:=Lib.hid hKl
 have HKB:=Lib.hid hKb
 have HDL:=Lib.hid hDl
 have HDB:=Lib.hid hDb
 have HIL:=Lib.hid hIl
 have HOL:=Lib.hid hOl
 have HIB:=Lib.hid hIb
 have HOB:=Lib.hid hOb
 have HI:=Lib.hid hI
 have HO:=Lib.hid hO
 have HIX:=Lib.hid (Vn hXK hKl)
 have HID:=Lib.hid (Fx hFD' hDl)
 have HIF:=Lib.hid (Fx hF (Cs _))
 clear hn hm hA hA' hnil hnil' hs hb hX hXK hFD hFD' hF hF' hK hD hKl hKb hDl hDb hI hO hIl hOl hIb hOb
 go_enter Tryz.func113, Tryz.ntmps113
 go_wp2_with fail
 refine(Yx s n HN.out A c _ (HA.out.next (Aa w _ _)) HS.out HNIL.out h5 X HX.out).mono ?_
 rintro e w1 ⟨rfl,hb1⟩
 have hr1:w1.heap[w.heap.size]?=some (.cells b32 83 (0,0)):=(hb1.block _ (by simp)).trans (heap_alloc_new w _)
 have hbw:=Ay _ _ hb1
 have hs1:w.heap.size+1≤w1.heap.size:=by have:=hb1.size;simpa using this
 have HR1:=Lib.hid hr1
 have HBW:=Lib.hid hbw
 clear hr1 hbw hb1
 go_wp2_with ((with_reducible refine Ac 5 ?_);refine Ad (o:=⟨none, .store 169 (.tmp 5) (.tmp 11),_,_,_,_⟩) rfl 169 (.tmp 5) (.tmp 11) rfl w1.heap.size X rfl rfl 169 b64 (heap_alloc_new w1 _) HIX.out.1 HIX.out.2.1 HIX.out.2.2 ?_;intro w2 hw2)
 obtain⟨hs2,hr2,hb2⟩:=Bg hw2.out
 have hb02:Below w.heap.size w w2:=HBW.out.trans (hb2.mono (by omega))
 have HK2:Hid (w2.heap[w1.heap.size]?=some (.cells (U8 K).toArray 169 (0,0))):=Lib.hid (HXK.out▸hr2)
 have HR2:=Lib.hid ((hb2.block w.heap.size (by omega)).trans HR1.out)
 have HB2:=Lib.hid hb02
 have hgw:w1.heap.size<w2.heap.size:=by omega
 clear hr2 hw2 hb2 hb02 hs2
 go_loopw [6,7,8] (fun v6 v7 i wr=> ∃k:Nat,k≤64∧i= .int .i64 k∧Acz w2.heap.size I O k v6 v7 wr∧Below w2.heap.size w2 wr) (fun _ _ i _=>64 - (intOf i).toNat)
 case atStart=>exact⟨0,Nat.zero_le _,rfl,mX w2 I O _ rfl,((Below.refl _ _).alloc (Nat.le_refl _) _).alloc (by simp) _⟩
 case round=>
  obtain⟨k,hk,rfl,⟨g6,c6,g7,c7,rfl,rfl,HO6,HO7,hne⟩,hbel⟩:=hrel
  by_cases hlt:k<64
  ·have hkl:k<K.length:=by rw[HKL.out];exact hlt
   have hbs:=hbel.size
   have hc:wr.cell? ⟨w1.heap.size,k,none⟩=some (.int .u8 ((K.getD k 0:Nat):Int)):=(hbel.cell (p:=⟨w1.heap.size,k,none⟩) hgw).trans (Uv HK2.out k hkl)
   have hnx:=dJ I k (by rw[HIL.out];exact hlt)
   have hny:=dJ O k (by rw[HOL.out];exact hlt)
   rw[HI.out,Yy K 54 k hkl, ←HI.out]at hnx
   rw[HO.out,Yy K 92 k hkl, ←HO.out]at hny
   have hy8:=kF HKB.out k
   have HNX:=Lib.hid hnx
   have HNY:=Lib.hid hny
   clear hnx hny hkl
   generalize K.getD k 0=y at*
   have hx1:bits .xor .u8 (y:Int) 54=((y^^^54:Nat):Int):=u8_xor_nat y 54 hy8 (by omega)
   have hx2:bits .xor .u8 (y:Int) 92=((y^^^92:Nat):Int):=u8_xor_nat y 92 hy8 (by omega)
   have bk0:(0:Int)≤(k:Int):=Int.natCast_nonneg _
   have bk1:(k:Int)<64:=by omega
   have hpos:0<k+1:=by omega
   have hmx:k+1≤maxLen:=by unfold maxLen;omega
   have hby:(k+1)*1≤140737488355328:=by omega
   go_wp2_with (first
    |(at_builtin;refine Fp _ rfl (.tmp 18) (.tmp 23) 23 rfl w2.heap.size 5 i0 (.int .u8 0) 1 Tryz.underlying23 hi hz0 hz1 hz2 rfl g6 k c6 (U8 (I.take k)) rfl (HO6.out.alloc _) ⟨wr.heap.size,0,none⟩ 1 1 [.int .u8 ((y^^^54:Nat):Int)] rfl rfl hpos (lH wr _ _) (Ac0 _) hmx hby (Yz hbs _) ?_;intro g6' c6' w3 hown hg hd;have H6:=Lib.hid hown;have G6:=Lib.hid hg;have D6:=Lib.hid hd;have HK7:=Lib.hid (yO HO7.out hg hne);have hs3:=Nat.le_trans (Yz hbs _) hg.size;have hc3:=hg.cell ((World.cell?_alloc_lt _ _ _ (Nat.lt_of_lt_of_le hgw hbs)).trans hc) (Aee hgw HO6.out);clear hown hg hd)
    |(at_builtin;refine Fp _ rfl (.tmp 25) (.tmp 30) 23 rfl w2.heap.size 5 i0 (.int .u8 0) 1 Tryz.underlying23 hi hz0 hz1 hz2 rfl g7 k c7 (U8 (O.take k)) rfl (HK7.out.alloc _) ⟨w3.heap.size,0,none⟩ 1 1 [.int .u8 ((y^^^92:Nat):Int)] rfl rfl hpos (lH w3 _ _) (Ac0 _) hmx hby (Yz hs3 _) ?_;intro g7' c7' w4 hown hg hd;have H7:=Lib.hid hown;have G7:=Lib.hid hg;have D7:=Lib.hid hd;clear hown hg hd))
   obtain⟨q1,q2⟩:=rE HO6.out HO7.out hne hbel hbs H6.out G6.out D6.out H7.out G7.out D7.out HNX.out HNY.out
   go_roundw
   case rel=>exact⟨k+1,by omega,by go_num,q1,q2⟩
   case measure=>simp[intOf];omega
  ·have ek:64=k:=by omega
   subst ek
   have h6:=HO6.out
   have h7:=HO7.out
   rw[List.take_of_length_le (Nat.le_of_eq HIL.out)]at h6
   rw[List.take_of_length_le (Nat.le_of_eq HOL.out)]at h7
   have hbs:=hbel.size
   have h64:64+m≤maxLen:=by unfold maxLen;omega
   have h64b:(64+m)*1≤140737488355328:=by omega
   have h96:64+32≤maxLen:=by unfold maxLen;omega
   have H6:=Lib.hid h6
   have H7:=Lib.hid h7
   have HAr:=Lib.hid (HA'.out.next (HB2.out.trans (hbel.mono HB2.out.size)))
   have HML:=Lib.hid ((Fj b).trans HM.out.symm)
   have HRr:=Lib.hid ((hbel.block w.heap.size (by omega)).trans HR2.out)
   have HBr:=Lib.hid hbel
   clear h6 h7 hbel HO6 HO7
   go_wp2_with (at_builtin;refine Af _ rfl (.tmp 32) (.tmp 33) 23 rfl w2.heap.size 5 i0 (.int .u8 0) 1 Tryz.underlying23 hi hz0 hz1 hz2 rfl (.slice (some ⟨g6,0,none⟩) 64 c6) 64 (U8 I) rfl H6.out wr.heap.size A' m c' (U8 b) rfl HAr.out HML.out HNIL'.out (Bd b) h64 h64b hbs ?_;intro v3 w3 hown3 hg3;have HO3:=Lib.hid hown3;have HG3:=Lib.hid hg3;obtain⟨A3,c3,rfl,hrd3,hnil3⟩:=Ac1 hown3;have HRD3:=Lib.hid hrd3;have HN3:=Lib.hid hnil3;clear hown3 hg3 hrd3 hnil3)
   have l6:=Sg H6.out
   have l7:=Sg H7.out
   have HB3:=Lib.hid (HBr.out.grown HG3.out hbs (tU l6.1))
   have H73:=Lib.hid (H7.out.kept HG3.out (.inr (by simp[Value.ownBlock];omega)))
   have hs3:=HG3.out.size
   have hrd3:=HRD3.out
   rw[←Gg]at hrd3
   have hLl:64+m=(I++b).length:=by rw[List.length_append,HIL.out,HM.out]
   refine(Qf (I++b) FD HFD (64+m) hLl A3 c3 w3 hrd3 HN3.out (Ac2 HIB.out HB.out) (by omega)).mono ?_
   clear hrd3 hLl
   rintro e w4 ⟨rfl,hb4⟩
   have hs4:=hb4.size
   have HB4:=Lib.hid (HB3.out.trans (hb4.mono (by omega)))
   have H74:=Lib.hid (Aj H73.out hb4)
   clear hb4
   go_wp2_with (first
    |((with_reducible refine Ac 9 ?_);refine Al (heap_alloc_new w4 _) HID.out.1 HID.out.2.2 ?_ (hold:=HID.out.2.1);intro w5 hw5;obtain⟨hs5,hr5,hb5⟩:=Bg hw5.out;have HRD5:=Lib.hid (Qg hr5 HFD'.out);have H75:=Lib.hid (Aj H74.out hb5);have HB5:=Lib.hid (HB4.out.trans (hb5.mono (Nat.le_trans hbs (Nat.le_trans hs3 hs4))));have hs5':=hb5.size;have HDL5:=Lib.hid ((Fj D).trans HDL.out);have hbs5:=Nat.le_trans (Nat.le_trans hbs (Nat.le_trans hs3 hs4)) hs5';clear hs5 hr5 hb5)
    |(at_builtin;refine Af _ rfl (.tmp 36) (.tmp 37) 23 rfl w2.heap.size 5 i0 (.int .u8 0) 1 Tryz.underlying23 hi hz0 hz1 hz2 rfl (.slice (some ⟨g7,0,none⟩) 64 c7) 64 (U8 O) rfl H75.out w5.heap.size (some ⟨w4.heap.size,0,none⟩) 32 32 (U8 D) rfl HRD5.out HDL5.out (fun h=>by cases h) (Bd D) h96 (by omega) hbs5 ?_;intro v6 w6 hown6 hg6;have HG6:=Lib.hid hg6;obtain⟨A6,c6,rfl,hrd6,hnil6⟩:=Ac1 hown6;have HRD6:=Lib.hid hrd6;have HN6:=Lib.hid hnil6;clear hown6 hg6 hrd6 hnil6))
   have HB6:=Lib.hid (HB5.out.grown HG6.out hbs5 (tU l7.1))
   have hs6:=HG6.out.size
   have hrd6:=HRD6.out
   rw[←Gg]at hrd6
   have hLl:64+32=(O++D).length:=by rw[List.length_append,HOL.out,HDL.out]
   refine(Qf (O++D) F HF (64+32) hLl A6 _ w6 hrd6 HN6.out (Ac2 HOB.out HDB.out) (by omega)).mono ?_
   clear hrd6 hLl
   rintro e w7 ⟨rfl,hb7⟩
   have hs7:=hb7.size
   have HB7:=Lib.hid (HB6.out.trans (hb7.mono (by omega)))
   have HR7:=Lib.hid ((HB7.out.block w.heap.size (by omega)).trans HR2.out)
   clear hb7
   go_wp2_with ((with_reducible refine Ac 4 ?_);refine Al HR7.out HIF.out.1 HIF.out.2.2 ?_ (hold:=HIF.out.2.1);intro w8 hw8)
   have hr8:w8.heap[w.heap.size]?=some (.cells F 83 (0,0)):=by rw[hw8.out];exact setRow_heap _ _ _ _ _ _ HR7.out
   refine bodyPost_ret (results_cell_row Tryz.results113 _ w8 w.heap.size 83 _ (0,0) _ rfl hr8 Tryz.underlying83 rfl HIF.out.1) rfl ⟨rfl, ?_⟩
   exact(HB2.out.trans (HB7.out.mono HB2.out.size)).trans (An hw8.out (Nat.le_refl _))
end Go.Proofs.YtmdbfogjfbbpjaaGreatDoor
end
section
namespace Go.Proofs.YtmdbfogjfbbpjaaGreatDoor
open Go.ChangeShapes Go.WideShapes Go.ChangeAt Go.RowKit
theorem mY (s l:List Nat) (n m:Nat) (hn:n=s.length) (hm:m=l.length) (A B:Option Addr) (c d:Nat) (w:World) (hA:Bs w w.heap.size s A c) (hB:Bs w w.heap.size l B d) (h5:n≤5000) (h4:m≤3999) (T:List Nat) (hTg:tagS s l=T):
  Calls Tryz.prog 63 #[.slice A n c, .slice B m d] w fun e w'=> ∃g cap,e= .returned (.slice (some ⟨g,0,none⟩) 10 cap)∧Rd w' w'.heap.size (some ⟨g,0,none⟩) (U8 T)∧Below w.heap.size w w':=by
 obtain⟨i0,hi,hz0,hz1,hz2⟩:=info_parts Be
 obtain⟨L,hL⟩: ∃L,83::l=L:=⟨_,rfl⟩
 obtain⟨V,hV⟩: ∃V,Zg s L=V:=⟨_,rfl⟩
 obtain⟨v,hv⟩: ∃v,valB (V.take 4)=v:=⟨_,rfl⟩
 obtain⟨F,hF⟩: ∃F:Array Value,F=(U8 V).toArray:=⟨_,rfl⟩
 have HVL:=Lib.hid (show V.length=32 by rw[←hV];exact Cs _)
 have HVB:=Lib.hid (show∀x∈V,x<256 by rw[←hV];exact Sy _)
 have HL1:=Lib.hid (show U8 [83]++U8 l=U8 L by rw[←hL];rfl)
 have HLK:=Lib.hid (show 1+m=L.length by rw[←hL,hm,List.length_cons];omega)
 have HLB:=Lib.hid (show∀x∈L,x<256 by rw[←hL];intro x hx;rcases List.mem_cons.1 hx with rfl|h;decide;exact hB.lt x h)
 have HFV:=Lib.hid (show F=(U8 (Zg s L)).toArray by rw[hV];exact hF)
 have HF:=Lib.hid hF
 have HV:=Lib.hid hv
 have HVLT:=Lib.hid (show v≤4294967295 by
  rw[←hv]
  have h:=Gx (V.take 4) (fun x hx=>HVB.out x (List.mem_of_mem_take hx))
  rw[List.length_take,HVL.out]at h
  exact Nat.le_of_lt_succ h)
 have HTV:=Lib.hid (show dec v=T by rw[←hTg,tagS,hL,hV,hv])
 have HM:=Lib.hid (show(U8 l).length=m by simp[U8,hm])
 have HN:=Lib.hid hn
 have HA:=Lib.hid hA
 have HB:=Lib.hid hB
 have hbl:=Aa w #[.int .u8 83] 5
 have hown:(w.alloc (.cells #[.int .u8 83] 5)).ownsRow w.heap.size 5 1 (.slice (some ⟨w.heap.size,0,none⟩) 1 1) 1 (U8 [83]):=World.ownsRow_lit (e:= 5) (base:=w.heap.size) (size:=1) w #[.int .u8 83] 1 (Nat.le_refl _) (by unfold maxLen;omega) rfl
 have HOWN:=Lib.hid hown
 have HBW:=Lib.hid (hB.next hbl)
 have HBL:=Lib.hid hbl
 have hbs:=hbl.size
 have h64:1+m≤maxLen:=by unfold maxLen;omega
 clear hL hV hv hF hn hm hA hB hTg hown hbl
 go_enter Tryz.func63, Tryz.ntmps63
 go_wp2_with (at_builtin;refine Af _ rfl (.tmp 9) (.tmp 10) 23 rfl w.heap.size 5 i0 (.int .u8 0) 1 Tryz.underlying23 hi hz0 hz1 hz2 rfl (.slice (some ⟨w.heap.size,0,none⟩) 1 1) 1 (U8 [83]) rfl HOWN.out _ B m d (U8 l) rfl HBW.out.rd HM.out HBW.out.nil (Bd l) h64 (by omega) hbs ?_;intro v2 w2 hown2 hg2;rw[HL1.out]at hown2;obtain⟨AL,cL,rfl,hs2⟩:=Av hown2 HLB.out;have HS2:=Lib.hid hs2;have HB2:=Lib.hid (show Below w.heap.size w w2 from HBL.out.grown hg2 HBL.out.size (fun p hp=>by cases hp;exact Nat.le_refl _));clear hown2 hg2 hs2)
 refine(Za s L n (1+m) HN.out HLK.out A AL c cL w2 (HA.out.next HB2.out).rd HS2.out.rd HA.out.nil HS2.out.nil HA.out.lt HLB.out h5 (by omega) F HFV.out).mono ?_
 rintro e w3 ⟨rfl,hb3⟩
 have HB3:=Lib.hid (HB2.out.trans (hb3.mono HB2.out.size))
 clear hb3
 go_wp2_with fail
 refine(pA V F HF.out _ HVB.out HVL.out).mono ?_
 rintro e w4 ⟨rfl,hb4⟩
 have HB4:=Lib.hid (HB3.out.trans (hb4.mono HB3.out.size))
 clear hb4
 rw[HV.out]
 go_wp2_with fail
 refine(eW v _ HVLT.out).mono ?_
 rintro e w6 ⟨g,cap,rfl,hr6,hb6⟩
 rw[HTV.out]at hr6
 have HR6:=Lib.hid hr6
 have HB6:=Lib.hid (HB4.out.trans (hb6.mono HB4.out.size))
 clear hr6 hb6
 go_wp2
 go_ret
 exact⟨g,cap,rfl,HR6.out,HB6.out⟩
theorem Aef (k:Int) (hk: ¬(1≤k∧k≤4)) (w:World):Calls Tryz.prog 107 #[.int .i64 k] w fun e w'=>e= .returned (.tuple #[.slice none 0 0, .int .i64 8])∧w=w':=by
 cases q1:decide (k<1)with
 |true=>
  go_enter Tryz.func107, Tryz.ntmps107
  go_wp2
  go_ret2
  exact⟨rfl,rfl⟩
 |false=>
  have q2:decide (4<k)=true:=by have:=of_decide_eq_false q1;exact decide_eq_true (by omega)
  go_enter Tryz.func107, Tryz.ntmps107
  go_wp2
  go_ret2
  exact⟨rfl,rfl⟩
theorem Af7 (k:Int) (hk:k=3) (w:World):Calls Tryz.prog 107 #[.int .i64 k] w fun e w'=> ∃A c,e= .returned (.tuple #[.slice A 12 c, .int .i64 0])∧Zs w' w'.heap.size [1,7,1,1,5,3,1,1,1,2,2,2] A c∧Below w.heap.size w w':=by
 have q1:decide (k<1)=false:=decide_eq_false (by omega)
 have q2:decide (4<k)=false:=decide_eq_false (by omega)
 have p3:(k==3)=true:=by rw[beq_iff_eq];omega
 clear hk
 go_enter Tryz.func107, Tryz.ntmps107
 go_wp2
 go_ret2
 exact⟨_,_,rfl,eM w _ [1,7,1,1,5,3,1,1,1,2,2,2] 12 rfl rfl (by omega),Aa _ _ _⟩
theorem Af8 (k:Int) (hk:k=4) (w:World):Calls Tryz.prog 107 #[.int .i64 k] w fun e w'=> ∃A c,e= .returned (.tuple #[.slice A 13 c, .int .i64 0])∧Zs w' w'.heap.size [1,7,1,1,5,3,1,2,2,2,2,2,2] A c∧Below w.heap.size w w':=by
 have q1:decide (k<1)=false:=decide_eq_false (by omega)
 have q2:decide (4<k)=false:=decide_eq_false (by omega)
 have p3:(k==3)=false:=by rw[beq_eq_false_iff_ne];omega
 have p4:(k==4)=true:=by rw[beq_iff_eq];omega
 clear hk
 go_enter Tryz.func107, Tryz.ntmps107
 go_wp2
 go_ret2
 exact⟨_,_,rfl,eM w _ [1,7,1,1,5,3,1,2,2,2,2,2,2] 13 rfl rfl (by omega),Aa _ _ _⟩
theorem Aeg (k:Int) (hk:k=1∨k=2) (w:World):Calls Tryz.prog 107 #[.int .i64 k] w fun e w'=> ∃A c,e= .returned (.tuple #[.slice A 12 c, .int .i64 0])∧Zs w' w'.heap.size [1,7,1,1,5,3,1,2,2,2,2,2] A c∧Below w.heap.size w w':=by
 have q1:decide (k<1)=false:=decide_eq_false (by omega)
 have q2:decide (4<k)=false:=decide_eq_false (by omega)
 have p3:(k==3)=false:=by rw[beq_eq_false_iff_ne];omega
 have p4:(k==4)=false:=by rw[beq_eq_false_iff_ne];omega
 clear hk
 go_enter Tryz.func107, Tryz.ntmps107
 go_wp2
 go_ret2
 exact⟨_,_,rfl,eM w _ [1,7,1,1,5,3,1,2,2,2,2,2] 12 rfl rfl (by omega),Aa _ _ _⟩
theorem Gh (k E:Int) (l:List Int) (n:Nat) (hn:n=l.length) (hE:Gy k=E) (hl:Au k=l) (w:World):Calls Tryz.prog 107 #[.int .i64 k] w fun e w'=> ∃A c,e= .returned (.tuple #[.slice A n c, .int .i64 E])∧Zs w' w'.heap.size l A c∧Below w.heap.size w w':=by
 by_cases hk:1≤k∧k≤4
 ·obtain rfl:E=0:=by rw[←hE,Gy,if_pos hk]
  rw[Au,if_pos hk,Qb]at hl
  by_cases h3:k=3
  ·rw[if_pos h3]at hl
   subst hl hn
   exact Af7 k h3 w
  ·rw[if_neg h3]at hl
   by_cases h4:k=4
   ·rw[if_pos h4]at hl
    subst hl hn
    exact Af8 k h4 w
   ·rw[if_neg h4]at hl
    subst hl hn
    exact Aeg k (by omega) w
 ·obtain rfl:E=8:=by rw[←hE,Gy,if_neg hk]
  obtain rfl:l=[]:=by rw[←hl,Au,if_neg hk]
  subst hn
  refine(Aef k hk w).mono ?_
  rintro e w' ⟨rfl,rfl⟩
  exact⟨none,0,rfl,Jg _,Below.refl _ _⟩
theorem rF (s:Int) (b:Bool) (hb:isN s=b) (w:World):Calls Tryz.prog 204 #[.int .i64 s] w fun e w'=>e= .returned (.bool b)∧w'=w:=by
 have HB:=Lib.hid hb
 clear hb
 cases h0:decide (0≤s)<;>cases h1:decide (s≤39)
 all_goals
  have H0:=Lib.hid h0
  have H1:=Lib.hid h1
  go_enter Tryz.func204, Tryz.ntmps204
  go_wp2
  go_ret
  refine⟨congrArg Ending.returned (congrArg Value.bool ?_),rfl⟩
  rw[←HB.out,isN,H0.out,H1.out]
  rfl
theorem Sh (t:Tk) (b:Bool) (hb:Dt t=b) (w:World):Calls Tryz.prog 163 #[.agg #[.int .i64 t.ser, .int .i64 t.kind, .int .i64 t.frm, .int .i64 t.till, .int .i64 t.cls, .int .i64 t.card, .int .i64 t.seat, .int .i64 t.day, .int .i64 t.days, .int .i64 t.uses, .int .i64 t.epoch]] w fun e w'=>e= .returned (.bool b)∧Below w.heap.size w w':=by
 have HV:=Lib.hid hb
 clear hb
 obtain⟨w0,hw0⟩: ∃w0,w0=w.alloc (.cells #[.int .i64 t.ser, .int .i64 t.kind, .int .i64 t.frm, .int .i64 t.till, .int .i64 t.cls, .int .i64 t.card, .int .i64 t.seat, .int .i64 t.day, .int .i64 t.days, .int .i64 t.uses, .int .i64 t.epoch] 37):=⟨_,rfl⟩
 have HX:Hid (Cp w0 w.heap.size t):=Lib.hid (by rw[hw0];exact Cp.new w t)
 have HB:Hid (Below w.heap.size w w0):=Lib.hid (by rw[hw0];exact Aa w _ _)
 have HW:=Lib.hid hw0
 clear hw0
 obtain⟨c0,c1,c2,c3,c4,c5,c6,c7,c8,c9,c10⟩:=HX.out.cells
 by_cases hk:t.kind=3
 ·have qk:(t.kind==3)=true:=by rw[beq_iff_eq];exact hk
  have hb:(decide (1≤t.frm)&&(decide (t.frm≤t.till)&&decide (t.till≤6)))=b:=by rw[←HV.out,Dt,if_pos hk]
  have HV2:=Lib.hid hb
  clear hb hk
  cases q1:decide (1≤t.frm)<;>cases q2:decide (t.frm≤t.till)<;>cases q3:decide (t.till≤6)
  all_goals
   have hb:=HV2.out
   rw[q1,q2,q3]at hb
   subst hb
   go_enter Tryz.func163, Tryz.ntmps163
   go_wp2
   rw[←HW.out]
   go_wp2
   go_ret
   exact⟨rfl,HB.out⟩
 ·have qk:(t.kind==3)=false:=by rw[beq_eq_false_iff_ne];exact hk
  have hb:(isN t.frm&&(isN t.till&&(t.frm !=t.till)))=b:=by rw[←HV.out,Dt,if_neg hk]
  have HV2:=Lib.hid hb
  clear hb hk
  cases q1:isN t.frm<;>cases q2:isN t.till<;>cases q3:(t.frm !=t.till)
  all_goals
   have hb:=HV2.out
   rw[q1,q2,q3]at hb
   subst hb
   have HI:=Lib.hid q1
   have HJ:=Lib.hid q2
   clear q1 q2
   go_enter Tryz.func163, Tryz.ntmps163
   go_wp2_with (go_at_call 204;refine(rF _ _ (by first|exact HI.out|exact HJ.out) _).mono ?_;rintro e w1 ⟨rfl,rfl⟩)
   go_ret
   refine⟨rfl, ?_⟩
   rw[←HW.out]
   exact HB.out
theorem mZ (t:Tk) (b:Bool) (hb:Fr t=b) (w:World):Calls Tryz.prog 164 #[.agg #[.int .i64 t.ser, .int .i64 t.kind, .int .i64 t.frm, .int .i64 t.till, .int .i64 t.cls, .int .i64 t.card, .int .i64 t.seat, .int .i64 t.day, .int .i64 t.days, .int .i64 t.uses, .int .i64 t.epoch]] w fun e w'=>e= .returned (.bool b)∧Below w.heap.size w w':=by
 have HV:=Lib.hid hb
 clear hb
 obtain⟨w0,hw0⟩: ∃w0,w0=w.alloc (.cells #[.int .i64 t.ser, .int .i64 t.kind, .int .i64 t.frm, .int .i64 t.till, .int .i64 t.cls, .int .i64 t.card, .int .i64 t.seat, .int .i64 t.day, .int .i64 t.days, .int .i64 t.uses, .int .i64 t.epoch] 37):=⟨_,rfl⟩
 have HX:Hid (Cp w0 w.heap.size t):=Lib.hid (by rw[hw0];exact Cp.new w t)
 have HB:Hid (Below w.heap.size w w0):=Lib.hid (by rw[hw0];exact Aa w _ _)
 have HW:=Lib.hid hw0
 clear hw0
 obtain⟨c0,c1,c2,c3,c4,c5,c6,c7,c8,c9,c10⟩:=HX.out.cells
 by_cases hk:t.kind=4
 ·have qk:(t.kind==4)=true:=by rw[beq_iff_eq];exact hk
  have hb:(decide (2≤t.uses)&&decide (t.uses≤20))=b:=by rw[←HV.out,Fr,if_pos hk]
  have HV2:=Lib.hid hb
  clear hb hk
  cases q1:decide (2≤t.uses)<;>cases q2:decide (t.uses≤20)
  all_goals
   have hb:=HV2.out
   rw[q1,q2]at hb
   subst hb
   go_enter Tryz.func164, Tryz.ntmps164
   go_wp2
   rw[←HW.out]
   go_wp2
   go_ret
   exact⟨rfl,HB.out⟩
 ·have qk:(t.kind==4)=false:=by rw[beq_eq_false_iff_ne];exact hk
  have hb:(t.uses==t.kind.tmod 3)=b:=by rw[←HV.out,Fr,if_neg hk]
  have HV2:=Lib.hid hb
  clear hb hk
  go_enter Tryz.func164, Tryz.ntmps164
  go_wp2
  rw[←HW.out]
  go_wp2
  go_ret
  exact⟨by rw[HV2.out];rfl,HB.out⟩
theorem Bf (t:Tk) (b:Bool) (hb:okT t=b) (w:World):Calls Tryz.prog 109 #[.agg #[.int .i64 t.ser, .int .i64 t.kind, .int .i64 t.frm, .int .i64 t.till, .int .i64 t.cls, .int .i64 t.card, .int .i64 t.seat, .int .i64 t.day, .int .i64 t.days, .int .i64 t.uses, .int .i64 t.epoch]] w fun e w'=>e= .returned (.bool b)∧Below w.heap.size w w':=by
 have HV:=Lib.hid hb
 clear hb
 obtain⟨w0,hw0⟩: ∃w0,w0=w.alloc (.cells #[.int .i64 t.ser, .int .i64 t.kind, .int .i64 t.frm, .int .i64 t.till, .int .i64 t.cls, .int .i64 t.card, .int .i64 t.seat, .int .i64 t.day, .int .i64 t.days, .int .i64 t.uses, .int .i64 t.epoch] 37):=⟨_,rfl⟩
 have HX:Hid (Cp w0 w.heap.size t):=Lib.hid (by rw[hw0];exact Cp.new w t)
 have HB:Hid (Below w.heap.size w w0):=Lib.hid (by rw[hw0];exact Aa w _ _)
 have HW:=Lib.hid hw0
 clear hw0
 obtain⟨c0,c1,c2,c3,c4,c5,c6,c7,c8,c9,c10⟩:=HX.out.cells
 cases q0:decide (t.ser<1)
 cases q1:decide (1099511627776<t.ser)
 cases q2:decide (t.kind<1)
 cases q3:decide (4<t.kind)
 cases q4:decide (t.cls<1)
 cases q5:decide (2<t.cls)
 cases q6:decide (t.card<0)
 cases q7:decide (3<t.card)
 cases q8:decide (t.seat<0)
 cases q9:decide (999<t.seat)
 cases q10:decide (t.day<0)
 cases q11:decide (99999<t.day)
 cases q12:decide (t.days<1)
 cases q13:decide (999<t.days)
 have wd:IntKind.i64.wrap (t.day+t.days)=t.day+t.days:=IntWalk.i64_in _ (by have:=of_decide_eq_false q10;have:=of_decide_eq_false q11;have:=of_decide_eq_false q12;have:=of_decide_eq_false q13;omega)
 cases q14:decide (100000<t.day+t.days)
 cases q15:decide (t.epoch<0)
 cases q16:decide (9<t.epoch)
 focus
  have hn:lQ t=true:=by
   rw[Dc]
   simp only[decide_eq_false_iff_not]at q0 q1 q2 q3 q4 q5 q6 q7 q8 q9
   omega
  have hd:lR t=true:=by
   rw[Ir]
   simp only[decide_eq_false_iff_not]at q10 q11 q12 q13 q14 q15 q16
   omega
  have hv:(Dt t&&Fr t)=b:=by rw[←HV.out,okT,hn,hd];rfl
  have HV2:=Lib.hid hv
  clear hn hd hv
  cases hp:Dt t
  case false=>
   have hb:=HV2.out
   rw[hp]at hb
   subst hb
   have HP:=Lib.hid hp
   clear hp
   go_enter Tryz.func109, Tryz.ntmps109
   go_wp2_with fail
   rw[←HW.out]
   refine(Sh t false HP.out w0).mono ?_
   rintro e w1 ⟨rfl,hb⟩
   have HB1:=Lib.hid (HB.out.trans (hb.mono HB.out.size))
   clear hb
   go_wp2
   go_ret
   exact⟨rfl,HB1.out⟩
  case true=>
   have hb:Fr t=b:=by rw[←HV2.out,hp];rfl
   have HU:=Lib.hid hb
   have HP:=Lib.hid hp
   clear hp hb
   go_enter Tryz.func109, Tryz.ntmps109
   go_wp2_with fail
   rw[←HW.out]
   refine(Sh t true HP.out w0).mono ?_
   rintro e w1 ⟨rfl,hb⟩
   have HB1:=Lib.hid (HB.out.trans (hb.mono HB.out.size))
   obtain⟨e0,e1,e2,e3,e4,e5,e6,e7,e8,e9,e10⟩:=(HX.out.next hb).cells
   clear hb
   go_wp2_with fail
   refine(mZ t b HU.out w1).mono ?_
   rintro e w2 ⟨rfl,hb⟩
   have HB2:=Lib.hid (HB1.out.trans (hb.mono HB1.out.size))
   clear hb
   go_wp2
   go_ret
   exact⟨rfl,HB2.out⟩
 all_goals
  have hb:b=false:=by
   rw[←HV.out]
   cases ho:okT t with
   |false=>rfl
   |true=>
    exfalso
    have h1:=(Dc t).1 ((Dm t).1 ho).1
    have h2:=(Ir t).1 ((Dm t).1 ho).2.1
    first|(have h3:=of_decide_eq_true q16;omega)|(have h3:=of_decide_eq_true q15;omega)|(have h3:=of_decide_eq_true q14;omega)|(have h3:=of_decide_eq_true q13;omega)|(have h3:=of_decide_eq_true q12;omega)|(have h3:=of_decide_eq_true q11;omega)|(have h3:=of_decide_eq_true q10;omega)|(have h3:=of_decide_eq_true q9;omega)|(have h3:=of_decide_eq_true q8;omega)|(have h3:=of_decide_eq_true q7;omega)|(have h3:=of_decide_eq_true q6;omega)|(have h3:=of_decide_eq_true q5;omega)|(have h3:=of_decide_eq_true q4;omega)|(have h3:=of_decide_eq_true q3;omega)|(have h3:=of_decide_eq_true q2;omega)|(have h3:=of_decide_eq_true q1;omega)|(have h3:=of_decide_eq_true q0;omega)
  subst hb
  go_enter Tryz.func109, Tryz.ntmps109
  go_wp2
  try(rw[←HW.out];go_wp2)
  go_ret
  exact⟨rfl,(by first|exact HB.out|(rw[←HW.out];exact HB.out))⟩
theorem Kb (l:List Bool) (n:Nat) (hn:n=l.length) (hn2:n≤400000) (A:Option Addr) (c:Nat) (w:World) (hA:Vs w w.heap.size l A c):Calls Tryz.prog 128 #[.slice A n c] w fun e w'=> ∃A' c',e= .returned (.slice A' ((n+7) / 8) c')∧Bs w' w'.heap.size (packL l) A' c'∧Below w.heap.size w w':=by
 obtain⟨i0,hi,hz0,hz1,hz2⟩:=info_parts Be
 obtain⟨m,hm⟩: ∃m,(n+7) / 8=m:=⟨_,rfl⟩
 have HM:=Lib.hid hm
 have HN:=Lib.hid hn
 have HA:=Lib.hid hA
 have hmn:8*m≤n+7:=by omega
 have hnm:n≤8*m:=by omega
 have hn3:n≤9223372036854775807:=by omega
 rw[hm]
 clear hn hA hm
 go_enter Tryz.func128, Tryz.ntmps128
 go_wp2
 go_loopw [3,4] (fun v i wr=> ∃j:Nat,j≤m∧i= .int .i64 ((8*j:Nat):Int)∧wr.ownsRow w.heap.size 5 1 v j (U8 (Cw l j))∧Below w.heap.size w wr) (fun _ i _=>8*m - (intOf i).toNat)
 case atStart=>exact⟨0,by omega,rfl,World.ownsRow_lit w #[] 0 (Nat.le_refl _) (by decide) rfl,Aa w _ _⟩
 case round=>
  obtain⟨j,hj,rfl,hown,hbel⟩:=hrel
  have HOW:=Lib.hid hown
  have HBL:=Lib.hid hbel
  clear hown hbel
  obtain⟨s,hs⟩: ∃s,8*j=s:=⟨_,rfl⟩
  have HSJ:=Lib.hid hs
  rw[hs]
  by_cases hlt:s<n
  ·have b0:(0:Int)≤(s:Int):=by omega
   have b1:(s:Int)<(n:Int):=by omega
   have hjm:j<m:=by omega
   have ws8:IntKind.i64.wrap ((s:Int)+8)=(s:Int)+8:=IntWalk.i64_in _ (by omega)
   have HWS:=Lib.hid ws8
   have HSB:=Lib.hid (show s≤400000 by omega)
   clear ws8 hs
   go_wp2
   go_loopw [5,6] (fun x k wr=> ∃q:Nat,q≤8∧k= .int .i64 ((s+q:Nat):Int)∧x= .int .i64 ((accB l s q:Nat):Int)∧wr.ownsRow w.heap.size 5 1 u3 j (U8 (Cw l j))∧Below w.heap.size w wr) (fun _ k _=>s+8 - (intOf k).toNat)
   case atStart=>exact⟨0,by omega,rfl,rfl,HOW.out,HBL.out⟩
   case round=>
    obtain⟨q,hq,rfl,rfl,hown,hbel⟩:=hrel
    replace HOW:=Lib.hid hown
    replace HBL:=Lib.hid hbel
    clear hown hbel
    have ws8:=HWS.out
    by_cases hq8:q<8
    ·obtain⟨k,hk⟩: ∃k,s+q=k:=⟨_,rfl⟩
     have hlt2:=Rx l s q
     have hp8:2^q≤128:=by
      have:=Nat.pow_le_pow_right (n:=2) (by omega) (show q≤7 by omega)
      simpa using this
     obtain⟨a,ha⟩: ∃a,accB l s q=a:=⟨_,rfl⟩
     have hacc:accB l s (q+1)=2*a+bit (l.getD k false):=by rw[accB,ha,hk]
     rw[ha,hk]
     have hk1:s+(q+1)=k+1:=by omega
     have ha2:a<128:=by omega
     have hkb:=HSB.out
     have b2:(k:Int)<(s:Int)+8:=by omega
     have b3:(0:Int)≤(k:Int):=by omega
     have w2:IntKind.i64.wrap (2*(a:Int))=2*(a:Int):=IntWalk.i64_in _ (by omega)
     have w21:IntKind.i64.wrap (2*(a:Int)+1)=2*(a:Int)+1:=IntWalk.i64_in _ (by omega)
     have wk:IntKind.i64.wrap ((k:Int)+1)=(k:Int)+1:=IntWalk.i64_in _ (by omega)
     clear hlt2 hp8 ha
     by_cases hkn:k<n
     ·obtain⟨z,hz⟩: ∃z,l[k]?=some z:=⟨_,List.getElem?_eq_getElem (by rw[←HN.out];exact hkn)⟩
      obtain⟨ad,rfl,hadl,hc0⟩:=HA.out.at hz
      have hc:wr.cell? (ad.add k)=some (.bool z):=(HBL.out.cell (by rw[add_block];exact hadl)).trans hc0
      have hg:l.getD k false=z:=by rw[List.getD_eq_getElem?_getD,hz];rfl
      rw[hg]at hacc
      have b4:(k:Int)<(n:Int):=by omega
      have HK1:=Lib.hid hk1
      have HKM:=Lib.hid hk
      have HAC:=Lib.hid hacc
      clear hadl hc0 hz hg hk1 hk hacc
      cases z
      all_goals
       have HA1:=Lib.hid HAC.out
       simp only[bit,Bool.false_eq_true,if_false,if_true]at HA1
       clear HAC
       go_wp2
       go_roundw
       case rel=>exact⟨q+1,by omega,by rw[HK1.out];go_num,by rw[HA1.out];go_num,HOW.out,HBL.out⟩
       case measure=>simp[intOf];have:=HKM.out;omega
     ·have hg:l.getD k false=false:=by rw[List.getD_eq_getElem?_getD,List.getElem?_eq_none (by rw[←HN.out];omega)];rfl
      rw[hg]at hacc
      have b4: ¬((k:Int)<(n:Int)):=by omega
      have HK1:=Lib.hid hk1
      have HKM:=Lib.hid hk
      have HA1:=Lib.hid hacc
      simp only[bit,Bool.false_eq_true,if_false]at HA1
      clear hg hk1 hk hacc
      go_wp2
      go_roundw
      case rel=>exact⟨q+1,by omega,by rw[HK1.out];go_num,by rw[HA1.out];go_num,HOW.out,HBL.out⟩
      case measure=>simp[intOf];have:=HKM.out;omega
    ·have e:q=8:=by omega
     subst e
     have hab:=Rx l s 8
     have hpk:=qK l j
     have hs2:=HSJ.out
     rw[hs2]at hpk
     obtain⟨a,ha⟩: ∃a,accB l s 8=a:=⟨_,rfl⟩
     rw[ha]at hab hpk⊢
     have ha2:a<256:=by simpa using hab
     have HPK:=Lib.hid hpk
     have hm1:j+1≤maxLen:=by unfold maxLen;omega
     have hm2:(j+1)*1≤140737488355328:=by omega
     have hb2: ¬(((s+8:Nat):Int)<(s:Int)+8):=by omega
     have hss:((s+8:Nat):Int)=(s:Int)+8:=by omega
     rw[hss]at hb2⊢
     have hwa:IntKind.u8.wrap (a:Int)=(a:Int):=by simp[IntKind.wrap,IntKind.signed,IntKind.bits];omega
     have hsz:=HBL.out.size
     clear hab hpk ha hlt
     go_wp2_with (at_builtin;refine wpList_append_own _ rfl (.tmp 35) (.tmp 38) 23 rfl w.heap.size 5 i0 (.int .u8 0) 1 1 Tryz.underlying23 hi hz0 hz1 hz2 rfl (by decide) _ j (U8 (Cw l j)) rfl (HOW.out.alloc _) ⟨_,0,none⟩ 1 1 (U8 [a]) rfl rfl ?rd (Bd _) hm1 hm2 (by simp;omega) ?_)
     case rd=>
      intro q u hu
      first|exact hu|(simpa[U8]using hu)|(simpa[U8,hwa]using hu)
     intro v8 w8 hown8 hg8 _
     have HO8:=Lib.hid (show w8.ownsRow w.heap.size 5 1 v8 (j+1) (U8 (Cw l (j+1))) by
      rw[HPK.out,U8,List.map_append]
      exact hown8)
     have HB8:=Lib.hid ((HBL.out.alloc HBL.out.size _).grown hg8 (by simp;omega) (fun p hp=>Ak HOW.out hp))
     clear hown8 hg8 HOW HBL HPK
     go_wp2
     go_roundw
     case rel=>exact⟨j+1,by omega,by rw[show 8*(j+1)=s+8 by omega];go_num,HO8.out,HB8.out⟩
     case measure=>simp[intOf];omega
  ·have e:j=m:=by omega
   have hb: ¬((s:Int)<(n:Int)):=by omega
   have ht:Cw l j=packL l:=by rw[e,packL, ←HN.out,HM.out]
   rw[ht,e]at HOW
   clear ht hlt hs
   obtain⟨A',c',hv,hbs⟩:=Av HOW.out (Yg l)
   subst hv
   go_wp2
   go_ret
   exact⟨_,_,rfl,hbs,HBL.out⟩
end Go.Proofs.YtmdbfogjfbbpjaaGreatDoor
end
