import Derived.Test.YtcnglbliidjnfaaGreatDoorMacTag
import Derived.Test.YtcnglbliidjnfaaGreatDoorShaMix
import Derived.Test.YtcnglbliidjnfaaGreatDoorShaPSum
import Derived.Test.YtcnglbliidjnfaaGreatDoorMem
section
namespace Go.Proofs.YtcnglbliidjnfaaGreatDoor
set_option maxRecDepth 100000
set_option linter.unusedVariables false
open Go.ChangeShapes Go.WideShapes Go.ChangeAt Go.RowKit
def kz (k:List Nat) (j:Nat):List Nat:=k.take j++List.replicate (64 - j) 0
theorem kz_zero (k:List Nat):kz k 0=List.replicate 64 0:=by simp[kz]
theorem kz_all (k:List Nat):kz k k.length=k++List.replicate (64 - k.length) 0:=by simp[kz]
theorem length_kz (k:List Nat) (j:Nat) (h:j≤k.length) (hk:k.length≤64):(kz k j).length=64:=by simp[kz];omega
theorem kz_set (k:List Nat) (j:Nat) (h:j<k.length) (hk:k.length≤64):(kz k j).set j (k.getD j 0)=kz k (j+1):=by
 unfold kz
 have hl:(k.take j).length=j:=by simp;omega
 have e:k.take (j+1)=k.take j++ [k[j]]:=List.take_succ_eq_append_getElem h
 have eg:k.getD j 0=k[j]:=by rw[List.getD_eq_getElem?_getD,List.getElem?_eq_getElem h];rfl
 rw[List.set_append_right _ _ (by rw[hl];exact Nat.le_refl _),hl,Nat.sub_self,show 64 - j=(64 - (j+1))+1 by omega,List.replicate_succ,List.set_cons_zero,e,eg,List.append_assoc,List.singleton_append]
def Beside (w:World) (g:Nat) (A:Option Addr) (xs:List Value):Prop:= ∀k u,xs[k]?=some u→ ∃ad,A=some ad∧ad.block≠g∧w.cell? (ad.add k)=some u
theorem Rd.beside {w:World} {B g:Nat} {A:Option Addr} {xs:List Value} (h:Rd w B A xs) (hg:B≤g):Beside w g A xs:=by
 intro k u hu
 obtain⟨ad,he,hlt,hc⟩:=h k u hu
 exact⟨ad,he,by omega,hc⟩
set_option maxRecDepth 100000 in
set_option maxHeartbeats 800000 in
theorem refblock03_short (l:List Nat) (n:Nat) (hn:n=l.length) (A:Option Addr) (c:Nat) (w:World) (hA:Rd w w.heap.size A (U8 l)) (h:n≤64) (F:Array Value) (hF:F=(U8 (blockM l)).toArray):
  Calls Tryz.prog 94 #[.slice A n c] w fun e w'=>e= .returned (.agg F)∧Below w.heap.size w w':=by
 have hkey:keyN l=l:=by unfold keyN;rw[if_neg (by omega)]
 have hFE:F=(U8 (l++List.replicate (64 - l.length) 0)).toArray:=by rw[hF];unfold blockM;rw[hkey]
 have h64:l.length≤64:=by omega
 have HA:=Lib.hid hA
 have HKN:=Lib.hid hn
 have HFE:=Lib.hid hFE
 have HK64:=Lib.hid h64
 have HIF:=Lib.hid (isArr64 hF (length_blockM l))
 clear hA hn hFE h64 hkey hF
 go_enter Tryz.func94, Tryz.ntmps94
 go_wp2_with ((with_reducible refine at_store 3 ?_);refine wpList_store_named (o:=⟨none, .store 112 (.tmp 3) (.tmp 6),_,_,_,_⟩) rfl 112 (.tmp 3) (.tmp 6) rfl (w.heap.size+1) b64 rfl rfl 112 b64 (heap_alloc2_new _ _ _) info64 rfl (all_one8 (List.replicate 64 0)) ?_;intro w0 hw0)
 obtain⟨hs0,hr0,hv0,hb0⟩:=two_made_set hw0.out
 have HR:Hid (w0.heap[w.heap.size]?=some (.cells b64 112 (0,0))):=Lib.hid hr0
 have HV:Hid (w0.heap[w.heap.size+1]?=some (.cells b64 112 (0,0))):=Lib.hid hv0
 have HBS:=Lib.hid hb0
 have HSRC:=Lib.hid ((HA.out.below hb0).beside (g:=w.heap.size+1) (by omega))
 clear hr0 hv0 hb0 hw0
 go_loopw [5] (fun i wr=> ∃k:Nat,k≤n∧i= .int .i64 k∧wr.heap[w.heap.size+1]?=some (.cells (U8 (kz l k)).toArray 112 (0,0))∧Below (w.heap.size+1) w0 wr∧ ∀b,b≠w.heap.size+1→wr.heap[b]?=w0.heap[b]?) (fun i _=>n - (intOf i).toNat)
 case atStart=>exact⟨0,Nat.zero_le _,rfl,by rw[kz_zero, ←b64_eq];exact HV.out,Below.refl _ _,fun _ _=>rfl⟩
 case round=>
  obtain⟨k,hk,rfl,hv,hbel,hoth⟩:=hrel
  by_cases hlt:k<n
  ·have hkl:k<l.length:=by rw[←HKN.out];exact hlt
   obtain⟨ad,rfl,hne,hc0⟩:=HSRC.out k _ (U8_getD l k hkl)
   have hc:wr.cell? (ad.add k)=some (.int .u8 ((l.getD k 0:Nat):Int)):=(World.cell?_of_block (w:=w0) (w':=wr) (by rw[add_block];exact hoth _ hne)).trans hc0
   have hkz:=length_kz l k (by omega) HK64.out
   have hcur:=cell_u8 hv k (by rw[hkz];omega)
   have hfz:=frozen_of_row wr _ k _ _ hv
   have hset:=heap_setCell_same wr _ k _ 112 (.int .u8 ((l.getD k 0:Nat):Int)) hv
   have hst:(U8 (kz l k)).toArray.setIfInBounds k (.int .u8 ((l.getD k 0:Nat):Int))=(U8 (kz l (k+1))).toArray:=by
    rw[List.setIfInBounds_toArray, ←kz_set l k hkl HK64.out,U8,U8,List.map_set]
   rw[hst]at hset
   have HSET:=Lib.hid hset
   have HOTH:=Lib.hid (fun(b:Nat) (hb:b≠w.heap.size+1)=>(heap_setCell_other wr ⟨w.heap.size+1,k,none⟩ b (.int .u8 ((l.getD k 0:Nat):Int)) hb).trans (hoth b hb))
   have bk0:(0:Int)≤(k:Int):=Int.natCast_nonneg _
   have bk1:(k:Int)<(n:Nat):=by omega
   have bk2:(k:Int)<64:=by omega
   clear hset hst hv hoth hc0 hkz
   generalize l.getD k 0=y at*
   generalize (kz l k).getD k 0=z at*
   go_wp2
   go_roundw
   case rel=>exact⟨k+1,by omega,by go_num,HSET.out,hbel.setCell (Nat.le_refl _) _,HOTH.out⟩
   case measure=>simp[intOf];omega
  ·have ek:n=k:=by omega
   subst ek
   have hFv:(U8 (kz l n)).toArray=F:=by rw[HKN.out,kz_all];exact HFE.out.symm
   rw[hFv]at hv
   have HVF:=Lib.hid hv
   have HRF:=Lib.hid ((hoth w.heap.size (by omega)).trans HR.out)
   have HBF:=Lib.hid (HBS.out.trans (hbel.mono (by omega)))
   clear hv hoth hbel hFv
   go_wp2_with (first
    |((with_reducible refine at_load 25 ?_);refine wpList_load_row (o:=⟨some 25, .load 112 (.tmp 3),_,_,_,_⟩) rfl 112 (.tmp 3) rfl (w.heap.size+1) rfl 112 F (0,0) _ HVF.out Tryz.underlying112 rfl HIF.out.1 ?_)
    |((with_reducible refine at_store 2 ?_);refine wpList_store_named (o:=⟨none, .store 112 (.tmp 2) (.tmp 25),_,_,_,_⟩) rfl 112 (.tmp 2) (.tmp 25) rfl w.heap.size F rfl rfl 112 b64 HRF.out HIF.out.1 HIF.out.2.1 HIF.out.2.2 ?_;intro w9 hw9))
   have hr9:w9.heap[w.heap.size]?=some (.cells F 112 (0,0)):=by rw[hw9.out];exact setRow_heap _ _ _ _ _ _ HRF.out
   refine bodyPost_ret (results_cell_row Tryz.results94 _ w9 w.heap.size 112 _ (0,0) _ rfl hr9 Tryz.underlying112 rfl HIF.out.1) rfl ⟨rfl, ?_⟩
   exact HBF.out.trans (below_row hw9.out (Nat.le_refl _))
set_option maxRecDepth 100000 in
set_option maxHeartbeats 800000 in
theorem refblock03_long (l:List Nat) (n:Nat) (hn:n=l.length) (A:Option Addr) (c:Nat) (w:World) (hA:Rd w w.heap.size A (U8 l)) (hb: ∀x∈l,x<256) (hnil:A=none→c=0) (h:64<n) (h5:n≤5000) (F:Array Value) (hF:F=(U8 (blockM l)).toArray):
  Calls Tryz.prog 94 #[.slice A n c] w fun e w'=>e= .returned (.agg F)∧Below w.heap.size w w':=by
 obtain⟨D,hD⟩: ∃D,D=digestN l:=⟨_,rfl⟩
 obtain⟨FD,hFD⟩: ∃FD:Array Value,FD=(U8 (digestN l)).toArray:=⟨_,rfl⟩
 have hDl:D.length=32:=by rw[hD,length_dig]
 have hFD':FD=(U8 D).toArray:=by rw[hFD,hD]
 have hkey:keyN l=D:=by unfold keyN;rw[if_pos (by omega),hD]
 have hFE:F=(U8 (D++List.replicate (64 - D.length) 0)).toArray:=by rw[hF];unfold blockM;rw[hkey]
 have h64:D.length≤64:=by omega
 have HA:=Lib.hid hA
 have HN:=Lib.hid hn
 have HNIL:=Lib.hid hnil
 have HB:=Lib.hid hb
 have HFD:=Lib.hid hFD
 have HFD':=Lib.hid hFD'
 have HFE:=Lib.hid hFE
 have HK64:=Lib.hid h64
 have HKN:=Lib.hid hDl.symm
 have HID:=Lib.hid (isArr32 hFD' hDl)
 have HIF:=Lib.hid (isArr64 hF (length_blockM l))
 clear hA hn hnil hb hFD hFD' hFE h64 hDl hkey hF hD
 go_enter Tryz.func94, Tryz.ntmps94
 go_wp2_with ((with_reducible refine at_store 3 ?_);refine wpList_store_named (o:=⟨none, .store 112 (.tmp 3) (.tmp 6),_,_,_,_⟩) rfl 112 (.tmp 3) (.tmp 6) rfl (w.heap.size+1) b64 rfl rfl 112 b64 (heap_alloc2_new _ _ _) info64 rfl (all_one8 (List.replicate 64 0)) ?_;intro w0 hw0)
 obtain⟨hs0,hr0,hv0,hb0⟩:=two_made_set hw0.out
 have HR0:Hid (w0.heap[w.heap.size]?=some (.cells b64 112 (0,0))):=Lib.hid hr0
 have HV0:Hid (w0.heap[w.heap.size+1]?=some (.cells b64 112 (0,0))):=Lib.hid hv0
 clear hr0 hv0 hw0
 refine(refsum_arr l FD HFD n HN.out A c w0 (HA.out.next hb0) HNIL.out HB.out h5).mono ?_
 rintro e w1 ⟨rfl,hb1⟩
 have hs1:=hb1.size
 go_wp2_with ((with_reducible refine at_store 4 ?_);refine wpList_store_named (o:=⟨none, .store 42 (.tmp 4) (.tmp 11),_,_,_,_⟩) rfl 42 (.tmp 4) (.tmp 11) rfl w1.heap.size FD rfl rfl 42 b32 (heap_alloc_new w1 _) HID.out.1 HID.out.2.1 HID.out.2.2 ?_;intro w2 hw2)
 obtain⟨hrd2,hv2,hr2,hb2⟩:=mac_facts hs0 HR0.out HV0.out hb0 hb1 hw2.out HFD'.out
 have HR:=Lib.hid hr2
 have HV:=Lib.hid hv2
 have HBS:=Lib.hid hb2
 have hne:w1.heap.size≠w.heap.size+1:=by omega
 have hsrc:Beside w2 (w.heap.size+1) (some ⟨w1.heap.size,0,none⟩) (U8 D):=by
  intro k u hu
  obtain⟨ad,he,_,hc⟩:=hrd2 k u hu
  cases he
  exact⟨_,rfl,hne,hc⟩
 have HSRC:=Lib.hid hsrc
 clear hrd2 hv2 hr2 hb2 hw2 hb1 hb0 hsrc
 go_loopw [5] (fun i wr=> ∃k:Nat,k≤(32:Nat)∧i= .int .i64 k∧wr.heap[w.heap.size+1]?=some (.cells (U8 (kz D k)).toArray 112 (0,0))∧Below (w.heap.size+1) w2 wr∧ ∀b,b≠w.heap.size+1→wr.heap[b]?=w2.heap[b]?) (fun i _=>(32:Nat) - (intOf i).toNat)
 case atStart=>exact⟨0,Nat.zero_le _,rfl,by rw[kz_zero, ←b64_eq];exact HV.out,Below.refl _ _,fun _ _=>rfl⟩
 case round=>
  obtain⟨k,hk,rfl,hv,hbel,hoth⟩:=hrel
  by_cases hlt:k<(32:Nat)
  ·have hkl:k<D.length:=by rw[←HKN.out];exact hlt
   obtain⟨ad,hade,hne,hc0⟩:=HSRC.out k _ (U8_getD D k hkl)
   cases hade
   rw[at_add]at hc0
   have hc:wr.cell? ⟨w1.heap.size,k,none⟩=some (.int .u8 ((D.getD k 0:Nat):Int)):=(World.cell?_of_block (w:=w2) (w':=wr) (a:=⟨w1.heap.size,k,none⟩) (hoth w1.heap.size hne)).trans hc0
   have hkz:=length_kz D k (by omega) HK64.out
   have hcur:=cell_u8 hv k (by rw[hkz];omega)
   have hfz:=frozen_of_row wr _ k _ _ hv
   have hset:=heap_setCell_same wr _ k _ 112 (.int .u8 ((D.getD k 0:Nat):Int)) hv
   have hst:(U8 (kz D k)).toArray.setIfInBounds k (.int .u8 ((D.getD k 0:Nat):Int))=(U8 (kz D (k+1))).toArray:=by
    rw[List.setIfInBounds_toArray, ←kz_set D k hkl HK64.out,U8,U8,List.map_set]
   rw[hst]at hset
   have HSET:=Lib.hid hset
   have HOTH:=Lib.hid (fun(b:Nat) (hb:b≠w.heap.size+1)=>(heap_setCell_other wr ⟨w.heap.size+1,k,none⟩ b (.int .u8 ((D.getD k 0:Nat):Int)) hb).trans (hoth b hb))
   have bk0:(0:Int)≤(k:Int):=Int.natCast_nonneg _
   have bk1:(k:Int)<((32:Nat):Nat):=by omega
   have bk2:(k:Int)<64:=by omega
   clear hset hst hv hoth hc0 hkz
   generalize D.getD k 0=y at*
   generalize (kz D k).getD k 0=z at*
   go_wp2
   go_roundw
   case rel=>exact⟨k+1,by omega,by go_num,HSET.out,hbel.setCell (Nat.le_refl _) _,HOTH.out⟩
   case measure=>simp[intOf];omega
  ·have ek:(32:Nat)=k:=by omega
   subst ek
   have hFv:(U8 (kz D (32:Nat))).toArray=F:=by rw[HKN.out,kz_all];exact HFE.out.symm
   rw[hFv]at hv
   have HVF:=Lib.hid hv
   have HRF:=Lib.hid ((hoth w.heap.size (by omega)).trans HR.out)
   have HBF:=Lib.hid (HBS.out.trans (hbel.mono (by omega)))
   clear hv hoth hbel hFv
   go_wp2_with (first
    |((with_reducible refine at_load 25 ?_);refine wpList_load_row (o:=⟨some 25, .load 112 (.tmp 3),_,_,_,_⟩) rfl 112 (.tmp 3) rfl (w.heap.size+1) rfl 112 F (0,0) _ HVF.out Tryz.underlying112 rfl HIF.out.1 ?_)
    |((with_reducible refine at_store 2 ?_);refine wpList_store_named (o:=⟨none, .store 112 (.tmp 2) (.tmp 25),_,_,_,_⟩) rfl 112 (.tmp 2) (.tmp 25) rfl w.heap.size F rfl rfl 112 b64 HRF.out HIF.out.1 HIF.out.2.1 HIF.out.2.2 ?_;intro w9 hw9))
   have hr9:w9.heap[w.heap.size]?=some (.cells F 112 (0,0)):=by rw[hw9.out];exact setRow_heap _ _ _ _ _ _ HRF.out
   refine bodyPost_ret (results_cell_row Tryz.results94 _ w9 w.heap.size 112 _ (0,0) _ rfl hr9 Tryz.underlying112 rfl HIF.out.1) rfl ⟨rfl, ?_⟩
   exact HBF.out.trans (below_row hw9.out (Nat.le_refl _))
theorem refblock03_any (l:List Nat) (n:Nat) (hn:n=l.length) (A:Option Addr) (c:Nat) (w:World) (hA:Rd w w.heap.size A (U8 l)) (hb: ∀x∈l,x<256) (hnil:A=none→c=0) (h5:n≤5000) (F:Array Value) (hF:F=(U8 (blockM l)).toArray):
  Calls Tryz.prog 94 #[.slice A n c] w fun e w'=>e= .returned (.agg F)∧Below w.heap.size w w':=by
 by_cases h:64<n
 ·exact refblock03_long l n hn A c w hA hb hnil h h5 F hF
 ·exact refblock03_short l n hn A c w hA (by omega) F hF
end Go.Proofs.YtcnglbliidjnfaaGreatDoor
end
section
namespace Go.Proofs.YtcnglbliidjnfaaGreatDoor
set_option linter.unusedVariables false
open Go.ChangeShapes Go.WideShapes Go.ChangeAt Go.RowKit
section
variable {P:Program} (w:World)
theorem run_append_apart (base:Nat) (t ty e:TypeId) (i:TypeInfo) (z:Value) (bytes:Nat) (ht:P.underlying t=some (.slice e)) (hi:P.info? e=some i) (hz:i.zero=some z) (hsize:i.size=1) (hby:i.bytes=bytes) (hzs:z.cells.size=1)
  (g n cap:Nat) (xs:List Value) (hown:w.ownsRow base e 1 (.slice (some ⟨g,0,none⟩) n cap) n xs) (a:Addr) (m c:Nat) (news:List Value) (hl:news.length=m) (hm:0<n+m) (hnews: ∀j u,news[j]?=some u→w.cell? (a.add j)=some u)
  (h1: ∀u∈news,u.oneCell'=true) (h63:n+m≤maxLen) (hbytes:(n+m)*bytes≤140737488355328) (hbase:base≤w.heap.size):
  ∃g' cap' w',(Builtin.append_ #[t,t] ty #[.slice (some ⟨g,0,none⟩) n cap, .slice (some a) m c]).run P w= .ok (.slice (some ⟨g',0,none⟩) (n+m) cap') w'∧w'.ownsRow base e 1 (.slice (some ⟨g',0,none⟩) (n+m) cap') (n+m) (xs++news)∧w.grownBy w' (some g)∧(g'=g∨w.heap.size≤g'):=by
 have hlen:=hown.1
 by_cases hroom:n+m≤cap
 ·obtain⟨w',hr,ho,hg⟩:=run_append_fits (P:=P) w base t ty e i 1 ht hi hsize g n cap xs hown a m c news (by omega) hnews h1 hroom
  exact⟨_,_,w',hr,ho,hg, .inl rfl⟩
 ·have hcells: ∀j u,xs[j]?=some u→w.cell? ((⟨g,0,none⟩:Addr).add j)=some u:=hown.cells rfl
  obtain⟨v',w',hr,ho,hg⟩:=run_append_arg_grows (P:=P) w t ty e i z 1 bytes ht hi hz hsize hby hzs (by omega) ⟨g,0,none⟩ n cap xs hlen hcells a m c news (by omega) hnews (by omega) h63 hbytes
  obtain⟨g',cap',rfl,hgb⟩:=ho.form hm
  exact⟨_,_,w',hr,own_base ho hbase,⟨hg.os,hg.tape,hg.output,hg.size,fun k hk _=>hg.block k hk (by simp)⟩, .inr hgb.1⟩
theorem wpList_append_apart {ops:Array Oper} {rest:List Oper} {o:Oper} {a:Act} {Q:Exit→Act→World→Prop} (hgd:o.guard=none) (s x:Operand) (t:TypeId)
  (ho:o.op= .call { callee:= .builtin .append,args:= #[s,x],argTypes:= #[t,t] })
  (base:Nat) (e:TypeId) (i:TypeInfo) (z:Value) (bytes:Nat) (ht:P.underlying t=some (.slice e)) (hi:P.info? e=some i) (hz:i.zero=some z) (hsize:i.size=1) (hby:i.bytes=bytes) (hzs:z.cells.size=1)
  (g n cap:Nat) (xs:List Value) (hs:a.eval s= .slice (some ⟨g,0,none⟩) n cap) (hown:w.ownsRow base e 1 (.slice (some ⟨g,0,none⟩) n cap) n xs)
  (ad:Addr) (m c:Nat) (news:List Value) (hx:a.eval x= .slice (some ad) m c) (hl:news.length=m) (hm:0<n+m) (hnews: ∀j u,news[j]?=some u→w.cell? (ad.add j)=some u)
  (h1: ∀u∈news,u.oneCell'=true) (h63:n+m≤maxLen) (hbytes:(n+m)*bytes≤140737488355328) (hbase:base≤w.heap.size)
  (h: ∀g' cap' w',w'.ownsRow base e 1 (.slice (some ⟨g',0,none⟩) (n+m) cap') (n+m) (xs++news)→w.grownBy w' (some g)→(g'=g∨w.heap.size≤g')→wpList P ops Q rest (a.put o.dst (.slice (some ⟨g',0,none⟩) (n+m) cap')) w'):wpList P ops Q (o::rest) a w:=by
 refine wpList_plain hgd fun K hK=> ?_
 obtain⟨g',cap',w',hrun,h2,h3,h4⟩:=run_append_apart (P:=P) w base t o.type e i z bytes ht hi hz hsize hby hzs g n cap xs hown ad m c news hl hm hnews h1 h63 hbytes hbase
 unfold Oper.wp
 simp[execOp,ho,resolve,invoke,builtin,hs,hx,hrun,Result.andThen]
 exact hK _ _ (h g' cap' w' h2 h3 h4)
end
theorem one_cell (w:World) (v:Value) (t:TypeId): ∀j u,[v][j]?=some u→(w.alloc (.cells #[v] t)).cell? ((⟨w.heap.size,0,none⟩:Addr).add j)=some u:=by
 intro j u hu
 rw[at_add,cell_of_row _ _ j _ t (0,0) (heap_alloc_new w _)]
 simpa using hu
end Go.Proofs.YtcnglbliidjnfaaGreatDoor
end
section
namespace Go.Proofs.YtcnglbliidjnfaaGreatDoor
set_option maxRecDepth 100000
set_option linter.unusedVariables false
open Go.ChangeShapes Go.WideShapes Go.ChangeAt Go.RowKit
theorem take_next (l:List Nat) (k:Nat) (h:k<l.length):U8 (l.take (k+1))=U8 (l.take k)++ [.int .u8 ((l.getD k 0:Nat):Int)]:=by
 rw[List.take_succ_eq_append_getElem h,U8_append,List.getD_eq_getElem?_getD,List.getElem?_eq_getElem h];rfl
theorem maskN_getD (K:List Nat) (m k:Nat) (h:k<K.length):(maskN K m).getD k 0=K.getD k 0^^^m:=by
 rw[List.getD_eq_getElem?_getD,List.getD_eq_getElem?_getD,List.getElem?_eq_getElem (by rw[length_maskN];exact h),List.getElem?_eq_getElem h]
 simp[maskN]
def Sides (base:Nat) (I O:List Nat) (k:Nat) (v6 v7:Value) (wr:World):Prop:= ∃g6 c6 g7 c7,v6= .slice (some ⟨g6,0,none⟩) k c6∧v7= .slice (some ⟨g7,0,none⟩) k c7∧
 Hid (wr.ownsRow base 5 1 (.slice (some ⟨g6,0,none⟩) k c6) k (U8 (I.take k)))∧Hid (wr.ownsRow base 5 1 (.slice (some ⟨g7,0,none⟩) k c7) k (U8 (O.take k)))∧g6≠g7
theorem own_empty {w:World} {g base:Nat} (h:w.heap[g]?=some (.cells #[] 5 (0,0))) (hb:base≤g):w.ownsRow base 5 1 (.slice (some ⟨g,0,none⟩) 0 0) 0 []:=
 ⟨rfl, .inr ⟨g,0, #[],rfl,hb,h,Nat.le_refl _,Nat.zero_le _,rfl,rfl⟩⟩
theorem sides_start (w:World) (I O:List Nat) (w':World) (h:w'=(w.alloc (.cells #[] 5)).alloc (.cells #[] 5)):Sides w.heap.size I O 0 (.slice (some ⟨w.heap.size,0,none⟩) 0 0) (.slice (some ⟨w.heap.size+1,0,none⟩) 0 0) w':=by
 subst h
 refine⟨w.heap.size,0,w.heap.size+1,0,rfl,rfl,Lib.hid ?_,Lib.hid ?_,by omega⟩
 ·rw[List.take_zero];exact own_empty (heap_alloc2_old _ _ _) (Nat.le_refl _)
 ·rw[List.take_zero];exact own_empty (heap_alloc2_new _ _ _) (by omega)
theorem one_u8 (x:Nat): ∀u∈ [Value.int .u8 (x:Int)],u.oneCell'=true:=by
 intro u hu
 rw[List.mem_singleton]at hu
 subst hu;rfl
theorem kept_ne {w:World} {base g n cap j:Nat} {e:TypeId} {xs:List Value} {b:Nat} (hb:b<base) (h:w.ownsRow base e 1 (.slice (some ⟨g,0,none⟩) n cap) n xs):some (⟨b,j,none⟩:Addr).block≠some g:=by
 have h1:=h.lt g rfl
 intro he
 have h2:b=g:=Option.some.inj he
 omega
theorem own_rd {w:World} {base:Nat} {e:TypeId} {v:Value} {n:Nat} {xs:List Value} (h:w.ownsRow base e 1 v n xs): ∃A cap,v= .slice A n cap∧Rd w w.heap.size A xs∧(A=none→cap=0):=by
 obtain⟨A,cap,rfl,hr⟩:=own_shape h
 refine⟨A,cap,rfl,hr, ?_⟩
 rintro rfl
 rcases h.2 with⟨h',_⟩|⟨g',cap',cur,h',_⟩
 ·simp at h';exact h'.2
 ·simp at h'
theorem grow_ok {base g n c:Nat} (h:base≤g): ∀k,(Value.slice (some ⟨g,0,none⟩) n c).ownBlock=some k→base≤k:=by
 intro k hk
 cases hk
 exact h
theorem all_lt {l r:List Nat} {b:Nat} (hl: ∀x∈l,x<b) (hr: ∀x∈r,x<b): ∀x∈l++r,x<b:=by
 intro x hx
 rcases List.mem_append.1 hx with h|h
 ·exact hl x h
 ·exact hr x h
theorem le_alloc {a:Nat} {w:World} (h:a≤w.heap.size) (o:Obj):a≤(w.alloc o).heap.size:=by simp;omega
theorem side_kept {base k g6 g7 c7:Nat} {O:List Value} {wr w3:World} {o:Obj} (h7:wr.ownsRow base 5 1 (.slice (some ⟨g7,0,none⟩) k c7) k O) (hg:(wr.alloc o).grownBy w3 (some g6)) (hne:g6≠g7):w3.ownsRow base 5 1 (.slice (some ⟨g7,0,none⟩) k c7) k O:=
 (h7.alloc o).kept hg (.inr (by simp[Value.ownBlock];omega))
theorem mown_lt {w:World} {base g n cap:Nat} {e:TypeId} {xs:List Value} (h:w.ownsRow base e 1 (.slice (some ⟨g,0,none⟩) n cap) n xs):base≤g∧g<w.heap.size:=h.lt g rfl
theorem sides_next {base k g6 c6 g7 c7 g6' c6' g7' c7':Nat} {I O:List Nat} {w2 wr w3 w4:World} {x y:Value} {o1 o2:Obj} (h6:wr.ownsRow base 5 1 (.slice (some ⟨g6,0,none⟩) k c6) k (U8 (I.take k))) (h7:wr.ownsRow base 5 1 (.slice (some ⟨g7,0,none⟩) k c7) k (U8 (O.take k)))
  (hne:g6≠g7) (hbel:Below base w2 wr) (hbs:base≤wr.heap.size)
  (hown6:w3.ownsRow base 5 1 (.slice (some ⟨g6',0,none⟩) (k+1) c6') (k+1) (U8 (I.take k)++ [x])) (hg6:(wr.alloc o1).grownBy w3 (some g6)) (hd6:g6'=g6∨(wr.alloc o1).heap.size≤g6')
  (hown7:w4.ownsRow base 5 1 (.slice (some ⟨g7',0,none⟩) (k+1) c7') (k+1) (U8 (O.take k)++ [y])) (hg7:(w3.alloc o2).grownBy w4 (some g7)) (hd7:g7'=g7∨(w3.alloc o2).heap.size≤g7')
  (hx:U8 (I.take (k+1))=U8 (I.take k)++ [x]) (hy:U8 (O.take (k+1))=U8 (O.take k)++ [y]):
  Sides base I O (k+1) (.slice (some ⟨g6',0,none⟩) (k+1) c6') (.slice (some ⟨g7',0,none⟩) (k+1) c7') w4∧Below base w2 w4:=by
 have l6:=mown_lt h6
 have l7:=mown_lt h7
 have l6':=mown_lt hown6
 have hsz:(wr.alloc o1).heap.size=wr.heap.size+1:=by simp
 have hsz3:(w3.alloc o2).heap.size=w3.heap.size+1:=by simp
 have hs3:=hg6.size
 have hne6:g6'≠g7:=by omega
 refine⟨⟨g6',c6',g7',c7',rfl,rfl,Lib.hid ?_,Lib.hid (by rw[hy];exact hown7),by omega⟩, ?_⟩
 ·rw[hx];exact(hown6.alloc o2).kept hg7 (.inr (by simp[Value.ownBlock];omega))
 ·exact((((hbel.alloc hbs o1).grown hg6 (by omega) (by rintro k' h';cases h';omega)).alloc (by omega) o2).grown hg7 (by omega) (by rintro k' h';cases h';omega))
set_option maxRecDepth 100000 in
set_option maxHeartbeats 1600000 in
theorem reftag_any (s b:List Nat) (n m:Nat) (hn:n=s.length) (hm:m=b.length) (A A':Option Addr) (c c':Nat) (w:World) (hA:Rd w w.heap.size A (U8 s)) (hA':Rd w w.heap.size A' (U8 b)) (hnil:A=none→c=0) (hnil':A'=none→c'=0)
  (hs: ∀x∈s,x<256) (hb: ∀x∈b,x<256) (h5:n≤5000) (h4:m≤4000) (F:Array Value) (hF:F=(U8 (tagN s b)).toArray):
  Calls Tryz.prog 50 #[.slice A n c, .slice A' m c'] w fun e w'=>e= .returned (.agg F)∧Below w.heap.size w w':=by
 obtain⟨i0,hi,hz0,hz1,hz2⟩:=info_parts infoU8
 obtain⟨K,hK⟩: ∃K,K=blockM s:=⟨_,rfl⟩
 obtain⟨X,hX⟩: ∃X:Array Value,X=(U8 (blockM s)).toArray:=⟨_,rfl⟩
 obtain⟨I,hI⟩: ∃I,I=maskN K 54:=⟨_,rfl⟩
 obtain⟨O,hO⟩: ∃O,O=maskN K 92:=⟨_,rfl⟩
 obtain⟨D,hD⟩: ∃D,D=digestN (I++b):=⟨_,rfl⟩
 obtain⟨FD,hFD⟩: ∃FD:Array Value,FD=(U8 (digestN (I++b))).toArray:=⟨_,rfl⟩
 have hKl:K.length=64:=by rw[hK,length_blockM]
 have hKb: ∀x∈K,x<256:=by rw[hK];exact blockM_lt s hs
 have hDl:D.length=32:=by rw[hD,length_dig]
 have hDb: ∀x∈D,x<256:=by rw[hD];exact dig_lt _
 have hIl:I.length=64:=by rw[hI,length_maskN,hKl]
 have hOl:O.length=64:=by rw[hO,length_maskN,hKl]
 have hIb: ∀x∈I,x<256:=by rw[hI];exact maskN_lt K 54 hKb (by omega)
 have hOb: ∀x∈O,x<256:=by rw[hO];exact maskN_lt K 92 hKb (by omega)
 have hF':F=(U8 (digestN (O++D))).toArray:=by rw[hF,hD,hO,hI,hK];rfl
 have hXK:X=(U8 K).toArray:=by rw[hX,hK]
 have hFD':FD=(U8 D).toArray:=by rw[hFD,hD]
 have HN:=Lib.hid hn
 have HM:=Lib.hid hm
 have HA:=Lib.hid hA
 have HA':=Lib.hid hA'
 have HNIL:=Lib.hid hnil
 have HNIL':=Lib.hid hnil'
 have HS:=Lib.hid hs
 have HB:=Lib.hid hb
 have HX:=Lib.hid hX
 have HXK:=Lib.hid hXK
 have HFD:=Lib.hid hFD
 have HFD':=Lib.hid hFD'
 have HF:=Lib.hid hF'
 have HKL:=Lib.hid hKl
 have HKB:=Lib.hid hKb
 have HDL:=Lib.hid hDl
 have HDB:=Lib.hid hDb
 have HIL:=Lib.hid hIl
 have HOL:=Lib.hid hOl
 have HIB:=Lib.hid hIb
 have HOB:=Lib.hid hOb
 have HI:=Lib.hid hI
 have HO:=Lib.hid hO
 have HIX:=Lib.hid (isArr64 hXK hKl)
 have HID:=Lib.hid (isArr32 hFD' hDl)
 have HIF:=Lib.hid (isArr32 hF (length_dig _))
 clear hn hm hA hA' hnil hnil' hs hb hX hXK hFD hFD' hF hF' hK hD hKl hKb hDl hDb hI hO hIl hOl hIb hOb
 go_enter Tryz.func50, Tryz.ntmps50
 go_wp2_with fail
 refine(refblock03_any s n HN.out A c _ (HA.out.next (below_lit w _ _)) HS.out HNIL.out h5 X HX.out).mono ?_
 rintro e w1 ⟨rfl,hb1⟩
 have hr1:w1.heap[w.heap.size]?=some (.cells b32 42 (0,0)):=(hb1.block _ (by simp)).trans (heap_alloc_new w _)
 have hbw:=below_after _ _ hb1
 have hs1:w.heap.size+1≤w1.heap.size:=by have:=hb1.size;simpa using this
 have HR1:=Lib.hid hr1
 have HBW:=Lib.hid hbw
 clear hr1 hbw hb1
 go_wp2_with ((with_reducible refine at_store 5 ?_);refine wpList_store_named (o:=⟨none, .store 112 (.tmp 5) (.tmp 11),_,_,_,_⟩) rfl 112 (.tmp 5) (.tmp 11) rfl w1.heap.size X rfl rfl 112 b64 (heap_alloc_new w1 _) HIX.out.1 HIX.out.2.1 HIX.out.2.2 ?_;intro w2 hw2)
 obtain⟨hs2,hr2,hb2⟩:=row_made hw2.out
 have hb02:Below w.heap.size w w2:=HBW.out.trans (hb2.mono (by omega))
 have HK2:Hid (w2.heap[w1.heap.size]?=some (.cells (U8 K).toArray 112 (0,0))):=Lib.hid (HXK.out▸hr2)
 have HR2:=Lib.hid ((hb2.block w.heap.size (by omega)).trans HR1.out)
 have HB2:=Lib.hid hb02
 have hgw:w1.heap.size<w2.heap.size:=by omega
 clear hr2 hw2 hb2 hb02 hs2
 go_loopw [6,7,8] (fun v6 v7 i wr=> ∃k:Nat,k≤64∧i= .int .i64 k∧Sides w2.heap.size I O k v6 v7 wr∧Below w2.heap.size w2 wr) (fun _ _ i _=>64 - (intOf i).toNat)
 case atStart=>exact⟨0,Nat.zero_le _,rfl,sides_start w2 I O _ rfl,((Below.refl _ _).alloc (Nat.le_refl _) _).alloc (by simp) _⟩
 case round=>
  obtain⟨k,hk,rfl,⟨g6,c6,g7,c7,rfl,rfl,HO6,HO7,hne⟩,hbel⟩:=hrel
  by_cases hlt:k<64
  ·have hkl:k<K.length:=by rw[HKL.out];exact hlt
   have hbs:=hbel.size
   have hc:wr.cell? ⟨w1.heap.size,k,none⟩=some (.int .u8 ((K.getD k 0:Nat):Int)):=(hbel.cell (p:=⟨w1.heap.size,k,none⟩) hgw).trans (cell_u8 HK2.out k hkl)
   have hnx:=take_next I k (by rw[HIL.out];exact hlt)
   have hny:=take_next O k (by rw[HOL.out];exact hlt)
   rw[HI.out,maskN_getD K 54 k hkl, ←HI.out]at hnx
   rw[HO.out,maskN_getD K 92 k hkl, ←HO.out]at hny
   have hy8:=getD_lt8 HKB.out k
   have HNX:=Lib.hid hnx
   have HNY:=Lib.hid hny
   clear hnx hny hkl
   generalize K.getD k 0=y at*
   have hx1:bits .xor .u8 (y:Int) 54=((y^^^54:Nat):Int):=u8_xor_nat y 54 hy8 (by omega)
   have hx2:bits .xor .u8 (y:Int) 92=((y^^^92:Nat):Int):=u8_xor_nat y 92 hy8 (by omega)
   have bk0:(0:Int)≤(k:Int):=Int.natCast_nonneg _
   have bk1:(k:Int)<64:=by omega
   have hpos:0<k+1:=by omega
   have hmx:k+1≤maxLen:=by unfold maxLen;omega
   have hby:(k+1)*1≤140737488355328:=by omega
   go_wp2_with (first
    |(at_builtin;refine wpList_append_apart _ rfl (.tmp 18) (.tmp 23) 30 rfl w2.heap.size 5 i0 (.int .u8 0) 1 Tryz.underlying30 hi hz0 hz1 hz2 rfl g6 k c6 (U8 (I.take k)) rfl (HO6.out.alloc _) ⟨wr.heap.size,0,none⟩ 1 1 [.int .u8 ((y^^^54:Nat):Int)] rfl rfl hpos (one_cell wr _ _) (one_u8 _) hmx hby (le_alloc hbs _) ?_;intro g6' c6' w3 hown hg hd;have H6:=Lib.hid hown;have G6:=Lib.hid hg;have D6:=Lib.hid hd;have HK7:=Lib.hid (side_kept HO7.out hg hne);have hs3:=Nat.le_trans (le_alloc hbs _) hg.size;have hc3:=hg.cell ((World.cell?_alloc_lt _ _ _ (Nat.lt_of_lt_of_le hgw hbs)).trans hc) (kept_ne hgw HO6.out);clear hown hg hd)
    |(at_builtin;refine wpList_append_apart _ rfl (.tmp 25) (.tmp 30) 30 rfl w2.heap.size 5 i0 (.int .u8 0) 1 Tryz.underlying30 hi hz0 hz1 hz2 rfl g7 k c7 (U8 (O.take k)) rfl (HK7.out.alloc _) ⟨w3.heap.size,0,none⟩ 1 1 [.int .u8 ((y^^^92:Nat):Int)] rfl rfl hpos (one_cell w3 _ _) (one_u8 _) hmx hby (le_alloc hs3 _) ?_;intro g7' c7' w4 hown hg hd;have H7:=Lib.hid hown;have G7:=Lib.hid hg;have D7:=Lib.hid hd;clear hown hg hd))
   obtain⟨q1,q2⟩:=sides_next HO6.out HO7.out hne hbel hbs H6.out G6.out D6.out H7.out G7.out D7.out HNX.out HNY.out
   go_roundw
   case rel=>exact⟨k+1,by omega,by go_num,q1,q2⟩
   case measure=>simp[intOf];omega
  ·have ek:64=k:=by omega
   subst ek
   have h6:=HO6.out
   have h7:=HO7.out
   rw[List.take_of_length_le (Nat.le_of_eq HIL.out)]at h6
   rw[List.take_of_length_le (Nat.le_of_eq HOL.out)]at h7
   have hbs:=hbel.size
   have h64:64+m≤maxLen:=by unfold maxLen;omega
   have h64b:(64+m)*1≤140737488355328:=by omega
   have h96:64+32≤maxLen:=by unfold maxLen;omega
   have H6:=Lib.hid h6
   have H7:=Lib.hid h7
   have HAr:=Lib.hid (HA'.out.next (HB2.out.trans (hbel.mono HB2.out.size)))
   have HML:=Lib.hid ((U8_length b).trans HM.out.symm)
   have HRr:=Lib.hid ((hbel.block w.heap.size (by omega)).trans HR2.out)
   have HBr:=Lib.hid hbel
   clear h6 h7 hbel HO6 HO7
   go_wp2_with (at_builtin;refine wpList_append_rd _ rfl (.tmp 32) (.tmp 33) 30 rfl w2.heap.size 5 i0 (.int .u8 0) 1 Tryz.underlying30 hi hz0 hz1 hz2 rfl (.slice (some ⟨g6,0,none⟩) 64 c6) 64 (U8 I) rfl H6.out wr.heap.size A' m c' (U8 b) rfl HAr.out HML.out HNIL'.out (U8_one b) h64 h64b hbs ?_;intro v3 w3 hown3 hg3;have HO3:=Lib.hid hown3;have HG3:=Lib.hid hg3;obtain⟨A3,c3,rfl,hrd3,hnil3⟩:=own_rd hown3;have HRD3:=Lib.hid hrd3;have HN3:=Lib.hid hnil3;clear hown3 hg3 hrd3 hnil3)
   have l6:=mown_lt H6.out
   have l7:=mown_lt H7.out
   have HB3:=Lib.hid (HBr.out.grown HG3.out hbs (grow_ok l6.1))
   have H73:=Lib.hid (H7.out.kept HG3.out (.inr (by simp[Value.ownBlock];omega)))
   have hs3:=HG3.out.size
   have hrd3:=HRD3.out
   rw[←U8_append]at hrd3
   have hLl:64+m=(I++b).length:=by rw[List.length_append,HIL.out,HM.out]
   refine(refsum_arr (I++b) FD HFD (64+m) hLl A3 c3 w3 hrd3 HN3.out (all_lt HIB.out HB.out) (by omega)).mono ?_
   clear hrd3 hLl
   rintro e w4 ⟨rfl,hb4⟩
   have hs4:=hb4.size
   have HB4:=Lib.hid (HB3.out.trans (hb4.mono (by omega)))
   have H74:=Lib.hid (own_below H73.out hb4)
   clear hb4
   go_wp2_with (first
    |((with_reducible refine at_store 9 ?_);refine wpList_store_named (o:=⟨none, .store 42 (.tmp 9) (.tmp 35),_,_,_,_⟩) rfl 42 (.tmp 9) (.tmp 35) rfl w4.heap.size FD rfl rfl 42 b32 (heap_alloc_new w4 _) HID.out.1 HID.out.2.1 HID.out.2.2 ?_;intro w5 hw5;obtain⟨hs5,hr5,hb5⟩:=row_made hw5.out;have HRD5:=Lib.hid (rd_row hr5 HFD'.out);have H75:=Lib.hid (own_below H74.out hb5);have HB5:=Lib.hid (HB4.out.trans (hb5.mono (Nat.le_trans hbs (Nat.le_trans hs3 hs4))));have hs5':=hb5.size;have HDL5:=Lib.hid ((U8_length D).trans HDL.out);have hbs5:=Nat.le_trans (Nat.le_trans hbs (Nat.le_trans hs3 hs4)) hs5';clear hs5 hr5 hb5)
    |(at_builtin;refine wpList_append_rd _ rfl (.tmp 36) (.tmp 37) 30 rfl w2.heap.size 5 i0 (.int .u8 0) 1 Tryz.underlying30 hi hz0 hz1 hz2 rfl (.slice (some ⟨g7,0,none⟩) 64 c7) 64 (U8 O) rfl H75.out w5.heap.size (some ⟨w4.heap.size,0,none⟩) 32 32 (U8 D) rfl HRD5.out HDL5.out (fun h=>by cases h) (U8_one D) h96 (by omega) hbs5 ?_;intro v6 w6 hown6 hg6;have HG6:=Lib.hid hg6;obtain⟨A6,c6,rfl,hrd6,hnil6⟩:=own_rd hown6;have HRD6:=Lib.hid hrd6;have HN6:=Lib.hid hnil6;clear hown6 hg6 hrd6 hnil6))
   have HB6:=Lib.hid (HB5.out.grown HG6.out hbs5 (grow_ok l7.1))
   have hs6:=HG6.out.size
   have hrd6:=HRD6.out
   rw[←U8_append]at hrd6
   have hLl:64+32=(O++D).length:=by rw[List.length_append,HOL.out,HDL.out]
   refine(refsum_arr (O++D) F HF (64+32) hLl A6 _ w6 hrd6 HN6.out (all_lt HOB.out HDB.out) (by omega)).mono ?_
   clear hrd6 hLl
   rintro e w7 ⟨rfl,hb7⟩
   have hs7:=hb7.size
   have HB7:=Lib.hid (HB6.out.trans (hb7.mono (by omega)))
   have HR7:=Lib.hid ((HB7.out.block w.heap.size (by omega)).trans HR2.out)
   clear hb7
   go_wp2_with ((with_reducible refine at_store 4 ?_);refine wpList_store_named (o:=⟨none, .store 42 (.tmp 4) (.tmp 39),_,_,_,_⟩) rfl 42 (.tmp 4) (.tmp 39) rfl w.heap.size F rfl rfl 42 b32 HR7.out HIF.out.1 HIF.out.2.1 HIF.out.2.2 ?_;intro w8 hw8)
   have hr8:w8.heap[w.heap.size]?=some (.cells F 42 (0,0)):=by rw[hw8.out];exact setRow_heap _ _ _ _ _ _ HR7.out
   refine bodyPost_ret (results_cell_row Tryz.results50 _ w8 w.heap.size 42 _ (0,0) _ rfl hr8 Tryz.underlying42 rfl HIF.out.1) rfl ⟨rfl, ?_⟩
   exact(HB2.out.trans (HB7.out.mono HB2.out.size)).trans (below_row hw8.out (Nat.le_refl _))
end Go.Proofs.YtcnglbliidjnfaaGreatDoor
end
section
namespace Go.Proofs.YtcnglbliidjnfaaGreatDoor
set_option maxRecDepth 100000
set_option linter.unusedVariables false
open Go.ChangeShapes Go.WideShapes Go.ChangeAt Go.RowKit
set_option maxHeartbeats 1600000 in
theorem rbtag_any (s l:List Nat) (n m:Nat) (hn:n=s.length) (hm:m=l.length) (A B:Option Addr) (c d:Nat) (w:World) (hA:Bs w w.heap.size s A c) (hB:Bs w w.heap.size l B d) (h5:n≤5000) (h4:m≤3999) (F:Array Value) (hF:F=(U8 (tagB s l)).toArray):
  Calls Tryz.prog 20 #[.slice A n c, .slice B m d] w fun e w'=>e= .returned (.agg F)∧Below w.heap.size w w':=by
 obtain⟨i0,hi,hz0,hz1,hz2⟩:=info_parts infoU8
 obtain⟨L,hL⟩: ∃L,66::l=L:=⟨_,rfl⟩
 have HL1:=Lib.hid (show U8 [66]++U8 l=U8 L by rw[←hL];rfl)
 have HLK:=Lib.hid (show 1+m=L.length by rw[←hL,hm,List.length_cons];omega)
 have HLB:=Lib.hid (show∀x∈L,x<256 by rw[←hL];intro x hx;rcases List.mem_cons.1 hx with rfl|h;decide;exact hB.lt x h)
 have HFV:=Lib.hid (show F=(U8 (tagN s L)).toArray by rw[hF,tagB,hL])
 have HM:=Lib.hid (show(U8 l).length=m by simp[U8,hm])
 have HIF:=Lib.hid (isArr32 (l:=tagB s l) hF (tagB_len _ _))
 have HN:=Lib.hid hn
 have HA:=Lib.hid hA
 have HB:=Lib.hid hB
 obtain⟨w0,hw0⟩: ∃w0,w.alloc (.cells #[.int .u8 0, .int .u8 0, .int .u8 0, .int .u8 0, .int .u8 0, .int .u8 0, .int .u8 0, .int .u8 0, .int .u8 0, .int .u8 0, .int .u8 0, .int .u8 0, .int .u8 0, .int .u8 0, .int .u8 0, .int .u8 0, .int .u8 0, .int .u8 0, .int .u8 0, .int .u8 0, .int .u8 0, .int .u8 0, .int .u8 0, .int .u8 0, .int .u8 0, .int .u8 0, .int .u8 0, .int .u8 0, .int .u8 0, .int .u8 0, .int .u8 0, .int .u8 0] 42)=w0:=⟨_,rfl⟩
 obtain⟨w1,hw1⟩: ∃w1,w0.alloc (.cells #[.int .u8 66] 5)=w1:=⟨_,rfl⟩
 have hs0:w.heap.size+1=w0.heap.size:=by rw[←hw0];simp
 have hbl0:Below w.heap.size w w0:=by rw[←hw0];exact below_lit w _ _
 have hbl:Below w.heap.size w w1:=by rw[←hw1];exact hbl0.trans ((below_lit w0 _ _).mono hbl0.size)
 have hown:w1.ownsRow w0.heap.size 5 1 (.slice (some ⟨w0.heap.size,0,none⟩) 1 1) 1 (U8 [66]):=by rw[←hw1];exact World.ownsRow_lit (e:= 5) (base:=w0.heap.size) (size:=1) w0 #[.int .u8 66] 1 (Nat.le_refl _) (by unfold maxLen;omega) rfl
 have HX1:=Lib.hid (show w1.heap[w.heap.size]?=some (.cells b32 42 (0,0)) by rw[←hw1,heap_alloc_old _ _ (by omega), ←hw0];exact heap_alloc_new w _)
 have hbs:w0.heap.size≤w1.heap.size:=by rw[←hw1];simp
 have HS0:=Lib.hid hbl0.size
 have HW0:=Lib.hid hs0
 have HWA:=Lib.hid hw0
 have HWB:=Lib.hid hw1
 have HOWN:=Lib.hid hown
 have HBW:=Lib.hid (hB.next hbl)
 have HBL:=Lib.hid hbl
 have h64:1+m≤maxLen:=by unfold maxLen;omega
 clear hL hF hn hm hA hB hown hbl hbl0 hs0 hw0 hw1
 go_enter Tryz.func20, Tryz.ntmps20
 go_wp2_with (at_builtin;go_loud (rw[HWA.out,HW0.out,HWB.out];refine wpList_append_rd _ rfl (.tmp 8) (.tmp 9) 30 rfl w0.heap.size 5 i0 (.int .u8 0) 1 Tryz.underlying30 hi hz0 hz1 hz2 rfl (.slice (some ⟨w0.heap.size,0,none⟩) 1 1) 1 (U8 [66]) rfl HOWN.out _ B m d (U8 l) rfl HBW.out.rd HM.out HBW.out.nil (U8_one l) h64 (by omega) hbs ?_;intro v2 w2 hown2 hg2;rw[HL1.out]at hown2;obtain⟨AL,cL,rfl,hs2⟩:=bs_of_own hown2 HLB.out;have HS2:=Lib.hid hs2;have HB2:=Lib.hid (show Below w.heap.size w w2 from HBL.out.grown hg2 HBL.out.size (fun p hp=>by cases hp;exact HS0.out));have HX2:=Lib.hid (show w2.heap[w.heap.size]?=some (.cells b32 42 (0,0))from(hg2.block _ (Array.getElem?_eq_some_iff.1 HX1.out).1 (fun q=>by have q2:w.heap.size=w0.heap.size:=Option.some.inj q;have:=HW0.out;omega)).trans HX1.out);clear hown2 hg2 hs2))
 refine(reftag_any s L n (1+m) HN.out HLK.out A AL c cL w2 (HA.out.next HB2.out).rd HS2.out.rd HA.out.nil HS2.out.nil HA.out.lt HLB.out h5 (by omega) F HFV.out).mono ?_
 rintro e w3 ⟨rfl,hb3⟩
 have HX3:=Lib.hid ((hb3.block w.heap.size (Array.getElem?_eq_some_iff.1 HX2.out).1).trans HX2.out)
 have HB3:=Lib.hid (HB2.out.trans (hb3.mono HB2.out.size))
 clear hb3
 go_wp2_with ((with_reducible refine at_store 4 ?_);refine wpList_store_named (o:=⟨none, .store 42 (.tmp 4) (.tmp 11),_,_,_,_⟩) rfl 42 (.tmp 4) (.tmp 11) rfl w.heap.size F rfl rfl 42 b32 HX3.out HIF.out.1 HIF.out.2.1 HIF.out.2.2 ?_;intro w6 hw6)
 have hr6:w6.heap[w.heap.size]?=some (.cells F 42 (0,0)):=by rw[hw6.out];exact setRow_heap _ _ _ _ _ _ HX3.out
 refine bodyPost_ret (results_cell_row Tryz.results20 _ w6 w.heap.size 42 _ (0,0) _ rfl hr6 Tryz.underlying42 rfl HIF.out.1) rfl ⟨rfl, ?_⟩
 exact HB3.out.trans (below_row hw6.out (Nat.le_refl _))
end Go.Proofs.YtcnglbliidjnfaaGreatDoor
end
