import Derived.Test.YtcnglbliidjnfaaGreatDoorShaPSum
import Derived.Test.YtcnglbliidjnfaaGreatDoorBarConst
section
namespace Go.Proofs.YtcnglbliidjnfaaGreatDoor
set_option maxRecDepth 100000
set_option linter.unusedVariables false
open Go.ChangeShapes Go.WideShapes Go.ChangeAt Go.RowKit
theorem refpad_len (l:List Nat) (n:Nat) (hn:n=l.length) (A:Option Addr) (c:Nat) (w:World) (hA:Rd w w.heap.size A (U8 l)) (hnil:A=none→c=0) (hl:n≤5000):
  Calls Tryz.prog 116 #[.slice A n c] w fun e w'=> ∃v,e= .returned v∧w'.ownsRow w.heap.size 5 1 v (padN l).length (U8 (padN l))∧Below w.heap.size w w':=by
 subst hn
 exact refpad_ok l A c w hA hnil hl
theorem refwords_len (l:List Nat) (n:Nat) (hn:l.length=n) (A:Option Addr) (c:Nat) (w:World) (hA:Rd w w.heap.size A (U8 l)) (hb: ∀x∈l,x<256) (hl:n≤4000) (h4:n % 4=0):
  Calls Tryz.prog 118 #[.slice A n c] w fun e w'=> ∃v,e= .returned (.tuple #[v, .int .i64 0])∧w'.ownsRow w.heap.size 138 1 v (n / 4) (U32 (wordsOf l))∧Below w.heap.size w w':=by
 subst hn
 exact refwords_ok l A c w hA hb hl h4
def upZ (W:List Nat) (n k:Nat):List Nat:=W.take k++List.replicate (n - k) 0
theorem upZ_zero (W:List Nat) (n:Nat):upZ W n 0=List.replicate n 0:=by simp[upZ]
theorem upZ_all (W:List Nat) (n:Nat) (h:W.length=n):upZ W n n=W:=by simp[upZ, ←h]
theorem length_upZ (W:List Nat) (n k:Nat) (h:W.length=n) (hk:k≤n):(upZ W n k).length=n:=by simp[upZ];omega
theorem upZ_set (W:List Nat) (n k:Nat) (h:W.length=n) (hk:k<n):(upZ W n k).set k (W.getD k 0)=upZ W n (k+1):=by
 unfold upZ
 have hl:(W.take k).length=k:=by simp;omega
 have hkW:k<W.length:=by omega
 have e:W.take (k+1)=W.take k++ [W[k]]:=List.take_succ_eq_append_getElem hkW
 have eg:W.getD k 0=W[k]:=by rw[List.getD_eq_getElem?_getD,List.getElem?_eq_getElem hkW];rfl
 rw[List.set_append_right _ _ (by rw[hl];exact Nat.le_refl _),hl,Nat.sub_self,show n - k=(n - (k+1))+1 by omega,List.replicate_succ,List.set_cons_zero,e,eg,List.append_assoc,List.singleton_append]
set_option maxRecDepth 100000 in
set_option maxHeartbeats 1600000 in
theorem refsum_ok (l:List Nat) (A:Option Addr) (c:Nat) (w:World) (hA:Rd w w.heap.size A (U8 l)) (hnil:A=none→c=0) (hb: ∀x∈l,x<256) (hl:l.length≤5000):
  Calls Tryz.prog 95 #[.slice A l.length c] w fun e w'=>e= .returned (.agg (U8 (digestN l)).toArray)∧Below w.heap.size w w':=by
 obtain⟨n0,hn0⟩: ∃n0,n0=l.length:=⟨_,rfl⟩
 have HN0:=Lib.hid hn0
 have HNIL:=Lib.hid hnil
 have HA:=Lib.hid hA
 have HB:=Lib.hid hb
 rw[←hn0]at hl⊢
 clear hn0 hnil hA hb
 go_enter Tryz.func95, Tryz.ntmps95
 go_wp2_with fail
 refine(refpad_len l n0 HN0.out A c _ ((HA.out.alloc (Nat.le_refl _) _).more (by simp)) HNIL.out hl).mono ?_
 rintro e w1 ⟨v1,rfl,hown1,hb1⟩
 rw[nblk_eq]at hown1
 have hm0:=nblk_pos l
 have hm1:nblk l≤80:=by have:=nblk_eq l;rw[length_padN, ←HN0.out]at this;unfold zerosN at this;omega
 obtain⟨m,hm⟩: ∃m,m=nblk l:=⟨_,rfl⟩
 rw[←hm]at hown1 hm0 hm1
 obtain⟨g,cap,rfl,hgb⟩:=hown1.form (by omega)
 have hcap:64*m≤cap∧cap≤maxLen:=by
  rcases hown1.2 with⟨h,_⟩|⟨g',cap',cur,h,_,_,h1,h2,_⟩
  ·cases h
  ·simp at h;obtain⟨_,rfl⟩:=h;exact⟨h1,h2⟩
 obtain⟨hcap1,hcap2⟩:=hcap
 unfold maxLen at hcap2
 have hs1:w.heap.size+1≤w1.heap.size:=by have:=hb1.size;simpa using this
 have hr1:w1.heap[w.heap.size]?=some (.cells b32 42 (0,0)):=(hb1.block _ (by simp)).trans (heap_alloc_new w _)
 have hbw:Below w.heap.size w w1:=((Below.refl _ _).alloc (Nat.le_refl _) _).trans (hb1.mono (by simp))
 have hgl:g<w1.heap.size:=by
  obtain⟨ad,he,hlt,_⟩:=(Rd.of_own hown1) 0 _ (U8_at (padN l) 0 (by rw[nblk_eq, ←hm];omega))
  cases he;exact hlt
 have HM:=Lib.hid hm
 have HO1:=Lib.hid hown1
 have HR1:=Lib.hid hr1
 have HBW:=Lib.hid hbw
 have HPB:=Lib.hid (padN_lt l HB.out)
 clear hown1 hr1 hbw hb1 hm
 go_wp2_with fail
 refine(begin_any _).mono ?_
 rintro e w2 ⟨rfl,hb2⟩
 rw[St.val_eq]
 have HB2:=Lib.hid hb2
 clear hb2
 go_wp2_with ((with_reducible refine at_store 4 ?_);refine wpList_store_named (o:=⟨none, .store 139 (.tmp 4) (.tmp 15),_,_,_,_⟩) rfl 139 (.tmp 4) (.tmp 15) rfl w2.heap.size (U32 beginN.list).toArray rfl rfl 139 z8 (heap_alloc_new w2 _) info28 rfl (all_one32 _) ?_;intro w3 hw3)
 obtain⟨hs3,hv3,hb3⟩:=row_made hw3.out
 have hs2:=HB2.out.size
 have hb13:Below w1.heap.size w1 w3:=HB2.out.trans (hb3.mono hs2)
 have HO3:=Lib.hid (own_below HO1.out hb13)
 have HR3:=Lib.hid ((hb13.block w.heap.size (by omega)).trans HR1.out)
 have HV3:=Lib.hid hv3
 have hg3:g<w2.heap.size:=by omega
 have hb03:Below w.heap.size w w3:=HBW.out.trans (hb13.mono (by omega))
 clear hv3 hb3 hb13 hw3
 go_loopw [5] (fun i wr=> ∃j o:Nat,Hid (o=64*j)∧j≤m∧i= .int .i64 o∧wr.heap[w2.heap.size]?=some (.cells (U32 (blocksN beginN (padN l) j).list).toArray 139 (0,0))∧Below w2.heap.size w3 wr) (fun i _=>64*m - (intOf i).toNat)
 case atStart=>exact⟨0,0,Lib.hid rfl,Nat.zero_le _,rfl,HV3.out,Below.refl _ _⟩
 case round=>
  obtain⟨j,o,HOJ,hj,rfl,hv,hbel⟩:=hrel
  by_cases hlt:j<m
  ·have ho1:o+64≤64*m:=by have:=HOJ.out;omega
   have hgw:g<wr.heap.size:=by have:=hbel.size;omega
   have hrd0:Rd wr wr.heap.size (some ⟨g,0,none⟩) (U8 (padN l)):=by
    intro k u hu
    obtain⟨ad,he,_,hc⟩:=(Rd.of_own HO3.out) k u hu
    cases he
    refine⟨_,rfl,hgw, ?_⟩
    rw[at_add]at hc⊢
    exact(hbel.cell (p:=⟨g,k,none⟩) hg3).trans hc
   have hrd1:=hrd0.from (k:=o)
   rw[U8_drop]at hrd1
   have hrd:Rd wr wr.heap.size (some ⟨g,o,none⟩) (U8 (((padN l).drop o).take 64)):=by
    intro k u hu
    refine hrd1 k u ?_
    simp only[U8,List.map_take,List.getElem?_take]at hu⊢
    split at hu
    ·exact hu
    ·cases hu
   have hlq:(((padN l).drop o).take 64).length=64:=by rw[List.length_take,List.length_drop,nblk_eq, ←HM.out];omega
   have hbq: ∀x∈((padN l).drop o).take 64,x<256:=fun x hx=>HPB.out x (List.mem_of_mem_drop (List.mem_of_mem_take hx))
   have hnext:blocksN beginN (padN l) (j+1)=blockN (blocksN beginN (padN l) j) (wordsOf (((padN l).drop o).take 64)):=by rw[HOJ.out];rfl
   have hok:=blocksN_ok beginN_ok (padN l) j
   obtain⟨W,hWE⟩: ∃W,W=wordsOf (((padN l).drop o).take 64):=⟨_,rfl⟩
   have hW1:W.length=16:=by rw[hWE,length_wordsOf,hlq]
   have hW2: ∀x∈W,x<4294967296:=by rw[hWE];exact wordsOf_lt _ hbq
   have hwc:=refwords_len (((padN l).drop o).take 64) 64 hlq (some ⟨g,o,none⟩) (cap - o) wr hrd hbq (by omega) (by omega)
   rw[←hWE]at hnext hwc
   obtain⟨V,hVE⟩: ∃V,V=blocksN beginN (padN l) j:=⟨_,rfl⟩
   rw[←hVE]at hv hnext hok
   have HNX:=Lib.hid hnext
   have HWC:=Lib.hid hwc
   have HOK:=Lib.hid hok
   have HW1:=Lib.hid hW1
   have HW2:=Lib.hid hW2
   have HV:=Lib.hid hv
   clear hrd0 hrd1 hrd hlq hbq hnext hok hW1 hW2 hWE hwc hv hVE
   go_wp2_with fail
   refine HWC.out.mono ?_
   rintro e w4 ⟨v4,rfl,hown4,hb4⟩
   obtain⟨g4,cap4,rfl,hgb4⟩:=hown4.form (by omega)
   have hs4:=hb4.size
   have HO4:=Lib.hid hown4
   have HB4:=Lib.hid hb4
   clear hown4 hb4
   go_wp2_with ((with_reducible refine at_store 8 ?_);refine wpList_store_named (o:=⟨none, .store 141 (.tmp 8) (.tmp 31),_,_,_,_⟩) rfl 141 (.tmp 8) (.tmp 31) rfl w4.heap.size z16 rfl rfl 141 z16 (heap_alloc_new w4 _) info29 rfl (all_one32 (List.replicate 16 0)) ?_;intro w5 hw5)
   obtain⟨hs5,hv5,hb5⟩:=row_made hw5.out
   have HV5:=Lib.hid hv5
   have HO5:=Lib.hid (own_below HO4.out hb5)
   clear hw5 hv5
   have hz:(.cells z16 141 (0,0):Obj)= .cells (U32 (upZ W 16 0)).toArray 141 (0,0):=by rw[upZ_zero,z16_eq]
   obtain⟨wo,rfl⟩: ∃wo:World,wo=wr:=⟨_,rfl⟩
   go_loopw [9] (fun i wr=> ∃k:Nat,k≤16∧i= .int .i64 k∧wr.heap[w4.heap.size]?=some (.cells (U32 (upZ W 16 k)).toArray 141 (0,0))∧Below w4.heap.size w5 wr) (fun i _=>16 - (intOf i).toNat)
   case atStart=>exact⟨0,Nat.zero_le _,rfl,by rw[HV5.out,hz],Below.refl _ _⟩
   case round=>
    clear hz
    obtain⟨k,hk,rfl,hw,hbk⟩:=hrel
    by_cases hk16:k<16
    ·have hcs:wr.cell? ⟨g4,k,none⟩=some (.int .u32 ((W.getD k 0:Nat):Int)):=by
      have hg4:g4<w4.heap.size:=by
       obtain⟨ad,he,hlt4,_⟩:=(Rd.of_own HO4.out) 0 _ (U32_getD W 0 (by rw[HW1.out];omega))
       cases he;exact hlt4
      exact(hbk.cell (p:=⟨g4,k,none⟩) hg4).trans (own_cell32 HO5.out k (by omega))
     have hcur:wr.cell? ⟨w4.heap.size,k,none⟩=some (.int .u32 (((upZ W 16 k).getD k 0:Nat):Int)):=by
      rw[cell_of_row wr _ k _ _ (0,0) hw,List.getElem?_toArray,U32_getD _ k (by rw[length_upZ W 16 k HW1.out hk];exact hk16)]
     have hfz:=frozen_of_row wr _ k _ _ hw
     have hset:=heap_setCell_same wr _ k _ 141 (.int .u32 ((W.getD k 0:Nat):Int)) hw
     have hst:(U32 (upZ W 16 k)).toArray.setIfInBounds k (.int .u32 ((W.getD k 0:Nat):Int))=(U32 (upZ W 16 (k+1))).toArray:=by
      rw[List.setIfInBounds_toArray, ←upZ_set W 16 k HW1.out hk16,U32,U32,List.map_set]
     rw[hst]at hset
     have HSET:=Lib.hid hset
     clear hset hst hw
     generalize W.getD k 0=y at*
     generalize (upZ W 16 k).getD k 0=z at*
     have bk0:(0:Int)≤(k:Int):=Int.natCast_nonneg _
     have bk1:(k:Int)<16:=by omega
     go_wp2
     go_roundw
     case rel=>exact⟨k+1,by omega,by go_num,HSET.out,hbk.setCell (Nat.le_refl _) _⟩
     case measure=>simp[intOf];omega
    ·have k16:k=16:=by omega
     subst k16
     rw[upZ_all W 16 HW1.out]at hw
     have hwv:wr.heap[w2.heap.size]?=some (.cells (U32 V.list).toArray 139 (0,0)):=(hbk.block _ (by have:=hbel.size;omega)).trans ((hb5.block _ (by have:=hbel.size;omega)).trans ((HB4.out.block _ (by have:=hbel.size;omega)).trans HV.out))
     have hin:(Tryz.prog.info? 141).map (·.size)=some (U32 W).toArray.size:=by rw[show(U32 W).toArray.size=16 by simp[U32,HW1.out]];exact info29
     have HWW:=Lib.hid hw
     have HWV:=Lib.hid hwv
     have HIN:=Lib.hid hin
     clear hw hwv hin
     go_wp2_with (first
      |((with_reducible refine at_load 42 ?_);refine wpList_load_row (o:=⟨some 42, .load 139 (.tmp 4),_,_,_,_⟩) rfl 139 (.tmp 4) rfl w2.heap.size rfl 139 (U32 V.list).toArray (0,0) _ HWV.out Tryz.underlying139 rfl info28 ?_)
      |((with_reducible refine at_load 43 ?_);refine wpList_load_row (o:=⟨some 43, .load 141 (.tmp 8),_,_,_,_⟩) rfl 141 (.tmp 8) rfl w4.heap.size rfl 141 (U32 W).toArray (0,0) _ HWW.out Tryz.underlying141 rfl HIN.out ?_))
     refine(refblock_list V W wr HOK.out HW2.out HW1.out).mono ?_
     rintro e w6 ⟨rfl,hb6⟩
     obtain⟨R,hR⟩: ∃R,R=blockN V W:=⟨_,rfl⟩
     rw[←hR]
     have HRE:=Lib.hid hR
     have HV6:=Lib.hid ((hb6.block w2.heap.size (by have h7:=hbel.size;have h8:=hbk.size;omega)).trans HWV.out)
     have hbf:Below w2.heap.size w3 w6:=(((hbel.trans (HB4.out.mono (by have:=hbel.size;omega))).trans (hb5.mono (by have:=hbel.size;omega))).trans (hbk.mono (by have:=hbel.size;omega))).trans (hb6.mono (by have h7:=hbel.size;have h8:=hbk.size;omega))
     clear hR hb6
     go_wp2_with ((with_reducible refine at_store 4 ?_);refine wpList_store_named (o:=⟨none, .store 139 (.tmp 4) (.tmp 44),_,_,_,_⟩) rfl 139 (.tmp 4) (.tmp 44) rfl w2.heap.size (U32 R.list).toArray rfl rfl 139 (U32 V.list).toArray HV6.out info28 rfl (all_one32 _) ?_;intro w7 hw7)
     have hv7:w7.heap[w2.heap.size]?=some (.cells (U32 (blocksN beginN (padN l) (j+1)).list).toArray 139 (0,0)):=by
      rw[hw7.out,HNX.out, ←HRE.out];exact setRow_heap _ _ _ _ _ _ HV6.out
     have hb7:Below w2.heap.size w3 w7:=hbf.trans (below_row hw7.out (Nat.le_refl _))
     clear hw7 hbf hbk
     go_roundw
     case rel=>exact⟨j+1,o+64,Lib.hid (by rw[HOJ.out];omega),by omega,by go_num,hv7,hb7⟩
     case measure=>simp[intOf];omega
  ·have hjm:j=m:=by omega
   subst hjm
   obtain⟨V,hVE⟩: ∃V,V=blocksN beginN (padN l) j:=⟨_,rfl⟩
   have hok:V.ok:=by rw[hVE];exact blocksN_ok beginN_ok _ _
   rw[←hVE]at hv
   have hdg:digestN l=bytesOf V.list:=by rw[hVE,HM.out];rfl
   obtain⟨D,hD⟩: ∃D,D=bytesOf V.list:=⟨_,rfl⟩
   have hDl:D.length=32:=by rw[hD,length_bytesOf];rfl
   have ho2:64*j≤o:=by have:=HOJ.out;omega
   have hsr:w2.heap.size<wr.heap.size:=by have:=hbel.size;omega
   have hres:wr.heap[w.heap.size]?=some (.cells b32 42 (0,0)):=(hbel.block _ (by omega)).trans HR3.out
   have hbb:Below w.heap.size w wr:=hb03.trans (hbel.mono (by omega))
   have HV:=Lib.hid hv
   have HOK:=Lib.hid hok
   have HDG:=Lib.hid (hdg.trans hD.symm)
   have HD:=Lib.hid hD
   have HDL:=Lib.hid hDl
   have HRES:=Lib.hid hres
   clear hv hVE hok hdg hres hbel hD hDl
   go_wp2_with ((with_reducible refine at_store 10 ?_);refine wpList_store_named (o:=⟨none, .store 42 (.tmp 10) (.tmp 45),_,_,_,_⟩) rfl 42 (.tmp 10) (.tmp 45) rfl wr.heap.size b32 rfl rfl 42 b32 (heap_alloc_new wr _) info32 rfl (all_one8 (List.replicate 32 0)) ?_;intro w4 hw4)
   obtain⟨hs4,hv4,hb4⟩:=row_made hw4.out
   have hrd:Rd w4 w4.heap.size (some ⟨w2.heap.size,0,none⟩) (U32 V.list):=by
    intro k u hu
    refine⟨_,rfl,by show w2.heap.size<_;omega, ?_⟩
    rw[at_add,cell_of_row w4 _ k _ _ (0,0) ((hb4.block _ hsr).trans HV.out)]
    simpa using hu
   have hrb:=refbytes_ok V.list (some ⟨w2.heap.size,0,none⟩) 8 w4 hrd (St.list_lt HOK.out) (by show 8≤1000;omega)
   rw[←HD.out,show 4*V.list.length=32 from rfl,show V.list.length=8 from rfl]at hrb
   refine hrb.mono ?_
   clear hrb hrd
   rintro e w5 ⟨v5,rfl,hown5,hb5⟩
   obtain⟨g5,cap5,rfl,hgb5⟩:=hown5.form (by omega)
   have hg5:g5<w5.heap.size:=by
    obtain⟨ad,he,hlt5,_⟩:=(Rd.of_own hown5) 0 _ (U8_at D 0 (by rw[HDL.out];omega))
    cases he;exact hlt5
   have hge:w4.heap.size≤g5:=own_ge hown5 rfl
   have hs5:=hb5.size
   have hv5:w5.heap[wr.heap.size]?=some (.cells (U8 (upZ D 32 0)).toArray 42 (0,0)):=by rw[hb5.block _ (by omega),hv4,upZ_zero, ←b32_eq]
   have hr5:w5.heap[w.heap.size]?=some (.cells b32 42 (0,0)):=(hb5.block _ (by omega)).trans ((hb4.block _ (by omega)).trans HRES.out)
   have hbw5:Below w.heap.size w w5:=(hbb.trans (hb4.mono (by omega))).trans (hb5.mono (by omega))
   have HO5:=Lib.hid hown5
   have HV5:=Lib.hid hv5
   have HR5:=Lib.hid hr5
   obtain⟨wo,rfl⟩: ∃wo:World,wo=wr:=⟨_,rfl⟩
   clear hown5 hv5 hr5 hv4 hb4 hb5 hw4
   go_wp2_with fail
   go_loopw [12] (fun i wr=> ∃k:Nat,k≤32∧i= .int .i64 k∧wr.heap[wo.heap.size]?=some (.cells (U8 (upZ D 32 k)).toArray 42 (0,0))∧Below wo.heap.size w5 wr∧wr.heap[g5]?=w5.heap[g5]?) (fun i _=>32 - (intOf i).toNat)
   case atStart=>exact⟨0,Nat.zero_le _,rfl,HV5.out,Below.refl _ _,rfl⟩
   case round=>
    obtain⟨k,hk,rfl,hw,hbk,hgk⟩:=hrel
    by_cases hk32:k<32
    ·have hcs:wr.cell? ⟨g5,k,none⟩=some (.int .u8 ((D.getD k 0:Nat):Int)):=by
      have hkD:k<D.length:=by rw[HDL.out];exact hk32
      have h1:=HO5.out.cellAt k (by omega)
      rw[U8_at D k hkD]at h1
      rw[List.getD_eq_getElem?_getD,List.getElem?_eq_getElem hkD]
      exact(World.cell?_of_block (w:=w5) (w':=wr) hgk).trans h1
     have hcur:wr.cell? ⟨wo.heap.size,k,none⟩=some (.int .u8 (((upZ D 32 k).getD k 0:Nat):Int)):=by
      have hkU:k<(upZ D 32 k).length:=by rw[length_upZ D 32 k HDL.out hk];exact hk32
      rw[cell_of_row wr _ k _ _ (0,0) hw,List.getElem?_toArray,U8_at _ k hkU,List.getD_eq_getElem?_getD,List.getElem?_eq_getElem hkU]
      rfl
     have hfz:=frozen_of_row wr _ k _ _ hw
     have hset:=heap_setCell_same wr _ k _ 42 (.int .u8 ((D.getD k 0:Nat):Int)) hw
     have hst:(U8 (upZ D 32 k)).toArray.setIfInBounds k (.int .u8 ((D.getD k 0:Nat):Int))=(U8 (upZ D 32 (k+1))).toArray:=by
      rw[List.setIfInBounds_toArray, ←upZ_set D 32 k HDL.out hk32,U8,U8,List.map_set]
     rw[hst]at hset
     have HSET:=Lib.hid hset
     have HGK:=Lib.hid hgk
     clear hset hst hw hgk
     generalize D.getD k 0=y at*
     generalize (upZ D 32 k).getD k 0=z at*
     have bk0:(0:Int)≤(k:Int):=Int.natCast_nonneg _
     have bk1:(k:Int)<32:=by omega
     go_wp2
     go_roundw
     case rel=>exact⟨k+1,by omega,by go_num,HSET.out,hbk.setCell (Nat.le_refl _) _,(heap_setCell_other _ _ _ _ (by show g5≠wo.heap.size;omega)).trans HGK.out⟩
     case measure=>simp[intOf];omega
    ·have k32:k=32:=by omega
     subst k32
     rw[upZ_all D 32 HDL.out]at hw
     have hsz:(U8 D).toArray.size=32:=by simp[U8,HDL.out]
     have hin:(Tryz.prog.info? 42).map (·.size)=some (U8 D).toArray.size:=by rw[hsz];exact info32
     have HRES2:=Lib.hid ((hbk.block w.heap.size (by omega)).trans HR5.out)
     have hbf:Below w.heap.size w wr:=hbw5.trans (hbk.mono (by omega))
     have HWW:=Lib.hid hw
     have HSZ:=Lib.hid hsz
     have HIN:=Lib.hid hin
     clear hw hsz hin hgk hbk
     go_wp2_with (first
      |((with_reducible refine at_load 58 ?_);refine wpList_load_row (o:=⟨some 58, .load 42 (.tmp 10),_,_,_,_⟩) rfl 42 (.tmp 10) rfl wo.heap.size rfl 42 (U8 D).toArray (0,0) _ HWW.out Tryz.underlying42 rfl HIN.out ?_)
      |((with_reducible refine at_store 2 ?_);refine wpList_store_named (o:=⟨none, .store 42 (.tmp 2) (.tmp 58),_,_,_,_⟩) rfl 42 (.tmp 2) (.tmp 58) rfl w.heap.size (U8 D).toArray rfl rfl 42 b32 HRES2.out HIN.out HSZ.out.symm (all_one8 D) ?_;intro w6 hw6))
     have hr6:w6.heap[w.heap.size]?=some (.cells (U8 D).toArray 42 (0,0)):=by rw[hw6.out];exact setRow_heap _ _ _ _ _ _ HRES2.out
     refine bodyPost_ret (results_cell_row Tryz.results95 _ w6 w.heap.size 42 _ (0,0) _ rfl hr6 Tryz.underlying42 rfl HIN.out) rfl ⟨by rw[HDG.out], ?_⟩
     exact hbf.trans (below_row hw6.out (Nat.le_refl _))
end Go.Proofs.YtcnglbliidjnfaaGreatDoor
end
section
namespace Go.Proofs.YtcnglbliidjnfaaGreatDoor
set_option maxRecDepth 100000
set_option linter.unusedVariables false
open Go.ChangeShapes Go.WideShapes Go.ChangeAt Go.RowKit
section
variable {H:Type} {enc:TypeId × Value→H} {P:Program}
end
theorem sum_arr (l:List Nat) (FD:Array Value) (hF:Hid (FD=(U8 (digestN l)).toArray)) (n:Nat) (hn:n=l.length) (A:Option Addr) (c:Nat) (w:World) (hT:Tabs w) (hA:Rd w w.heap.size A (U8 l)) (hnil:A=none→c=0) (hb: ∀x∈l,x<256) (hl:n≤5000):
  Calls Tryz.prog 93 #[.slice A n c] w fun e w'=>e= .returned (.agg FD)∧Below w.heap.size w w':=by
 rw[hF.out]
 exact sum_len l n hn A c w hT hA hnil hb hl
theorem refsum_arr (l:List Nat) (FD:Array Value) (hF:Hid (FD=(U8 (digestN l)).toArray)) (n:Nat) (hn:n=l.length) (A:Option Addr) (c:Nat) (w:World) (hA:Rd w w.heap.size A (U8 l)) (hnil:A=none→c=0) (hb: ∀x∈l,x<256) (hl:n≤5000):
  Calls Tryz.prog 95 #[.slice A n c] w fun e w'=>e= .returned (.agg FD)∧Below w.heap.size w w':=by
 rw[hF.out]
 subst hn
 exact refsum_ok l A c w hA hnil hb hl
end Go.Proofs.YtcnglbliidjnfaaGreatDoor
end
section
namespace Go.Proofs.YtcnglbliidjnfaaGreatDoor
set_option maxRecDepth 100000
set_option linter.unusedVariables false
open Go.ChangeShapes Go.WideShapes Go.ChangeAt Go.RowKit
theorem splice_b64 (l:List Nat) (h:l.length≤64):splice b64.toList 0 (U8 l)=U8 (l++List.replicate (64 - l.length) 0):=by
 have e:b64.toList=U8 (List.replicate 64 0):=rfl
 unfold splice
 rw[e,List.take_zero,List.nil_append,Nat.zero_add,U8_length,U8_append,U8_drop,List.drop_replicate]
theorem two_made_set {w w':World} {ca cb cd:Array Value} {ta tb:TypeId} (h:w'=((w.alloc (.cells ca ta)).alloc (.cells cb tb)).setRow (w.heap.size+1) cd):
  w'.heap.size=w.heap.size+1+1∧w'.heap[w.heap.size]?=some (.cells ca ta (0,0))∧w'.heap[w.heap.size+1]?=some (.cells cd tb (0,0))∧Below w.heap.size w w':=by
 have h2:((w.alloc (.cells ca ta)).alloc (.cells cb tb)).heap[w.heap.size+1]?=some (.cells cb tb (0,0)):=heap_alloc2_new _ _ _
 subst h
 refine⟨by simp, ?_,setRow_heap _ _ _ _ _ _ h2, ?_⟩
 ·rw[setRow_other _ _ _ _ (by omega)];exact heap_alloc2_old _ _ _
 ·exact below_setRow (((Below.refl _ _).alloc (Nat.le_refl _) _).alloc (by simp) _) (by omega) _
theorem rd_cells {w:World} {A:Option Addr} {l:List Nat} (hA:Rd w w.heap.size A (U8 l)) (h:0<(U8 l).length): ∃ad,A=some ad∧ ∀j v,(U8 l)[j]?=some v→w.cell? (ad.add j)=some v:=by
 obtain⟨ad,he,_,_⟩:=hA 0 _ (List.getElem?_eq_getElem h)
 refine⟨ad,he,fun j v hv=> ?_⟩
 obtain⟨ad',he',_,hc⟩:=hA j v hv
 rw[he]at he'
 cases he'
 exact hc
set_option maxRecDepth 100000 in
set_option maxHeartbeats 800000 in
theorem macblock_short (l:List Nat) (n:Nat) (hn:n=l.length) (A:Option Addr) (c:Nat) (w:World) (hA:Rd w w.heap.size A (U8 l)) (hnil:A=none→c=0) (h:n≤64) (F:Array Value) (hF:F=(U8 (blockM l)).toArray):
  Calls Tryz.prog 90 #[.slice A n c] w fun e w'=>e= .returned (.agg F)∧Below w.heap.size w w':=by
 have hkey:keyN l=l:=by unfold keyN;rw[if_neg (by omega)]
 have hsp:(splice b64.toList 0 (U8 l)).toArray=F:=by rw[splice_b64 l (by omega),hF];unfold blockM;rw[hkey]
 have hsz:F.size=64:=by rw[hF];simp[U8,length_blockM]
 have hin:(Tryz.prog.info? 112).map (·.size)=some F.size:=by rw[hsz];exact info64
 have hone:F.all (·.oneCell')=true:=by rw[hF];exact all_one8 _
 have hmin:(U8 l).length=Nat.min n 64:=by rw[U8_length, ←hn];exact(Nat.min_eq_left h).symm
 have hfit:0+(U8 l).length≤b64.toList.length:=by rw[U8_length, ←hn];show 0+n≤64;omega
 have HA:=Lib.hid hA
 have HNIL:=Lib.hid hnil
 have HSP:=Lib.hid hsp
 have HSZ:=Lib.hid hsz
 have HIN:=Lib.hid hin
 have HONE:=Lib.hid hone
 have HMIN:=Lib.hid hmin
 have HFIT:=Lib.hid hfit
 clear hA hnil hsp hsz hin hone hkey hF hmin hfit hn
 go_enter Tryz.func90, Tryz.ntmps90
 go_wp2_with (first
  |((with_reducible refine at_store 3 ?_);refine wpList_store_named (o:=⟨none, .store 112 (.tmp 3) (.tmp 5),_,_,_,_⟩) rfl 112 (.tmp 3) (.tmp 5) rfl (w.heap.size+1) b64 rfl rfl 112 b64 (heap_alloc2_new _ _ _) info64 rfl (all_one8 (List.replicate 64 0)) ?_;intro w0 hw0)
  |((with_reducible refine at_calls 14 ?_);refine wpList_copy_splice (o:=⟨some 14,_,_,_,_,_⟩) rfl (.tmp 12) (.tmp 13) 30 30 rfl 5 Tryz.underlying30 sizeU8 (some ⟨w.heap.size+1,0,none⟩) A 64 64 n c rfl rfl (w.heap.size+1) 0 b64.toList 112 (two_made_set hw0.out).2.2.1 (U8 l) HMIN.out (fun hp=>⟨rfl,rd_cells (HA.out.next (two_made_set hw0.out).2.2.2) hp⟩) HFIT.out (U8_one l) (w.heap.size+1) w0 (Below.refl _ _) (Nat.le_refl _) ?_;intro w1 hw1 hb1;have hw1':Hid (w1.heap[w.heap.size+1]?=some (.cells F 112 (0,0))):=Lib.hid (HSP.out▸hw1.out))
  |((with_reducible refine at_load 15 ?_);refine wpList_load_row (o:=⟨some 15, .load 112 (.tmp 3),_,_,_,_⟩) rfl 112 (.tmp 3) rfl (w.heap.size+1) rfl 112 F (0,0) _ hw1'.out Tryz.underlying112 rfl HIN.out ?_)
  |((with_reducible refine at_store 2 ?_);refine wpList_store_named (o:=⟨none, .store 112 (.tmp 2) (.tmp 15),_,_,_,_⟩) rfl 112 (.tmp 2) (.tmp 15) rfl w.heap.size F rfl rfl 112 b64 ((hb1.block _ (by omega)).trans (two_made_set hw0.out).2.1) HIN.out HSZ.out.symm HONE.out ?_;intro w2 hw2))
 have hr2:w2.heap[w.heap.size]?=some (.cells F 112 (0,0)):=by
  rw[hw2.out];exact setRow_heap _ _ _ _ _ _ ((hb1.block _ (by omega)).trans (two_made_set hw0.out).2.1)
 refine bodyPost_ret (results_cell_row Tryz.results90 _ w2 w.heap.size 112 _ (0,0) _ rfl hr2 Tryz.underlying112 rfl HIN.out) rfl ⟨rfl, ?_⟩
 exact((two_made_set hw0.out).2.2.2.trans (hb1.mono (by omega))).trans (below_row hw2.out (Nat.le_refl _))
theorem mac_facts {w w0 w1 w2:World} {D:List Nat} {FD:Array Value} {t t':TypeId} (hs0:w0.heap.size=w.heap.size+1+1) (hr0:w0.heap[w.heap.size]?=some (.cells b64 t (0,0))) (hv0:w0.heap[w.heap.size+1]?=some (.cells b64 t (0,0))) (hb0:Below w.heap.size w w0) (hb1:Below w0.heap.size w0 w1)
  (h:w2=(w1.alloc (.cells b32 t')).setRow w1.heap.size FD) (hFD:FD=(U8 D).toArray):
  Rd w2 w2.heap.size (some ⟨w1.heap.size,0,none⟩) (U8 D)∧w2.heap[w.heap.size+1]?=some (.cells b64 t (0,0))∧w2.heap[w.heap.size]?=some (.cells b64 t (0,0))∧Below w.heap.size w w2:=by
 obtain⟨hs2,hr2,hb2⟩:=row_made h
 have hs1:=hb1.size
 refine⟨?_,(hb2.block (w.heap.size+1) (by omega)).trans ((hb1.block _ (by omega)).trans hv0),(hb2.block w.heap.size (by omega)).trans ((hb1.block _ (by omega)).trans hr0),(hb0.trans (hb1.mono (by omega))).trans (hb2.mono (by omega))⟩
 intro k u hu
 refine⟨_,rfl,by show w1.heap.size<_;omega, ?_⟩
 rw[at_add,cell_of_row w2 _ k _ _ (0,0) hr2,hFD]
 simpa using hu
set_option maxRecDepth 100000 in
set_option maxHeartbeats 800000 in
theorem macblock_long (l:List Nat) (n:Nat) (hn:n=l.length) (A:Option Addr) (c:Nat) (w:World) (hT:Tabs w) (hA:Rd w w.heap.size A (U8 l)) (hb: ∀x∈l,x<256) (hnil:A=none→c=0) (h:64<n) (h5:n≤5000) (F:Array Value) (hF:F=(U8 (blockM l)).toArray):
  Calls Tryz.prog 90 #[.slice A n c] w fun e w'=>e= .returned (.agg F)∧Below w.heap.size w w':=by
 obtain⟨D,hD⟩: ∃D,D=digestN l:=⟨_,rfl⟩
 obtain⟨FD,hFD⟩: ∃FD:Array Value,FD=(U8 (digestN l)).toArray:=⟨_,rfl⟩
 have hDl:D.length=32:=by rw[hD,length_dig]
 have hFD':FD=(U8 D).toArray:=by rw[hFD,hD]
 have hkey:keyN l=D:=by unfold keyN;rw[if_pos (by omega),hD]
 have hsp:(splice b64.toList 0 (U8 D)).toArray=F:=by rw[splice_b64 D (by omega),hF];unfold blockM;rw[hkey]
 have hsz:F.size=64:=by rw[hF];simp[U8,length_blockM]
 have hin:(Tryz.prog.info? 112).map (·.size)=some F.size:=by rw[hsz];exact info64
 have hone:F.all (·.oneCell')=true:=by rw[hF];exact all_one8 _
 have hszD:FD.size=32:=by rw[hFD'];simp[U8,hDl]
 have hinD:(Tryz.prog.info? 42).map (·.size)=some FD.size:=by rw[hszD];exact info32
 have honeD:FD.all (·.oneCell')=true:=by rw[hFD'];exact all_one8 _
 have hmin:(U8 D).length=Nat.min 32 64:=by rw[U8_length,hDl];rfl
 have hfit:0+(U8 D).length≤b64.toList.length:=by rw[U8_length,hDl];show 0+32≤64;omega
 have HA:=Lib.hid hA
 have HNIL:=Lib.hid hnil
 have HSP:=Lib.hid hsp
 have HSZ:=Lib.hid hsz
 have HIN:=Lib.hid hin
 have HONE:=Lib.hid hone
 have HSZD:=Lib.hid hszD
 have HIND:=Lib.hid hinD
 have HONED:=Lib.hid honeD
 have HMIN:=Lib.hid hmin
 have HFIT:=Lib.hid hfit
 have HFD:=Lib.hid hFD
 have HFD':=Lib.hid hFD'
 have HN:=Lib.hid hn
 have HT:=Lib.hid hT
 have HB:=Lib.hid hb
 clear hA hnil hsp hsz hin hone hkey hF hmin hfit hszD hinD honeD hFD hFD' hn hT hb hD hDl
 go_enter Tryz.func90, Tryz.ntmps90
 go_wp2_with ((with_reducible refine at_store 3 ?_);refine wpList_store_named (o:=⟨none, .store 112 (.tmp 3) (.tmp 5),_,_,_,_⟩) rfl 112 (.tmp 3) (.tmp 5) rfl (w.heap.size+1) b64 rfl rfl 112 b64 (heap_alloc2_new _ _ _) info64 rfl (all_one8 (List.replicate 64 0)) ?_;intro w0 hw0)
 obtain⟨hs0,hr0,hv0,hb0⟩:=two_made_set hw0.out
 have HR0:=Lib.hid hr0
 have HV0:=Lib.hid hv0
 clear hr0 hv0 hw0
 refine(sum_arr l FD HFD n HN.out A c w0 (HT.out.next hb0) (HA.out.next hb0) HNIL.out HB.out h5).mono ?_
 rintro e w1 ⟨rfl,hb1⟩
 have hs1:=hb1.size
 go_wp2_with (first
  |((with_reducible refine at_store 4 ?_);refine wpList_store_named (o:=⟨none, .store 42 (.tmp 4) (.tmp 10),_,_,_,_⟩) rfl 42 (.tmp 4) (.tmp 10) rfl w1.heap.size FD rfl rfl 42 b32 (heap_alloc_new w1 _) HIND.out HSZD.out.symm HONED.out ?_;intro w2 hw2;have HFX:=Lib.hid (mac_facts hs0 HR0.out HV0.out hb0 hb1 hw2.out HFD'.out))
  |((with_reducible refine at_calls 14 ?_);refine wpList_copy_splice (o:=⟨some 14,_,_,_,_,_⟩) rfl (.tmp 12) (.tmp 13) 30 30 rfl 5 Tryz.underlying30 sizeU8 (some ⟨w.heap.size+1,0,none⟩) (some ⟨w1.heap.size,0,none⟩) 64 64 32 32 rfl rfl (w.heap.size+1) 0 b64.toList 112 HFX.out.2.1 (U8 D) HMIN.out (fun hp=>⟨rfl,rd_cells HFX.out.1 hp⟩) HFIT.out (U8_one D) (w.heap.size+1) w2 (Below.refl _ _) (Nat.le_refl _) ?_;intro w3 hw3 hb3;have hw3':Hid (w3.heap[w.heap.size+1]?=some (.cells F 112 (0,0))):=Lib.hid (HSP.out▸hw3.out))
  |((with_reducible refine at_load 15 ?_);refine wpList_load_row (o:=⟨some 15, .load 112 (.tmp 3),_,_,_,_⟩) rfl 112 (.tmp 3) rfl (w.heap.size+1) rfl 112 F (0,0) _ hw3'.out Tryz.underlying112 rfl HIN.out ?_)
  |((with_reducible refine at_store 2 ?_);refine wpList_store_named (o:=⟨none, .store 112 (.tmp 2) (.tmp 15),_,_,_,_⟩) rfl 112 (.tmp 2) (.tmp 15) rfl w.heap.size F rfl rfl 112 b64 ((hb3.block _ (by omega)).trans HFX.out.2.2.1) HIN.out HSZ.out.symm HONE.out ?_;intro w4 hw4))
 have hr4:w4.heap[w.heap.size]?=some (.cells F 112 (0,0)):=by
  rw[hw4.out];exact setRow_heap _ _ _ _ _ _ ((hb3.block _ (by omega)).trans HFX.out.2.2.1)
 refine bodyPost_ret (results_cell_row Tryz.results90 _ w4 w.heap.size 112 _ (0,0) _ rfl hr4 Tryz.underlying112 rfl HIN.out) rfl ⟨rfl, ?_⟩
 exact(HFX.out.2.2.2.trans (hb3.mono (by omega))).trans (below_row hw4.out (Nat.le_refl _))
theorem macblock_any (l:List Nat) (n:Nat) (hn:n=l.length) (A:Option Addr) (c:Nat) (w:World) (hT:Tabs w) (hA:Rd w w.heap.size A (U8 l)) (hb: ∀x∈l,x<256) (hnil:A=none→c=0) (h5:n≤5000) (F:Array Value) (hF:F=(U8 (blockM l)).toArray):
  Calls Tryz.prog 90 #[.slice A n c] w fun e w'=>e= .returned (.agg F)∧Below w.heap.size w w':=by
 by_cases h:64<n
 ·exact macblock_long l n hn A c w hT hA hb hnil h h5 F hF
 ·exact macblock_short l n hn A c w hA hnil (by omega) F hF
end Go.Proofs.YtcnglbliidjnfaaGreatDoor
end
