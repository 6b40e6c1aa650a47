import Derived.Test.YtmdbfogjfbbpjaaGreatDoorShaPSum
import Derived.Test.YtmdbfogjfbbpjaaGreatDoorRingPFind
import Derived.Test.YtmdbfogjfbbpjaaGreatDoorMem
import Derived.Test.YtmdbfogjfbbpjaaGreatDoorLayPFields
set_option maxHeartbeats 1600000
set_option maxRecDepth 100000
set_option linter.unusedVariables false
section
namespace Go.Proofs.YtmdbfogjfbbpjaaGreatDoor
set_option maxRecDepth 100000
open Go.ChangeShapes Go.WideShapes Go.ChangeAt Go.RowKit
theorem qZ (l:List Nat) (n:Nat) (hn:n=l.length) (A:Option Addr) (c:Nat) (w:World) (hA:Rd w w.heap.size A (U8 l)) (hnil:A=none→c=0) (hl:n≤5000):
  Calls Tryz.prog 205 #[.slice A n c] w fun e w'=> ∃v,e= .returned v∧w'.ownsRow w.heap.size 5 1 v (padN l).length (U8 (padN l))∧Below w.heap.size w w':=by
 subst hn
 exact xC l A c w hA hnil hl
theorem gT (l:List Nat) (n:Nat) (hn:l.length=n) (A:Option Addr) (c:Nat) (w:World) (hA:Rd w w.heap.size A (U8 l)) (hb: ∀x∈l,x<256) (hl:n≤4000) (h4:n % 4=0):
  Calls Tryz.prog 207 #[.slice A n c] w fun e w'=> ∃v,e= .returned (.tuple #[v, .int .i64 0])∧w'.ownsRow w.heap.size 192 1 v (n / 4) (U32 (wordsOf l))∧Below w.heap.size w w':=by
 subst hn
 exact iD l A c w hA hb hl h4
def upZ (W:List Nat) (n k:Nat):List Nat:=W.take k++List.replicate (n - k) 0
theorem mQ (W:List Nat) (n:Nat):upZ W n 0=List.replicate n 0:=by simp[upZ]
theorem tO (W:List Nat) (n:Nat) (h:W.length=n):upZ W n n=W:=by simp[upZ, ←h]
theorem Yr (W:List Nat) (n k:Nat) (h:W.length=n) (hk:k≤n):(upZ W n k).length=n:=by simp[upZ];omega
theorem tP (W:List Nat) (n k:Nat) (h:W.length=n) (hk:k<n):(upZ W n k).set k (W.getD k 0)=upZ W n (k+1):=by
 unfold upZ
 have hl:(W.take k).length=k:=by simp;omega
 have hkW:k<W.length:=by omega
 have e:W.take (k+1)=W.take k++ [W[k]]:=List.take_succ_eq_append_getElem hkW
 have eg:W.getD k 0=W[k]:=by rw[List.getD_eq_getElem?_getD,List.getElem?_eq_getElem hkW];rfl
 rw[List.set_append_right _ _ (by rw[hl];exact Nat.le_refl _),hl,Nat.sub_self,show n - k=(n - (k+1))+1 by omega,List.replicate_succ,List.set_cons_zero,e,eg,List.append_assoc,List.singleton_append]
theorem yL (l:List Nat) (A:Option Addr) (c:Nat) (w:World) (hA:Rd w w.heap.size A (U8 l)) (hnil:A=none→c=0) (hb: ∀x∈l,x<256) (hl:l.length≤5000):
  Calls Tryz.prog 167 #[.slice A l.length c] w fun e w'=>e= .returned (.agg (U8 (digestN l)).toArray)∧Below w.heap.size w w':=by
 obtain⟨n0,hn0⟩: ∃n0,n0=l.length:=⟨_,rfl⟩
 have HN0:=Lib.hid hn0
 have HNIL:=Lib.hid hnil
 have HA:=Lib.hid hA
 have HB:=Lib.hid hb
 rw[←hn0]at hl⊢
 clear hn0 hnil hA hb
 go_enter Tryz.func167, Tryz.ntmps167
 go_wp2_with fail
 refine(qZ l n0 HN0.out A c _ ((HA.out.alloc (Nat.le_refl _) _).more (by simp)) HNIL.out hl).mono ?_
 rintro e w1 ⟨v1,rfl,hown1,hb1⟩
 rw[Il]at hown1
 have hm0:=kB l
 have hm1:kA l≤80:=by have:=Il l;rw[Fb, ←HN0.out]at this;unfold Cg at this;omega
 obtain⟨m,hm⟩: ∃m,m=kA l:=⟨_,rfl⟩
 rw[←hm]at hown1 hm0 hm1
 obtain⟨g,cap,rfl,hgb⟩:=hown1.form (by omega)
 have hcap:64*m≤cap∧cap≤maxLen:=by
  rcases hown1.2 with⟨h,_⟩|⟨g',cap',cur,h,_,_,h1,h2,_⟩
  ·cases h
  ·simp at h;obtain⟨_,rfl⟩:=h;exact⟨h1,h2⟩
 obtain⟨hcap1,hcap2⟩:=hcap
 unfold maxLen at hcap2
 have hs1:w.heap.size+1≤w1.heap.size:=by have:=hb1.size;simpa using this
 have hr1:w1.heap[w.heap.size]?=some (.cells b32 83 (0,0)):=(hb1.block _ (by simp)).trans (heap_alloc_new w _)
 have hbw:Below w.heap.size w w1:=((Below.refl _ _).alloc (Nat.le_refl _) _).trans (hb1.mono (by simp))
 have hgl:g<w1.heap.size:=by
  obtain⟨ad,he,hlt,_⟩:=(Rd.of_own hown1) 0 _ (Co (padN l) 0 (by rw[Il, ←hm];omega))
  cases he;exact hlt
 have HM:=Lib.hid hm
 have HO1:=Lib.hid hown1
 have HR1:=Lib.hid hr1
 have HBW:=Lib.hid hbw
 have HPB:=Lib.hid (sV l HB.out)
 clear hown1 hr1 hbw hb1 hm
 go_wp2_with fail
 refine(uV _).mono ?_
 rintro e w2 ⟨rfl,hb2⟩
 rw[St.val_eq]
 have HB2:=Lib.hid hb2
 clear hb2
 go_wp2_with ((with_reducible refine Ac 4 ?_);refine Ad (o:=⟨none, .store 193 (.tmp 4) (.tmp 15),_,_,_,_⟩) rfl 193 (.tmp 4) (.tmp 15) rfl w2.heap.size (U32 Cr.list).toArray rfl rfl 193 z8 (heap_alloc_new w2 _) Kf rfl (Ds _) ?_;intro w3 hw3)
 obtain⟨hs3,hv3,hb3⟩:=Bg hw3.out
 have hs2:=HB2.out.size
 have hb13:Below w1.heap.size w1 w3:=HB2.out.trans (hb3.mono hs2)
 have HO3:=Lib.hid (Aj HO1.out hb13)
 have HR3:=Lib.hid ((hb13.block w.heap.size (by omega)).trans HR1.out)
 have HV3:=Lib.hid hv3
 have hg3:g<w2.heap.size:=by omega
 have hb03:Below w.heap.size w w3:=HBW.out.trans (hb13.mono (by omega))
 clear hv3 hb3 hb13 hw3
 go_loopw [5] (fun i wr=> ∃j o:Nat,Hid (o=64*j)∧j≤m∧i= .int .i64 o∧wr.heap[w2.heap.size]?=some (.cells (U32 (Eo Cr (padN l) j).list).toArray 193 (0,0))∧Below w2.heap.size w3 wr) (fun i _=>64*m - (intOf i).toNat)
 case atStart=>exact⟨0,0,Lib.hid rfl,Nat.zero_le _,rfl,HV3.out,Below.refl _ _⟩
 case round=>
  obtain⟨j,o,HOJ,hj,rfl,hv,hbel⟩:=hrel
  by_cases hlt:j<m
  ·have ho1:o+64≤64*m:=by have:=HOJ.out;omega
   have hgw:g<wr.heap.size:=by have:=hbel.size;omega
   have hrd0:Rd wr wr.heap.size (some ⟨g,0,none⟩) (U8 (padN l)):=by
    intro k u hu
    obtain⟨ad,he,_,hc⟩:=(Rd.of_own HO3.out) k u hu
    cases he
    refine⟨_,rfl,hgw, ?_⟩
    rw[Bu]at hc⊢
    exact(hbel.cell (p:=⟨g,k,none⟩) hg3).trans hc
   have hrd1:=hrd0.from (k:=o)
   rw[eU]at hrd1
   have hrd:Rd wr wr.heap.size (some ⟨g,o,none⟩) (U8 (((padN l).drop o).take 64)):=by
    intro k u hu
    refine hrd1 k u ?_
    simp only[U8,List.map_take,List.getElem?_take]at hu⊢
    split at hu
    ·exact hu
    ·cases hu
   have hlq:(((padN l).drop o).take 64).length=64:=by rw[List.length_take,List.length_drop,Il, ←HM.out];omega
   have hbq: ∀x∈((padN l).drop o).take 64,x<256:=fun x hx=>HPB.out x (List.mem_of_mem_drop (List.mem_of_mem_take hx))
   have hnext:Eo Cr (padN l) (j+1)=Fm (Eo Cr (padN l) j) (wordsOf (((padN l).drop o).take 64)):=by rw[HOJ.out];rfl
   have hok:=Lo Nx (padN l) j
   obtain⟨W,hWE⟩: ∃W,W=wordsOf (((padN l).drop o).take 64):=⟨_,rfl⟩
   have hW1:W.length=16:=by rw[hWE,Ji,hlq]
   have hW2: ∀x∈W,x<4294967296:=by rw[hWE];exact Xx _ hbq
   have hwc:=gT (((padN l).drop o).take 64) 64 hlq (some ⟨g,o,none⟩) (cap - o) wr hrd hbq (by omega) (by omega)
   rw[←hWE]at hnext hwc
   obtain⟨V,hVE⟩: ∃V,V=Eo Cr (padN l) j:=⟨_,rfl⟩
   rw[←hVE]at hv hnext hok
   have HNX:=Lib.hid hnext
   have HWC:=Lib.hid hwc
   have HOK:=Lib.hid hok
   have HW1:=Lib.hid hW1
   have HW2:=Lib.hid hW2
   have HV:=Lib.hid hv
   clear hrd0 hrd1 hrd hlq hbq hnext hok hW1 hW2 hWE hwc hv hVE
   go_wp2_with fail
   refine HWC.out.mono ?_
   rintro e w4 ⟨v4,rfl,hown4,hb4⟩
   obtain⟨g4,cap4,rfl,hgb4⟩:=hown4.form (by omega)
   have hs4:=hb4.size
   have HO4:=Lib.hid hown4
   have HB4:=Lib.hid hb4
   clear hown4 hb4
   go_wp2_with ((with_reducible refine Ac 8 ?_);refine Ad (o:=⟨none, .store 195 (.tmp 8) (.tmp 31),_,_,_,_⟩) rfl 195 (.tmp 8) (.tmp 31) rfl w4.heap.size z16 rfl rfl 195 z16 (heap_alloc_new w4 _) fQ rfl (Ds (List.replicate 16 0)) ?_;intro w5 hw5)
   obtain⟨hs5,hv5,hb5⟩:=Bg hw5.out
   have HV5:=Lib.hid hv5
   have HO5:=Lib.hid (Aj HO4.out hb5)
   clear hw5 hv5
   have hz:(.cells z16 195 (0,0):Obj)= .cells (U32 (upZ W 16 0)).toArray 195 (0,0):=by rw[mQ,AeQ]
   obtain⟨wo,rfl⟩: ∃wo:World,wo=wr:=⟨_,rfl⟩
   go_loopw [9] (fun i wr=> ∃k:Nat,k≤16∧i= .int .i64 k∧wr.heap[w4.heap.size]?=some (.cells (U32 (upZ W 16 k)).toArray 195 (0,0))∧Below w4.heap.size w5 wr) (fun i _=>16 - (intOf i).toNat)
   case atStart=>exact⟨0,Nat.zero_le _,rfl,by rw[HV5.out,hz],Below.refl _ _⟩
   case round=>
    clear hz
    obtain⟨k,hk,rfl,hw,hbk⟩:=hrel
    by_cases hk16:k<16
    ·have hcs:wr.cell? ⟨g4,k,none⟩=some (.int .u32 ((W.getD k 0:Nat):Int)):=by
      have hg4:g4<w4.heap.size:=by
       obtain⟨ad,he,hlt4,_⟩:=(Rd.of_own HO4.out) 0 _ (Dr W 0 (by rw[HW1.out];omega))
       cases he;exact hlt4
      exact(hbk.cell (p:=⟨g4,k,none⟩) hg4).trans (Fz HO5.out k (by omega))
     have hcur:wr.cell? ⟨w4.heap.size,k,none⟩=some (.int .u32 (((upZ W 16 k).getD k 0:Nat):Int)):=by
      rw[cell_of_row wr _ k _ _ (0,0) hw,List.getElem?_toArray,Dr _ k (by rw[Yr W 16 k HW1.out hk];exact hk16)]
     have hfz:=frozen_of_row wr _ k _ _ hw
     have hset:=heap_setCell_same wr _ k _ 195 (.int .u32 ((W.getD k 0:Nat):Int)) hw
     have hst:(U32 (upZ W 16 k)).toArray.setIfInBounds k (.int .u32 ((W.getD k 0:Nat):Int))=(U32 (upZ W 16 (k+1))).toArray:=by
      rw[List.setIfInBounds_toArray, ←tP W 16 k HW1.out hk16,U32,U32,List.map_set]
     rw[hst]at hset
     have HSET:=Lib.hid hset
     clear hset hst hw
     generalize W.getD k 0=y at*
     generalize (upZ W 16 k).getD k 0=z at*
     have bk0:(0:Int)≤(k:Int):=Int.natCast_nonneg _
     have bk1:(k:Int)<16:=by omega
     go_wp2
     go_roundw
     case rel=>exact⟨k+1,by omega,by go_num,HSET.out,hbk.setCell (Nat.le_refl _) _⟩
     case measure=>simp[intOf];omega
    ·have k16:k=16:=by omega
     subst k16
     rw[tO W 16 HW1.out]at hw
     have hwv:wr.heap[w2.heap.size]?=some (.cells (U32 V.list).toArray 193 (0,0)):=(hbk.block _ (by have:=hbel.size;omega)).trans ((hb5.block _ (by have:=hbel.size;omega)).trans ((HB4.out.block _ (by have:=hbel.size;omega)).trans HV.out))
     have hin:(Tryz.prog.info? 195).map (·.size)=some (U32 W).toArray.size:=by rw[show(U32 W).toArray.size=16 by simp[U32,HW1.out]];exact fQ
     have HWW:=Lib.hid hw
     have HWV:=Lib.hid hwv
     have HIN:=Lib.hid hin
     clear hw hwv hin
     go_wp2_with (first
      |((with_reducible refine Dl 42 ?_);refine wpList_load_row (o:=⟨some 42, .load 193 (.tmp 4),_,_,_,_⟩) rfl 193 (.tmp 4) rfl w2.heap.size rfl 193 (U32 V.list).toArray (0,0) _ HWV.out Tryz.underlying193 rfl Kf ?_)
      |((with_reducible refine Dl 43 ?_);refine wpList_load_row (o:=⟨some 43, .load 195 (.tmp 8),_,_,_,_⟩) rfl 195 (.tmp 8) rfl w4.heap.size rfl 195 (U32 W).toArray (0,0) _ HWW.out Tryz.underlying195 rfl HIN.out ?_))
     refine(Zl V W wr HOK.out HW2.out HW1.out).mono ?_
     rintro e w6 ⟨rfl,hb6⟩
     obtain⟨R,hR⟩: ∃R,R=Fm V W:=⟨_,rfl⟩
     rw[←hR]
     have HRE:=Lib.hid hR
     have HV6:=Lib.hid ((hb6.block w2.heap.size (by have h7:=hbel.size;have h8:=hbk.size;omega)).trans HWV.out)
     have hbf:Below w2.heap.size w3 w6:=(((hbel.trans (HB4.out.mono (by have:=hbel.size;omega))).trans (hb5.mono (by have:=hbel.size;omega))).trans (hbk.mono (by have:=hbel.size;omega))).trans (hb6.mono (by have h7:=hbel.size;have h8:=hbk.size;omega))
     clear hR hb6
     go_wp2_with ((with_reducible refine Ac 4 ?_);refine Ad (o:=⟨none, .store 193 (.tmp 4) (.tmp 44),_,_,_,_⟩) rfl 193 (.tmp 4) (.tmp 44) rfl w2.heap.size (U32 R.list).toArray rfl rfl 193 (U32 V.list).toArray HV6.out Kf rfl (Ds _) ?_;intro w7 hw7)
     have hv7:w7.heap[w2.heap.size]?=some (.cells (U32 (Eo Cr (padN l) (j+1)).list).toArray 193 (0,0)):=by
      rw[hw7.out,HNX.out, ←HRE.out];exact setRow_heap _ _ _ _ _ _ HV6.out
     have hb7:Below w2.heap.size w3 w7:=hbf.trans (An hw7.out (Nat.le_refl _))
     clear hw7 hbf hbk
     go_roundw
     case rel=>exact⟨j+1,o+64,Lib.hid (by rw[HOJ.out];omega),by omega,by go_num,hv7,hb7⟩
     case measure=>simp[intOf];omega
  ·have hjm:j=m:=by omega
   subst hjm
   obtain⟨V,hVE⟩: ∃V,V=Eo Cr (padN l) j:=⟨_,rfl⟩
   have hok:V.ok:=by rw[hVE];exact Lo Nx _ _
   rw[←hVE]at hv
   have hdg:digestN l=bytesOf V.list:=by rw[hVE,HM.out];rfl
   obtain⟨D,hD⟩: ∃D,D=bytesOf V.list:=⟨_,rfl⟩
   have hDl:D.length=32:=by rw[hD,Fd];rfl
   have ho2:64*j≤o:=by have:=HOJ.out;omega
   have hsr:w2.heap.size<wr.heap.size:=by have:=hbel.size;omega
   have hres:wr.heap[w.heap.size]?=some (.cells b32 83 (0,0)):=(hbel.block _ (by omega)).trans HR3.out
   have hbb:Below w.heap.size w wr:=hb03.trans (hbel.mono (by omega))
   have HV:=Lib.hid hv
   have HOK:=Lib.hid hok
   have HDG:=Lib.hid (hdg.trans hD.symm)
   have HD:=Lib.hid hD
   have HDL:=Lib.hid hDl
   have HRES:=Lib.hid hres
   clear hv hVE hok hdg hres hbel hD hDl
   go_wp2_with ((with_reducible refine Ac 10 ?_);refine Al (heap_alloc_new wr _) Na (Bv (List.replicate 32 0)) ?_;intro w4 hw4)
   obtain⟨hs4,hv4,hb4⟩:=Bg hw4.out
   have hrd:Rd w4 w4.heap.size (some ⟨w2.heap.size,0,none⟩) (U32 V.list):=by
    intro k u hu
    refine⟨_,rfl,by show w2.heap.size<_;omega, ?_⟩
    rw[Bu,cell_of_row w4 _ k _ _ (0,0) ((hb4.block _ hsr).trans HV.out)]
    simpa using hu
   have hrb:=iE V.list (some ⟨w2.heap.size,0,none⟩) 8 w4 hrd (St.list_lt HOK.out) (by show 8≤1000;omega)
   rw[←HD.out,show 4*V.list.length=32 from rfl,show V.list.length=8 from rfl]at hrb
   refine hrb.mono ?_
   clear hrb hrd
   rintro e w5 ⟨v5,rfl,hown5,hb5⟩
   obtain⟨g5,cap5,rfl,hgb5⟩:=hown5.form (by omega)
   have hg5:g5<w5.heap.size:=by
    obtain⟨ad,he,hlt5,_⟩:=(Rd.of_own hown5) 0 _ (Co D 0 (by rw[HDL.out];omega))
    cases he;exact hlt5
   have hge:w4.heap.size≤g5:=Ak hown5 rfl
   have hs5:=hb5.size
   have hv5:w5.heap[wr.heap.size]?=some (.cells (U8 (upZ D 32 0)).toArray 83 (0,0)):=by rw[hb5.block _ (by omega),hv4,mQ, ←AeR]
   have hr5:w5.heap[w.heap.size]?=some (.cells b32 83 (0,0)):=(hb5.block _ (by omega)).trans ((hb4.block _ (by omega)).trans HRES.out)
   have hbw5:Below w.heap.size w w5:=(hbb.trans (hb4.mono (by omega))).trans (hb5.mono (by omega))
   have HO5:=Lib.hid hown5
   have HV5:=Lib.hid hv5
   have HR5:=Lib.hid hr5
   obtain⟨wo,rfl⟩: ∃wo:World,wo=wr:=⟨_,rfl⟩
   clear hown5 hv5 hr5 hv4 hb4 hb5 hw4
   go_wp2_with fail
   go_loopw [12] (fun i wr=> ∃k:Nat,k≤32∧i= .int .i64 k∧wr.heap[wo.heap.size]?=some (.cells (U8 (upZ D 32 k)).toArray 83 (0,0))∧Below wo.heap.size w5 wr∧wr.heap[g5]?=w5.heap[g5]?) (fun i _=>32 - (intOf i).toNat)
   case atStart=>exact⟨0,Nat.zero_le _,rfl,HV5.out,Below.refl _ _,rfl⟩
   case round=>
    obtain⟨k,hk,rfl,hw,hbk,hgk⟩:=hrel
    by_cases hk32:k<32
    ·have hcs:wr.cell? ⟨g5,k,none⟩=some (.int .u8 ((D.getD k 0:Nat):Int)):=by
      have hkD:k<D.length:=by rw[HDL.out];exact hk32
      have h1:=HO5.out.cellAt k (by omega)
      rw[Co D k hkD]at h1
      rw[List.getD_eq_getElem?_getD,List.getElem?_eq_getElem hkD]
      exact(World.cell?_of_block (w:=w5) (w':=wr) hgk).trans h1
     have hcur:wr.cell? ⟨wo.heap.size,k,none⟩=some (.int .u8 (((upZ D 32 k).getD k 0:Nat):Int)):=by
      have hkU:k<(upZ D 32 k).length:=by rw[Yr D 32 k HDL.out hk];exact hk32
      rw[cell_of_row wr _ k _ _ (0,0) hw,List.getElem?_toArray,Co _ k hkU,List.getD_eq_getElem?_getD,List.getElem?_eq_getElem hkU]
      rfl
     have hfz:=frozen_of_row wr _ k _ _ hw
     have hset:=heap_setCell_same wr _ k _ 83 (.int .u8 ((D.getD k 0:Nat):Int)) hw
     have hst:(U8 (upZ D 32 k)).toArray.setIfInBounds k (.int .u8 ((D.getD k 0:Nat):Int))=(U8 (upZ D 32 (k+1))).toArray:=by
      rw[List.setIfInBounds_toArray, ←tP D 32 k HDL.out hk32,U8,U8,List.map_set]
     rw[hst]at hset
     have HSET:=Lib.hid hset
     have HGK:=Lib.hid hgk
     clear hset hst hw hgk
     generalize D.getD k 0=y at*
     generalize (upZ D 32 k).getD k 0=z at*
     have bk0:(0:Int)≤(k:Int):=Int.natCast_nonneg _
     have bk1:(k:Int)<32:=by omega
     go_wp2
     go_roundw
     case rel=>exact⟨k+1,by omega,by go_num,HSET.out,hbk.setCell (Nat.le_refl _) _,(heap_setCell_other _ _ _ _ (by show g5≠wo.heap.size;omega)).trans HGK.out⟩
     case measure=>simp[intOf];omega
    ·have k32:k=32:=by omega
     subst k32
     rw[tO D 32 HDL.out]at hw
     have hsz:(U8 D).toArray.size=32:=by simp[U8,HDL.out]
     have hin:(Tryz.prog.info? 83).map (·.size)=some (U8 D).toArray.size:=by rw[hsz];exact Na
     have HRES2:=Lib.hid ((hbk.block w.heap.size (by omega)).trans HR5.out)
     have hbf:Below w.heap.size w wr:=hbw5.trans (hbk.mono (by omega))
     have HWW:=Lib.hid hw
     have HSZ:=Lib.hid hsz
     have HIN:=Lib.hid hin
     clear hw hsz hin hgk hbk
     go_wp2_with (first
      |((with_reducible refine Dl 58 ?_);refine wpList_load_row (o:=⟨some 58, .load 83 (.tmp 10),_,_,_,_⟩) rfl 83 (.tmp 10) rfl wo.heap.size rfl 83 (U8 D).toArray (0,0) _ HWW.out Tryz.underlying83 rfl HIN.out ?_)
      |((with_reducible refine Ac 2 ?_);refine Al HRES2.out HIN.out (Bv D) ?_ (hold:=HSZ.out.symm);intro w6 hw6))
     have hr6:w6.heap[w.heap.size]?=some (.cells (U8 D).toArray 83 (0,0)):=by rw[hw6.out];exact setRow_heap _ _ _ _ _ _ HRES2.out
     refine bodyPost_ret (results_cell_row Tryz.results167 _ w6 w.heap.size 83 _ (0,0) _ rfl hr6 Tryz.underlying83 rfl HIN.out) rfl ⟨by rw[HDG.out], ?_⟩
     exact hbf.trans (An hw6.out (Nat.le_refl _))
section
variable {H:Type} {enc:TypeId × Value→H} {P:Program}
end
theorem tQ (l:List Nat) (FD:Array Value) (hF:Hid (FD=(U8 (digestN l)).toArray)) (n:Nat) (hn:n=l.length) (A:Option Addr) (c:Nat) (w:World) (hT:Cx w) (hA:Rd w w.heap.size A (U8 l)) (hnil:A=none→c=0) (hb: ∀x∈l,x<256) (hl:n≤5000):
  Calls Tryz.prog 157 #[.slice A n c] w fun e w'=>e= .returned (.agg FD)∧Below w.heap.size w w':=by
 rw[hF.out]
 exact AcH l n hn A c w hT hA hnil hb hl
theorem Qf (l:List Nat) (FD:Array Value) (hF:Hid (FD=(U8 (digestN l)).toArray)) (n:Nat) (hn:n=l.length) (A:Option Addr) (c:Nat) (w:World) (hA:Rd w w.heap.size A (U8 l)) (hnil:A=none→c=0) (hb: ∀x∈l,x<256) (hl:n≤5000):
  Calls Tryz.prog 167 #[.slice A n c] w fun e w'=>e= .returned (.agg FD)∧Below w.heap.size w w':=by
 rw[hF.out]
 subst hn
 exact yL l A c w hA hnil hb hl
theorem Ys (l:List Nat) (h:l.length≤64):splice b64.toList 0 (U8 l)=U8 (l++List.replicate (64 - l.length) 0):=by
 have e:b64.toList=U8 (List.replicate 64 0):=rfl
 unfold splice
 rw[e,List.take_zero,List.nil_append,Nat.zero_add,Fj,Gg,eU,List.drop_replicate]
theorem Di {w w':World} {ca cb cd:Array Value} {ta tb:TypeId} (h:w'=((w.alloc (.cells ca ta)).alloc (.cells cb tb)).setRow (w.heap.size+1) cd):
  w'.heap.size=w.heap.size+1+1∧w'.heap[w.heap.size]?=some (.cells ca ta (0,0))∧w'.heap[w.heap.size+1]?=some (.cells cd tb (0,0))∧Below w.heap.size w w':=by
 have h2:((w.alloc (.cells ca ta)).alloc (.cells cb tb)).heap[w.heap.size+1]?=some (.cells cb tb (0,0)):=heap_alloc2_new _ _ _
 subst h
 refine⟨by simp, ?_,setRow_heap _ _ _ _ _ _ h2, ?_⟩
 ·rw[setRow_other _ _ _ _ (by omega)];exact heap_alloc2_old _ _ _
 ·exact below_setRow (((Below.refl _ _).alloc (Nat.le_refl _) _).alloc (by simp) _) (by omega) _
theorem mR {w:World} {A:Option Addr} {l:List Nat} (hA:Rd w w.heap.size A (U8 l)) (h:0<(U8 l).length): ∃ad,A=some ad∧ ∀j v,(U8 l)[j]?=some v→w.cell? (ad.add j)=some v:=by
 obtain⟨ad,he,_,_⟩:=hA 0 _ (List.getElem?_eq_getElem h)
 refine⟨ad,he,fun j v hv=> ?_⟩
 obtain⟨ad',he',_,hc⟩:=hA j v hv
 rw[he]at he'
 cases he'
 exact hc
theorem Yt (l:List Nat) (n:Nat) (hn:n=l.length) (A:Option Addr) (c:Nat) (w:World) (hA:Rd w w.heap.size A (U8 l)) (hnil:A=none→c=0) (h:n≤64) (F:Array Value) (hF:F=(U8 (blockM l)).toArray):
  Calls Tryz.prog 154 #[.slice A n c] w fun e w'=>e= .returned (.agg F)∧Below w.heap.size w w':=by
 have hkey:keyN l=l:=by unfold keyN;rw[if_neg (by omega)]
 have hsp:(splice b64.toList 0 (U8 l)).toArray=F:=by rw[Ys l (by omega),hF];unfold blockM;rw[hkey]
 have hsz:F.size=64:=by rw[hF];simp[U8,Ej]
 have hin:(Tryz.prog.info? 169).map (·.size)=some F.size:=by rw[hsz];exact Kd
 have hone:F.all (·.oneCell')=true:=by rw[hF];exact Bv _
 have hmin:(U8 l).length=Nat.min n 64:=by rw[Fj, ←hn];exact(Nat.min_eq_left h).symm
 have hfit:0+(U8 l).length≤b64.toList.length:=by rw[Fj, ←hn];show 0+n≤64;omega
 have HA:=Lib.hid hA
 have HNIL:=Lib.hid hnil
 have HSP:=Lib.hid hsp
 have HSZ:=Lib.hid hsz
 have HIN:=Lib.hid hin
 have HONE:=Lib.hid hone
 have HMIN:=Lib.hid hmin
 have HFIT:=Lib.hid hfit
 clear hA hnil hsp hsz hin hone hkey hF hmin hfit hn
 go_enter Tryz.func154, Tryz.ntmps154
 go_wp2_with (first
  |((with_reducible refine Ac 3 ?_);refine Ad (o:=⟨none, .store 169 (.tmp 3) (.tmp 5),_,_,_,_⟩) rfl 169 (.tmp 3) (.tmp 5) rfl (w.heap.size+1) b64 rfl rfl 169 b64 (heap_alloc2_new _ _ _) Kd rfl (Bv (List.replicate 64 0)) ?_;intro w0 hw0)
  |((with_reducible refine Xt 14 ?_);refine wpList_copy_splice (o:=⟨some 14,_,_,_,_,_⟩) rfl (.tmp 12) (.tmp 13) 23 23 rfl 5 Tryz.underlying23 pZ (some ⟨w.heap.size+1,0,none⟩) A 64 64 n c rfl rfl (w.heap.size+1) 0 b64.toList 169 (Di hw0.out).2.2.1 (U8 l) HMIN.out (fun hp=>⟨rfl,mR (HA.out.next (Di hw0.out).2.2.2) hp⟩) HFIT.out (Bd l) (w.heap.size+1) w0 (Below.refl _ _) (Nat.le_refl _) ?_;intro w1 hw1 hb1;have hw1':Hid (w1.heap[w.heap.size+1]?=some (.cells F 169 (0,0))):=Lib.hid (HSP.out▸hw1.out))
  |((with_reducible refine Dl 15 ?_);refine wpList_load_row (o:=⟨some 15, .load 169 (.tmp 3),_,_,_,_⟩) rfl 169 (.tmp 3) rfl (w.heap.size+1) rfl 169 F (0,0) _ hw1'.out Tryz.underlying169 rfl HIN.out ?_)
  |((with_reducible refine Ac 2 ?_);refine Ad (o:=⟨none, .store 169 (.tmp 2) (.tmp 15),_,_,_,_⟩) rfl 169 (.tmp 2) (.tmp 15) rfl w.heap.size F rfl rfl 169 b64 ((hb1.block _ (by omega)).trans (Di hw0.out).2.1) HIN.out HSZ.out.symm HONE.out ?_;intro w2 hw2))
 have hr2:w2.heap[w.heap.size]?=some (.cells F 169 (0,0)):=by
  rw[hw2.out];exact setRow_heap _ _ _ _ _ _ ((hb1.block _ (by omega)).trans (Di hw0.out).2.1)
 refine bodyPost_ret (results_cell_row Tryz.results154 _ w2 w.heap.size 169 _ (0,0) _ rfl hr2 Tryz.underlying169 rfl HIN.out) rfl ⟨rfl, ?_⟩
 exact((Di hw0.out).2.2.2.trans (hb1.mono (by omega))).trans (An hw2.out (Nat.le_refl _))
theorem dE {w w0 w1 w2:World} {D:List Nat} {FD:Array Value} {t t':TypeId} (hs0:w0.heap.size=w.heap.size+1+1) (hr0:w0.heap[w.heap.size]?=some (.cells b64 t (0,0))) (hv0:w0.heap[w.heap.size+1]?=some (.cells b64 t (0,0))) (hb0:Below w.heap.size w w0) (hb1:Below w0.heap.size w0 w1)
  (h:w2=(w1.alloc (.cells b32 t')).setRow w1.heap.size FD) (hFD:FD=(U8 D).toArray):
  Rd w2 w2.heap.size (some ⟨w1.heap.size,0,none⟩) (U8 D)∧w2.heap[w.heap.size+1]?=some (.cells b64 t (0,0))∧w2.heap[w.heap.size]?=some (.cells b64 t (0,0))∧Below w.heap.size w w2:=by
 obtain⟨hs2,hr2,hb2⟩:=Bg h
 have hs1:=hb1.size
 refine⟨?_,(hb2.block (w.heap.size+1) (by omega)).trans ((hb1.block _ (by omega)).trans hv0),(hb2.block w.heap.size (by omega)).trans ((hb1.block _ (by omega)).trans hr0),(hb0.trans (hb1.mono (by omega))).trans (hb2.mono (by omega))⟩
 intro k u hu
 refine⟨_,rfl,by show w1.heap.size<_;omega, ?_⟩
 rw[Bu,cell_of_row w2 _ k _ _ (0,0) hr2,hFD]
 simpa using hu
theorem Zv (l:List Nat) (n:Nat) (hn:n=l.length) (A:Option Addr) (c:Nat) (w:World) (hT:Cx w) (hA:Rd w w.heap.size A (U8 l)) (hb: ∀x∈l,x<256) (hnil:A=none→c=0) (h:64<n) (h5:n≤5000) (F:Array Value) (hF:F=(U8 (blockM l)).toArray):
  Calls Tryz.prog 154 #[.slice A n c] w fun e w'=>e= .returned (.agg F)∧Below w.heap.size w w':=by
 obtain⟨D,hD⟩: ∃D,D=digestN l:=⟨_,rfl⟩
 obtain⟨FD,hFD⟩: ∃FD:Array Value,FD=(U8 (digestN l)).toArray:=⟨_,rfl⟩
 have hDl:D.length=32:=by rw[hD,Cs]
 have hFD':FD=(U8 D).toArray:=by rw[hFD,hD]
 have hkey:keyN l=D:=by unfold keyN;rw[if_pos (by omega),hD]
 have hsp:(splice b64.toList 0 (U8 D)).toArray=F:=by rw[Ys D (by omega),hF];unfold blockM;rw[hkey]
 have hsz:F.size=64:=by rw[hF];simp[U8,Ej]
 have hin:(Tryz.prog.info? 169).map (·.size)=some F.size:=by rw[hsz];exact Kd
 have hone:F.all (·.oneCell')=true:=by rw[hF];exact Bv _
 have hszD:FD.size=32:=by rw[hFD'];simp[U8,hDl]
 have hinD:(Tryz.prog.info? 83).map (·.size)=some FD.size:=by rw[hszD];exact Na
 have honeD:FD.all (·.oneCell')=true:=by rw[hFD'];exact Bv _
 have hmin:(U8 D).length=Nat.min 32 64:=by rw[Fj,hDl];rfl
 have hfit:0+(U8 D).length≤b64.toList.length:=by rw[Fj,hDl];show 0+32≤64;omega
 have HA:=Lib.hid hA
 have HNIL:=Lib.hid hnil
 have HSP:=Lib.hid hsp
 have HSZ:=Lib.hid hsz
 have HIN:=Lib.hid hin
 have HONE:=Lib.hid hone
 have HSZD:=Lib.hid hszD
 have HIND:=Lib.hid hinD
 have HONED:=Lib.hid honeD
 have HMIN:=Lib.hid hmin
 have HFIT:=Lib.hid hfit
 have HFD:=Lib.hid hFD
 have HFD':=Lib.hid hFD'
 have HN:=Lib.hid hn
 have HT:=Lib.hid hT
 have HB:=Lib.hid hb
 clear hA hnil hsp hsz hin hone hkey hF hmin hfit hszD hinD honeD hFD hFD' hn hT hb hD hDl
 go_enter Tryz.func154, Tryz.ntmps154
 go_wp2_with ((with_reducible refine Ac 3 ?_);refine Ad (o:=⟨none, .store 169 (.tmp 3) (.tmp 5),_,_,_,_⟩) rfl 169 (.tmp 3) (.tmp 5) rfl (w.heap.size+1) b64 rfl rfl 169 b64 (heap_alloc2_new _ _ _) Kd rfl (Bv (List.replicate 64 0)) ?_;intro w0 hw0)
 obtain⟨hs0,hr0,hv0,hb0⟩:=Di hw0.out
 have HR0:=Lib.hid hr0
 have HV0:=Lib.hid hv0
 clear hr0 hv0 hw0
 refine(tQ l FD HFD n HN.out A c w0 (HT.out.next hb0) (HA.out.next hb0) HNIL.out HB.out h5).mono ?_
 rintro e w1 ⟨rfl,hb1⟩
 have hs1:=hb1.size
 go_wp2_with (first
  |((with_reducible refine Ac 4 ?_);refine Al (heap_alloc_new w1 _) HIND.out HONED.out ?_ (hold:=HSZD.out.symm);intro w2 hw2;have HFX:=Lib.hid (dE hs0 HR0.out HV0.out hb0 hb1 hw2.out HFD'.out))
  |((with_reducible refine Xt 14 ?_);refine wpList_copy_splice (o:=⟨some 14,_,_,_,_,_⟩) rfl (.tmp 12) (.tmp 13) 23 23 rfl 5 Tryz.underlying23 pZ (some ⟨w.heap.size+1,0,none⟩) (some ⟨w1.heap.size,0,none⟩) 64 64 32 32 rfl rfl (w.heap.size+1) 0 b64.toList 169 HFX.out.2.1 (U8 D) HMIN.out (fun hp=>⟨rfl,mR HFX.out.1 hp⟩) HFIT.out (Bd D) (w.heap.size+1) w2 (Below.refl _ _) (Nat.le_refl _) ?_;intro w3 hw3 hb3;have hw3':Hid (w3.heap[w.heap.size+1]?=some (.cells F 169 (0,0))):=Lib.hid (HSP.out▸hw3.out))
  |((with_reducible refine Dl 15 ?_);refine wpList_load_row (o:=⟨some 15, .load 169 (.tmp 3),_,_,_,_⟩) rfl 169 (.tmp 3) rfl (w.heap.size+1) rfl 169 F (0,0) _ hw3'.out Tryz.underlying169 rfl HIN.out ?_)
  |((with_reducible refine Ac 2 ?_);refine Ad (o:=⟨none, .store 169 (.tmp 2) (.tmp 15),_,_,_,_⟩) rfl 169 (.tmp 2) (.tmp 15) rfl w.heap.size F rfl rfl 169 b64 ((hb3.block _ (by omega)).trans HFX.out.2.2.1) HIN.out HSZ.out.symm HONE.out ?_;intro w4 hw4))
 have hr4:w4.heap[w.heap.size]?=some (.cells F 169 (0,0)):=by
  rw[hw4.out];exact setRow_heap _ _ _ _ _ _ ((hb3.block _ (by omega)).trans HFX.out.2.2.1)
 refine bodyPost_ret (results_cell_row Tryz.results154 _ w4 w.heap.size 169 _ (0,0) _ rfl hr4 Tryz.underlying169 rfl HIN.out) rfl ⟨rfl, ?_⟩
 exact(HFX.out.2.2.2.trans (hb3.mono (by omega))).trans (An hw4.out (Nat.le_refl _))
theorem gU (l:List Nat) (n:Nat) (hn:n=l.length) (A:Option Addr) (c:Nat) (w:World) (hT:Cx w) (hA:Rd w w.heap.size A (U8 l)) (hb: ∀x∈l,x<256) (hnil:A=none→c=0) (h5:n≤5000) (F:Array Value) (hF:F=(U8 (blockM l)).toArray):
  Calls Tryz.prog 154 #[.slice A n c] w fun e w'=>e= .returned (.agg F)∧Below w.heap.size w w':=by
 by_cases h:64<n
 ·exact Zv l n hn A c w hT hA hb hnil h h5 F hF
 ·exact Yt l n hn A c w hA hnil (by omega) F hF
def Ae5 (t n:Nat) (F:Array Value):Prop:=(Tryz.prog.info? t).map (·.size)=some F.size∧n=F.size∧F.all (·.oneCell')=true
theorem Fx {F:Array Value} {l:List Nat} (h:F=(U8 l).toArray) (hl:l.length=32):Ae5 83 32 F:=by
 have hs:F.size=32:=by rw[h];simp[U8,hl]
 exact⟨by rw[hs];exact Na,hs.symm,by rw[h];exact Bv _⟩
theorem Vn {F:Array Value} {l:List Nat} (h:F=(U8 l).toArray) (hl:l.length=64):Ae5 169 64 F:=by
 have hs:F.size=64:=by rw[h];simp[U8,hl]
 exact⟨by rw[hs];exact Kd,hs.symm,by rw[h];exact Bv _⟩
theorem Qg {w:World} {g:Nat} {F:Array Value} {l:List Nat} {t:TypeId} (h:w.heap[g]?=some (.cells F t (0,0))) (hF:F=(U8 l).toArray):Rd w w.heap.size (some ⟨g,0,none⟩) (U8 l):=by
 intro k u hu
 refine⟨_,rfl,(Array.getElem?_eq_some_iff.1 h).1, ?_⟩
 rw[Bu,cell_of_row w _ k _ _ (0,0) h,hF]
 simpa using hu
theorem rA (K:List Nat) (m:Nat) (X FM:Array Value) (w:World) (hX:X=(U8 K).toArray) (hFM:FM=(U8 (maskN K m)).toArray) (hK: ∀x∈K,x<256) (hl:K.length=64) (hm:m<256):
  Calls Tryz.prog 156 #[.agg X, .int .u8 m] w fun e w'=>e= .returned (.agg FM)∧Below w.heap.size w w':=by
 subst hX hFM
 exact nK K m w hK hl hm
theorem yM (ps:List Part) (L:List Nat) (hL:L=Cf ps) (g m c:Nat) (w:World) (hm:ps.length=m) (hg:g<w.heap.size) (hcell: ∀i p,ps[i]?=some p→w.cell? ⟨g,i,none⟩=some p.val) (hok: ∀p∈ps,p.ok w) (hm2:m≤1000)
  (h0:0<L.length) (hn:L.length≤140737488355328):
  Calls Tryz.prog 58 #[.slice (some ⟨g,0,none⟩) m c] w fun e w'=> ∃A cap,e= .returned (.slice A L.length cap)∧Rd w' w'.heap.size A (U8 L)∧(A=none→cap=0)∧Below w.heap.size w w':=by
 subst hL
 refine(Lx ps g m c w hm hg hcell hok hm2 h0 hn).mono ?_
 rintro e w' ⟨v,rfl,hown,hb⟩
 obtain⟨A,cap,rfl,hr⟩:=Iq hown
 refine⟨A,cap,rfl,hr, ?_,hb⟩
 rintro rfl
 rcases hown.2 with⟨h,_⟩|⟨g',cap',cur,h,_⟩
 ·simp at h;exact h.2
 ·simp at h
theorem mS (K l:List Nat) (m n:Nat) (hn:n=l.length) (A:Option Addr) (c Bk:Nat) (w:World) (hT:Cx w) (hk:w.heap[Bk]?=some (.cells (U8 K).toArray 169 (0,0))) (hA:Rd w w.heap.size A (U8 l)) (hnil:A=none→c=0)
  (hl:K.length=64) (hK: ∀x∈K,x<256) (hb: ∀x∈l,x<256) (hm:m<256) (h4:n≤4000) (F:Array Value) (hF:F=(U8 (digestN (maskN K m++l))).toArray):
  Calls Tryz.prog 155 #[.int .u8 m, .slice A n c, .pointer (some ⟨Bk,0,none⟩)] w fun e w'=>e= .returned (.agg F)∧Below w.heap.size w w':=by
 obtain⟨X,hX⟩: ∃X:Array Value,X=(U8 K).toArray:=⟨_,rfl⟩
 obtain⟨FM,hFM⟩: ∃FM:Array Value,FM=(U8 (maskN K m)).toArray:=⟨_,rfl⟩
 rw[←hX]at hk
 have hsX:X.size=64:=by rw[hX];simp[U8,hl]
 have hiX:(Tryz.prog.info? 169).map (·.size)=some X.size:=by rw[hsX];exact Kd
 have hsM:FM.size=64:=by rw[hFM];simp[U8,Ea,hl]
 have hiM:(Tryz.prog.info? 169).map (·.size)=some FM.size:=by rw[hsM];exact Kd
 have hoM:FM.all (·.oneCell')=true:=by rw[hFM];exact Bv _
 have hsF:F.size=32:=by rw[hF];simp[U8,Cs]
 have hiF:(Tryz.prog.info? 83).map (·.size)=some F.size:=by rw[hsF];exact Na
 have hoF:F.all (·.oneCell')=true:=by rw[hF];exact Bv _
 have hkl:Bk<w.heap.size:=(Array.getElem?_eq_some_iff.1 hk).1
 have HN:=Lib.hid hn
 have HT:=Lib.hid hT
 have HKC:=Lib.hid hk
 have HA:=Lib.hid hA
 have HNIL:=Lib.hid hnil
 have HL:=Lib.hid hl
 have HK:=Lib.hid hK
 have HB:=Lib.hid hb
 have HF:=Lib.hid hF
 have HX:=Lib.hid hX
 have HFM:=Lib.hid hFM
 have HIX:=Lib.hid hiX
 have HSM:=Lib.hid hsM
 have HIM:=Lib.hid hiM
 have HOM:=Lib.hid hoM
 have HSF:=Lib.hid hsF
 have HIF:=Lib.hid hiF
 have HOF:=Lib.hid hoF
 clear hn hT hk hA hnil hl hK hb hF hX hFM hsX hiX hsM hiM hoM hsF hiF hoF
 go_enter Tryz.func155, Tryz.ntmps155
 go_wp2_with ((with_reducible refine Dl 7 ?_);refine wpList_load_row (o:=⟨some 7, .load 169 (.tmp 2),_,_,_,_⟩) rfl 169 (.tmp 2) rfl Bk rfl 169 X (0,0) _ (((Aa w _ _).block Bk hkl).trans HKC.out) Tryz.underlying169 rfl HIX.out ?_)
 refine(rA K m X FM _ HX.out HFM.out HK.out HL.out hm).mono ?_
 rintro e w1 ⟨rfl,hb1⟩
 have hr1:w1.heap[w.heap.size]?=some (.cells b32 83 (0,0)):=(hb1.block _ (by simp)).trans (heap_alloc_new w _)
 have hbw:=Ay _ _ hb1
 have hs1:w.heap.size+1≤w1.heap.size:=by have:=hb1.size;simpa using this
 have HR1:=Lib.hid hr1
 have HBW:=Lib.hid hbw
 clear hr1 hbw hb1
 go_wp2_with ((with_reducible refine Ac 6 ?_);refine Ad (o:=⟨none, .store 169 (.tmp 6) (.tmp 9),_,_,_,_⟩) rfl 169 (.tmp 6) (.tmp 9) rfl w1.heap.size FM rfl rfl 169 b64 (heap_alloc_new w1 _) HIM.out HSM.out.symm HOM.out ?_;intro w2 hw2)
 obtain⟨hs2,hr2,hb2⟩:=Bg hw2.out
 have hrd2:Rd w2 w2.heap.size (some ⟨w1.heap.size,0,none⟩) (U8 (maskN K m)):=by
  intro k u hu
  refine⟨_,rfl,by show w1.heap.size<_;omega, ?_⟩
  rw[Bu,cell_of_row w2 _ k _ _ (0,0) hr2,HFM.out]
  simpa using hu
 have hb02:Below w.heap.size w w2:=HBW.out.trans (hb2.mono (by omega))
 have hA2:=HA.out.next hb02
 have HR2:=Lib.hid ((hb2.block w.heap.size (by omega)).trans HR1.out)
 have HT2:=Lib.hid (HT.out.next hb02)
 have HB2:=Lib.hid hb02
 obtain⟨L,hL⟩: ∃L,L=maskN K m++l:=⟨_,rfl⟩
 have hLl:L.length=64+n:=by rw[hL,List.length_append,Ea,HL.out,HN.out]
 have hLb: ∀x∈L,x<256:=by
  rw[hL];intro x hx
  rcases List.mem_append.1 hx with h|h
  ·exact Xa K m HK.out hm x h
  ·exact HB.out x h
 have hfl:L=Cf [⟨some ⟨w1.heap.size,0,none⟩,maskN K m,64⟩,⟨A,l,c⟩]:=by rw[hL];simp[Cf]
 have hml:(maskN K m).length=64:=by rw[Ea,HL.out]
 have HLB:=Lib.hid hLb
 have HLL:=Lib.hid hLl
 refine(yM [⟨some ⟨w1.heap.size,0,none⟩,maskN K m,64⟩,⟨A,l,c⟩] L hfl w2.heap.size 2 2 _ rfl (by simp) (Oa (by simp[Part.val,hml];exact HN.out)) ?_ (by omega) (by omega) (by omega)).mono ?_
 ·intro p hp
  refine Part.ok_alloc ?_ _
  simp only[List.mem_cons,List.not_mem_nil,or_false]at hp
  rcases hp with rfl|rfl
  ·exact⟨hrd2,fun h=>by cases h⟩
  ·exact⟨hA2,HNIL.out⟩
 ·rw[←hL]at HF
  clear hfl hml hLb hL hrd2 hr2 hw2 hb02 hA2 hb2
  rintro e w3 ⟨A3,c3,rfl,hr3,hn3,hb3⟩
  have hb03:Below w.heap.size w w3:=(HB2.out.alloc HB2.out.size _).trans (hb3.mono (by have:=HB2.out.size;simp;omega))
  have HR3:=Lib.hid hr3
  have HN3:=Lib.hid hn3
  have HT3:=Lib.hid (HT.out.next hb03)
  have HRES3:=Lib.hid ((hb3.block w.heap.size (by simp;omega)).trans ((Below.heap_alloc w2 _ w.heap.size (by omega)).trans HR2.out))
  have HB3:=Lib.hid hb03
  have hs3:w2.heap.size+1≤w3.heap.size:=by have:=hb3.size;simpa using this
  rw[hLl]
  clear hr3 hn3 hb03 hb3 hLl
  go_wp2_with fail
  refine(tQ L F HF (64+n) HLL.out.symm A3 c3 w3 HT3.out HR3.out HN3.out HLB.out (by omega)).mono ?_
  rintro e w4 ⟨rfl,hb4⟩
  have HRES4:=Lib.hid ((hb4.block w.heap.size (by omega)).trans HRES3.out)
  have HB4:=Lib.hid (HB3.out.trans (hb4.mono (by omega)))
  clear hb4
  go_wp2_with ((with_reducible refine Ac 5 ?_);refine Al HRES4.out HIF.out HOF.out ?_ (hold:=HSF.out.symm);intro w5 hw5)
  have hr5:w5.heap[w.heap.size]?=some (.cells F 83 (0,0)):=by rw[hw5.out];exact setRow_heap _ _ _ _ _ _ HRES4.out
  refine bodyPost_ret (results_cell_row Tryz.results155 _ w5 w.heap.size 83 _ (0,0) _ rfl hr5 Tryz.underlying83 rfl HIF.out) rfl ⟨rfl, ?_⟩
  exact HB4.out.trans (An hw5.out (Nat.le_refl _))
theorem Yu (s b:List Nat) (n m:Nat) (hn:n=s.length) (hm:m=b.length) (A A':Option Addr) (c c':Nat) (w:World) (hT:Cx w) (hA:Rd w w.heap.size A (U8 s)) (hA':Rd w w.heap.size A' (U8 b)) (hnil:A=none→c=0) (hnil':A'=none→c'=0)
  (hs: ∀x∈s,x<256) (hb: ∀x∈b,x<256) (h5:n≤5000) (h4:m≤4000) (F:Array Value) (hF:F=(U8 (Zg s b)).toArray):
  Calls Tryz.prog 99 #[.slice A n c, .slice A' m c'] w fun e w'=>e= .returned (.agg F)∧Below w.heap.size w w':=by
 obtain⟨K,hK⟩: ∃K,K=blockM s:=⟨_,rfl⟩
 obtain⟨X,hX⟩: ∃X:Array Value,X=(U8 K).toArray:=⟨_,rfl⟩
 obtain⟨D,hD⟩: ∃D,D=digestN (maskN K 54++b):=⟨_,rfl⟩
 obtain⟨FD,hFD⟩: ∃FD:Array Value,FD=(U8 D).toArray:=⟨_,rfl⟩
 have hKl:K.length=64:=by rw[hK,Ej]
 have hKb: ∀x∈K,x<256:=by rw[hK];exact aZ s hs
 have hDl:D.length=32:=by rw[hD,Cs]
 have hDb: ∀x∈D,x<256:=by rw[hD];exact Sy _
 have hF':F=(U8 (digestN (maskN K 92++D))).toArray:=by rw[hF,hD,hK];rfl
 have hX':X=(U8 (blockM s)).toArray:=by rw[hX,hK]
 have hFD':FD=(U8 (digestN (maskN K 54++b))).toArray:=by rw[hFD,hD]
 have HN:=Lib.hid hn
 have HM:=Lib.hid hm
 have HT:=Lib.hid hT
 have HA:=Lib.hid hA
 have HA':=Lib.hid hA'
 have HNIL:=Lib.hid hnil
 have HNIL':=Lib.hid hnil'
 have HS:=Lib.hid hs
 have HB:=Lib.hid hb
 have HX:=Lib.hid hX
 have HX':=Lib.hid hX'
 have HFD:=Lib.hid hFD
 have HFD':=Lib.hid hFD'
 have HF:=Lib.hid hF'
 have HKL:=Lib.hid hKl
 have HKB:=Lib.hid hKb
 have HDL:=Lib.hid hDl
 have HDB:=Lib.hid hDb
 have HIX:=Lib.hid (Vn hX hKl)
 have HID:=Lib.hid (Fx hFD hDl)
 have HIF:=Lib.hid (Fx hF (Cs _))
 clear hn hm hT hA hA' hnil hnil' hs hb hX hX' hFD hFD' hF hF' hK hD hKl hKb hDl hDb
 go_enter Tryz.func99, Tryz.ntmps99
 go_wp2_with fail
 refine(gU s n HN.out A c _ (HT.out.next (Aa w _ _)) (HA.out.next (Aa w _ _)) HS.out HNIL.out h5 X HX'.out).mono ?_
 rintro e w1 ⟨rfl,hb1⟩
 have hr1:w1.heap[w.heap.size]?=some (.cells b32 83 (0,0)):=(hb1.block _ (by simp)).trans (heap_alloc_new w _)
 have hbw:=Ay _ _ hb1
 have hs1:w.heap.size+1≤w1.heap.size:=by have:=hb1.size;simpa using this
 have HR1:=Lib.hid hr1
 have HBW:=Lib.hid hbw
 clear hr1 hbw hb1
 go_wp2_with ((with_reducible refine Ac 5 ?_);refine Ad (o:=⟨none, .store 169 (.tmp 5) (.tmp 9),_,_,_,_⟩) rfl 169 (.tmp 5) (.tmp 9) rfl w1.heap.size X rfl rfl 169 b64 (heap_alloc_new w1 _) HIX.out.1 HIX.out.2.1 HIX.out.2.2 ?_;intro w2 hw2)
 obtain⟨hs2,hr2,hb2⟩:=Bg hw2.out
 have hb02:Below w.heap.size w w2:=HBW.out.trans (hb2.mono (by omega))
 have HK2:Hid (w2.heap[w1.heap.size]?=some (.cells (U8 K).toArray 169 (0,0))):=Lib.hid (HX.out▸hr2)
 have HR2:=Lib.hid ((hb2.block w.heap.size (by omega)).trans HR1.out)
 have HB2:=Lib.hid hb02
 clear hr2 hw2 hb2 hb02
 refine(mS K b 54 m HM.out A' c' w1.heap.size w2 (HT.out.next HB2.out) HK2.out (HA'.out.next HB2.out) HNIL'.out HKL.out HKB.out HB.out (by omega) h4 FD HFD'.out).mono ?_
 rintro e w3 ⟨rfl,hb3⟩
 have hs3:=hb3.size
 have HK3:=Lib.hid ((hb3.block w1.heap.size (by omega)).trans HK2.out)
 have HR3:=Lib.hid ((hb3.block w.heap.size (by omega)).trans HR2.out)
 have HB3:=Lib.hid (HB2.out.trans (hb3.mono (by omega)))
 clear hb3
 go_wp2_with ((with_reducible refine Ac 7 ?_);refine Al (heap_alloc_new w3 _) HID.out.1 HID.out.2.2 ?_ (hold:=HID.out.2.1);intro w4 hw4)
 obtain⟨hs4,hr4,hb4⟩:=Bg hw4.out
 have HRD4:=Lib.hid (Qg hr4 HFD.out)
 have HK4:=Lib.hid ((hb4.block w1.heap.size (by omega)).trans HK3.out)
 have HR4:=Lib.hid ((hb4.block w.heap.size (by omega)).trans HR3.out)
 have HB4:=Lib.hid (HB3.out.trans (hb4.mono (by omega)))
 clear hr4 hw4 hb4
 refine(mS K D 92 32 HDL.out.symm (some ⟨w3.heap.size,0,none⟩) 32 w1.heap.size w4 (HT.out.next HB4.out) HK4.out HRD4.out (fun h=>by cases h) HKL.out HKB.out HDB.out (by omega) (by omega) F HF.out).mono ?_
 rintro e w5 ⟨rfl,hb5⟩
 have HR5:=Lib.hid ((hb5.block w.heap.size (by omega)).trans HR4.out)
 have HB5:=Lib.hid (HB4.out.trans (hb5.mono (by omega)))
 clear hb5
 go_wp2_with ((with_reducible refine Ac 4 ?_);refine Al HR5.out HIF.out.1 HIF.out.2.2 ?_ (hold:=HIF.out.2.1);intro w6 hw6)
 have hr6:w6.heap[w.heap.size]?=some (.cells F 83 (0,0)):=by rw[hw6.out];exact setRow_heap _ _ _ _ _ _ HR5.out
 refine bodyPost_ret (results_cell_row Tryz.results99 _ w6 w.heap.size 83 _ (0,0) _ rfl hr6 Tryz.underlying83 rfl HIF.out.1) rfl ⟨rfl, ?_⟩
 exact HB5.out.trans (An hw6.out (Nat.le_refl _))
end Go.Proofs.YtmdbfogjfbbpjaaGreatDoor
end
section
namespace Go.Proofs.YtmdbfogjfbbpjaaGreatDoor
open Go.ChangeShapes Go.WideShapes Go.ChangeAt Go.RowKit
theorem Kz:(Tryz.prog.info? 4).map (fun i=>(i.zero,i.size,i.bytes))=some (some (.bool false),1,1):=by kernel_rfl
def BL (l:List Bool):List Value:=l.map fun x:Bool=>Value.bool x
theorem Oh (a b:List Bool):BL (a++b)=BL a++BL b:=by simp[BL]
theorem Oy {l:List Bool} {k:Nat} {x:Bool} (h:l[k]?=some x):(BL l)[k]?=some (.bool x):=by simp[BL,h]
theorem Acq (l:List Bool): ∀u∈BL l,u.oneCell'=true:=by
 intro u hu
 simp only[BL,List.mem_map]at hu
 obtain⟨x,_,rfl⟩:=hu
 rfl
structure Vs (w:World) (B:Nat) (l:List Bool) (A:Option Addr) (c:Nat):Prop where
 rd:Rd w B A (BL l)
 nil:A=none→c=0
 len:l.length≤c
 cap:c≤9223372036854775807
theorem Vs.next {w w':World} {l:List Bool} {A:Option Addr} {c:Nat} (h:Vs w w.heap.size l A c) (hb:Below w.heap.size w w'):Vs w' w'.heap.size l A c:=⟨h.rd.next hb,h.nil,h.len,h.cap⟩
theorem Vs.drew {w:World} {l:List Bool} {A:Option Addr} {c:Nat} (h:Vs w w.heap.size l A c) (q:Nat):Vs (w.drewN q) (w.drewN q).heap.size l A c:=h.next (Ae (Below.refl _ _) q)
theorem Iu {w:World} {base n:Nat} {v:Value} {l:List Bool} (h:w.ownsRow base 4 1 v n (BL l)): ∃A c,v= .slice A n c∧n=l.length∧Vs w w.heap.size l A c:=by
 have hn:l.length=n:=by have:=h.1;simpa[BL]using this
 rcases h.2 with⟨rfl,h0⟩|⟨g,cap,cur,rfl,_,_,h2,h3,_⟩
 ·subst h0
  have:l=[]:=List.eq_nil_of_length_eq_zero hn
  subst this
  exact⟨none,0,rfl,rfl,⟨by intro k u hu;simp[BL]at hu,fun _=>rfl,by simp,by omega⟩⟩
 ·unfold maxLen at h3
  exact⟨_,cap,rfl,hn.symm,⟨Rd.of_own h,by simp,by omega,h3⟩⟩
theorem Vs.at {w:World} {B:Nat} {l:List Bool} {A:Option Addr} {c k:Nat} {x:Bool} (h:Vs w B l A c) (hx:l[k]?=some x): ∃ad,A=some ad∧ad.block<B∧w.cell? (ad.add k)=some (.bool x):=h.rd k _ (Oy hx)
theorem Vs.cells {w:World} {B:Nat} {l:List Bool} {ad:Addr} {c:Nat} (h:Vs w B l (some ad) c): ∀j u,(BL l)[j]?=some u→w.cell? (ad.add j)=some u:=by
 intro j u hu
 obtain⟨ad',e,_,hc⟩:=h.rd j u hu
 cases e
 exact hc
theorem Yv (w:World) (x:Bool): ∀j u,([.bool x]:List Value)[j]?=some u→(w.alloc (.cells #[.bool x] 4)).cell? ((⟨w.heap.size,0,none⟩:Addr).add j)=some u:=by
 intro j u hu
 rw[Bu,cell_of_row _ _ j _ 4 (0,0) (heap_alloc_new w _)]
 simpa using hu
theorem Yw (x:Bool): ∀u∈([.bool x]:List Value),u.oneCell'=true:=by
 intro u hu
 simp at hu
 subst hu
 rfl
theorem Qh: ∀(a b:List Nat),a.length=b.length→a≠b→ ∃k,k<a.length∧a.take k=b.take k∧a.getD k 0≠b.getD k 0
 |[],[],_,h=>absurd rfl h
 |[],_::_,h,_=>by simp at h
 |_::_,[],h,_=>by simp at h
 |x::a,y::b,hl,h=>by
  by_cases e:x=y
  ·subst e
   obtain⟨k,h1,h2,h3⟩:=Qh a b (by simpa using hl) (fun e=>h (by rw[e]))
   exact⟨k+1,by simp;omega,by simp[h2],by simpa using h3⟩
  ·exact⟨0,by simp,by simp,by simpa using e⟩
theorem rB (n n':Nat) (hne:n≠n') (A A':Option Addr) (c c':Nat) (w:World) (h1:n≤9223372036854775807) (h2:n'≤9223372036854775807):
  Calls Tryz.prog 12 #[.slice A n c, .slice A' n' c'] w fun e w'=>e= .returned (.bool false)∧Below w.heap.size w w':=by
 have e1:((n:Int) !=(n':Int))=true:=by simp;omega
 have e2:((n:Int)==(n':Int))=false:=by simp;omega
 have e3:(n !=n')=true:=by simpa using hne
 go_enter Tryz.func12, Tryz.ntmps12
 go_wp2
 go_ret
 exact⟨rfl,Below.refl _ _⟩
theorem rC (l l':List Nat) (n k:Nat) (hn:n=l.length) (hn':n=l'.length) (hk:k<n) (ht:l.take k=l'.take k) (hd:l.getD k 0≠l'.getD k 0) (A A':Option Addr) (c c' B:Nat) (w:World) (hA:Rd w B A (U8 l)) (hA':Rd w B A' (U8 l')) (hl:n≤9223372036854775807):
  Calls Tryz.prog 12 #[.slice A n c, .slice A' n c'] w fun e w'=>e= .returned (.bool false)∧Below w.heap.size w w':=by
 have HN:=Lib.hid hn
 have HN':=Lib.hid hn'
 have HT:=Lib.hid ht
 have HD:=Lib.hid hd
 clear hn hn' ht hd
 go_enter Tryz.func12, Tryz.ntmps12
 go_wp2
 go_loopw [5] (fun i wr=> ∃j d:Nat,j≤k∧i= .int .i64 j∧wr=w.drewN d) (fun i _=>n - (intOf i).toNat)
 case atStart=>exact⟨0,0,Nat.zero_le _,rfl,rfl⟩
 case round=>
  obtain⟨j,d,hj,rfl,rfl⟩:=hrel
  have hjn:j<n:=by omega
  obtain⟨ad,rfl,_,hc⟩:=hA j _ (Co l j (by rw[←HN.out];exact hjn))
  obtain⟨ad',rfl,_,hc'⟩:=hA' j _ (Co l' j (by rw[←HN'.out];exact hjn))
  clear hA hA'
  have b1:(0:Int)≤(j:Int):=by omega
  have b2:(j:Int)<(n:Int):=by omega
  by_cases hlt:j<k
  ·have he:l[j]'(by rw[←HN.out];exact hjn)=l'[j]'(by rw[←HN'.out];exact hjn):=by
    have h1:(l.take k)[j]?=(l'.take k)[j]?:=by rw[HT.out]
    rw[List.getElem?_take,List.getElem?_take,if_pos hlt,if_pos hlt,List.getElem?_eq_getElem (by rw[←HN.out];exact hjn),List.getElem?_eq_getElem (by rw[←HN'.out];exact hjn)]at h1
    exact Option.some.inj h1
   rw[he]at hc
   clear he
   generalize l'[j]'(by rw[←HN'.out];exact hjn)=x at hc hc'
   go_wp2
   go_quiet (fail)
   go_wp2
   go_roundw
   case rel=>exact⟨j+1,_,by omega,by go_num,rfl⟩
   case measure=>simp[intOf];omega
  ·have ej:j=k:=by omega
   subst ej
   have hne:l[j]'(by rw[←HN.out];exact hjn)≠l'[j]'(by rw[←HN'.out];exact hjn):=by
    have h1:=HD.out
    rwa[List.getD_eq_getElem?_getD,List.getD_eq_getElem?_getD,List.getElem?_eq_getElem (by rw[←HN.out];exact hjn),List.getElem?_eq_getElem (by rw[←HN'.out];exact hjn)]at h1
   generalize l[j]'(by rw[←HN.out];exact hjn)=x at hc hne
   generalize l'[j]'(by rw[←HN'.out];exact hjn)=y at hc' hne
   have e1:((x:Int) !=(y:Int))=true:=by simp;omega
   have e2:((x:Int)==(y:Int))=false:=by simp;omega
   clear hne
   go_wp2
   go_quiet (fail)
   go_wp2
   go_ret
   exact⟨rfl,Ae (Ae (Below.refl _ _) _) _⟩
theorem Nm (l l':List Nat) (n n':Nat) (hn:n=l.length) (hn':n'=l'.length) (A A':Option Addr) (c c' B:Nat) (w:World) (hA:Rd w B A (U8 l)) (hA':Rd w B A' (U8 l')) (hl:n≤9223372036854775807) (hl':n'≤9223372036854775807):
  Calls Tryz.prog 12 #[.slice A n c, .slice A' n' c'] w fun e w'=>e= .returned (.bool (l==l'))∧Below w.heap.size w w':=by
 by_cases e:l=l'
 ·subst e
  subst hn
  subst hn'
  have:=AcI l A A' c c' B w hA hA' (by unfold maxLen;exact hl)
  simpa using this
 ·have eb:(l==l')=false:=by simpa using e
  rw[eb]
  by_cases h:n=n'
  ·subst h
   obtain⟨k,h1,h2,h3⟩:=Qh l l' (by omega) e
   exact rC l l' n k hn hn' (by omega) h2 h3 A A' c c' B w hA hA' hl
  ·exact rB n n' h A A' c c' w hl hl'
theorem Acr (w:World) (cs:Array Value) (s:List Nat) (n:Nat) (h:cs.toList=U8 s) (hn:n=s.length) (h1:n≤1000) (h2: ∀x∈s,x<256):Bs (w.alloc (.cells cs 5)) (w.alloc (.cells cs 5)).heap.size s (some ⟨w.heap.size,0,none⟩) n:=
 ⟨by rw[←h];exact Cm w cs _,by simp,by omega,by omega,h2⟩
theorem Iv (s:List Nat) (n n':Nat) (hn:n=s.length) (hn':n'=s.length) (A A':Option Addr) (c c':Nat) (w:World) (hA:Bs w w.heap.size s A c) (hA':Bs w w.heap.size s A' c'):Calls Tryz.prog 12 #[.slice A n c, .slice A' n' c'] w fun e w'=>e= .returned (.bool true)∧Below w.heap.size w w':=by
 have h1:=hA.len
 have h2:=hA.cap
 have:=Nm s s n n' hn hn' A A' c c' w.heap.size w hA.rd hA'.rd (by omega) (by omega)
 simpa using this
theorem dF (s s':List Nat) (t:Bool) (ht:(s==s')=t) (n n':Nat) (hn:n=s.length) (hn':n'=s'.length) (A A':Option Addr) (c c':Nat) (w:World) (hA:Bs w w.heap.size s A c) (hA':Bs w w.heap.size s' A' c'):Calls Tryz.prog 12 #[.slice A n c, .slice A' n' c'] w fun e w'=>e= .returned (.bool t)∧Below w.heap.size w w':=by
 have h1:=hA.len
 have h2:=hA.cap
 have h3:=hA'.len
 have h4:=hA'.cap
 rw[←ht]
 exact Nm s s' n n' hn hn' A A' c c' w.heap.size w hA.rd hA'.rd (by omega) (by omega)
end Go.Proofs.YtmdbfogjfbbpjaaGreatDoor
end
