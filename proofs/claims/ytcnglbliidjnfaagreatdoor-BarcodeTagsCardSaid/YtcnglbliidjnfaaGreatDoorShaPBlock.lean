import Derived.Test.YtcnglbliidjnfaaGreatDoorShaMix
import Derived.Test.YtcnglbliidjnfaaGreatDoorShaBlock
import Derived.Test.YtcnglbliidjnfaaGreatDoorMem
import Derived.Test.YtcnglbliidjnfaaGreatDoorFieldsMath
import Derived.Lib.AppendZeros
section
namespace Go.Proofs.YtcnglbliidjnfaaGreatDoor
set_option linter.unusedVariables false
open Go.ChangeShapes Go.WideShapes Go.ChangeAt Go.RowKit
def Tabs (w:World):Prop:=Rd w w.heap.size (some ⟨1,0,none⟩) (U32 kTab)∧Rd w w.heap.size (some ⟨0,0,none⟩) (U32 beginN.list)
theorem Tabs.next {w w':World} (h:Tabs w) (hb:Below w.heap.size w w'):Tabs w':=⟨h.1.next hb,h.2.next hb⟩
theorem Tabs.cell {w:World} (h:Tabs w) (k:Nat) (hk:k<64):w.cell? ⟨1,k,none⟩=some (.int .u32 ((kTab.getD k 0:Nat):Int))∧ 1 <w.heap.size:=by
 obtain⟨ad,he,hlt,hc⟩:=h.1 k _ (U32_getD kTab k (by rw[length_kTab];exact hk))
 cases he
 rw[at_add]at hc
 exact⟨hc,hlt⟩
theorem info28:(Tryz.prog.info? 139).map (·.size)=some 8:=by kernel_rfl
theorem St.val_eq (v:St):v.val= .agg (U32 v.list).toArray:=rfl
theorem row_made {w1 w2:World} {cc cd:Array Value} {t:TypeId} (h:w2=(w1.alloc (.cells cc t)).setRow w1.heap.size cd):
  w2.heap.size=w1.heap.size+1∧w2.heap[w1.heap.size]?=some (.cells cd t (0,0))∧Below w1.heap.size w1 w2:=by
 subst h
 exact⟨by simp,setRow_heap _ _ _ _ _ _ (heap_alloc_new w1 _),below_setRow ((Below.refl _ _).alloc (Nat.le_refl _) _) (Nat.le_refl _) _⟩
set_option maxRecDepth 100000 in
set_option maxHeartbeats 1600000 in
theorem block_any (h:St) (x0 x1 x2 x3 x4 x5 x6 x7 x8 x9 x10 x11 x12 x13 x14 x15:Nat) (w:World) (hT:Tabs w) (hh:h.ok) (hx: ∀x∈ [x0,x1,x2,x3,x4,x5,x6,x7,x8,x9,x10,x11,x12,x13,x14,x15],x<4294967296):
  Calls Tryz.prog 113 #[h.val,agg16 x0 x1 x2 x3 x4 x5 x6 x7 x8 x9 x10 x11 x12 x13 x14 x15] w fun e w'=>e= .returned (blockN h [x0,x1,x2,x3,x4,x5,x6,x7,x8,x9,x10,x11,x12,x13,x14,x15]).val∧Below w.heap.size w w':=by
 obtain⟨xl,hxl⟩: ∃xl:List Nat,xl=[x0,x1,x2,x3,x4,x5,x6,x7,x8,x9,x10,x11,x12,x13,x14,x15]:=⟨_,rfl⟩
 obtain⟨w0,hw0⟩: ∃w0:World,w0=((w.alloc (.cells #[.int .u32 h.a, .int .u32 h.b, .int .u32 h.c, .int .u32 h.d, .int .u32 h.e, .int .u32 h.f, .int .u32 h.g, .int .u32 h.h] 139)).alloc (.cells #[.int .u32 x0, .int .u32 x1, .int .u32 x2, .int .u32 x3, .int .u32 x4, .int .u32 x5, .int .u32 x6, .int .u32 x7, .int .u32 x8, .int .u32 x9, .int .u32 x10, .int .u32 x11, .int .u32 x12, .int .u32 x13, .int .u32 x14, .int .u32 x15] 141)).alloc (.cells #[.int .u32 0, .int .u32 0, .int .u32 0, .int .u32 0, .int .u32 0, .int .u32 0, .int .u32 0, .int .u32 0] 139):=⟨_,rfl⟩
 have hs0:w0.heap.size=w.heap.size+1+1+1:=by rw[hw0];simp
 have hblh:w0.heap[w.heap.size]?=some (.cells (U32 h.list).toArray 139 (0,0)):=by
  rw[hw0,Below.heap_alloc _ _ _ (by simp;omega),Below.heap_alloc _ _ _ (by simp),row_lit]
  rfl
 have hblr:w0.heap[w.heap.size+1+1]?=some (.cells z8 139 (0,0)):=by
  rw[hw0];exact sched_here
 have hb0:Below w.heap.size w w0:=by
  rw[hw0]
  exact(((Below.refl _ _).alloc (Nat.le_refl _) _).alloc (by simp) _).alloc (by simp;omega) _
 have hT0:=hT.next hb0
 rw[←hxl]
 have HXL:=Lib.hid hxl
 have HX:=Lib.hid hx
 have HS0:=Lib.hid hs0
 have HH:=Lib.hid hblh
 have HR:=Lib.hid hblr
 have HT0:=Lib.hid hT0
 unfold St.val agg16
 clear hx hs0 hblh hblr hT hT0
 go_enter Tryz.func113, Tryz.ntmps113
 go_wp2_with fail
 rw[←hw0]
 have HW0:=Lib.hid hw0
 clear hw0 hxl
 refine(sched_any x0 x1 x2 x3 x4 x5 x6 x7 x8 x9 x10 x11 x12 x13 x14 x15 w0 HX.out).mono ?_
 rintro e w1 ⟨rfl,hb1⟩
 rw[←HXL.out]
 have hb01:Below w.heap.size w w1:=hb0.trans (hb1.mono hb0.size)
 have HT1:=Lib.hid (HT0.out.next hb1)
 have hs1:w.heap.size+1+1+1≤w1.heap.size:=by have:=hb1.size;rw[HS0.out]at this;exact this
 have hh1:w1.heap[w.heap.size]?=some (.cells (U32 h.list).toArray 139 (0,0)):=(hb1.block _ (by rw[HS0.out];omega)).trans HH.out
 have hr1:w1.heap[w.heap.size+1+1]?=some (.cells z8 139 (0,0)):=(hb1.block _ (by rw[HS0.out];omega)).trans HR.out
 obtain⟨fin,hfin⟩: ∃fin:Array Value,fin=(U32 (wl xl 64)).toArray:=⟨_,rfl⟩
 have hsz:fin.size=64:=by rw[hfin];simp[U32,length_wl]
 have hone:fin.all (·.oneCell')=true:=by rw[hfin];exact all_one32 _
 have hin:(Tryz.prog.info? 157).map (·.size)=some fin.size:=by rw[hsz];exact info42
 rw[←hfin]
 have HSZ:=Lib.hid hsz
 have HONE:=Lib.hid hone
 have HIN:=Lib.hid hin
 have HFIN:=Lib.hid hfin
 have HH1:=Lib.hid hh1
 have HR1:=Lib.hid hr1
 clear hsz hfin hone hin hh1 hr1 hb0
 go_wp2_with (first
  |((with_reducible refine at_store 5 ?_);refine wpList_store_named (o:=⟨none, .store 157 (.tmp 5) (.tmp 10),_,_,_,_⟩) rfl 157 (.tmp 5) (.tmp 10) rfl w1.heap.size fin rfl rfl 157 z64 (heap_alloc_new w1 _) HIN.out HSZ.out.symm HONE.out ?_;intro w2 hw2)
  |((with_reducible refine at_load 11 ?_);refine wpList_load_row (o:=⟨some 11, .load 139 (.tmp 2),_,_,_,_⟩) rfl 139 (.tmp 2) rfl w.heap.size rfl 139 (U32 h.list).toArray (0,0) _ (((row_made hw2.out).2.2.block _ (by omega)).trans HH1.out) Tryz.underlying139 rfl info28 ?_)
  |((with_reducible refine at_store 6 ?_);refine wpList_store_named (o:=⟨none, .store 139 (.tmp 6) (.tmp 11),_,_,_,_⟩) rfl 139 (.tmp 6) (.tmp 11) rfl w2.heap.size (U32 h.list).toArray rfl rfl 139 z8 (heap_alloc_new w2 _) info28 rfl (all_one32 _) ?_;intro w3 hw3))
 obtain⟨s2,r2,b2⟩:=row_made hw2.out
 obtain⟨s3,r3,b3⟩:=row_made hw3.out
 have HS3:w2.heap.size<w3.heap.size:=by omega
 have hs2:w1.heap.size<w2.heap.size:=by omega
 have hb03:Below w.heap.size w w3:=(hb01.trans (b2.mono hb01.size)).trans (b3.mono (by have:=hb01.size;omega))
 have HT3:=Lib.hid ((HT1.out.next b2).next b3)
 have HA3:=Lib.hid ((b3.block _ (by omega)).trans r2)
 have HV3:=Lib.hid r3
 have HH3:=Lib.hid ((b3.block w.heap.size (by omega)).trans ((b2.block _ (by omega)).trans HH1.out))
 have HR3:=Lib.hid ((b3.block (w.heap.size+1+1) (by omega)).trans ((b2.block _ (by omega)).trans HR1.out))
 have HB3:=Lib.hid hb03
 clear s2 r2 b2 s3 r3 b3 hw2 hw3 hb03 hb01 hb1
 go_loopw [12] (fun i wr=> ∃k:Nat,k≤64∧i= .int .i64 k∧wr.heap[w2.heap.size]?=some (.cells (U32 (rnds h (wl xl 64) k).list).toArray 139 (0,0))∧Below w2.heap.size w3 wr) (fun i _=>64 - (intOf i).toNat)
 case atStart=>exact⟨0,Nat.zero_le _,rfl,HV3.out,Below.refl _ _⟩
 case round=>
  obtain⟨k,hk,rfl,hv,hbel⟩:=hrel
  by_cases hlt:k<64
  ·have hvok:(rnds h (wl xl 64) k).ok:=rnds_ok hh _ _
   have hnext:rnds h (wl xl 64) (k+1)=rnd (rnds h (wl xl 64) k) (kTab.getD k 0) ((wl xl 64).getD k 0):=rfl
   have hck:wr.cell? ⟨1,k,none⟩=some (.int .u32 ((kTab.getD k 0:Nat):Int)):=(hbel.cell (p:=⟨1,k,none⟩) (by show 1 <w2.heap.size;omega)).trans (HT3.out.cell k hlt).1
   have hcl:wr.cell? ⟨w1.heap.size,k,none⟩=some (.int .u32 (((wl xl 64).getD k 0:Nat):Int)):=by
    rw[cell_of_row wr w1.heap.size k _ _ (0,0) ((hbel.block _ hs2).trans HA3.out),HFIN.out,List.getElem?_toArray,U32_getD _ k (by rw[length_wl];exact hlt)]
   have hyk:=getD_lt kTab_lt k
   have hyl:=getD_lt (wl_lt xl (by rw[HXL.out];exact HX.out) 64) k
   generalize kTab.getD k 0=kk at*
   generalize (wl xl 64).getD k 0=ww at*
   generalize rnds h (wl xl 64) k=V at*
   have hlc: ∀i (v:Nat),V.list[i]?=some v→wr.cell? ⟨w2.heap.size,i,none⟩=some (.int .u32 (v:Int)):=by
    intro i v hvv
    rw[cell_of_row wr w2.heap.size i _ _ (0,0) hv,List.getElem?_toArray,U32,List.getElem?_map,hvv];rfl
   have c0:=hlc 0 V.a rfl
   have c1:=hlc 1 V.b rfl
   have c2:=hlc 2 V.c rfl
   have c3:=hlc 3 V.d rfl
   have c4:=hlc 4 V.e rfl
   have c5:=hlc 5 V.f rfl
   have c6:=hlc 6 V.g rfl
   have c7:=hlc 7 V.h rfl
   have HV:=Lib.hid hv
   have HNX:=Lib.hid hnext
   have HOK:=Lib.hid hvok
   have bk0:(0:Int)≤(k:Int):=Int.natCast_nonneg _
   have bk1:(k:Int)<64:=by omega
   clear hlc hv hnext hvok
   go_wp2
   refine wp_region_still_tail 8 (by kernel_rfl) (by kernel_rfl) ?_
   simp only[List.take_succ_cons,List.take_zero,List.drop_succ_cons,List.drop_zero]
   repeat still_step
   refine wpStill_nil ?_
   change wpList _ _ _ _ _ wr.drew
   have hbd:Below w2.heap.size w3 wr.drew:=hbel.drew
   have hvd:wr.drew.heap[w2.heap.size]?=some (.cells (U32 V.list).toArray 139 (0,0)):=HV.out
   generalize wr.drew=wd at*
   clear c0 c1 c2 c3 c4 c5 c6 c7 hck hcl hbel
   have HVD:=Lib.hid hvd
   clear hvd
   go_wp2_with fail
   rw[show((kk:Int)+(ww:Int)) % 4294967296=(((kk+ww) % 4294967296:Nat):Int) by omega]
   refine(round_any V ((kk+ww) % 4294967296) _ HOK.out (Nat.mod_lt _ (by omega))).mono ?_
   rintro e w4 ⟨rfl,hb4⟩
   obtain⟨R,hR⟩: ∃R,R=rndS V ((kk+ww) % 4294967296):=⟨_,rfl⟩
   rw[←hR]
   have HRN:=Lib.hid hR
   clear hR
   have hsd:w2.heap.size<wd.heap.size:=by have:=hbd.size;omega
   have hv4:w4.heap[w2.heap.size]?=some (.cells (U32 V.list).toArray 139 (0,0)):=(hb4.block _ hsd).trans HVD.out
   have hbd4:Below w2.heap.size w3 w4:=hbd.trans (hb4.mono (by omega))
   have HV4:=Lib.hid hv4
   clear hv4 hb4
   go_wp2_with ((with_reducible refine at_store 6 ?_);refine wpList_store_named (o:=⟨none, .store 139 (.tmp 6) (.tmp 23),_,_,_,_⟩) rfl 139 (.tmp 6) (.tmp 23) rfl w2.heap.size (U32 R.list).toArray rfl rfl 139 (U32 V.list).toArray HV4.out info28 rfl (all_one32 _) ?_;intro w5 hw5)
   have hv5:w5.heap[w2.heap.size]?=some (.cells (U32 (rnds h (wl xl 64) (k+1)).list).toArray 139 (0,0)):=by
    rw[hw5.out,HNX.out, ←rndS_eq, ←HRN.out];exact setRow_heap _ _ _ _ _ _ HV4.out
   have hbd5:Below w2.heap.size w3 w5:=hbd4.trans (below_row hw5.out (Nat.le_refl _))
   go_roundw
   case rel=>exact⟨k+1,by omega,by go_num,hv5,hbd5⟩
   case measure=>simp[intOf];omega
  ·have k64:k=64:=by omega
   subst k64
   obtain⟨V,hV⟩: ∃V,V=rnds h (wl xl 64) 64:=⟨_,rfl⟩
   rw[←hV]at hv
   have HV:=Lib.hid hV
   have HVV:=Lib.hid hv
   have hh4:wr.heap[w.heap.size]?=some (.cells (U32 h.list).toArray 139 (0,0)):=(hbel.block _ (by omega)).trans HH3.out
   have hr4:wr.heap[w.heap.size+1+1]?=some (.cells z8 139 (0,0)):=(hbel.block _ (by omega)).trans HR3.out
   have HH4:=Lib.hid hh4
   have HR4:=Lib.hid hr4
   have hb4:Below w.heap.size w wr:=HB3.out.trans (hbel.mono (by omega))
   have HB4:=Lib.hid hb4
   clear hV hv hh4 hr4 hb4 hbel
   obtain⟨w4,rfl⟩: ∃w4:World,w4=wr:=⟨_,rfl⟩
   go_wp2
   go_loopw [25] (fun i wr=> ∃k:Nat,k≤8∧i= .int .i64 k∧wr.heap[w2.heap.size]?=some (.cells (U32 (sumTo V.list h.list k)).toArray 139 (0,0))∧Below w2.heap.size w4 wr) (fun i _=>8 - (intOf i).toNat)
   case atStart=>exact⟨0,Nat.zero_le _,rfl,by rw[sumTo_zero];exact HVV.out,Below.refl _ _⟩
   case round=>
    obtain⟨k,hk,rfl,hv,hbel⟩:=hrel
    by_cases hlt:k<8
    ·have hcv:wr.cell? ⟨w2.heap.size,k,none⟩=some (.int .u32 ((V.list.getD k 0:Nat):Int)):=by
      rw[cell_of_row wr w2.heap.size k _ _ (0,0) hv,List.getElem?_toArray,U32_getD _ k (by rw[length_sumTo];exact hlt),sumTo_at,if_pos hlt]
     have hch:wr.cell? ⟨w.heap.size,k,none⟩=some (.int .u32 ((h.list.getD k 0:Nat):Int)):=by
      rw[hbel.cell (p:=⟨w.heap.size,k,none⟩) (by show w.heap.size<_;omega),cell_of_row w4 w.heap.size k _ _ (0,0) HH4.out,List.getElem?_toArray,U32_getD h.list k hlt]
     have hfz:=frozen_of_row wr w2.heap.size k _ _ hv
     have hset:=heap_setCell_same wr w2.heap.size k _ 139 (.int .u32 (((V.list.getD k 0+h.list.getD k 0) % 4294967296:Nat):Int)) hv
     have hst:(U32 (sumTo V.list h.list k)).toArray.setIfInBounds k (.int .u32 (((V.list.getD k 0+h.list.getD k 0) % 4294967296:Nat):Int))=(U32 (sumTo V.list h.list (k+1))).toArray:=by
      rw[List.setIfInBounds_toArray, ←sumTo_set,U32,U32,List.map_set]
     rw[hst]at hset
     have HSET:=Lib.hid hset
     clear hset hst hv
     generalize V.list.getD k 0=y at*
     generalize h.list.getD k 0=z at*
     have bk0:(0:Int)≤(k:Int):=Int.natCast_nonneg _
     have bk1:(k:Int)<8:=by omega
     go_wp2
     go_region
     all_goals go_wp2
     go_roundw
     case rel=>
      refine⟨k+1,by omega,by go_num, ?_,(hbel.setCell (Nat.le_refl _) _).drew⟩
      have e:((y:Int)+(z:Int)) % 4294967296=(((y+z) % 4294967296:Nat):Int):=by omega
      rw[e]
      exact HSET.out
     case measure=>simp[intOf];omega
    ·have k8:k=8:=by omega
     subst k8
     have hfin:sumTo V.list h.list 8=(blockN h xl).list:=by rw[blockN, ←HV.out];rfl
     have hbb:Below w.heap.size w wr:=HB4.out.trans (hbel.mono (by omega))
     have hr5:wr.heap[w.heap.size+1+1]?=some (.cells z8 139 (0,0)):=(hbel.block _ (by omega)).trans HR4.out
     rw[hfin]at hv
     obtain⟨R,hR⟩: ∃R,R=blockN h xl:=⟨_,rfl⟩
     rw[←hR]at hv
     have HRR:=Lib.hid hR
     have HVR:=Lib.hid hv
     have HR5:=Lib.hid hr5
     clear hR hv hr5 hfin hbel
     go_wp2_with (first
      |((with_reducible refine at_load 37 ?_);refine wpList_load_row (o:=⟨some 37, .load 139 (.tmp 6),_,_,_,_⟩) rfl 139 (.tmp 6) rfl w2.heap.size rfl 139 (U32 R.list).toArray (0,0) _ HVR.out Tryz.underlying139 rfl info28 ?_)
      |((with_reducible refine at_store 4 ?_);refine wpList_store_named (o:=⟨none, .store 139 (.tmp 4) (.tmp 37),_,_,_,_⟩) rfl 139 (.tmp 4) (.tmp 37) rfl (w.heap.size+1+1) (U32 R.list).toArray rfl rfl 139 z8 HR5.out info28 rfl (all_one32 _) ?_;intro w6 hw6))
     have hr6:w6.heap[w.heap.size+1+1]?=some (.cells (U32 R.list).toArray 139 (0,0)):=by rw[hw6.out];exact setRow_heap _ _ _ _ _ _ HR5.out
     refine bodyPost_ret (results_cell_row Tryz.results113 _ w6 (w.heap.size+1+1) 139 _ (0,0) _ rfl hr6 Tryz.underlying139 rfl info28) rfl ⟨by rw[←HRR.out];rfl, ?_⟩
     exact hbb.trans (below_row hw6.out (by omega))
end Go.Proofs.YtcnglbliidjnfaaGreatDoor
end
section
namespace Go.Proofs.YtcnglbliidjnfaaGreatDoor
set_option maxRecDepth 100000
set_option linter.unusedVariables false
open Go.ChangeShapes Go.WideShapes Go.ChangeAt Go.RowKit
def zerosN (n:Nat):Nat:=(119 - n % 64) % 64
def padN (l:List Nat):List Nat:=l++128::(List.replicate (zerosN l.length) 0++putB (8*l.length) 8)
def padTo (l:List Nat) (k:Nat):List Nat:=l++128::List.replicate k 0
theorem length_padTo (l:List Nat) (k:Nat):(padTo l k).length=l.length+1+k:=by simp[padTo];omega
theorem padTo_succ (l:List Nat) (k:Nat):padTo l (k+1)=padTo l k++ [0]:=by simp[padTo,List.replicate_succ']
theorem padN_eq (l:List Nat):padN l=padTo l (zerosN l.length)++putB (8*l.length) 8:=by simp[padN,padTo]
theorem length_padN (l:List Nat):(padN l).length=l.length+9+zerosN l.length:=by rw[padN_eq,List.length_append,length_padTo,length_putB];omega
theorem padN_lt (l:List Nat) (h: ∀x∈l,x<256): ∀x∈padN l,x<256:=by
 intro x hx
 rw[padN_eq,padTo]at hx
 simp only[List.mem_append,List.mem_cons,List.mem_replicate]at hx
 rcases hx with(hx|rfl|⟨_,rfl⟩)|hx
 ·exact h x hx
 ·omega
 ·omega
 ·exact putB_lt _ _ x hx
theorem U8_append (a b:List Nat):U8 (a++b)=U8 a++U8 b:=by simp[U8]
def lenV:Value→Nat
 | .slice _ n _=>n
 |_=>0
def Row8 (wr:World) (base n:Nat) (xs:List Nat) (v:Value):Prop:= ∃g cap,v= .slice (some ⟨g,0,none⟩) n cap∧wr.ownsRow base 5 1 (.slice (some ⟨g,0,none⟩) n cap) n (U8 xs)
theorem Row8.of {wr:World} {base n:Nat} {xs:List Nat} {v:Value} (h:wr.ownsRow base 5 1 v n (U8 xs)) (hn:0<n):Row8 wr base n xs v:=by
 obtain⟨g,cap,e,_⟩:=h.form hn
 subst e
 exact⟨g,cap,rfl,h⟩
set_option maxRecDepth 20000 in
theorem refpad_ok (l:List Nat) (A:Option Addr) (c:Nat) (w:World) (hA:Rd w w.heap.size A (U8 l)) (hnil:A=none→c=0) (hl:l.length≤5000):
  Calls Tryz.prog 116 #[.slice A l.length c] w fun e w'=> ∃v,e= .returned v∧w'.ownsRow w.heap.size 5 1 v (padN l).length (U8 (padN l))∧Below w.heap.size w w':=by
 obtain⟨i0,hi,hz0,hz1,hz2⟩:=info_parts infoU8
 obtain⟨n,hn⟩: ∃n,n=l.length:=⟨_,rfl⟩
 have HN:=Lib.hid hn
 have HNIL:=Lib.hid hnil
 have hlen:(U8 l).length=n:=by simp[U8,hn]
 have HLEN:=Lib.hid hlen
 have hz:zerosN n≤63:=by unfold zerosN;omega
 rw[←hn]at hl⊢
 clear hn hnil hlen
 go_enter Tryz.func116, Tryz.ntmps116
 go_wp2_with (first
  |(at_builtin;refine wpList_append_rd _ rfl (.tmp 9) (.tmp 10) 30 rfl w.heap.size 5 i0 (.int .u8 0) 1 Tryz.underlying30 hi hz0 hz1 hz2 rfl (.slice (some ⟨w.heap.size,0,none⟩) 0 0) 0 [] rfl (World.ownsRow_lit w #[] 0 (Nat.le_refl _) (by decide) rfl) w.heap.size A n c (U8 l) rfl (hA.alloc (Nat.le_refl _) _) HLEN.out HNIL.out (U8_one l) (by unfold maxLen;omega) (by omega) (by simp) ?_;intro v1 w1 hown1 hg1;have hb1:Below w.heap.size w w1:=((Below.refl _ _).alloc (Nat.le_refl _) _).grown hg1 (by simp) (fun g hg=>by simp[Value.ownBlock]at hg;omega))
  |(at_builtin;refine wpList_append_rd _ rfl (.tmp 12) (.tmp 13) 30 rfl w.heap.size 5 i0 (.int .u8 0) 1 Tryz.underlying30 hi hz0 hz1 hz2 rfl v1 (0+n) ([]++U8 l) rfl (hown1.alloc _) (w1.heap.size+1) (some ⟨w1.heap.size,0,none⟩) 1 1 [.int .u8 128] rfl ((rd_lit w1 #[.int .u8 128] 5).more (by simp)) rfl (fun h=>by cases h) (fun u hu=>by simp at hu;subst hu;rfl) (by unfold maxLen;omega) (by omega) (by have:=hb1.size;simp;omega) ?_;intro v2 w2 hown2 hg2))
 have hb2:Below w.heap.size w w2:=(hb1.alloc hb1.size _).grown hg2 (by have:=hb1.size;simp;omega) (fun g hg=>own_ge hown1 hg)
 have hrow:Row8 w2 w.heap.size (n+1+0) (padTo l 0) v2:=by
  refine Row8.of ?_ (by omega)
  have e:U8 (padTo l 0)=[]++U8 l++ [.int .u8 128]:=by simp[padTo,U8]
  rw[e]
  simpa using hown2
 have HR:=Lib.hid hrow
 clear hown1 hg1 hown2 hg2 hrow
 go_loopw [3] (fun v wr=> ∃k:Nat,k≤zerosN n∧Row8 wr w.heap.size (n+1+k) (padTo l k) v∧Below w.heap.size w wr) (fun v _=>n+1+zerosN n - lenV v)
 case atStart=>exact⟨0,Nat.zero_le _,HR.out,hb2⟩
 case round=>
  clear HR hb1 hb2
  obtain⟨k,hk,⟨g,cap,rfl,hown⟩,hbel⟩:=hrel
  have hbs:=hbel.size
  obtain⟨m,hm⟩: ∃m,m=n+1+k:=⟨_,rfl⟩
  have hmle:m≤5064:=by omega
  rw[←hm]at hown⊢
  by_cases hlt:k<zerosN n
  ·have ht:((m:Int) % 64 !=56)=true:=by
    unfold zerosN at hlt
    simp
    omega
   have HM:=Lib.hid hm
   clear hm
   go_wp2_with (at_builtin;refine wpList_append_rd _ rfl _ _ 30 rfl w.heap.size 5 i0 (.int .u8 0) 1 Tryz.underlying30 hi hz0 hz1 hz2 rfl (.slice (some ⟨g,0,none⟩) m cap) m (U8 (padTo l k)) rfl (hown.alloc _) (wr.heap.size+1) (some ⟨wr.heap.size,0,none⟩) 1 1 [.int .u8 0] rfl ((rd_lit wr #[.int .u8 0] 5).more (by simp)) rfl (fun h=>by cases h) (fun u hu=>by simp at hu;subst hu;rfl) (by unfold maxLen;omega) (by omega) (by simp;omega) ?_;intro v3 w3 hown3 hg3)
   have hb3:Below w.heap.size w w3:=(hbel.alloc hbs _).grown hg3 (by simp;omega) (fun g hg=>own_ge hown hg)
   have hrow:Row8 w3 w.heap.size (n+1+(k+1)) (padTo l (k+1)) v3:=by
    refine Row8.of ?_ (by omega)
    have e:U8 (padTo l (k+1))=U8 (padTo l k)++ [.int .u8 0]:=by rw[padTo_succ,U8_append];rfl
    rw[e,show n+1+(k+1)=m+1 by have:=HM.out;omega]
    exact hown3
   have hlv:lenV v3=m+1:=by
    obtain⟨g',cap',e,_⟩:=hrow
    subst e
    have:=HM.out
    simp[lenV]
    omega
   have HR:=Lib.hid hrow
   have HLV:=Lib.hid hlv
   clear hown3 hg3 hrow hlv
   go_wp2
   go_roundw
   case rel=>exact⟨k+1,by omega,HR.out,hb3⟩
   case measure=>
    have h1:=HLV.out
    have h2:=HM.out
    rw[h1]
    simp only[lenV]
    omega
  ·have ek:k=zerosN n:=by omega
   have ht:((m:Int) % 64 !=56)=false:=by
    subst ek
    unfold zerosN at hm
    simp
    omega
   have HM:=Lib.hid hm
   have HK:=Lib.hid ek
   clear hm ek
   have hown0:=hown
   have HO:=Lib.hid hown
   clear hown hown0
   go_wp2
   obtain⟨wo,rfl⟩: ∃wo:World,wo=wr:=⟨_,rfl⟩
   go_loopw [4,5,6] (fun t v i wr=> ∃j:Nat,j≤8∧i= .int .i64 j∧t= .int .i64 (8*n / 256^j:Nat)∧Row8 wr wo.heap.size j (putB (8*n) j) v∧Below wo.heap.size wo wr) (fun _ _ i _=>8 - (intOf i).toNat)
   case atStart=>exact⟨0,Nat.zero_le _,rfl,by simp,⟨_,_,rfl,World.ownsRow_lit wo #[] 0 (Nat.le_refl _) (by decide) rfl⟩,(Below.refl _ _).alloc (Nat.le_refl _) _⟩
   case round=>
    obtain⟨j,hj,rfl,rfl,⟨g2,cap2,rfl,hown2⟩,hbel2⟩:=hrel
    have hbs2:=hbel2.size
    by_cases hj8:j<8
    ·have hy:8*n / 256^j≤40000:=Nat.le_trans (Nat.div_le_self _ _) (by omega)
     have hy2:8*n / 256^(j+1)=8*n / 256^j / 256:=by rw[Nat.pow_succ,Nat.div_div_eq_div_mul]
     have hp:putB (8*n) (j+1)=8*n / 256^j % 256::putB (8*n) j:=rfl
     generalize 8*n / 256^j=y at*
     have HY:=Lib.hid hy2
     have HP:=Lib.hid hp
     have hlen:(U8 (putB (8*n) j)).length=j:=by simp[U8,length_putB]
     have HL2:=Lib.hid hlen
     have hrd:=(Rd.of_own hown2).alloc (Nat.le_refl _) (.cells #[.int .u8 ((y:Int) % 256)] 5)
     clear hy2 hp hlen
     go_wp2_with (at_builtin;refine wpList_append_rd _ rfl _ _ 30 rfl wo.heap.size 5 i0 (.int .u8 0) 1 Tryz.underlying30 hi hz0 hz1 hz2 rfl (.slice (some ⟨wr.heap.size,0,none⟩) 1 1) 1 [.int .u8 ((y:Int) % 256)] rfl (World.ownsRow_lit wr #[.int .u8 ((y:Int) % 256)] 1 hbs2 (by decide) rfl) wr.heap.size (some ⟨g2,0,none⟩) j cap2 (U8 (putB (8*n) j)) rfl hrd HL2.out (fun h=>by cases h) (U8_one _) (by unfold maxLen;omega) (by omega) (by simp;omega) ?_;intro v3 w3 hown3 hg3)
     have hb3:Below wo.heap.size wo w3:=(hbel2.alloc hbs2 _).grown hg3 (by simp;omega) (fun g hg=>by simp[Value.ownBlock]at hg;omega)
     have hrow:Row8 w3 wo.heap.size (j+1) (putB (8*n) (j+1)) v3:=by
      refine Row8.of ?_ (by omega)
      have e:U8 (putB (8*n) (j+1))=[.int .u8 ((y:Int) % 256)]++U8 (putB (8*n) j):=by rw[HP.out];simp[U8]
      rw[e,Nat.add_comm j 1]
      exact hown3
     have HR:=Lib.hid hrow
     clear hown3 hg3 hrow hown2 hrd hbel2
     go_wp2
     go_roundw
     case rel=>exact⟨j+1,by omega,by go_num,by rw[HY.out];go_num,HR.out,hb3⟩
     case measure=>simp[intOf];omega
    ·have ej:j=8:=by omega
     subst ej
     have hob:=own_below HO.out hbel2
     have hrd:=Rd.of_own hown2
     have hlen:(U8 (putB (8*n) 8)).length=8:=by simp[U8,length_putB]
     have HL2:=Lib.hid hlen
     clear hlen
     generalize 8*n / 256^8=y at*
     go_wp2_with (at_builtin;refine wpList_append_rd _ rfl _ _ 30 rfl w.heap.size 5 i0 (.int .u8 0) 1 Tryz.underlying30 hi hz0 hz1 hz2 rfl (.slice (some ⟨g,0,none⟩) m cap) m (U8 (padTo l k)) rfl hob wr.heap.size (some ⟨g2,0,none⟩) 8 cap2 (U8 (putB (8*n) 8)) rfl hrd HL2.out (fun h=>by cases h) (U8_one _) (by unfold maxLen;omega) (by omega) (by omega) ?_;intro v3 w3 hown3 hg3)
     have hb3:Below w.heap.size w w3:=(hbel.trans (hbel2.mono hbs)).grown hg3 (by omega) (fun g hg=>own_ge hob hg)
     have e1:U8 (padTo l k)++U8 (putB (8*n) 8)=U8 (padN l):=by rw[←U8_append,HK.out,HN.out,padN_eq]
     have e2:m+8=(padN l).length:=by rw[length_padN, ←HN.out,HM.out,HK.out];omega
     rw[e1,e2]at hown3
     have HOW:=Lib.hid hown3
     clear hown3 hg3 e1 e2
     go_wp2
     go_ret
     exact⟨_,rfl,HOW.out,hb3⟩
end Go.Proofs.YtcnglbliidjnfaaGreatDoor
end
section
namespace Go.Proofs.YtcnglbliidjnfaaGreatDoor
set_option maxRecDepth 100000
set_option linter.unusedVariables false
open Go.ChangeShapes Go.WideShapes Go.ChangeAt Go.RowKit
set_option maxRecDepth 20000 in
theorem grow_nil (n:Nat) (w:World) (h0:0<n) (hn:n≤140737488355328):
  Calls Tryz.prog 72 #[.slice none 0 0, .int .i64 n] w fun e w'=> ∃v,e= .returned v∧w'.ownsRow w.heap.size 5 1 v 0 []∧Below w.heap.size w w':=by
 obtain⟨i0,hi,hz0,hz1,hz2⟩:=info_parts infoU8
 have hrun:=Lib.run_append_nil_zeros (P:= Tryz.prog) w 30 3 30 5 i0 (.int .u8 0) .i64 .i64 Tryz.underlying30 Tryz.underlying3 hi hz0 n h0 (by rw[hz1];omega) (by omega) (by rw[hz2];omega)
 have HRUN:=Lib.hid hrun
 clear hrun
 go_enter Tryz.func72, Tryz.ntmps72
 go_wp2_with (at_builtin;refine Lib.wpList_append_run _ rfl (.tmp 20) (.tmp 21) 30 3 rfl (.slice none 0 0) (.int .i64 n) rfl rfl _ _ HRUN.out ?_)
 go_ret
 have hc1:=grownCap_ge w n 0 5
 have hc2:=grownCap_le_maxLen w n 0 5 (by unfold maxLen;omega)
 refine⟨_,rfl,⟨rfl, .inr ⟨w.heap.size,grownCap w n 0 5,Builtin.zeroCells #[Value.int IntKind.u8 0] n++Builtin.zeroCells #[Value.int IntKind.u8 0] (grownCap w n 0 5 - n),rfl,Nat.le_refl _, ?_,Nat.zero_le _,hc2, ?_, ?_⟩⟩, ?_⟩
 ·exact heap_alloc_new w _
 ·simp[size_zeroCells];omega
 ·simp
 ·exact((Below.refl _ _).alloc (Nat.le_refl _) _).drew
structure Part where
 A:Option Addr
 l:List Nat
 c:Nat
def Part.val (p:Part):Value:= .slice p.A p.l.length p.c
def Part.ok (w:World) (p:Part):Prop:=Rd w w.heap.size p.A (U8 p.l)∧(p.A=none→p.c=0)
def cflat (ps:List Part):List Nat:=(ps.map (·.l)).flatten
theorem cflat_append (a b:List Part):cflat (a++b)=cflat a++cflat b:=by simp[cflat]
theorem flat_one (p:Part):cflat [p]=p.l:=by simp[cflat]
theorem flat_succ (ps:List Part) (k:Nat) (h:k<ps.length):cflat (ps.take (k+1))=cflat (ps.take k)++ps[k].l:=by
 rw[List.take_succ_eq_append_getElem h,cflat_append,flat_one]
theorem flat_le (ps:List Part) (k:Nat):(cflat (ps.take k)).length≤(cflat ps).length:=by
 have h:cflat ps=cflat (ps.take k)++cflat (ps.drop k):=by rw[←cflat_append,List.take_append_drop]
 rw[h,List.length_append];omega
set_option maxRecDepth 20000 in
set_option maxHeartbeats 800000 in
theorem concat_any (ps:List Part) (g m c:Nat) (w:World) (hm:ps.length=m) (hg:g<w.heap.size) (hcell: ∀i p,ps[i]?=some p→w.cell? ⟨g,i,none⟩=some p.val) (hok: ∀p∈ps,p.ok w) (hm2:m≤1000)
  (h0:0<(cflat ps).length) (hn:(cflat ps).length≤140737488355328):
  Calls Tryz.prog 28 #[.slice (some ⟨g,0,none⟩) m c] w fun e w'=> ∃v,e= .returned v∧w'.ownsRow w.heap.size 5 1 v (cflat ps).length (U8 (cflat ps))∧Below w.heap.size w w':=by
 obtain⟨i0,hi,hz0,hz1,hz2⟩:=info_parts infoU8
 have HM:=Lib.hid hm
 have HCELL:=Lib.hid hcell
 have HOK:=Lib.hid hok
 obtain⟨N,hN⟩: ∃N,N=(cflat ps).length:=⟨_,rfl⟩
 rw[←hN]at h0 hn⊢
 have HN:=Lib.hid hN
 clear hm hcell hok hN
 go_enter Tryz.func28, Tryz.ntmps28
 go_wp2_with fail
 go_loop [3,11] (fun s i=> ∃k:Nat,k≤m∧i= .int .i64 k∧s= .int .i64 ((cflat (ps.take k)).length:Nat)) (fun _ i=>m - (intOf i).toNat)
 case atStart=>exact⟨0,Nat.zero_le _,rfl,rfl⟩
 case round=>
  obtain⟨k,hk,rfl,rfl⟩:=hrel
  have hle:=flat_le ps k
  rw[←HN.out]at hle
  by_cases hlt:k<m
  ·have hkp:k<ps.length:=by rw[HM.out];exact hlt
   have hck:=HCELL.out k ps[k] (List.getElem?_eq_getElem hkp)
   unfold Part.val at hck
   have hfs:(cflat (ps.take (k+1))).length=(cflat (ps.take k)).length+ps[k].l.length:=by rw[flat_succ ps k hkp,List.length_append]
   have hle2:=flat_le ps (k+1)
   rw[←HN.out]at hle2
   have HFS:=Lib.hid hfs
   have hb:(cflat (ps.take k)).length+ps[k].l.length≤140737488355328:=by omega
   clear hfs hle2
   generalize (cflat (ps.take k)).length=S at*
   generalize ps[k].l.length=n1 at*
   generalize ps[k].A=A1 at*
   generalize ps[k].c=c1 at*
   go_wp2
   go_round
   case rel=>exact⟨k+1,by omega,by go_num,by rw[HFS.out];go_num⟩
   case measure=>simp[intOf];omega
  ·have ek:k=m:=by omega
   subst ek
   have hS:(cflat (ps.take k)).length=N:=by rw[List.take_of_length_le (by rw[HM.out];omega),HN.out]
   rw[hS]
   clear hle hS
   go_wp2_with fail
   refine(grow_nil N w h0 hn).mono ?_
   rintro e w1 ⟨v1,rfl,hown1,hb1⟩
   have HOWN1:=Lib.hid hown1
   clear hown1
   go_wp2_with fail
   go_loopw [6,27] (fun v i wr=> ∃j:Nat,j≤k∧i= .int .i64 j∧wr.ownsRow w.heap.size 5 1 v (cflat (ps.take j)).length (U8 (cflat (ps.take j)))∧Below w.heap.size w wr) (fun _ i _=>k - (intOf i).toNat)
   case atStart=>exact⟨0,Nat.zero_le _,rfl,HOWN1.out,hb1⟩
   case round=>
    clear hb1
    obtain⟨j,hj,rfl,hown,hbel⟩:=hrel
    have hbs:=hbel.size
    by_cases hlt:j<k
    ·have hjp:j<ps.length:=by rw[HM.out];exact hlt
     have hcj:wr.cell? ⟨g,j,none⟩=some ps[j].val:=(hbel.cell (p:=⟨g,j,none⟩) hg).trans (HCELL.out j ps[j] (List.getElem?_eq_getElem hjp))
     unfold Part.val at hcj
     obtain⟨hrd,hnil⟩:=HOK.out ps[j] (List.getElem_mem hjp)
     have hrd':=hrd.below hbel
     have hfs:=flat_succ ps j hjp
     have hle2:=flat_le ps (j+1)
     rw[←HN.out,hfs,List.length_append]at hle2
     have HFS:=Lib.hid hfs
     have HR:=Lib.hid hrd'
     have HNL:=Lib.hid hnil
     have HO:=Lib.hid hown
     have hlen:(U8 ps[j].l).length=ps[j].l.length:=by simp[U8]
     have HL:=Lib.hid hlen
     have hone:=Lib.hid (U8_one ps[j].l)
     clear hrd hrd' hnil hfs hown hlen
     generalize cflat (ps.take j)=F at*
     generalize ps[j].l=l1 at*
     generalize ps[j].A=A1 at*
     generalize ps[j].c=c1 at*
     go_wp2_with (at_builtin;refine wpList_append_rd _ rfl (.tmp 31) (.tmp 32) 30 rfl w.heap.size 5 i0 (.int .u8 0) 1 Tryz.underlying30 hi hz0 hz1 hz2 rfl _ F.length (U8 F) rfl HO.out w.heap.size A1 l1.length c1 (U8 l1) rfl HR.out HL.out HNL.out hone.out (by unfold maxLen;omega) (by omega) hbs ?_;intro v2 w2 hown2 hg2)
     have hb2:Below w.heap.size w w2:=hbel.grown hg2 hbs (fun g hg=>own_ge HO.out hg)
     have HO2:=Lib.hid hown2
     clear hown2 hg2
     go_wp2
     go_roundw
     case rel=>
      refine⟨j+1,by omega,by go_num, ?_,hb2⟩
      rw[HFS.out,U8_append,List.length_append]
      exact HO2.out
     case measure=>simp[intOf];omega
    ·have ej:j=k:=by omega
     subst ej
     rw[List.take_of_length_le (by rw[HM.out];omega), ←HN.out]at hown
     have HO:=Lib.hid hown
     clear hown
     go_wp2
     go_ret
     exact⟨_,rfl,HO.out,hbel⟩
end Go.Proofs.YtcnglbliidjnfaaGreatDoor
end
section
namespace Go.Proofs.YtcnglbliidjnfaaGreatDoor
set_option maxRecDepth 100000
set_option linter.unusedVariables false
open Go.ChangeShapes Go.WideShapes Go.ChangeAt Go.RowKit
theorem cast_byte64 (x e:Nat):(x:Int) / 2^e % 256=((x / 2^e % 256:Nat):Int):=by simp
theorem pow_bytes (k:Nat):256^k=2^(8*k):=by rw[Nat.pow_mul]
theorem over_no (n size:Nat) (h:n<256^size):((n:Int) / 2^(8*size) !=0)=false:=by
 have e:(n:Int) / 2^(8*size)=((n / 2^(8*size):Nat):Int):=by simp
 rw[e,bne_eq_false_iff_eq]
 rw[pow_bytes]at h
 rw[Nat.div_eq_of_lt h];rfl
theorem put_ok (n size:Nat) (w:World) (hn:n<9223372036854775808) (hs:size≤8) (h:n<256^size):
  Calls Tryz.prog 125 #[.int .i64 n, .int .i64 size] w fun e w'=> ∃g cap,e= .returned (.tuple #[.slice (some ⟨g,0,none⟩) size cap, .int .i64 0])∧
   w'.ownsRow w.heap.size 5 1 (.slice (some ⟨g,0,none⟩) size cap) size (U8 (putB n size))∧Below w.heap.size w w':=by
 obtain⟨i0,hi,hz0,hz1,hz2⟩:=info_parts infoU8
 have hov:=over_no n size h
 clear h
 go_enter Tryz.func125, Tryz.ntmps125
 go_wp2_with (at_make;refine wpList_make_full _ rfl _ _ 30 rfl w.heap.size 5 i0 (.int .u8 0) 1 Tryz.underlying30 hi hz0 hz1 _ _ _ _ size rfl rfl (by omega) (by omega) ?b2 ?b3 (Nat.le_refl _) ?_)
 case b2=>rw[hz2];omega
 case b3=>unfold maxLen;omega
 intro w1 hown hg
 have hown1:w1.ownsRow w.heap.size 5 1 (.slice (some ⟨w.heap.size,0,none⟩) size size) size (U8 (putUpto n size 0)):=by
  rw[toList_madeCells_one]at hown
  rw[putUpto_zero,U8,List.map_replicate]
  exact hown
 have hbel:Below w.heap.size w w1:=(Below.refl _ _).grown hg (Nat.le_refl _) (by simp)
 clear hown hg
 go_wp2
 go_loopw [28] (fun i wr=> ∃k:Nat,k≤size∧i= .int .i64 k∧wr.ownsRow w.heap.size 5 1 (.slice (some ⟨w.heap.size,0,none⟩) size size) size (U8 (putUpto n size k))∧Below w.heap.size w wr) (fun i _=>size - (intOf i).toNat)
 case atStart=>exact⟨0,Nat.zero_le _,rfl,hown1,hbel⟩
 case round=>
  clear hown1 hbel
  obtain⟨k,hk,rfl,hown,hbel⟩:=hrel
  by_cases hlt:k<size
  ·have hc2: ∃v,wr.cell? ⟨w.heap.size,k,none⟩=some v:=by
    rw[hown.cellAt k (by omega),U8,List.getElem?_map]
    rw[List.getElem?_eq_getElem (by simp[putUpto];omega)]
    exact⟨_,rfl⟩
   obtain⟨v2,hc2⟩:=hc2
   have hf:=hown.frozenAt k
   have hst:=(hown.stored k (.int .u8 ((n / 256^(size - 1 - k) % 256:Nat):Int))).1
   have hset:(U8 (putUpto n size k)).set k (.int .u8 ((n / 256^(size - 1 - k) % 256:Nat):Int))=U8 (putUpto n size (k+1)):=by
    rw[←putUpto_set n size k,U8,U8,List.map_set]
   rw[hset,pow_bytes]at hst
   clear hset
   have HST:=Lib.hid hst
   have HOW:=Lib.hid hown
   clear hst hown
   go_wp2
   go_roundw
   case rel=>
    refine⟨k+1,by omega,by go_num, ?_,hbel.setCell (Nat.le_refl _) _⟩
    rw[cast_byte64]
    exact HST.out
   case measure=>simp[intOf];omega
  ·have e:putUpto n size k=putB n size:=by
    have e1:k=size:=by omega
    rw[e1,putUpto_all]
   rw[e]at hown
   clear e
   go_wp2
   go_ret2
   exact⟨_,_,rfl,hown,hbel⟩
end Go.Proofs.YtcnglbliidjnfaaGreatDoor
end
