import Derived.Test.YtcnglbliidjnfaaGreatDoorShaMix
import Derived.Test.YtcnglbliidjnfaaGreatDoorRingFind
import Derived.Test.YtcnglbliidjnfaaGreatDoorMem
section
namespace Go.Proofs.YtcnglbliidjnfaaGreatDoor
set_option linter.unusedVariables false
open Go.ChangeShapes Go.WideShapes Go.ChangeAt Go.RowKit
def agg16 (x0 x1 x2 x3 x4 x5 x6 x7 x8 x9 x10 x11 x12 x13 x14 x15:Nat):Value:= .agg #[.int .u32 x0, .int .u32 x1, .int .u32 x2, .int .u32 x3, .int .u32 x4, .int .u32 x5, .int .u32 x6, .int .u32 x7, .int .u32 x8, .int .u32 x9, .int .u32 x10, .int .u32 x11, .int .u32 x12, .int .u32 x13, .int .u32 x14, .int .u32 x15]
def Row32 (wr:World) (base n:Nat) (xs:List Nat) (v:Value):Prop:= ∃g cap,v= .slice (some ⟨g,0,none⟩) n cap∧wr.ownsRow base 138 1 (.slice (some ⟨g,0,none⟩) n cap) n (U32 xs)
theorem Row32.of {wr:World} {base n:Nat} {xs:List Nat} {v:Value} (h:wr.ownsRow base 138 1 v n (U32 xs)) (hn:0<n):Row32 wr base n xs v:=by
 obtain⟨g,cap,e,_⟩:=h.form hn
 subst e
 exact⟨g,cap,rfl,h⟩
theorem U32_getD (l:List Nat) (k:Nat) (h:k<l.length):(U32 l)[k]?=some (.int .u32 ((l.getD k 0:Nat):Int)):=by
 rw[U32_at l k h,List.getD_eq_getElem?_getD,List.getElem?_eq_getElem h];rfl
theorem own_cell32 {w:World} {base g n cap:Nat} {l:List Nat} (h:w.ownsRow base 138 1 (.slice (some ⟨g,0,none⟩) n cap) n (U32 l)) (k:Nat) (hk:k<n):w.cell? ⟨g,k,none⟩=some (.int .u32 ((l.getD k 0:Nat):Int)):=by
 have h1:=h.1
 rw[h.cellAt k (by omega),U32_getD l k (by simp[U32]at h1;omega)]
theorem row_lit {w:World} (cs:Array Value) (t:TypeId):(w.alloc (.cells cs t)).heap[w.heap.size]?=some (.cells cs t (0,0)):=heap_alloc_new w _
theorem news_lit (w:World) (u:Value) (t:TypeId): ∀j x,([u]:List Value)[j]?=some x→(w.alloc (.cells #[u] t)).cell? ((⟨w.heap.size,0,none⟩:Addr).add j)=some x:=by
 intro j x hx
 obtain⟨ad,he,_,hc⟩:=rd_lit w #[u] t j x hx
 cases he
 exact hc
theorem wrap_u32 (z:Int):IntKind.u32.wrap z=z % 4294967296:=by simp[IntKind.wrap,IntKind.signed,IntKind.bits]
theorem sum_four (a b c d:Nat):IntKind.u32.wrap (IntKind.u32.wrap (IntKind.u32.wrap ((a:Int)+(b:Nat))+(c:Int))+(d:Nat))=(((a+b+c+d) % 4294967296:Nat):Int):=by
 simp only[wrap_u32];omega
theorem three_q (x:Nat) (i j k:Int) (w:World) (hx:x<4294967296) (hi0:0≤i) (hi:i<32) (hj0:0≤j) (hj:j<32) (hk0:0≤k) (hk:k<32):
  Calls Tryz.prog 137 #[.int .u32 x, .int .i64 i, .int .i64 j, .int .i64 k] w fun e w'=>e= .returned (.int .u32 ((threeN x i.toNat j.toNat k.toNat:Nat):Int))∧w'=w:=
 (three_any x i j k w hx hi0 hi hj0 hj hk0 hk).mono fun _ _ ⟨a,b⟩=>⟨a,b.symm⟩
theorem pick_q (e f g:Nat) (w:World) (he:e<4294967296) (hf:f<4294967296) (hg:g<4294967296):
  Calls Tryz.prog 138 #[.int .u32 e, .int .u32 f, .int .u32 g] w fun en w'=>en= .returned (.int .u32 ((pk e f g 32:Nat):Int))∧w'=w:=
 (pick_any e f g w he hf hg).mono fun _ _ ⟨a,b⟩=>⟨a,b.symm⟩
theorem t1_eq (V:St) (k w:Nat):(((V.h:Int)+(threeN V.e 6 11 25:Nat)+(pk V.e V.f V.g 32:Nat)+(k:Int)) % 4294967296+(w:Int)) % 4294967296=((t1N V k w:Nat):Int):=by
 unfold t1N;omega
theorem set8 (w:World) (B:Nat) (V:St) (t:TypeId) (h:w.heap[B]?=some (.cells (U32 V.list).toArray t (0,0))) (v0 v1 v2 v3 v4 v5 v6 v7:Value):
  ((((((((w.setCell ⟨B,0,none⟩ v0).setCell ⟨B,1,none⟩ v1).setCell ⟨B,2,none⟩ v2).setCell ⟨B,3,none⟩ v3).setCell ⟨B,4,none⟩ v4).setCell ⟨B,5,none⟩ v5).setCell ⟨B,6,none⟩ v6).setCell ⟨B,7,none⟩ v7).heap[B]?=some (.cells #[v0,v1,v2,v3,v4,v5,v6,v7] t (0,0)):=by
 have h0:=heap_setCell_same w B 0 _ t v0 h
 have h1:=heap_setCell_same _ B 1 _ t v1 h0
 have h2:=heap_setCell_same _ B 2 _ t v2 h1
 have h3:=heap_setCell_same _ B 3 _ t v3 h2
 have h4:=heap_setCell_same _ B 4 _ t v4 h3
 have h5:=heap_setCell_same _ B 5 _ t v5 h4
 have h6:=heap_setCell_same _ B 6 _ t v6 h5
 have h7:=heap_setCell_same _ B 7 _ t v7 h6
 rw[h7]
 simp only[List.setIfInBounds_toArray,U32,St.list,List.map_cons,List.map_nil,List.set_cons_zero,List.set_cons_succ]
def sumTo (v h:List Nat) (k:Nat):List Nat:=(List.range 8).map fun i=>if i<k then(v.getD i 0+h.getD i 0) % 4294967296 else v.getD i 0
theorem length_sumTo (v h:List Nat) (k:Nat):(sumTo v h k).length=8:=by simp[sumTo]
theorem sumTo_zero (V:St) (h:List Nat):sumTo V.list h 0=V.list:=rfl
theorem sumTo_at (v h:List Nat) (k:Nat):(sumTo v h k).getD k 0=if k<8 then v.getD k 0 else 0:=by
 rw[List.getD_eq_getElem?_getD]
 by_cases hk:k<8
 ·simp[sumTo,hk]
 ·simp[sumTo,hk]
theorem sumTo_set (v h:List Nat) (k:Nat):(sumTo v h k).set k ((v.getD k 0+h.getD k 0) % 4294967296)=sumTo v h (k+1):=by
 apply List.ext_getElem
 ·simp[sumTo]
 ·intro j h1 h2
  rw[List.getElem_set]
  simp only[sumTo,List.getElem_map,List.getElem_range]
  split
  ·next e=>subst e;simp
  ·next e=>
   by_cases h3:j<k
   ·rw[if_pos h3,if_pos (by omega)]
   ·rw[if_neg h3,if_neg (by omega)]
theorem getD_lt {l:List Nat} (hl: ∀x∈l,x<4294967296) (k:Nat):l.getD k 0<4294967296:=by
 rw[List.getD_eq_getElem?_getD]
 rcases h:l[k]? with _|y
 ·simp
 ·exact hl y (List.mem_of_getElem? h)
set_option maxRecDepth 100000 in
set_option maxHeartbeats 1600000 in
theorem refblock_any (h:St) (x0 x1 x2 x3 x4 x5 x6 x7 x8 x9 x10 x11 x12 x13 x14 x15:Nat) (w:World) (hh:h.ok) (hx: ∀x∈ [x0,x1,x2,x3,x4,x5,x6,x7,x8,x9,x10,x11,x12,x13,x14,x15],x<4294967296):
  Calls Tryz.prog 119 #[h.val,agg16 x0 x1 x2 x3 x4 x5 x6 x7 x8 x9 x10 x11 x12 x13 x14 x15] w fun e w'=>e= .returned (blockN h [x0,x1,x2,x3,x4,x5,x6,x7,x8,x9,x10,x11,x12,x13,x14,x15]).val∧Below w.heap.size w w':=by
 obtain⟨i0,hi,hz0,hz1,hz2⟩:=info_parts infoU32
 obtain⟨xl,hxl⟩: ∃xl:List Nat,xl=[x0,x1,x2,x3,x4,x5,x6,x7,x8,x9,x10,x11,x12,x13,x14,x15]:=⟨_,rfl⟩
 obtain⟨w0,hw0⟩: ∃w0:World,w0=((w.alloc (.cells #[.int .u32 h.a, .int .u32 h.b, .int .u32 h.c, .int .u32 h.d, .int .u32 h.e, .int .u32 h.f, .int .u32 h.g, .int .u32 h.h] 139)).alloc (.cells #[.int .u32 x0, .int .u32 x1, .int .u32 x2, .int .u32 x3, .int .u32 x4, .int .u32 x5, .int .u32 x6, .int .u32 x7, .int .u32 x8, .int .u32 x9, .int .u32 x10, .int .u32 x11, .int .u32 x12, .int .u32 x13, .int .u32 x14, .int .u32 x15] 141)).alloc (.cells #[.int .u32 0, .int .u32 0, .int .u32 0, .int .u32 0, .int .u32 0, .int .u32 0, .int .u32 0, .int .u32 0] 139):=⟨_,rfl⟩
 have hs0:w0.heap.size=w.heap.size+1+1+1:=by rw[hw0];simp
 have hblk:w0.heap[w.heap.size+1]?=some (.cells (U32 xl).toArray 141 (0,0)):=by
  rw[hw0,Below.heap_alloc _ _ _ (by simp),show w.heap.size+1=(w.alloc (.cells #[.int .u32 h.a, .int .u32 h.b, .int .u32 h.c, .int .u32 h.d, .int .u32 h.e, .int .u32 h.f, .int .u32 h.g, .int .u32 h.h] 139)).heap.size by simp,row_lit,hxl]
  rfl
 have hblh:w0.heap[w.heap.size]?=some (.cells (U32 h.list).toArray 139 (0,0)):=by
  rw[hw0,Below.heap_alloc _ _ _ (by simp;omega),Below.heap_alloc _ _ _ (by simp),row_lit]
  rfl
 have hblr:w0.heap[w.heap.size+1+1]?=some (.cells #[.int .u32 0, .int .u32 0, .int .u32 0, .int .u32 0, .int .u32 0, .int .u32 0, .int .u32 0, .int .u32 0] 139 (0,0)):=by
  rw[hw0,show w.heap.size+1+1=((w.alloc (.cells #[.int .u32 h.a, .int .u32 h.b, .int .u32 h.c, .int .u32 h.d, .int .u32 h.e, .int .u32 h.f, .int .u32 h.g, .int .u32 h.h] 139)).alloc (.cells #[.int .u32 x0, .int .u32 x1, .int .u32 x2, .int .u32 x3, .int .u32 x4, .int .u32 x5, .int .u32 x6, .int .u32 x7, .int .u32 x8, .int .u32 x9, .int .u32 x10, .int .u32 x11, .int .u32 x12, .int .u32 x13, .int .u32 x14, .int .u32 x15] 141)).heap.size by simp,row_lit]
 have hb0:Below w.heap.size w w0:=by
  rw[hw0]
  exact(((Below.refl _ _).alloc (Nat.le_refl _) _).alloc (by simp) _).alloc (by simp;omega) _
 rw[←hxl]at hx⊢
 have HXL:=Lib.hid hxl
 have HX:=Lib.hid hx
 have HS0:=Lib.hid hs0
 have HK:=Lib.hid hblk
 have HH:=Lib.hid hblh
 have HR:=Lib.hid hblr
 unfold St.val agg16
 have hlen:xl.length=16:=by rw[hxl];rfl
 have HLEN:=Lib.hid hlen
 clear hx hs0 hblk hblh hblr hlen
 go_enter Tryz.func119, Tryz.ntmps119
 go_wp2_with fail
 rw[←hw0]
 have HW0:=Lib.hid hw0
 clear hw0 hxl
 go_loopw [5,6] (fun v i wr=> ∃k:Nat,k≤64∧i= .int .i64 k∧Row32 wr w0.heap.size k (wl xl k) v∧Below w0.heap.size w0 wr) (fun _ i _=>64 - (intOf i).toNat)
 case atStart=>exact⟨0,Nat.zero_le _,rfl,⟨_,_,by rw[HS0.out],World.ownsRow_lit w0 #[] 0 (Nat.le_refl _) (by decide) rfl⟩,(Below.refl _ _).alloc (Nat.le_refl _) _⟩
 case round=>
  obtain⟨k,hk,rfl,⟨g,cap,rfl,hown⟩,hbel⟩:=hrel
  have hbs:=hbel.size
  by_cases hlt:k<64
  ·by_cases h16:k<16
   ·have hc:wr.cell? ⟨w.heap.size+1,k,none⟩=some (.int .u32 ((xl.getD k 0:Nat):Int)):=by
     rw[hbel.cell (p:=⟨w.heap.size+1,k,none⟩) (by rw[HS0.out];show w.heap.size+1<_;omega),cell_of_row w0 (w.heap.size+1) k _ _ (0,0) HK.out]
     rw[List.getElem?_toArray,U32_getD xl k (by rw[HLEN.out];exact h16)]
    have hy:wl xl (k+1)=wl xl k++ [xl.getD k 0]:=by rw[wl,wNext,if_pos h16]
    generalize xl.getD k 0=y at*
    have HY:=Lib.hid hy
    clear hy
    go_wp2_with (at_builtin;refine wpList_append_rd _ rfl _ _ 145 rfl w0.heap.size 138 i0 (.int .u32 0) 4 Tryz.underlying145 hi hz0 hz1 hz2 rfl (.slice (some ⟨g,0,none⟩) k cap) k (U32 (wl xl k)) rfl (hown.alloc _) (wr.heap.size+1) (some ⟨wr.heap.size,0,none⟩) 1 1 [.int .u32 (y:Int)] rfl ((rd_lit wr #[.int .u32 (y:Int)] 138).more (by simp)) rfl (fun h=>by cases h) (fun u hu=>by simp at hu;subst hu;rfl) (by unfold maxLen;omega) (by omega) (by simp;omega) ?_;intro v3 w3 hown3 hg3)
    have hb3:Below w0.heap.size w0 w3:=(hbel.alloc hbs _).grown hg3 (by simp;omega) (fun g hg=>own_ge hown hg)
    have hrow:Row32 w3 w0.heap.size (k+1) (wl xl (k+1)) v3:=by
     refine Row32.of ?_ (by omega)
     have e:U32 (wl xl (k+1))=U32 (wl xl k)++ [.int .u32 (y:Int)]:=by rw[HY.out];simp[U32]
     rw[e]
     exact hown3
    have HRW:=Lib.hid hrow
    clear hown3 hg3 hrow hown hbel
    go_wp2
    go_roundw
    case rel=>exact⟨k+1,by omega,by go_num,HRW.out,hb3⟩
    case measure=>simp[intOf];omega
   ·have hc1:=own_cell32 hown (k - 16) (by omega)
    have hc2:=own_cell32 hown (k - 15) (by omega)
    have hc3:=own_cell32 hown (k - 7) (by omega)
    have hc4:=own_cell32 hown (k - 2) (by omega)
    have hy1:=getD_lt (wl_lt xl HX.out k) (k - 16)
    have hy2:=getD_lt (wl_lt xl HX.out k) (k - 15)
    have hy3:=getD_lt (wl_lt xl HX.out k) (k - 7)
    have hy4:=getD_lt (wl_lt xl HX.out k) (k - 2)
    have hy:wl xl (k+1)=wl xl k++ [((wl xl k).getD (k - 16) 0+twoN ((wl xl k).getD (k - 15) 0) 7 18 8+(wl xl k).getD (k - 7) 0+twoN ((wl xl k).getD (k - 2) 0) 17 19 1024) % 4294967296]:=by rw[wl,wNext,if_neg h16]
    generalize (wl xl k).getD (k - 16) 0=y1 at*
    generalize (wl xl k).getD (k - 15) 0=y2 at*
    generalize (wl xl k).getD (k - 7) 0=y3 at*
    generalize (wl xl k).getD (k - 2) 0=y4 at*
    have HY:=Lib.hid hy
    clear hy
    have h16':16≤k:=by omega
    have h15':(15:Int)≤(k:Int):=by omega
    have h7':(7:Int)≤(k:Int):=by omega
    have h2':(2:Int)≤(k:Int):=by omega
    have b1:(0:Int)≤(k:Int) - 16:=by omega
    have b1':(k:Int) - 16<(k:Int):=by omega
    have b2:(0:Int)≤(k:Int) - 15:=by omega
    have b2':(k:Int) - 15<(k:Int):=by omega
    have b3:(0:Int)≤(k:Int) - 7:=by omega
    have b3':(k:Int) - 7<(k:Int):=by omega
    have b4:(0:Int)≤(k:Int) - 2:=by omega
    have b4':(k:Int) - 2<(k:Int):=by omega
    have e1:((k:Int) - 16).toNat=k - 16:=by omega
    have e2:((k:Int) - 15).toNat=k - 15:=by omega
    have e3:((k:Int) - 7).toNat=k - 7:=by omega
    have e4:((k:Int) - 2).toNat=k - 2:=by omega
    have f1:IntKind.i64.wrap ((k:Int) - 16)=(k:Int) - 16:=IntWalk.i64_in _ (by omega)
    have f2:IntKind.i64.wrap ((k:Int) - 15)=(k:Int) - 15:=IntWalk.i64_in _ (by omega)
    have f3:IntKind.i64.wrap ((k:Int) - 7)=(k:Int) - 7:=IntWalk.i64_in _ (by omega)
    have f4:IntKind.i64.wrap ((k:Int) - 2)=(k:Int) - 2:=IntWalk.i64_in _ (by omega)
    have lk:=World.block_lt_of_cell? wr _ hc1
    go_wp2
    go_region_held3 (fun w'=>w'.cell? ⟨g,k - 16,none⟩=some (.int .u32 (y1:Nat))∧w'.cell? ⟨g,k - 15,none⟩=some (.int .u32 (y2:Nat))∧w'.cell? ⟨g,k - 7,none⟩=some (.int .u32 (y3:Nat))∧w'.cell? ⟨g,k - 2,none⟩=some (.int .u32 (y4:Nat)))
     (first|go_keep|exact⟨(hkeep _ (by omega)).trans ((World.cell?_alloc_lt wr _ _ lk).trans hc1),(hkeep _ (by omega)).trans ((World.cell?_alloc_lt wr _ _ lk).trans hc2),(hkeep _ (by omega)).trans ((World.cell?_alloc_lt wr _ _ lk).trans hc3),(hkeep _ (by omega)).trans ((World.cell?_alloc_lt wr _ _ lk).trans hc4)⟩)
     (first|(refine step_append_keep _ (by rfl) _ _ _ (by rfl) w0.heap.size 138 i0 _ 4 Tryz.underlying145 hi hz0 hz1 hz2 rfl g k cap (U32 (wl xl k)) (by rfl) (by exact hown.alloc _) ⟨wr.heap.size,0,none⟩ 1 1 [.int .u32 (IntKind.u32.wrap (IntKind.u32.wrap (IntKind.u32.wrap ((y1:Int)+(twoN y2 7 18 8:Nat))+(y3:Int))+(twoN y4 17 19 1024:Nat)))] (by rfl) (by rfl) (by exact news_lit wr _ _) (by simp[Value.oneCell']) (by unfold maxLen;omega) (by omega) (by simp;omega) ?_;intro v1 w1 hown1 hgrow hkeep)|(go_at_call 135;refine(two_any _ _ _ _ _ (by assumption) (by decide) (by decide) (by decide) (by decide) (by decide) (by decide)).mono ?_;rintro e w' ⟨rfl,nd,rfl⟩))
    have hgg:w0.heap.size≤g:=own_ge hown rfl
    have hb3:Below w0.heap.size w0 w1:=⟨hgrow.os.trans hbel.os,hgrow.tape.trans hbel.tape,hgrow.output.trans hbel.output,Nat.le_trans hbs (Nat.le_trans (Nat.le_succ _) (Nat.le_trans (Nat.le_of_eq (by simp)) hgrow.size)),
     fun i hi=>(hgrow.block i (Nat.lt_of_lt_of_le (Nat.lt_of_lt_of_le hi hbs) (Nat.le_trans (Nat.le_succ _) (Nat.le_of_eq (by simp)))) (by simp;omega)).trans ((Below.heap_alloc wr _ i (Nat.lt_of_lt_of_le hi hbs)).trans (hbel.block i hi))⟩
    have hrow:Row32 w1 w0.heap.size (k+1) (wl xl (k+1)) v1:=by
     refine Row32.of ?_ (by omega)
     have e:U32 (wl xl (k+1))=U32 (wl xl k)++ [.int .u32 (IntKind.u32.wrap (IntKind.u32.wrap (IntKind.u32.wrap ((y1:Int)+(twoN y2 7 18 8:Nat))+(y3:Int))+(twoN y4 17 19 1024:Nat)))]:=by
      rw[HY.out,sum_four];simp[U32]
     rw[e]
     exact hown1
    have HRW:=Lib.hid hrow
    clear hown1 hgrow hkeep hrow hown hbel e1 e2 e3 e4 f1 f2 f3 f4 hc1 hc2 hc3 hc4
    go_wp2
    go_roundw
    case rel=>exact⟨k+1,by omega,by go_num,HRW.out,hb3⟩
    case measure=>simp[intOf];omega
  ·have k64:k=64:=by omega
   subst k64
   obtain⟨wo,rfl⟩: ∃wo:World,wo=wr:=⟨_,rfl⟩
   go_wp2_with fail
   refine(consts_any _).mono ?_
   rintro e w2 ⟨gk,ck,rfl,hownk,hb2⟩
   have hownl:=own_below hown hb2
   have hbw:Below w0.heap.size w0 w2:=hbel.trans (hb2.mono hbs)
   have hh2:w2.heap[w.heap.size]?=some (.cells (U32 h.list).toArray 139 (0,0)):=(hbw.block _ (by rw[HS0.out];omega)).trans HH.out
   have HO:=Lib.hid hownl
   have HKO:=Lib.hid hownk
   have HBW:=Lib.hid hbw
   have HH2:=Lib.hid hh2
   have hlc: ∀i (v:Nat),h.list[i]?=some v→w2.cell? ⟨w.heap.size,i,none⟩=some (.int .u32 (v:Int)):=by
    intro i v hv
    rw[cell_of_row w2 w.heap.size i _ _ (0,0) hh2,List.getElem?_toArray,U32,List.getElem?_map,hv];rfl
   have c0:=hlc 0 h.a rfl
   have c1:=hlc 1 h.b rfl
   have c2:=hlc 2 h.c rfl
   have c3:=hlc 3 h.d rfl
   have c4:=hlc 4 h.e rfl
   have c5:=hlc 5 h.f rfl
   have c6:=hlc 6 h.g rfl
   have c7:=hlc 7 h.h rfl
   clear hownl hbw hh2 hlc hown hownk hb2 hbel
   go_wp2_with fail
   clear c0 c1 c2 c3 c4 c5 c6 c7
   go_loopw [9] (fun i wr=> ∃k:Nat,k≤64∧i= .int .i64 k∧wr.heap[w2.heap.size]?=some (.cells (U32 (rnds h (wl xl 64) k).list).toArray 139 (0,0))∧Below w2.heap.size w2 wr) (fun i _=>64 - (intOf i).toNat)
   case atStart=>exact⟨0,Nat.zero_le _,rfl,heap_alloc_new w2 _,(Below.refl _ _).alloc (Nat.le_refl _) _⟩
   case round=>
    obtain⟨k,hk,rfl,hv,hbel⟩:=hrel
    have hbs2:=hbel.size
    by_cases hlt:k<64
    ·have hvok:(rnds h (wl xl 64) k).ok:=rnds_ok hh _ _
     have hnext:rnds h (wl xl 64) (k+1)=rnd (rnds h (wl xl 64) k) (kTab.getD k 0) ((wl xl 64).getD k 0):=rfl
     have hck:wr.cell? ⟨gk,k,none⟩=some (.int .u32 ((kTab.getD k 0:Nat):Int)):=own_cell32 (own_below HKO.out hbel) k hlt
     have hcl:wr.cell? ⟨g,k,none⟩=some (.int .u32 (((wl xl 64).getD k 0:Nat):Int)):=own_cell32 (own_below HO.out hbel) k hlt
     have hyk:=getD_lt kTab_lt k
     have hyl:=getD_lt (wl_lt xl HX.out 64) k
     generalize kTab.getD k 0=kk at*
     generalize (wl xl 64).getD k 0=ww at*
     generalize rnds h (wl xl 64) k=V at*
     have hlc: ∀i (v:Nat),V.list[i]?=some v→wr.cell? ⟨w2.heap.size,i,none⟩=some (.int .u32 (v:Int)):=by
      intro i v hvv
      rw[cell_of_row wr w2.heap.size i _ _ (0,0) hv,List.getElem?_toArray,U32,List.getElem?_map,hvv];rfl
     have c0:=hlc 0 V.a rfl
     have c1:=hlc 1 V.b rfl
     have c2:=hlc 2 V.c rfl
     have c3:=hlc 3 V.d rfl
     have c4:=hlc 4 V.e rfl
     have c5:=hlc 5 V.f rfl
     have c6:=hlc 6 V.g rfl
     have c7:=hlc 7 V.h rfl
     obtain⟨ba,bb,bc,bd,be,bf,bg,bh⟩:=hvok
     have HV:=Lib.hid hv
     have HNX:=Lib.hid hnext
     have bk0:(0:Int)≤(k:Int):=Int.natCast_nonneg _
     have bk1:(k:Int)<64:=by omega
     clear hlc hv hnext
     go_wp2
     go_quiet (first|(go_at_call 137;exact Calls.quiet_of_same (three_q _ _ _ _ _ (by assumption) (by decide) (by decide) (by decide) (by decide) (by decide) (by decide)))|(go_at_call 138;exact Calls.quiet_of_same (pick_q _ _ _ _ (by assumption) (by assumption) (by assumption))))
     go_wp2
     rw[t1_eq V kk ww]
     have ht1:t1N V kk ww<4294967296:=Nat.mod_lt _ (by omega)
     have ht2:t2N V<4294967296:=Nat.mod_lt _ (by omega)
     have HT:Hid (rnd V kk ww=⟨(t1N V kk ww+t2N V) % 4294967296,V.a,V.b,V.c,(V.d+t1N V kk ww) % 4294967296,V.e,V.f,V.g⟩):=rfl
     generalize t1N V kk ww=t1 at*
     obtain⟨wd,hwd⟩: ∃wd:World,wd=wr.drewN nq:=⟨_,rfl⟩
     rw[←hwd]
     replace c0:wd.cell? ⟨w2.heap.size,0,none⟩=some (.int .u32 (V.a:Int)):=by rw[hwd];exact c0
     replace c1:wd.cell? ⟨w2.heap.size,1,none⟩=some (.int .u32 (V.b:Int)):=by rw[hwd];exact c1
     replace c2:wd.cell? ⟨w2.heap.size,2,none⟩=some (.int .u32 (V.c:Int)):=by rw[hwd];exact c2
     replace c3:wd.cell? ⟨w2.heap.size,3,none⟩=some (.int .u32 (V.d:Int)):=by rw[hwd];exact c3
     replace c4:wd.cell? ⟨w2.heap.size,4,none⟩=some (.int .u32 (V.e:Int)):=by rw[hwd];exact c4
     replace c5:wd.cell? ⟨w2.heap.size,5,none⟩=some (.int .u32 (V.f:Int)):=by rw[hwd];exact c5
     replace c6:wd.cell? ⟨w2.heap.size,6,none⟩=some (.int .u32 (V.g:Int)):=by rw[hwd];exact c6
     replace c7:wd.cell? ⟨w2.heap.size,7,none⟩=some (.int .u32 (V.h:Int)):=by rw[hwd];exact c7
     have hfz: ∀i,wd.frozen? ⟨w2.heap.size,i,none⟩=false:=fun i=>by rw[hwd];exact frozen_of_row wr w2.heap.size i _ _ HV.out
     have hvd:wd.heap[w2.heap.size]?=some (.cells (U32 V.list).toArray 139 (0,0)):=by rw[hwd];exact HV.out
     have hbd:Below w2.heap.size w2 wd:=by rw[hwd];exact below_drewN hbel _
     have z0:=hfz 0
     have z1:=hfz 1
     have z2:=hfz 2
     have z3:=hfz 3
     have z4:=hfz 4
     have z5:=hfz 5
     have z6:=hfz 6
     have z7:=hfz 7
     have HVD:=Lib.hid hvd
     clear hwd hck hcl HV hbel hfz hvd
     go_quiet (first|(go_at_call 137;exact Calls.quiet_of_same (three_q _ _ _ _ _ (by assumption) (by decide) (by decide) (by decide) (by decide) (by decide) (by decide)))|(go_at_call 139;exact Calls.quiet_of (most_any _ _ _ _ (by assumption) (by assumption) (by assumption))))
     go_wp2
     go_roundw
     case rel=>
      refine⟨k+1,by omega,by go_num, ?_, ?_⟩
      ·rw[HNX.out,HT.out]
       have e0:((t1:Int)+((threeN V.a 2 13 22:Nat)+(mj V.a V.b V.c 32:Nat))) % 4294967296=(((t1+t2N V) % 4294967296:Nat):Int):=by unfold t2N;omega
       have e4:((V.d:Int)+(t1:Int)) % 4294967296=(((V.d+t1) % 4294967296:Nat):Int):=by omega
       rw[e0,e4]
       exact set8 (wd.drewN nq) _ V _ HVD.out _ _ _ _ _ _ _ _
      ·exact((((((((below_drewN hbd _).setCell (Nat.le_refl _) _).setCell (Nat.le_refl _) _).setCell (Nat.le_refl _) _).setCell (Nat.le_refl _) _).setCell (Nat.le_refl _) _).setCell (Nat.le_refl _) _).setCell (Nat.le_refl _) _).setCell (Nat.le_refl _) _
     case measure=>simp[intOf];omega
    ·have k64:k=64:=by omega
     subst k64
     go_wp2
     have hh3:wr.heap[w.heap.size]?=some (.cells (U32 h.list).toArray 139 (0,0)):=(hbel.block _ (by have:=HBW.out.size;rw[HS0.out]at this;omega)).trans HH2.out
     have HH3:=Lib.hid hh3
     have hb3:Below w0.heap.size w0 wr:=HBW.out.trans (hbel.mono HBW.out.size)
     have hlt2:w.heap.size+1+1<w2.heap.size:=by have:=HBW.out.size;rw[HS0.out]at this;omega
     have HB3:=Lib.hid hb3
     obtain⟨V,hV⟩: ∃V,V=rnds h (wl xl 64) 64:=⟨_,rfl⟩
     rw[←hV]at hv
     have HV:=Lib.hid hV
     have HVV:=Lib.hid hv
     clear hh3 hb3 hV hv
     obtain⟨w3,rfl⟩: ∃w3:World,w3=wr:=⟨_,rfl⟩
     go_loopw [12] (fun i wr=> ∃k:Nat,k≤8∧i= .int .i64 k∧wr.heap[w2.heap.size]?=some (.cells (U32 (sumTo V.list h.list k)).toArray 139 (0,0))∧Below w2.heap.size w3 wr) (fun i _=>8 - (intOf i).toNat)
     case atStart=>exact⟨0,Nat.zero_le _,rfl,by rw[sumTo_zero];exact HVV.out,Below.refl _ _⟩
     case round=>
      clear hbel
      obtain⟨k,hk,rfl,hv,hbel⟩:=hrel
      by_cases hlt:k<8
      ·have hcv:wr.cell? ⟨w2.heap.size,k,none⟩=some (.int .u32 ((V.list.getD k 0:Nat):Int)):=by
        rw[cell_of_row wr w2.heap.size k _ _ (0,0) hv,List.getElem?_toArray,U32_getD _ k (by rw[length_sumTo];exact hlt),sumTo_at,if_pos hlt]
       have hch:wr.cell? ⟨w.heap.size,k,none⟩=some (.int .u32 ((h.list.getD k 0:Nat):Int)):=by
        rw[hbel.cell (p:=⟨w.heap.size,k,none⟩) (by show w.heap.size<_;omega),cell_of_row w3 w.heap.size k _ _ (0,0) HH3.out,List.getElem?_toArray,U32_getD h.list k hlt]
       have hfz:=frozen_of_row wr w2.heap.size k _ _ hv
       have hset:=heap_setCell_same wr w2.heap.size k _ 139 (.int .u32 (((V.list.getD k 0+h.list.getD k 0) % 4294967296:Nat):Int)) hv
       have hst:(U32 (sumTo V.list h.list k)).toArray.setIfInBounds k (.int .u32 (((V.list.getD k 0+h.list.getD k 0) % 4294967296:Nat):Int))=(U32 (sumTo V.list h.list (k+1))).toArray:=by
        rw[List.setIfInBounds_toArray, ←sumTo_set,U32,U32,List.map_set]
       rw[hst]at hset
       have HSET:=Lib.hid hset
       clear hset hst hv
       generalize V.list.getD k 0=y at*
       generalize h.list.getD k 0=z at*
       have bk0:(0:Int)≤(k:Int):=Int.natCast_nonneg _
       have bk1:(k:Int)<8:=by omega
       go_wp2
       go_region
       all_goals go_wp2
       go_roundw
       case rel=>
        refine⟨k+1,by omega,by go_num, ?_,(hbel.setCell (Nat.le_refl _) _).drew⟩
        have e:((y:Int)+(z:Int)) % 4294967296=(((y+z) % 4294967296:Nat):Int):=by omega
        rw[e]
        exact HSET.out
       case measure=>simp[intOf];omega
      ·have k8:k=8:=by omega
       subst k8
       have hfin:sumTo V.list h.list 8=(blockN h xl).list:=by rw[blockN, ←HV.out];rfl
       have hok:(blockN h xl).ok:=sumSt_ok _ _
       have hbb:Below w.heap.size w wr:=(hb0.trans (HB3.out.mono hb0.size)).trans (hbel.mono (by omega))
       rw[hfin]at hv
       obtain⟨R,hR⟩: ∃R,R=blockN h xl:=⟨_,rfl⟩
       rw[←hR]at hv hok
       have HRR:=Lib.hid hR
       clear hR
       have hlc: ∀i (v:Nat),R.list[i]?=some v→wr.cell? ⟨w2.heap.size,i,none⟩=some (.int .u32 (v:Int)):=by
        intro i v hvv
        rw[cell_of_row wr w2.heap.size i _ _ (0,0) hv,List.getElem?_toArray,U32,List.getElem?_map,hvv];rfl
       have c0:=hlc 0 R.a rfl
       have c1:=hlc 1 R.b rfl
       have c2:=hlc 2 R.c rfl
       have c3:=hlc 3 R.d rfl
       have c4:=hlc 4 R.e rfl
       have c5:=hlc 5 R.f rfl
       have c6:=hlc 6 R.g rfl
       have c7:=hlc 7 R.h rfl
       have hr:wr.heap[w.heap.size+1+1]?=some (.cells #[.int .u32 0, .int .u32 0, .int .u32 0, .int .u32 0, .int .u32 0, .int .u32 0, .int .u32 0, .int .u32 0] 139 (0,0)):=(hbel.block _ hlt2).trans ((HB3.out.block _ (by rw[HS0.out];omega)).trans HR.out)
       have hlr: ∀i,i<8→wr.cell? ⟨w.heap.size+1+1,i,none⟩=some (.int .u32 0):=by
        intro i hi8
        rw[cell_of_row wr (w.heap.size+1+1) i _ _ (0,0) hr]
        match i,hi8 with
        |0,_=>rfl
        |1,_=>rfl
        |2,_=>rfl
        |3,_=>rfl
        |4,_=>rfl
        |5,_=>rfl
        |6,_=>rfl
        |7,_=>rfl
       have hfr: ∀i,wr.frozen? ⟨w.heap.size+1+1,i,none⟩=false:=fun i=>frozen_of_row wr _ i _ _ hr
       have d0:=hlr 0 (by omega)
       have d1:=hlr 1 (by omega)
       have d2:=hlr 2 (by omega)
       have d3:=hlr 3 (by omega)
       have d4:=hlr 4 (by omega)
       have d5:=hlr 5 (by omega)
       have d6:=hlr 6 (by omega)
       have d7:=hlr 7 (by omega)
       have z0:=hfr 0
       have z1:=hfr 1
       have z2:=hfr 2
       have z3:=hfr 3
       have z4:=hfr 4
       have z5:=hfr 5
       have z6:=hfr 6
       have z7:=hfr 7
       clear hlc hlr hfr hfin hv hr hbel
       go_wp2
       have hle:w.heap.size≤w.heap.size+1+1:=by omega
       exact bodyPost_ret (v:=R.val) (by simp[results, Tryz.results119,go_sem,St.val, *]) rfl ⟨by have hq:=HRR.out;subst hq;rfl,(((((((hbb.setCell hle _).setCell hle _).setCell hle _).setCell hle _).setCell hle _).setCell hle _).setCell hle _).setCell hle _⟩
end Go.Proofs.YtcnglbliidjnfaaGreatDoor
end
section
namespace Go.Proofs.YtcnglbliidjnfaaGreatDoor
set_option linter.unusedVariables false
open Go.ChangeShapes Go.WideShapes Go.ChangeAt Go.RowKit
def wlZ (w:List Nat) (k:Nat):List Nat:=wl w k++List.replicate (64 - k) 0
theorem length_wlZ (w:List Nat) (k:Nat) (h:k≤64):(wlZ w k).length=64:=by simp[wlZ,length_wl];omega
theorem wlZ_set (w:List Nat) (k:Nat) (h:k<64):(wlZ w k).set k (wNext w (wl w k) k)=wlZ w (k+1):=by
 unfold wlZ
 rw[List.set_append_right _ _ (by rw[length_wl];exact Nat.le_refl _),length_wl,Nat.sub_self,show 64 - k=(64 - (k+1))+1 by omega,List.replicate_succ,List.set_cons_zero,wl]
 simp
theorem wlZ_at (w:List Nat) (k i:Nat) (h:i<k):(wlZ w k).getD i 0=(wl w k).getD i 0:=by
 unfold wlZ
 rw[List.getD_eq_getElem?_getD,List.getD_eq_getElem?_getD,List.getElem?_append_left (by rw[length_wl];exact h)]
theorem wlZ_all (w:List Nat):wlZ w 64=wl w 64:=by simp[wlZ]
theorem three_made {w w':World} {ca cb cc cd:Array Value} {ta tb tc:TypeId} (h:w'=(((w.alloc (.cells ca ta)).alloc (.cells cb tb)).alloc (.cells cc tc)).setRow (w.heap.size+1+1) cd):
  w'.heap.size=w.heap.size+1+1+1∧w'.heap[w.heap.size]?=some (.cells ca ta (0,0))∧w'.heap[w.heap.size+1]?=some (.cells cb tb (0,0))∧w'.heap[w.heap.size+1+1]?=some (.cells cd tc (0,0))∧Below w.heap.size w w':=by
 have h2:(((w.alloc (.cells ca ta)).alloc (.cells cb tb)).alloc (.cells cc tc)).heap[w.heap.size+1+1]?=some (.cells cc tc (0,0)):=by
  have:=heap_alloc_new ((w.alloc (.cells ca ta)).alloc (.cells cb tb)) (.cells cc tc)
  simpa using this
 subst h
 refine⟨by simp, ?_, ?_,setRow_heap _ _ _ _ _ _ h2, ?_⟩
 ·rw[setRow_other _ _ _ _ (by omega),Below.heap_alloc _ _ _ (by simp;omega),Below.heap_alloc _ _ _ (by simp),heap_alloc_new]
 ·rw[setRow_other _ _ _ _ (by omega),Below.heap_alloc _ _ _ (by simp),heap_alloc2_new]
 ·exact below_setRow ((((Below.refl _ _).alloc (Nat.le_refl _) _).alloc (by simp) _).alloc (by simp;omega) _) (by omega) _
theorem stirEarly_q (x:Nat) (w:World) (hx:x<4294967296):
  Calls Tryz.prog 148 #[.int .u32 x] w fun e w'=>e= .returned (.int .u32 ((twoN x 7 18 8:Nat):Int))∧w'=w:=(stirEarly_any x w hx).mono fun _ _ ⟨a,b⟩=>⟨a,b.symm⟩
theorem stirLate_q (x:Nat) (w:World) (hx:x<4294967296):
  Calls Tryz.prog 149 #[.int .u32 x] w fun e w'=>e= .returned (.int .u32 ((twoN x 17 19 1024:Nat):Int))∧w'=w:=(stirLate_any x w hx).mono fun _ _ ⟨a,b⟩=>⟨a,b.symm⟩
theorem info42:(Tryz.prog.info? 157).map (·.size)=some 64:=by kernel_rfl
theorem sched_here {w:World} {A B C:Obj} :(((w.alloc A).alloc B).alloc C).heap[w.heap.size+1+1]?=some C:=by
 have:=heap_alloc_new ((w.alloc A).alloc B) C
 simpa using this
set_option maxRecDepth 100000 in
set_option maxHeartbeats 1600000 in
theorem sched_any (x0 x1 x2 x3 x4 x5 x6 x7 x8 x9 x10 x11 x12 x13 x14 x15:Nat) (w:World) (hx: ∀x∈ [x0,x1,x2,x3,x4,x5,x6,x7,x8,x9,x10,x11,x12,x13,x14,x15],x<4294967296):
  Calls Tryz.prog 131 #[agg16 x0 x1 x2 x3 x4 x5 x6 x7 x8 x9 x10 x11 x12 x13 x14 x15] w fun e w'=>e= .returned (.agg (U32 (wl [x0,x1,x2,x3,x4,x5,x6,x7,x8,x9,x10,x11,x12,x13,x14,x15] 64)).toArray)∧Below w.heap.size w w':=by
 obtain⟨xl,hxl⟩: ∃xl:List Nat,xl=[x0,x1,x2,x3,x4,x5,x6,x7,x8,x9,x10,x11,x12,x13,x14,x15]:=⟨_,rfl⟩
 rw[←hxl]at hx⊢
 have hlen:xl.length=16:=by rw[hxl];rfl
 have HXL:=Lib.hid hxl
 have HX:=Lib.hid hx
 have HLEN:=Lib.hid hlen
 clear hx hxl hlen
 unfold agg16
 go_enter Tryz.func131, Tryz.ntmps131
 go_wp2_with ((with_reducible refine at_store 3 ?_);refine wpList_store_named (o:=⟨none, .store 157 (.tmp 3) (.tmp 5),_,_,_,_⟩) rfl 157 (.tmp 3) (.tmp 5) rfl (w.heap.size+1+1) z64 rfl rfl 157 z64 sched_here info42 rfl (all_one32 (List.replicate 64 0)) ?_;intro w0 hw0)
 obtain⟨hs0,hbl0,hbl1,hbl2,hb0⟩:=three_made hw0.out
 clear hw0
 have hbl2':w0.heap[w.heap.size+1+1]?=some (.cells (U32 (wlZ xl 0)).toArray 157 (0,0)):=hbl2
 have hbl0':w0.heap[w.heap.size]?=some (.cells (U32 xl).toArray 141 (0,0)):=by rw[HXL.out];exact hbl0
 have HS0:=Lib.hid hs0
 have HB2:=Lib.hid hbl2'
 have HB1:=Lib.hid hbl1
 have HB0:=Lib.hid hbl0'
 clear hs0 hbl0 hbl1 hbl2 hbl2' hbl0'
 go_loopw [6] (fun i wr=> ∃k:Nat,k≤64∧i= .int .i64 k∧wr.heap[w.heap.size+1+1]?=some (.cells (U32 (wlZ xl k)).toArray 157 (0,0))∧Below (w.heap.size+1+1) w0 wr) (fun i _=>64 - (intOf i).toNat)
 case atStart=>exact⟨0,Nat.zero_le _,rfl,HB2.out,Below.refl _ _⟩
 case round=>
  obtain⟨k,hk,rfl,hv,hbel⟩:=hrel
  by_cases hlt:k<64
  ·have hfz:=frozen_of_row wr _ k _ _ hv
   have hset:=heap_setCell_same wr _ k _ 157 (.int .u32 ((wNext xl (wl xl k) k:Nat):Int)) hv
   have hst:(U32 (wlZ xl k)).toArray.setIfInBounds k (.int .u32 ((wNext xl (wl xl k) k:Nat):Int))=(U32 (wlZ xl (k+1))).toArray:=by
    rw[List.setIfInBounds_toArray, ←wlZ_set xl k hlt,U32,U32,List.map_set]
   rw[hst]at hset
   have HSET:=Lib.hid hset
   have hcur:wr.cell? ⟨w.heap.size+1+1,k,none⟩=some (.int .u32 (((wlZ xl k).getD k 0:Nat):Int)):=by
    rw[cell_of_row wr _ k _ _ (0,0) hv,List.getElem?_toArray,U32_getD _ k (by rw[length_wlZ xl k hk];exact hlt)]
   clear hset hst
   have bk0:(0:Int)≤(k:Int):=Int.natCast_nonneg _
   have bk1:(k:Int)<64:=by omega
   by_cases h16:k<16
   ·have hc:wr.cell? ⟨w.heap.size,k,none⟩=some (.int .u32 ((xl.getD k 0:Nat):Int)):=by
     rw[cell_of_row wr _ k _ _ (0,0) ((hbel.block _ (by omega)).trans HB0.out),List.getElem?_toArray,U32_getD xl k (by rw[HLEN.out];exact h16)]
    have hnx:wNext xl (wl xl k) k=xl.getD k 0:=by unfold wNext;rw[if_pos h16]
    rw[hnx]at HSET
    have bk2:(k:Int)<16:=by omega
    generalize (wlZ xl k).getD k 0=z at*
    generalize xl.getD k 0=y at*
    have HV:=Lib.hid hv
    clear hv hnx
    go_wp2
    go_roundw
    case rel=>exact⟨k+1,by omega,by go_num,HSET.out,hbel.setCell (Nat.le_refl _) _⟩
    case measure=>simp[intOf];omega
   ·have hcs: ∀i,i<k→wr.cell? ⟨w.heap.size+1+1,i,none⟩=some (.int .u32 (((wl xl k).getD i 0:Nat):Int)):=by
     intro i hi
     rw[cell_of_row wr _ i _ _ (0,0) hv,List.getElem?_toArray,U32_getD _ i (by rw[length_wlZ xl k hk];omega),wlZ_at xl k i hi]
    have hc1:=hcs (k - 16) (by omega)
    have hc2:=hcs (k - 15) (by omega)
    have hc3:=hcs (k - 7) (by omega)
    have hc4:=hcs (k - 2) (by omega)
    clear hcs
    have hy1:=getD_lt (wl_lt xl HX.out k) (k - 16)
    have hy2:=getD_lt (wl_lt xl HX.out k) (k - 15)
    have hy3:=getD_lt (wl_lt xl HX.out k) (k - 7)
    have hy4:=getD_lt (wl_lt xl HX.out k) (k - 2)
    have hnx:wNext xl (wl xl k) k=((wl xl k).getD (k - 16) 0+twoN ((wl xl k).getD (k - 15) 0) 7 18 8+(wl xl k).getD (k - 7) 0+twoN ((wl xl k).getD (k - 2) 0) 17 19 1024) % 4294967296:=by rw[wNext,if_neg h16]
    rw[hnx]at HSET
    clear hnx
    generalize (wl xl k).getD (k - 16) 0=y1 at*
    generalize (wl xl k).getD (k - 15) 0=y2 at*
    generalize (wl xl k).getD (k - 7) 0=y3 at*
    generalize (wl xl k).getD (k - 2) 0=y4 at*
    generalize (wlZ xl k).getD k 0=z at*
    have h16':16≤k:=by omega
    have h15':(15:Int)≤(k:Int):=by omega
    have h7':(7:Int)≤(k:Int):=by omega
    have h2':(2:Int)≤(k:Int):=by omega
    have b1:(0:Int)≤(k:Int) - 16:=by omega
    have b1':(k:Int) - 16<64:=by omega
    have b2:(0:Int)≤(k:Int) - 15:=by omega
    have b2':(k:Int) - 15<64:=by omega
    have b3:(0:Int)≤(k:Int) - 7:=by omega
    have b3':(k:Int) - 7<64:=by omega
    have b4:(0:Int)≤(k:Int) - 2:=by omega
    have b4':(k:Int) - 2<64:=by omega
    have e1:((k:Int) - 16).toNat=k - 16:=by omega
    have e2:((k:Int) - 15).toNat=k - 15:=by omega
    have e3:((k:Int) - 7).toNat=k - 7:=by omega
    have e4:((k:Int) - 2).toNat=k - 2:=by omega
    have f1:IntKind.i64.wrap ((k:Int) - 16)=(k:Int) - 16:=IntWalk.i64_in _ (by omega)
    have f2:IntKind.i64.wrap ((k:Int) - 15)=(k:Int) - 15:=IntWalk.i64_in _ (by omega)
    have f3:IntKind.i64.wrap ((k:Int) - 7)=(k:Int) - 7:=IntWalk.i64_in _ (by omega)
    have f4:IntKind.i64.wrap ((k:Int) - 2)=(k:Int) - 2:=IntWalk.i64_in _ (by omega)
    have HV:=Lib.hid hv
    clear hv
    go_wp2
    refine wp_region_still_tail 23 (by kernel_rfl) (by kernel_rfl) ?_
    simp only[List.take_succ_cons,List.take_zero,List.drop_succ_cons,List.drop_zero]
    repeat still_step
    still_call (stirEarly_q _ _ (by assumption))
    repeat still_step
    still_call (stirLate_q _ _ (by assumption))
    repeat still_step
    refine wpStill_nil ?_
    change wpList _ _ _ _ _ wr.drew
    clear e1 e2 e3 e4 f1 f2 f3 f4
    go_wp2
    go_roundw
    case rel=>
     refine⟨k+1,by omega,by go_num, ?_,(hbel.setCell (Nat.le_refl _) _).drew⟩
     have e:((y1:Int)+(twoN y2 7 18 8:Nat)+(y3:Int)+(twoN y4 17 19 1024:Nat)) % 4294967296=(((y1+twoN y2 7 18 8+y3+twoN y4 17 19 1024) % 4294967296:Nat):Int):=by omega
     rw[e]
     exact HSET.out
    case measure=>simp[intOf];omega
  ·have k64:k=64:=by omega
   subst k64
   have hbr:wr.heap[w.heap.size+1]?=some (.cells z64 157 (0,0)):=(hbel.block _ (by omega)).trans HB1.out
   rw[wlZ_all]at hv
   obtain⟨fin,hfin⟩: ∃fin:Array Value,fin=(U32 (wl xl 64)).toArray:=⟨_,rfl⟩
   have hsz:fin.size=64:=by rw[hfin];simp[U32,length_wl]
   have hone:fin.all (·.oneCell')=true:=by rw[hfin];exact all_one32 _
   have hin:(Tryz.prog.info? 157).map (·.size)=some fin.size:=by rw[hsz];exact info42
   rw[←hfin]at hv
   have HFIN:=Lib.hid hfin
   have HV:=Lib.hid hv
   have HBR:=Lib.hid hbr
   have HSZ:=Lib.hid hsz
   have HONE:=Lib.hid hone
   have HIN:=Lib.hid hin
   clear hv hbr hsz hfin hone hin
   go_wp2_with (first
    |((with_reducible refine at_load 40 ?_);refine wpList_load_row (o:=⟨some 40, .load 157 (.tmp 3),_,_,_,_⟩) rfl 157 (.tmp 3) rfl (w.heap.size+1+1) rfl 157 fin (0,0) _ HV.out Tryz.underlying157 rfl HIN.out ?_)
    |((with_reducible refine at_store 2 ?_);refine wpList_store_named (o:=⟨none, .store 157 (.tmp 2) (.tmp 40),_,_,_,_⟩) rfl 157 (.tmp 2) (.tmp 40) rfl (w.heap.size+1) fin rfl rfl 157 z64 HBR.out HIN.out HSZ.out.symm HONE.out ?_;intro w1 hw1))
   have hr1:w1.heap[w.heap.size+1]?=some (.cells fin 157 (0,0)):=by rw[hw1.out];exact setRow_heap _ _ _ _ _ _ HBR.out
   refine bodyPost_ret (results_cell_row Tryz.results131 _ w1 (w.heap.size+1) 157 _ (0,0) _ rfl hr1 Tryz.underlying157 rfl HIN.out) rfl ⟨by rw[HFIN.out], ?_⟩
   have h1:Below w.heap.size w0 wr:=hbel.mono (by omega)
   exact(hb0.trans (h1.mono (by omega))).trans (below_row hw1.out (by omega))
end Go.Proofs.YtcnglbliidjnfaaGreatDoor
end
