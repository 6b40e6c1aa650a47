import Derived.Test.YtmdbfogjfbbpjaaGreatDoorRingAddMath
import Derived.Test.YtmdbfogjfbbpjaaGreatDoorLayPFields
import Derived.Test.YtmdbfogjfbbpjaaGreatDoorMem
set_option maxHeartbeats 1600000
set_option maxRecDepth 100000
set_option linter.unusedVariables false
namespace Go.Proofs.YtmdbfogjfbbpjaaGreatDoor
open Go.ChangeShapes Go.WideShapes Go.ChangeAt Go.RowKit
def aW (x0 x1 x2 x3 x4 x5 x6 x7 x8 x9 x10 x11 x12 x13 x14 x15:Nat):Value:= .agg #[.int .u32 x0, .int .u32 x1, .int .u32 x2, .int .u32 x3, .int .u32 x4, .int .u32 x5, .int .u32 x6, .int .u32 x7, .int .u32 x8, .int .u32 x9, .int .u32 x10, .int .u32 x11, .int .u32 x12, .int .u32 x13, .int .u32 x14, .int .u32 x15]
def Wu (wr:World) (base n:Nat) (xs:List Nat) (v:Value):Prop:= ∃g cap,v= .slice (some ⟨g,0,none⟩) n cap∧wr.ownsRow base 192 1 (.slice (some ⟨g,0,none⟩) n cap) n (U32 xs)
theorem Wu.of {wr:World} {base n:Nat} {xs:List Nat} {v:Value} (h:wr.ownsRow base 192 1 v n (U32 xs)) (hn:0<n):Wu wr base n xs v:=by
 obtain⟨g,cap,e,_⟩:=h.form hn
 subst e
 exact⟨g,cap,rfl,h⟩
theorem Dr (l:List Nat) (k:Nat) (h:k<l.length):(U32 l)[k]?=some (.int .u32 ((l.getD k 0:Nat):Int)):=by
 rw[eL l k h,List.getD_eq_getElem?_getD,List.getElem?_eq_getElem h];rfl
theorem Fz {w:World} {base g n cap:Nat} {l:List Nat} (h:w.ownsRow base 192 1 (.slice (some ⟨g,0,none⟩) n cap) n (U32 l)) (k:Nat) (hk:k<n):w.cell? ⟨g,k,none⟩=some (.int .u32 ((l.getD k 0:Nat):Int)):=by
 have h1:=h.1
 rw[h.cellAt k (by omega),Dr l k (by simp[U32]at h1;omega)]
theorem Vc {w:World} (cs:Array Value) (t:TypeId):(w.alloc (.cells cs t)).heap[w.heap.size]?=some (.cells cs t (0,0)):=heap_alloc_new w _
theorem AaA (w:World) (u:Value) (t:TypeId): ∀j x,([u]:List Value)[j]?=some x→(w.alloc (.cells #[u] t)).cell? ((⟨w.heap.size,0,none⟩:Addr).add j)=some x:=by
 intro j x hx
 obtain⟨ad,he,_,hc⟩:=Cm w #[u] t j x hx
 cases he
 exact hc
theorem AaB (z:Int):IntKind.u32.wrap z=z % 4294967296:=by simp[IntKind.wrap,IntKind.signed,IntKind.bits]
theorem AaC (a b c d:Nat):IntKind.u32.wrap (IntKind.u32.wrap (IntKind.u32.wrap ((a:Int)+(b:Nat))+(c:Int))+(d:Nat))=(((a+b+c+d) % 4294967296:Nat):Int):=by
 simp only[AaB];omega
theorem sF (x:Nat) (i j k:Int) (w:World) (hx:x<4294967296) (hi0:0≤i) (hi:i<32) (hj0:0≤j) (hj:j<32) (hk0:0≤k) (hk:k<32):
  Calls Tryz.prog 236 #[.int .u32 x, .int .i64 i, .int .i64 j, .int .i64 k] w fun e w'=>e= .returned (.int .u32 ((threeN x i.toNat j.toNat k.toNat:Nat):Int))∧w'=w:=
 (uT x i j k w hx hi0 hi hj0 hj hk0 hk).mono fun _ _ ⟨a,b⟩=>⟨a,b.symm⟩
theorem AeO (e f g:Nat) (w:World) (he:e<4294967296) (hf:f<4294967296) (hg:g<4294967296):
  Calls Tryz.prog 237 #[.int .u32 e, .int .u32 f, .int .u32 g] w fun en w'=>en= .returned (.int .u32 ((pk e f g 32:Nat):Int))∧w'=w:=
 (Aaw e f g w he hf hg).mono fun _ _ ⟨a,b⟩=>⟨a,b.symm⟩
theorem AfE (V:St) (k w:Nat):(((V.h:Int)+(threeN V.e 6 11 25:Nat)+(pk V.e V.f V.g 32:Nat)+(k:Int)) % 4294967296+(w:Int)) % 4294967296=((t1N V k w:Nat):Int):=by
 unfold t1N;omega
theorem AfF (w:World) (B:Nat) (V:St) (t:TypeId) (h:w.heap[B]?=some (.cells (U32 V.list).toArray t (0,0))) (v0 v1 v2 v3 v4 v5 v6 v7:Value):
  ((((((((w.setCell ⟨B,0,none⟩ v0).setCell ⟨B,1,none⟩ v1).setCell ⟨B,2,none⟩ v2).setCell ⟨B,3,none⟩ v3).setCell ⟨B,4,none⟩ v4).setCell ⟨B,5,none⟩ v5).setCell ⟨B,6,none⟩ v6).setCell ⟨B,7,none⟩ v7).heap[B]?=some (.cells #[v0,v1,v2,v3,v4,v5,v6,v7] t (0,0)):=by
 have h0:=heap_setCell_same w B 0 _ t v0 h
 have h1:=heap_setCell_same _ B 1 _ t v1 h0
 have h2:=heap_setCell_same _ B 2 _ t v2 h1
 have h3:=heap_setCell_same _ B 3 _ t v3 h2
 have h4:=heap_setCell_same _ B 4 _ t v4 h3
 have h5:=heap_setCell_same _ B 5 _ t v5 h4
 have h6:=heap_setCell_same _ B 6 _ t v6 h5
 have h7:=heap_setCell_same _ B 7 _ t v7 h6
 rw[h7]
 simp only[List.setIfInBounds_toArray,U32,St.list,List.map_cons,List.map_nil,List.set_cons_zero,List.set_cons_succ]
def Hg (v h:List Nat) (k:Nat):List Nat:=(List.range 8).map fun i=>if i<k then(v.getD i 0+h.getD i 0) % 4294967296 else v.getD i 0
theorem Qz (v h:List Nat) (k:Nat):(Hg v h k).length=8:=by simp[Hg]
theorem Wv (V:St) (h:List Nat):Hg V.list h 0=V.list:=rfl
theorem jX (v h:List Nat) (k:Nat):(Hg v h k).getD k 0=if k<8 then v.getD k 0 else 0:=by
 rw[List.getD_eq_getElem?_getD]
 by_cases hk:k<8
 ·simp[Hg,hk]
 ·simp[Hg,hk]
theorem aX (v h:List Nat) (k:Nat):(Hg v h k).set k ((v.getD k 0+h.getD k 0) % 4294967296)=Hg v h (k+1):=by
 apply List.ext_getElem
 ·simp[Hg]
 ·intro j h1 h2
  rw[List.getElem_set]
  simp only[Hg,List.getElem_map,List.getElem_range]
  split
  ·next e=>subst e;simp
  ·next e=>
   by_cases h3:j<k
   ·rw[if_pos h3,if_pos (by omega)]
   ·rw[if_neg h3,if_neg (by omega)]
theorem Fv {l:List Nat} (hl: ∀x∈l,x<4294967296) (k:Nat):l.getD k 0<4294967296:=by
 rw[List.getD_eq_getElem?_getD]
 rcases h:l[k]? with _|y
 ·simp
 ·exact hl y (List.mem_of_getElem? h)
theorem eI (h:St) (x0 x1 x2 x3 x4 x5 x6 x7 x8 x9 x10 x11 x12 x13 x14 x15:Nat) (w:World) (hh:h.ok) (hx: ∀x∈ [x0,x1,x2,x3,x4,x5,x6,x7,x8,x9,x10,x11,x12,x13,x14,x15],x<4294967296):
  Calls Tryz.prog 208 #[h.val,aW x0 x1 x2 x3 x4 x5 x6 x7 x8 x9 x10 x11 x12 x13 x14 x15] w fun e w'=>e= .returned (Fm h [x0,x1,x2,x3,x4,x5,x6,x7,x8,x9,x10,x11,x12,x13,x14,x15]).val∧Below w.heap.size w w':=by
 obtain⟨i0,hi,hz0,hz1,hz2⟩:=info_parts eJ
 obtain⟨xl,hxl⟩: ∃xl:List Nat,xl=[x0,x1,x2,x3,x4,x5,x6,x7,x8,x9,x10,x11,x12,x13,x14,x15]:=⟨_,rfl⟩
 obtain⟨w0,hw0⟩: ∃w0:World,w0=((w.alloc (.cells #[.int .u32 h.a, .int .u32 h.b, .int .u32 h.c, .int .u32 h.d, .int .u32 h.e, .int .u32 h.f, .int .u32 h.g, .int .u32 h.h] 193)).alloc (.cells #[.int .u32 x0, .int .u32 x1, .int .u32 x2, .int .u32 x3, .int .u32 x4, .int .u32 x5, .int .u32 x6, .int .u32 x7, .int .u32 x8, .int .u32 x9, .int .u32 x10, .int .u32 x11, .int .u32 x12, .int .u32 x13, .int .u32 x14, .int .u32 x15] 195)).alloc (.cells #[.int .u32 0, .int .u32 0, .int .u32 0, .int .u32 0, .int .u32 0, .int .u32 0, .int .u32 0, .int .u32 0] 193):=⟨_,rfl⟩
 have hs0:w0.heap.size=w.heap.size+1+1+1:=by rw[hw0];simp
 have hblk:w0.heap[w.heap.size+1]?=some (.cells (U32 xl).toArray 195 (0,0)):=by
  rw[hw0,Below.heap_alloc _ _ _ (by simp),show w.heap.size+1=(w.alloc (.cells #[.int .u32 h.a, .int .u32 h.b, .int .u32 h.c, .int .u32 h.d, .int .u32 h.e, .int .u32 h.f, .int .u32 h.g, .int .u32 h.h] 193)).heap.size by simp,Vc,hxl]
  rfl
 have hblh:w0.heap[w.heap.size]?=some (.cells (U32 h.list).toArray 193 (0,0)):=by
  rw[hw0,Below.heap_alloc _ _ _ (by simp;omega),Below.heap_alloc _ _ _ (by simp),Vc]
  rfl
 have hblr:w0.heap[w.heap.size+1+1]?=some (.cells #[.int .u32 0, .int .u32 0, .int .u32 0, .int .u32 0, .int .u32 0, .int .u32 0, .int .u32 0, .int .u32 0] 193 (0,0)):=by
  rw[hw0,show w.heap.size+1+1=((w.alloc (.cells #[.int .u32 h.a, .int .u32 h.b, .int .u32 h.c, .int .u32 h.d, .int .u32 h.e, .int .u32 h.f, .int .u32 h.g, .int .u32 h.h] 193)).alloc (.cells #[.int .u32 x0, .int .u32 x1, .int .u32 x2, .int .u32 x3, .int .u32 x4, .int .u32 x5, .int .u32 x6, .int .u32 x7, .int .u32 x8, .int .u32 x9, .int .u32 x10, .int .u32 x11, .int .u32 x12, .int .u32 x13, .int .u32 x14, .int .u32 x15] 195)).heap.size by simp,Vc]
 have hb0:Below w.heap.size w w0:=by
  rw[hw0]
  exact(((Below.refl _ _).alloc (Nat.le_refl _) _).alloc (by simp) _).alloc (by simp;omega) _
 rw[←hxl]at hx⊢
 have HXL:=Lib.hid hxl
 have HX:=Lib.hid hx
 have HS0:=Lib.hid hs0
 have HK:=Lib.hid hblk
 have HH:=Lib.hid hblh
 have HR:=Lib.hid hblr
 unfold St.val aW
 have hlen:xl.length=16:=by rw[hxl];rfl
 have HLEN:=Lib.hid hlen
 clear hx hs0 hblk hblh hblr hlen
 go_enter Tryz.func208, Tryz.ntmps208
 go_wp2_with fail
 rw[←hw0]
 have HW0:=Lib.hid hw0
 clear hw0 hxl
 go_loopw [5,6] (fun v i wr=> ∃k:Nat,k≤64∧i= .int .i64 k∧Wu wr w0.heap.size k (wl xl k) v∧Below w0.heap.size w0 wr) (fun _ i _=>64 - (intOf i).toNat)
 case atStart=>exact⟨0,Nat.zero_le _,rfl,⟨_,_,by rw[HS0.out],World.ownsRow_lit w0 #[] 0 (Nat.le_refl _) (by decide) rfl⟩,(Below.refl _ _).alloc (Nat.le_refl _) _⟩
 case round=>
  obtain⟨k,hk,rfl,⟨g,cap,rfl,hown⟩,hbel⟩:=hrel
  have hbs:=hbel.size
  by_cases hlt:k<64
  ·by_cases h16:k<16
   ·have hc:wr.cell? ⟨w.heap.size+1,k,none⟩=some (.int .u32 ((xl.getD k 0:Nat):Int)):=by
     rw[hbel.cell (p:=⟨w.heap.size+1,k,none⟩) (by rw[HS0.out];show w.heap.size+1<_;omega),cell_of_row w0 (w.heap.size+1) k _ _ (0,0) HK.out]
     rw[List.getElem?_toArray,Dr xl k (by rw[HLEN.out];exact h16)]
    have hy:wl xl (k+1)=wl xl k++ [xl.getD k 0]:=by rw[wl,Mr,if_pos h16]
    generalize xl.getD k 0=y at*
    have HY:=Lib.hid hy
    clear hy
    go_wp2_with (at_builtin;refine Af _ rfl _ _ 200 rfl w0.heap.size 192 i0 (.int .u32 0) 4 Tryz.underlying200 hi hz0 hz1 hz2 rfl (.slice (some ⟨g,0,none⟩) k cap) k (U32 (wl xl k)) rfl (hown.alloc _) (wr.heap.size+1) (some ⟨wr.heap.size,0,none⟩) 1 1 [.int .u32 (y:Int)] rfl ((Cm wr #[.int .u32 (y:Int)] 192).more (by simp)) rfl (fun h=>by cases h) (fun u hu=>by simp at hu;subst hu;rfl) (by unfold maxLen;omega) (by omega) (by simp;omega) ?_;intro v3 w3 hown3 hg3)
    have hb3:Below w0.heap.size w0 w3:=(hbel.alloc hbs _).grown hg3 (by simp;omega) (fun g hg=>Ak hown hg)
    have hrow:Wu w3 w0.heap.size (k+1) (wl xl (k+1)) v3:=by
     refine Wu.of ?_ (by omega)
     have e:U32 (wl xl (k+1))=U32 (wl xl k)++ [.int .u32 (y:Int)]:=by rw[HY.out];simp[U32]
     rw[e]
     exact hown3
    have HRW:=Lib.hid hrow
    clear hown3 hg3 hrow hown hbel
    go_wp2
    go_roundw
    case rel=>exact⟨k+1,by omega,by go_num,HRW.out,hb3⟩
    case measure=>simp[intOf];omega
   ·have hc1:=Fz hown (k - 16) (by omega)
    have hc2:=Fz hown (k - 15) (by omega)
    have hc3:=Fz hown (k - 7) (by omega)
    have hc4:=Fz hown (k - 2) (by omega)
    have hy1:=Fv (Ot xl HX.out k) (k - 16)
    have hy2:=Fv (Ot xl HX.out k) (k - 15)
    have hy3:=Fv (Ot xl HX.out k) (k - 7)
    have hy4:=Fv (Ot xl HX.out k) (k - 2)
    have hy:wl xl (k+1)=wl xl k++ [((wl xl k).getD (k - 16) 0+twoN ((wl xl k).getD (k - 15) 0) 7 18 8+(wl xl k).getD (k - 7) 0+twoN ((wl xl k).getD (k - 2) 0) 17 19 1024) % 4294967296]:=by rw[wl,Mr,if_neg h16]
    generalize (wl xl k).getD (k - 16) 0=y1 at*
    generalize (wl xl k).getD (k - 15) 0=y2 at*
    generalize (wl xl k).getD (k - 7) 0=y3 at*
    generalize (wl xl k).getD (k - 2) 0=y4 at*
    have HY:=Lib.hid hy
    clear hy
    have h16':16≤k:=by omega
    have h15':(15:Int)≤(k:Int):=by omega
    have h7':(7:Int)≤(k:Int):=by omega
    have h2':(2:Int)≤(k:Int):=by omega
    have b1:(0:Int)≤(k:Int) - 16:=by omega
    have b1':(k:Int) - 16<(k:Int):=by omega
    have b2:(0:Int)≤(k:Int) - 15:=by omega
    have b2':(k:Int) - 15<(k:Int):=by omega
    have b3:(0:Int)≤(k:Int) - 7:=by omega
    have b3':(k:Int) - 7<(k:Int):=by omega
    have b4:(0:Int)≤(k:Int) - 2:=by omega
    have b4':(k:Int) - 2<(k:Int):=by omega
    have e1:((k:Int) - 16).toNat=k - 16:=by omega
    have e2:((k:Int) - 15).toNat=k - 15:=by omega
    have e3:((k:Int) - 7).toNat=k - 7:=by omega
    have e4:((k:Int) - 2).toNat=k - 2:=by omega
    have f1:IntKind.i64.wrap ((k:Int) - 16)=(k:Int) - 16:=IntWalk.i64_in _ (by omega)
    have f2:IntKind.i64.wrap ((k:Int) - 15)=(k:Int) - 15:=IntWalk.i64_in _ (by omega)
    have f3:IntKind.i64.wrap ((k:Int) - 7)=(k:Int) - 7:=IntWalk.i64_in _ (by omega)
    have f4:IntKind.i64.wrap ((k:Int) - 2)=(k:Int) - 2:=IntWalk.i64_in _ (by omega)
    have lk:=World.block_lt_of_cell? wr _ hc1
    go_wp2
    go_region_held3 (fun w'=>w'.cell? ⟨g,k - 16,none⟩=some (.int .u32 (y1:Nat))∧w'.cell? ⟨g,k - 15,none⟩=some (.int .u32 (y2:Nat))∧w'.cell? ⟨g,k - 7,none⟩=some (.int .u32 (y3:Nat))∧w'.cell? ⟨g,k - 2,none⟩=some (.int .u32 (y4:Nat)))
     (first|go_keep|exact⟨(hkeep _ (by omega)).trans ((World.cell?_alloc_lt wr _ _ lk).trans hc1),(hkeep _ (by omega)).trans ((World.cell?_alloc_lt wr _ _ lk).trans hc2),(hkeep _ (by omega)).trans ((World.cell?_alloc_lt wr _ _ lk).trans hc3),(hkeep _ (by omega)).trans ((World.cell?_alloc_lt wr _ _ lk).trans hc4)⟩)
     (first|(refine Tg _ (by rfl) _ _ _ (by rfl) w0.heap.size 192 i0 _ 4 Tryz.underlying200 hi hz0 hz1 hz2 rfl g k cap (U32 (wl xl k)) (by rfl) (by exact hown.alloc _) ⟨wr.heap.size,0,none⟩ 1 1 [.int .u32 (IntKind.u32.wrap (IntKind.u32.wrap (IntKind.u32.wrap ((y1:Int)+(twoN y2 7 18 8:Nat))+(y3:Int))+(twoN y4 17 19 1024:Nat)))] (by rfl) (by rfl) (by exact AaA wr _ _) (by simp[Value.oneCell']) (by unfold maxLen;omega) (by omega) (by simp;omega) ?_;intro v1 w1 hown1 hgrow hkeep)|(go_at_call 234;refine(Ada _ _ _ _ _ (by assumption) (by decide) (by decide) (by decide) (by decide) (by decide) (by decide)).mono ?_;rintro e w' ⟨rfl,nd,rfl⟩))
    have hgg:w0.heap.size≤g:=Ak hown rfl
    have hb3:Below w0.heap.size w0 w1:=⟨hgrow.os.trans hbel.os,hgrow.tape.trans hbel.tape,hgrow.output.trans hbel.output,Nat.le_trans hbs (Nat.le_trans (Nat.le_succ _) (Nat.le_trans (Nat.le_of_eq (by simp)) hgrow.size)),
     fun i hi=>(hgrow.block i (Nat.lt_of_lt_of_le (Nat.lt_of_lt_of_le hi hbs) (Nat.le_trans (Nat.le_succ _) (Nat.le_of_eq (by simp)))) (by simp;omega)).trans ((Below.heap_alloc wr _ i (Nat.lt_of_lt_of_le hi hbs)).trans (hbel.block i hi))⟩
    have hrow:Wu w1 w0.heap.size (k+1) (wl xl (k+1)) v1:=by
     refine Wu.of ?_ (by omega)
     have e:U32 (wl xl (k+1))=U32 (wl xl k)++ [.int .u32 (IntKind.u32.wrap (IntKind.u32.wrap (IntKind.u32.wrap ((y1:Int)+(twoN y2 7 18 8:Nat))+(y3:Int))+(twoN y4 17 19 1024:Nat)))]:=by
      rw[HY.out,AaC];simp[U32]
     rw[e]
     exact hown1
    have HRW:=Lib.hid hrow
    clear hown1 hgrow hkeep hrow hown hbel e1 e2 e3 e4 f1 f2 f3 f4 hc1 hc2 hc3 hc4
    go_wp2
    go_roundw
    case rel=>exact⟨k+1,by omega,by go_num,HRW.out,hb3⟩
    case measure=>simp[intOf];omega
  ·have k64:k=64:=by omega
   subst k64
   obtain⟨wo,rfl⟩: ∃wo:World,wo=wr:=⟨_,rfl⟩
   go_wp2_with fail
   refine(oG _).mono ?_
   rintro e w2 ⟨gk,ck,rfl,hownk,hb2⟩
   have hownl:=Aj hown hb2
   have hbw:Below w0.heap.size w0 w2:=hbel.trans (hb2.mono hbs)
   have hh2:w2.heap[w.heap.size]?=some (.cells (U32 h.list).toArray 193 (0,0)):=(hbw.block _ (by rw[HS0.out];omega)).trans HH.out
   have HO:=Lib.hid hownl
   have HKO:=Lib.hid hownk
   have HBW:=Lib.hid hbw
   have HH2:=Lib.hid hh2
   have hlc: ∀i (v:Nat),h.list[i]?=some v→w2.cell? ⟨w.heap.size,i,none⟩=some (.int .u32 (v:Int)):=by
    intro i v hv
    rw[cell_of_row w2 w.heap.size i _ _ (0,0) hh2,List.getElem?_toArray,U32,List.getElem?_map,hv];rfl
   have c0:=hlc 0 h.a rfl
   have c1:=hlc 1 h.b rfl
   have c2:=hlc 2 h.c rfl
   have c3:=hlc 3 h.d rfl
   have c4:=hlc 4 h.e rfl
   have c5:=hlc 5 h.f rfl
   have c6:=hlc 6 h.g rfl
   have c7:=hlc 7 h.h rfl
   clear hownl hbw hh2 hlc hown hownk hb2 hbel
   go_wp2_with fail
   clear c0 c1 c2 c3 c4 c5 c6 c7
   go_loopw [9] (fun i wr=> ∃k:Nat,k≤64∧i= .int .i64 k∧wr.heap[w2.heap.size]?=some (.cells (U32 (Ol h (wl xl 64) k).list).toArray 193 (0,0))∧Below w2.heap.size w2 wr) (fun i _=>64 - (intOf i).toNat)
   case atStart=>exact⟨0,Nat.zero_le _,rfl,heap_alloc_new w2 _,(Below.refl _ _).alloc (Nat.le_refl _) _⟩
   case round=>
    obtain⟨k,hk,rfl,hv,hbel⟩:=hrel
    have hbs2:=hbel.size
    by_cases hlt:k<64
    ·have hvok:(Ol h (wl xl 64) k).ok:=rR hh _ _
     have hnext:Ol h (wl xl 64) (k+1)=rnd (Ol h (wl xl 64) k) (kTab.getD k 0) ((wl xl 64).getD k 0):=rfl
     have hck:wr.cell? ⟨gk,k,none⟩=some (.int .u32 ((kTab.getD k 0:Nat):Int)):=Fz (Aj HKO.out hbel) k hlt
     have hcl:wr.cell? ⟨g,k,none⟩=some (.int .u32 (((wl xl 64).getD k 0:Nat):Int)):=Fz (Aj HO.out hbel) k hlt
     have hyk:=Fv rQ k
     have hyl:=Fv (Ot xl HX.out 64) k
     generalize kTab.getD k 0=kk at*
     generalize (wl xl 64).getD k 0=ww at*
     generalize Ol h (wl xl 64) k=V at*
     have hlc: ∀i (v:Nat),V.list[i]?=some v→wr.cell? ⟨w2.heap.size,i,none⟩=some (.int .u32 (v:Int)):=by
      intro i v hvv
      rw[cell_of_row wr w2.heap.size i _ _ (0,0) hv,List.getElem?_toArray,U32,List.getElem?_map,hvv];rfl
     have c0:=hlc 0 V.a rfl
     have c1:=hlc 1 V.b rfl
     have c2:=hlc 2 V.c rfl
     have c3:=hlc 3 V.d rfl
     have c4:=hlc 4 V.e rfl
     have c5:=hlc 5 V.f rfl
     have c6:=hlc 6 V.g rfl
     have c7:=hlc 7 V.h rfl
     obtain⟨ba,bb,bc,bd,be,bf,bg,bh⟩:=hvok
     have HV:=Lib.hid hv
     have HNX:=Lib.hid hnext
     have bk0:(0:Int)≤(k:Int):=Int.natCast_nonneg _
     have bk1:(k:Int)<64:=by omega
     clear hlc hv hnext
     go_wp2
     go_quiet (first|(go_at_call 236;exact Calls.quiet_of_same (sF _ _ _ _ _ (by assumption) (by decide) (by decide) (by decide) (by decide) (by decide) (by decide)))|(go_at_call 237;exact Calls.quiet_of_same (AeO _ _ _ _ (by assumption) (by assumption) (by assumption))))
     go_wp2
     rw[AfE V kk ww]
     have ht1:t1N V kk ww<4294967296:=Nat.mod_lt _ (by omega)
     have ht2:t2N V<4294967296:=Nat.mod_lt _ (by omega)
     have HT:Hid (rnd V kk ww=⟨(t1N V kk ww+t2N V) % 4294967296,V.a,V.b,V.c,(V.d+t1N V kk ww) % 4294967296,V.e,V.f,V.g⟩):=rfl
     generalize t1N V kk ww=t1 at*
     obtain⟨wd,hwd⟩: ∃wd:World,wd=wr.drewN nq:=⟨_,rfl⟩
     rw[←hwd]
     replace c0:wd.cell? ⟨w2.heap.size,0,none⟩=some (.int .u32 (V.a:Int)):=by rw[hwd];exact c0
     replace c1:wd.cell? ⟨w2.heap.size,1,none⟩=some (.int .u32 (V.b:Int)):=by rw[hwd];exact c1
     replace c2:wd.cell? ⟨w2.heap.size,2,none⟩=some (.int .u32 (V.c:Int)):=by rw[hwd];exact c2
     replace c3:wd.cell? ⟨w2.heap.size,3,none⟩=some (.int .u32 (V.d:Int)):=by rw[hwd];exact c3
     replace c4:wd.cell? ⟨w2.heap.size,4,none⟩=some (.int .u32 (V.e:Int)):=by rw[hwd];exact c4
     replace c5:wd.cell? ⟨w2.heap.size,5,none⟩=some (.int .u32 (V.f:Int)):=by rw[hwd];exact c5
     replace c6:wd.cell? ⟨w2.heap.size,6,none⟩=some (.int .u32 (V.g:Int)):=by rw[hwd];exact c6
     replace c7:wd.cell? ⟨w2.heap.size,7,none⟩=some (.int .u32 (V.h:Int)):=by rw[hwd];exact c7
     have hfz: ∀i,wd.frozen? ⟨w2.heap.size,i,none⟩=false:=fun i=>by rw[hwd];exact frozen_of_row wr w2.heap.size i _ _ HV.out
     have hvd:wd.heap[w2.heap.size]?=some (.cells (U32 V.list).toArray 193 (0,0)):=by rw[hwd];exact HV.out
     have hbd:Below w2.heap.size w2 wd:=by rw[hwd];exact Ae hbel _
     have z0:=hfz 0
     have z1:=hfz 1
     have z2:=hfz 2
     have z3:=hfz 3
     have z4:=hfz 4
     have z5:=hfz 5
     have z6:=hfz 6
     have z7:=hfz 7
     have HVD:=Lib.hid hvd
     clear hwd hck hcl HV hbel hfz hvd
     go_quiet (first|(go_at_call 236;exact Calls.quiet_of_same (sF _ _ _ _ _ (by assumption) (by decide) (by decide) (by decide) (by decide) (by decide) (by decide)))|(go_at_call 238;exact Calls.quiet_of (Aax _ _ _ _ (by assumption) (by assumption) (by assumption))))
     go_wp2
     go_roundw
     case rel=>
      refine⟨k+1,by omega,by go_num, ?_, ?_⟩
      ·rw[HNX.out,HT.out]
       have e0:((t1:Int)+((threeN V.a 2 13 22:Nat)+(mj V.a V.b V.c 32:Nat))) % 4294967296=(((t1+t2N V) % 4294967296:Nat):Int):=by unfold t2N;omega
       have e4:((V.d:Int)+(t1:Int)) % 4294967296=(((V.d+t1) % 4294967296:Nat):Int):=by omega
       rw[e0,e4]
       exact AfF (wd.drewN nq) _ V _ HVD.out _ _ _ _ _ _ _ _
      ·exact((((((((Ae hbd _).setCell (Nat.le_refl _) _).setCell (Nat.le_refl _) _).setCell (Nat.le_refl _) _).setCell (Nat.le_refl _) _).setCell (Nat.le_refl _) _).setCell (Nat.le_refl _) _).setCell (Nat.le_refl _) _).setCell (Nat.le_refl _) _
     case measure=>simp[intOf];omega
    ·have k64:k=64:=by omega
     subst k64
     go_wp2
     have hh3:wr.heap[w.heap.size]?=some (.cells (U32 h.list).toArray 193 (0,0)):=(hbel.block _ (by have:=HBW.out.size;rw[HS0.out]at this;omega)).trans HH2.out
     have HH3:=Lib.hid hh3
     have hb3:Below w0.heap.size w0 wr:=HBW.out.trans (hbel.mono HBW.out.size)
     have hlt2:w.heap.size+1+1<w2.heap.size:=by have:=HBW.out.size;rw[HS0.out]at this;omega
     have HB3:=Lib.hid hb3
     obtain⟨V,hV⟩: ∃V,V=Ol h (wl xl 64) 64:=⟨_,rfl⟩
     rw[←hV]at hv
     have HV:=Lib.hid hV
     have HVV:=Lib.hid hv
     clear hh3 hb3 hV hv
     obtain⟨w3,rfl⟩: ∃w3:World,w3=wr:=⟨_,rfl⟩
     go_loopw [12] (fun i wr=> ∃k:Nat,k≤8∧i= .int .i64 k∧wr.heap[w2.heap.size]?=some (.cells (U32 (Hg V.list h.list k)).toArray 193 (0,0))∧Below w2.heap.size w3 wr) (fun i _=>8 - (intOf i).toNat)
     case atStart=>exact⟨0,Nat.zero_le _,rfl,by rw[Wv];exact HVV.out,Below.refl _ _⟩
     case round=>
      clear hbel
      obtain⟨k,hk,rfl,hv,hbel⟩:=hrel
      by_cases hlt:k<8
      ·have hcv:wr.cell? ⟨w2.heap.size,k,none⟩=some (.int .u32 ((V.list.getD k 0:Nat):Int)):=by
        rw[cell_of_row wr w2.heap.size k _ _ (0,0) hv,List.getElem?_toArray,Dr _ k (by rw[Qz];exact hlt),jX,if_pos hlt]
       have hch:wr.cell? ⟨w.heap.size,k,none⟩=some (.int .u32 ((h.list.getD k 0:Nat):Int)):=by
        rw[hbel.cell (p:=⟨w.heap.size,k,none⟩) (by show w.heap.size<_;omega),cell_of_row w3 w.heap.size k _ _ (0,0) HH3.out,List.getElem?_toArray,Dr h.list k hlt]
       have hfz:=frozen_of_row wr w2.heap.size k _ _ hv
       have hset:=heap_setCell_same wr w2.heap.size k _ 193 (.int .u32 (((V.list.getD k 0+h.list.getD k 0) % 4294967296:Nat):Int)) hv
       have hst:(U32 (Hg V.list h.list k)).toArray.setIfInBounds k (.int .u32 (((V.list.getD k 0+h.list.getD k 0) % 4294967296:Nat):Int))=(U32 (Hg V.list h.list (k+1))).toArray:=by
        rw[List.setIfInBounds_toArray, ←aX,U32,U32,List.map_set]
       rw[hst]at hset
       have HSET:=Lib.hid hset
       clear hset hst hv
       generalize V.list.getD k 0=y at*
       generalize h.list.getD k 0=z at*
       have bk0:(0:Int)≤(k:Int):=Int.natCast_nonneg _
       have bk1:(k:Int)<8:=by omega
       go_wp2
       go_region
       all_goals go_wp2
       go_roundw
       case rel=>
        refine⟨k+1,by omega,by go_num, ?_,(hbel.setCell (Nat.le_refl _) _).drew⟩
        have e:((y:Int)+(z:Int)) % 4294967296=(((y+z) % 4294967296:Nat):Int):=by omega
        rw[e]
        exact HSET.out
       case measure=>simp[intOf];omega
      ·have k8:k=8:=by omega
       subst k8
       have hfin:Hg V.list h.list 8=(Fm h xl).list:=by rw[Fm, ←HV.out];rfl
       have hok:(Fm h xl).ok:=iS _ _
       have hbb:Below w.heap.size w wr:=(hb0.trans (HB3.out.mono hb0.size)).trans (hbel.mono (by omega))
       rw[hfin]at hv
       obtain⟨R,hR⟩: ∃R,R=Fm h xl:=⟨_,rfl⟩
       rw[←hR]at hv hok
       have HRR:=Lib.hid hR
       clear hR
       have hlc: ∀i (v:Nat),R.list[i]?=some v→wr.cell? ⟨w2.heap.size,i,none⟩=some (.int .u32 (v:Int)):=by
        intro i v hvv
        rw[cell_of_row wr w2.heap.size i _ _ (0,0) hv,List.getElem?_toArray,U32,List.getElem?_map,hvv];rfl
       have c0:=hlc 0 R.a rfl
       have c1:=hlc 1 R.b rfl
       have c2:=hlc 2 R.c rfl
       have c3:=hlc 3 R.d rfl
       have c4:=hlc 4 R.e rfl
       have c5:=hlc 5 R.f rfl
       have c6:=hlc 6 R.g rfl
       have c7:=hlc 7 R.h rfl
       have hr:wr.heap[w.heap.size+1+1]?=some (.cells #[.int .u32 0, .int .u32 0, .int .u32 0, .int .u32 0, .int .u32 0, .int .u32 0, .int .u32 0, .int .u32 0] 193 (0,0)):=(hbel.block _ hlt2).trans ((HB3.out.block _ (by rw[HS0.out];omega)).trans HR.out)
       have hlr: ∀i,i<8→wr.cell? ⟨w.heap.size+1+1,i,none⟩=some (.int .u32 0):=by
        intro i hi8
        rw[cell_of_row wr (w.heap.size+1+1) i _ _ (0,0) hr]
        match i,hi8 with
        |0,_=>rfl
        |1,_=>rfl
        |2,_=>rfl
        |3,_=>rfl
        |4,_=>rfl
        |5,_=>rfl
        |6,_=>rfl
        |7,_=>rfl
       have hfr: ∀i,wr.frozen? ⟨w.heap.size+1+1,i,none⟩=false:=fun i=>frozen_of_row wr _ i _ _ hr
       have d0:=hlr 0 (by omega)
       have d1:=hlr 1 (by omega)
       have d2:=hlr 2 (by omega)
       have d3:=hlr 3 (by omega)
       have d4:=hlr 4 (by omega)
       have d5:=hlr 5 (by omega)
       have d6:=hlr 6 (by omega)
       have d7:=hlr 7 (by omega)
       have z0:=hfr 0
       have z1:=hfr 1
       have z2:=hfr 2
       have z3:=hfr 3
       have z4:=hfr 4
       have z5:=hfr 5
       have z6:=hfr 6
       have z7:=hfr 7
       clear hlc hlr hfr hfin hv hr hbel
       go_wp2
       have hle:w.heap.size≤w.heap.size+1+1:=by omega
       exact bodyPost_ret (v:=R.val) (by simp[results, Tryz.results208,go_sem,St.val, *]) rfl ⟨by have hq:=HRR.out;subst hq;rfl,(((((((hbb.setCell hle _).setCell hle _).setCell hle _).setCell hle _).setCell hle _).setCell hle _).setCell hle _).setCell hle _⟩
def wlZ (w:List Nat) (k:Nat):List Nat:=wl w k++List.replicate (64 - k) 0
theorem Ww (w:List Nat) (k:Nat) (h:k≤64):(wlZ w k).length=64:=by simp[wlZ,Hl];omega
theorem Adp (w:List Nat) (k:Nat) (h:k<64):(wlZ w k).set k (Mr w (wl w k) k)=wlZ w (k+1):=by
 unfold wlZ
 rw[List.set_append_right _ _ (by rw[Hl];exact Nat.le_refl _),Hl,Nat.sub_self,show 64 - k=(64 - (k+1))+1 by omega,List.replicate_succ,List.set_cons_zero,wl]
 simp
theorem AeP (w:List Nat) (k i:Nat) (h:i<k):(wlZ w k).getD i 0=(wl w k).getD i 0:=by
 unfold wlZ
 rw[List.getD_eq_getElem?_getD,List.getD_eq_getElem?_getD,List.getElem?_append_left (by rw[Hl];exact h)]
theorem Adq (w:List Nat):wlZ w 64=wl w 64:=by simp[wlZ]
theorem Wx {w w':World} {ca cb cc cd:Array Value} {ta tb tc:TypeId} (h:w'=(((w.alloc (.cells ca ta)).alloc (.cells cb tb)).alloc (.cells cc tc)).setRow (w.heap.size+1+1) cd):
  w'.heap.size=w.heap.size+1+1+1∧w'.heap[w.heap.size]?=some (.cells ca ta (0,0))∧w'.heap[w.heap.size+1]?=some (.cells cb tb (0,0))∧w'.heap[w.heap.size+1+1]?=some (.cells cd tc (0,0))∧Below w.heap.size w w':=by
 have h2:(((w.alloc (.cells ca ta)).alloc (.cells cb tb)).alloc (.cells cc tc)).heap[w.heap.size+1+1]?=some (.cells cc tc (0,0)):=by
  have:=heap_alloc_new ((w.alloc (.cells ca ta)).alloc (.cells cb tb)) (.cells cc tc)
  simpa using this
 subst h
 refine⟨by simp, ?_, ?_,setRow_heap _ _ _ _ _ _ h2, ?_⟩
 ·rw[setRow_other _ _ _ _ (by omega),Below.heap_alloc _ _ _ (by simp;omega),Below.heap_alloc _ _ _ (by simp),heap_alloc_new]
 ·rw[setRow_other _ _ _ _ (by omega),Below.heap_alloc _ _ _ (by simp),heap_alloc2_new]
 ·exact below_setRow ((((Below.refl _ _).alloc (Nat.le_refl _) _).alloc (by simp) _).alloc (by simp;omega) _) (by omega) _
theorem jY (x:Nat) (w:World) (hx:x<4294967296):
  Calls Tryz.prog 246 #[.int .u32 x] w fun e w'=>e= .returned (.int .u32 ((twoN x 7 18 8:Nat):Int))∧w'=w:=(Ze x w hx).mono fun _ _ ⟨a,b⟩=>⟨a,b.symm⟩
theorem oO (x:Nat) (w:World) (hx:x<4294967296):
  Calls Tryz.prog 247 #[.int .u32 x] w fun e w'=>e= .returned (.int .u32 ((twoN x 17 19 1024:Nat):Int))∧w'=w:=(eA x w hx).mono fun _ _ ⟨a,b⟩=>⟨a,b.symm⟩
theorem oP:(Tryz.prog.info? 215).map (·.size)=some 64:=by kernel_rfl
theorem Pp {w:World} {A B C:Obj} :(((w.alloc A).alloc B).alloc C).heap[w.heap.size+1+1]?=some C:=by
 have:=heap_alloc_new ((w.alloc A).alloc B) C
 simpa using this
theorem vN (x0 x1 x2 x3 x4 x5 x6 x7 x8 x9 x10 x11 x12 x13 x14 x15:Nat) (w:World) (hx: ∀x∈ [x0,x1,x2,x3,x4,x5,x6,x7,x8,x9,x10,x11,x12,x13,x14,x15],x<4294967296):
  Calls Tryz.prog 230 #[aW x0 x1 x2 x3 x4 x5 x6 x7 x8 x9 x10 x11 x12 x13 x14 x15] w fun e w'=>e= .returned (.agg (U32 (wl [x0,x1,x2,x3,x4,x5,x6,x7,x8,x9,x10,x11,x12,x13,x14,x15] 64)).toArray)∧Below w.heap.size w w':=by
 obtain⟨xl,hxl⟩: ∃xl:List Nat,xl=[x0,x1,x2,x3,x4,x5,x6,x7,x8,x9,x10,x11,x12,x13,x14,x15]:=⟨_,rfl⟩
 rw[←hxl]at hx⊢
 have hlen:xl.length=16:=by rw[hxl];rfl
 have HXL:=Lib.hid hxl
 have HX:=Lib.hid hx
 have HLEN:=Lib.hid hlen
 clear hx hxl hlen
 unfold aW
 go_enter Tryz.func230, Tryz.ntmps230
 go_wp2_with ((with_reducible refine Ac 3 ?_);refine Ad (o:=⟨none, .store 215 (.tmp 3) (.tmp 5),_,_,_,_⟩) rfl 215 (.tmp 3) (.tmp 5) rfl (w.heap.size+1+1) z64 rfl rfl 215 z64 Pp oP rfl (Ds (List.replicate 64 0)) ?_;intro w0 hw0)
 obtain⟨hs0,hbl0,hbl1,hbl2,hb0⟩:=Wx hw0.out
 clear hw0
 have hbl2':w0.heap[w.heap.size+1+1]?=some (.cells (U32 (wlZ xl 0)).toArray 215 (0,0)):=hbl2
 have hbl0':w0.heap[w.heap.size]?=some (.cells (U32 xl).toArray 195 (0,0)):=by rw[HXL.out];exact hbl0
 have HS0:=Lib.hid hs0
 have HB2:=Lib.hid hbl2'
 have HB1:=Lib.hid hbl1
 have HB0:=Lib.hid hbl0'
 clear hs0 hbl0 hbl1 hbl2 hbl2' hbl0'
 go_loopw [6] (fun i wr=> ∃k:Nat,k≤64∧i= .int .i64 k∧wr.heap[w.heap.size+1+1]?=some (.cells (U32 (wlZ xl k)).toArray 215 (0,0))∧Below (w.heap.size+1+1) w0 wr) (fun i _=>64 - (intOf i).toNat)
 case atStart=>exact⟨0,Nat.zero_le _,rfl,HB2.out,Below.refl _ _⟩
 case round=>
  obtain⟨k,hk,rfl,hv,hbel⟩:=hrel
  by_cases hlt:k<64
  ·have hfz:=frozen_of_row wr _ k _ _ hv
   have hset:=heap_setCell_same wr _ k _ 215 (.int .u32 ((Mr xl (wl xl k) k:Nat):Int)) hv
   have hst:(U32 (wlZ xl k)).toArray.setIfInBounds k (.int .u32 ((Mr xl (wl xl k) k:Nat):Int))=(U32 (wlZ xl (k+1))).toArray:=by
    rw[List.setIfInBounds_toArray, ←Adp xl k hlt,U32,U32,List.map_set]
   rw[hst]at hset
   have HSET:=Lib.hid hset
   have hcur:wr.cell? ⟨w.heap.size+1+1,k,none⟩=some (.int .u32 (((wlZ xl k).getD k 0:Nat):Int)):=by
    rw[cell_of_row wr _ k _ _ (0,0) hv,List.getElem?_toArray,Dr _ k (by rw[Ww xl k hk];exact hlt)]
   clear hset hst
   have bk0:(0:Int)≤(k:Int):=Int.natCast_nonneg _
   have bk1:(k:Int)<64:=by omega
   by_cases h16:k<16
   ·have hc:wr.cell? ⟨w.heap.size,k,none⟩=some (.int .u32 ((xl.getD k 0:Nat):Int)):=by
     rw[cell_of_row wr _ k _ _ (0,0) ((hbel.block _ (by omega)).trans HB0.out),List.getElem?_toArray,Dr xl k (by rw[HLEN.out];exact h16)]
    have hnx:Mr xl (wl xl k) k=xl.getD k 0:=by unfold Mr;rw[if_pos h16]
    rw[hnx]at HSET
    have bk2:(k:Int)<16:=by omega
    generalize (wlZ xl k).getD k 0=z at*
    generalize xl.getD k 0=y at*
    have HV:=Lib.hid hv
    clear hv hnx
    go_wp2
    go_roundw
    case rel=>exact⟨k+1,by omega,by go_num,HSET.out,hbel.setCell (Nat.le_refl _) _⟩
    case measure=>simp[intOf];omega
   ·have hcs: ∀i,i<k→wr.cell? ⟨w.heap.size+1+1,i,none⟩=some (.int .u32 (((wl xl k).getD i 0:Nat):Int)):=by
     intro i hi
     rw[cell_of_row wr _ i _ _ (0,0) hv,List.getElem?_toArray,Dr _ i (by rw[Ww xl k hk];omega),AeP xl k i hi]
    have hc1:=hcs (k - 16) (by omega)
    have hc2:=hcs (k - 15) (by omega)
    have hc3:=hcs (k - 7) (by omega)
    have hc4:=hcs (k - 2) (by omega)
    clear hcs
    have hy1:=Fv (Ot xl HX.out k) (k - 16)
    have hy2:=Fv (Ot xl HX.out k) (k - 15)
    have hy3:=Fv (Ot xl HX.out k) (k - 7)
    have hy4:=Fv (Ot xl HX.out k) (k - 2)
    have hnx:Mr xl (wl xl k) k=((wl xl k).getD (k - 16) 0+twoN ((wl xl k).getD (k - 15) 0) 7 18 8+(wl xl k).getD (k - 7) 0+twoN ((wl xl k).getD (k - 2) 0) 17 19 1024) % 4294967296:=by rw[Mr,if_neg h16]
    rw[hnx]at HSET
    clear hnx
    generalize (wl xl k).getD (k - 16) 0=y1 at*
    generalize (wl xl k).getD (k - 15) 0=y2 at*
    generalize (wl xl k).getD (k - 7) 0=y3 at*
    generalize (wl xl k).getD (k - 2) 0=y4 at*
    generalize (wlZ xl k).getD k 0=z at*
    have h16':16≤k:=by omega
    have h15':(15:Int)≤(k:Int):=by omega
    have h7':(7:Int)≤(k:Int):=by omega
    have h2':(2:Int)≤(k:Int):=by omega
    have b1:(0:Int)≤(k:Int) - 16:=by omega
    have b1':(k:Int) - 16<64:=by omega
    have b2:(0:Int)≤(k:Int) - 15:=by omega
    have b2':(k:Int) - 15<64:=by omega
    have b3:(0:Int)≤(k:Int) - 7:=by omega
    have b3':(k:Int) - 7<64:=by omega
    have b4:(0:Int)≤(k:Int) - 2:=by omega
    have b4':(k:Int) - 2<64:=by omega
    have e1:((k:Int) - 16).toNat=k - 16:=by omega
    have e2:((k:Int) - 15).toNat=k - 15:=by omega
    have e3:((k:Int) - 7).toNat=k - 7:=by omega
    have e4:((k:Int) - 2).toNat=k - 2:=by omega
    have f1:IntKind.i64.wrap ((k:Int) - 16)=(k:Int) - 16:=IntWalk.i64_in _ (by omega)
    have f2:IntKind.i64.wrap ((k:Int) - 15)=(k:Int) - 15:=IntWalk.i64_in _ (by omega)
    have f3:IntKind.i64.wrap ((k:Int) - 7)=(k:Int) - 7:=IntWalk.i64_in _ (by omega)
    have f4:IntKind.i64.wrap ((k:Int) - 2)=(k:Int) - 2:=IntWalk.i64_in _ (by omega)
    have HV:=Lib.hid hv
    clear hv
    go_wp2
    refine wp_region_still_tail 23 (by kernel_rfl) (by kernel_rfl) ?_
    simp only[List.take_succ_cons,List.take_zero,List.drop_succ_cons,List.drop_zero]
    repeat still_step
    still_call (jY _ _ (by assumption))
    repeat still_step
    still_call (oO _ _ (by assumption))
    repeat still_step
    refine wpStill_nil ?_
    change wpList _ _ _ _ _ wr.drew
    clear e1 e2 e3 e4 f1 f2 f3 f4
    go_wp2
    go_roundw
    case rel=>
     refine⟨k+1,by omega,by go_num, ?_,(hbel.setCell (Nat.le_refl _) _).drew⟩
     have e:((y1:Int)+(twoN y2 7 18 8:Nat)+(y3:Int)+(twoN y4 17 19 1024:Nat)) % 4294967296=(((y1+twoN y2 7 18 8+y3+twoN y4 17 19 1024) % 4294967296:Nat):Int):=by omega
     rw[e]
     exact HSET.out
    case measure=>simp[intOf];omega
  ·have k64:k=64:=by omega
   subst k64
   have hbr:wr.heap[w.heap.size+1]?=some (.cells z64 215 (0,0)):=(hbel.block _ (by omega)).trans HB1.out
   rw[Adq]at hv
   obtain⟨fin,hfin⟩: ∃fin:Array Value,fin=(U32 (wl xl 64)).toArray:=⟨_,rfl⟩
   have hsz:fin.size=64:=by rw[hfin];simp[U32,Hl]
   have hone:fin.all (·.oneCell')=true:=by rw[hfin];exact Ds _
   have hin:(Tryz.prog.info? 215).map (·.size)=some fin.size:=by rw[hsz];exact oP
   rw[←hfin]at hv
   have HFIN:=Lib.hid hfin
   have HV:=Lib.hid hv
   have HBR:=Lib.hid hbr
   have HSZ:=Lib.hid hsz
   have HONE:=Lib.hid hone
   have HIN:=Lib.hid hin
   clear hv hbr hsz hfin hone hin
   go_wp2_with (first
    |((with_reducible refine Dl 40 ?_);refine wpList_load_row (o:=⟨some 40, .load 215 (.tmp 3),_,_,_,_⟩) rfl 215 (.tmp 3) rfl (w.heap.size+1+1) rfl 215 fin (0,0) _ HV.out Tryz.underlying215 rfl HIN.out ?_)
    |((with_reducible refine Ac 2 ?_);refine Ad (o:=⟨none, .store 215 (.tmp 2) (.tmp 40),_,_,_,_⟩) rfl 215 (.tmp 2) (.tmp 40) rfl (w.heap.size+1) fin rfl rfl 215 z64 HBR.out HIN.out HSZ.out.symm HONE.out ?_;intro w1 hw1))
   have hr1:w1.heap[w.heap.size+1]?=some (.cells fin 215 (0,0)):=by rw[hw1.out];exact setRow_heap _ _ _ _ _ _ HBR.out
   refine bodyPost_ret (results_cell_row Tryz.results230 _ w1 (w.heap.size+1) 215 _ (0,0) _ rfl hr1 Tryz.underlying215 rfl HIN.out) rfl ⟨by rw[HFIN.out], ?_⟩
   have h1:Below w.heap.size w0 wr:=hbel.mono (by omega)
   exact(hb0.trans (h1.mono (by omega))).trans (An hw1.out (by omega))
def Cx (w:World):Prop:=Rd w w.heap.size (some ⟨1,0,none⟩) (U32 kTab)∧Rd w w.heap.size (some ⟨0,0,none⟩) (U32 Cr.list)
theorem Cx.next {w w':World} (h:Cx w) (hb:Below w.heap.size w w'):Cx w':=⟨h.1.next hb,h.2.next hb⟩
theorem Cx.cell {w:World} (h:Cx w) (k:Nat) (hk:k<64):w.cell? ⟨1,k,none⟩=some (.int .u32 ((kTab.getD k 0:Nat):Int))∧ 1 <w.heap.size:=by
 obtain⟨ad,he,hlt,hc⟩:=h.1 k _ (Dr kTab k (by rw[iR];exact hk))
 cases he
 rw[Bu]at hc
 exact⟨hc,hlt⟩
theorem Kf:(Tryz.prog.info? 193).map (·.size)=some 8:=by kernel_rfl
theorem St.val_eq (v:St):v.val= .agg (U32 v.list).toArray:=rfl
theorem Bg {w1 w2:World} {cc cd:Array Value} {t:TypeId} (h:w2=(w1.alloc (.cells cc t)).setRow w1.heap.size cd):
  w2.heap.size=w1.heap.size+1∧w2.heap[w1.heap.size]?=some (.cells cd t (0,0))∧Below w1.heap.size w1 w2:=by
 subst h
 exact⟨by simp,setRow_heap _ _ _ _ _ _ (heap_alloc_new w1 _),below_setRow ((Below.refl _ _).alloc (Nat.le_refl _) _) (Nat.le_refl _) _⟩
theorem vO (h:St) (x0 x1 x2 x3 x4 x5 x6 x7 x8 x9 x10 x11 x12 x13 x14 x15:Nat) (w:World) (hT:Cx w) (hh:h.ok) (hx: ∀x∈ [x0,x1,x2,x3,x4,x5,x6,x7,x8,x9,x10,x11,x12,x13,x14,x15],x<4294967296):
  Calls Tryz.prog 199 #[h.val,aW x0 x1 x2 x3 x4 x5 x6 x7 x8 x9 x10 x11 x12 x13 x14 x15] w fun e w'=>e= .returned (Fm h [x0,x1,x2,x3,x4,x5,x6,x7,x8,x9,x10,x11,x12,x13,x14,x15]).val∧Below w.heap.size w w':=by
 obtain⟨xl,hxl⟩: ∃xl:List Nat,xl=[x0,x1,x2,x3,x4,x5,x6,x7,x8,x9,x10,x11,x12,x13,x14,x15]:=⟨_,rfl⟩
 obtain⟨w0,hw0⟩: ∃w0:World,w0=((w.alloc (.cells #[.int .u32 h.a, .int .u32 h.b, .int .u32 h.c, .int .u32 h.d, .int .u32 h.e, .int .u32 h.f, .int .u32 h.g, .int .u32 h.h] 193)).alloc (.cells #[.int .u32 x0, .int .u32 x1, .int .u32 x2, .int .u32 x3, .int .u32 x4, .int .u32 x5, .int .u32 x6, .int .u32 x7, .int .u32 x8, .int .u32 x9, .int .u32 x10, .int .u32 x11, .int .u32 x12, .int .u32 x13, .int .u32 x14, .int .u32 x15] 195)).alloc (.cells #[.int .u32 0, .int .u32 0, .int .u32 0, .int .u32 0, .int .u32 0, .int .u32 0, .int .u32 0, .int .u32 0] 193):=⟨_,rfl⟩
 have hs0:w0.heap.size=w.heap.size+1+1+1:=by rw[hw0];simp
 have hblh:w0.heap[w.heap.size]?=some (.cells (U32 h.list).toArray 193 (0,0)):=by
  rw[hw0,Below.heap_alloc _ _ _ (by simp;omega),Below.heap_alloc _ _ _ (by simp),Vc]
  rfl
 have hblr:w0.heap[w.heap.size+1+1]?=some (.cells z8 193 (0,0)):=by
  rw[hw0];exact Pp
 have hb0:Below w.heap.size w w0:=by
  rw[hw0]
  exact(((Below.refl _ _).alloc (Nat.le_refl _) _).alloc (by simp) _).alloc (by simp;omega) _
 have hT0:=hT.next hb0
 rw[←hxl]
 have HXL:=Lib.hid hxl
 have HX:=Lib.hid hx
 have HS0:=Lib.hid hs0
 have HH:=Lib.hid hblh
 have HR:=Lib.hid hblr
 have HT0:=Lib.hid hT0
 unfold St.val aW
 clear hx hs0 hblh hblr hT hT0
 go_enter Tryz.func199, Tryz.ntmps199
 go_wp2_with fail
 rw[←hw0]
 have HW0:=Lib.hid hw0
 clear hw0 hxl
 refine(vN x0 x1 x2 x3 x4 x5 x6 x7 x8 x9 x10 x11 x12 x13 x14 x15 w0 HX.out).mono ?_
 rintro e w1 ⟨rfl,hb1⟩
 rw[←HXL.out]
 have hb01:Below w.heap.size w w1:=hb0.trans (hb1.mono hb0.size)
 have HT1:=Lib.hid (HT0.out.next hb1)
 have hs1:w.heap.size+1+1+1≤w1.heap.size:=by have:=hb1.size;rw[HS0.out]at this;exact this
 have hh1:w1.heap[w.heap.size]?=some (.cells (U32 h.list).toArray 193 (0,0)):=(hb1.block _ (by rw[HS0.out];omega)).trans HH.out
 have hr1:w1.heap[w.heap.size+1+1]?=some (.cells z8 193 (0,0)):=(hb1.block _ (by rw[HS0.out];omega)).trans HR.out
 obtain⟨fin,hfin⟩: ∃fin:Array Value,fin=(U32 (wl xl 64)).toArray:=⟨_,rfl⟩
 have hsz:fin.size=64:=by rw[hfin];simp[U32,Hl]
 have hone:fin.all (·.oneCell')=true:=by rw[hfin];exact Ds _
 have hin:(Tryz.prog.info? 215).map (·.size)=some fin.size:=by rw[hsz];exact oP
 rw[←hfin]
 have HSZ:=Lib.hid hsz
 have HONE:=Lib.hid hone
 have HIN:=Lib.hid hin
 have HFIN:=Lib.hid hfin
 have HH1:=Lib.hid hh1
 have HR1:=Lib.hid hr1
 clear hsz hfin hone hin hh1 hr1 hb0
 go_wp2_with (first
  |((with_reducible refine Ac 5 ?_);refine Ad (o:=⟨none, .store 215 (.tmp 5) (.tmp 10),_,_,_,_⟩) rfl 215 (.tmp 5) (.tmp 10) rfl w1.heap.size fin rfl rfl 215 z64 (heap_alloc_new w1 _) HIN.out HSZ.out.symm HONE.out ?_;intro w2 hw2)
  |((with_reducible refine Dl 11 ?_);refine wpList_load_row (o:=⟨some 11, .load 193 (.tmp 2),_,_,_,_⟩) rfl 193 (.tmp 2) rfl w.heap.size rfl 193 (U32 h.list).toArray (0,0) _ (((Bg hw2.out).2.2.block _ (by omega)).trans HH1.out) Tryz.underlying193 rfl Kf ?_)
  |((with_reducible refine Ac 6 ?_);refine Ad (o:=⟨none, .store 193 (.tmp 6) (.tmp 11),_,_,_,_⟩) rfl 193 (.tmp 6) (.tmp 11) rfl w2.heap.size (U32 h.list).toArray rfl rfl 193 z8 (heap_alloc_new w2 _) Kf rfl (Ds _) ?_;intro w3 hw3))
 obtain⟨s2,r2,b2⟩:=Bg hw2.out
 obtain⟨s3,r3,b3⟩:=Bg hw3.out
 have HS3:w2.heap.size<w3.heap.size:=by omega
 have hs2:w1.heap.size<w2.heap.size:=by omega
 have hb03:Below w.heap.size w w3:=(hb01.trans (b2.mono hb01.size)).trans (b3.mono (by have:=hb01.size;omega))
 have HT3:=Lib.hid ((HT1.out.next b2).next b3)
 have HA3:=Lib.hid ((b3.block _ (by omega)).trans r2)
 have HV3:=Lib.hid r3
 have HH3:=Lib.hid ((b3.block w.heap.size (by omega)).trans ((b2.block _ (by omega)).trans HH1.out))
 have HR3:=Lib.hid ((b3.block (w.heap.size+1+1) (by omega)).trans ((b2.block _ (by omega)).trans HR1.out))
 have HB3:=Lib.hid hb03
 clear s2 r2 b2 s3 r3 b3 hw2 hw3 hb03 hb01 hb1
 go_loopw [12] (fun i wr=> ∃k:Nat,k≤64∧i= .int .i64 k∧wr.heap[w2.heap.size]?=some (.cells (U32 (Ol h (wl xl 64) k).list).toArray 193 (0,0))∧Below w2.heap.size w3 wr) (fun i _=>64 - (intOf i).toNat)
 case atStart=>exact⟨0,Nat.zero_le _,rfl,HV3.out,Below.refl _ _⟩
 case round=>
  obtain⟨k,hk,rfl,hv,hbel⟩:=hrel
  by_cases hlt:k<64
  ·have hvok:(Ol h (wl xl 64) k).ok:=rR hh _ _
   have hnext:Ol h (wl xl 64) (k+1)=rnd (Ol h (wl xl 64) k) (kTab.getD k 0) ((wl xl 64).getD k 0):=rfl
   have hck:wr.cell? ⟨1,k,none⟩=some (.int .u32 ((kTab.getD k 0:Nat):Int)):=(hbel.cell (p:=⟨1,k,none⟩) (by show 1 <w2.heap.size;omega)).trans (HT3.out.cell k hlt).1
   have hcl:wr.cell? ⟨w1.heap.size,k,none⟩=some (.int .u32 (((wl xl 64).getD k 0:Nat):Int)):=by
    rw[cell_of_row wr w1.heap.size k _ _ (0,0) ((hbel.block _ hs2).trans HA3.out),HFIN.out,List.getElem?_toArray,Dr _ k (by rw[Hl];exact hlt)]
   have hyk:=Fv rQ k
   have hyl:=Fv (Ot xl (by rw[HXL.out];exact HX.out) 64) k
   generalize kTab.getD k 0=kk at*
   generalize (wl xl 64).getD k 0=ww at*
   generalize Ol h (wl xl 64) k=V at*
   have hlc: ∀i (v:Nat),V.list[i]?=some v→wr.cell? ⟨w2.heap.size,i,none⟩=some (.int .u32 (v:Int)):=by
    intro i v hvv
    rw[cell_of_row wr w2.heap.size i _ _ (0,0) hv,List.getElem?_toArray,U32,List.getElem?_map,hvv];rfl
   have c0:=hlc 0 V.a rfl
   have c1:=hlc 1 V.b rfl
   have c2:=hlc 2 V.c rfl
   have c3:=hlc 3 V.d rfl
   have c4:=hlc 4 V.e rfl
   have c5:=hlc 5 V.f rfl
   have c6:=hlc 6 V.g rfl
   have c7:=hlc 7 V.h rfl
   have HV:=Lib.hid hv
   have HNX:=Lib.hid hnext
   have HOK:=Lib.hid hvok
   have bk0:(0:Int)≤(k:Int):=Int.natCast_nonneg _
   have bk1:(k:Int)<64:=by omega
   clear hlc hv hnext hvok
   go_wp2
   refine wp_region_still_tail 8 (by kernel_rfl) (by kernel_rfl) ?_
   simp only[List.take_succ_cons,List.take_zero,List.drop_succ_cons,List.drop_zero]
   repeat still_step
   refine wpStill_nil ?_
   change wpList _ _ _ _ _ wr.drew
   have hbd:Below w2.heap.size w3 wr.drew:=hbel.drew
   have hvd:wr.drew.heap[w2.heap.size]?=some (.cells (U32 V.list).toArray 193 (0,0)):=HV.out
   generalize wr.drew=wd at*
   clear c0 c1 c2 c3 c4 c5 c6 c7 hck hcl hbel
   have HVD:=Lib.hid hvd
   clear hvd
   go_wp2_with fail
   rw[show((kk:Int)+(ww:Int)) % 4294967296=(((kk+ww) % 4294967296:Nat):Int) by omega]
   refine(uW V ((kk+ww) % 4294967296) _ HOK.out (Nat.mod_lt _ (by omega))).mono ?_
   rintro e w4 ⟨rfl,hb4⟩
   obtain⟨R,hR⟩: ∃R,R=jM V ((kk+ww) % 4294967296):=⟨_,rfl⟩
   rw[←hR]
   have HRN:=Lib.hid hR
   clear hR
   have hsd:w2.heap.size<wd.heap.size:=by have:=hbd.size;omega
   have hv4:w4.heap[w2.heap.size]?=some (.cells (U32 V.list).toArray 193 (0,0)):=(hb4.block _ hsd).trans HVD.out
   have hbd4:Below w2.heap.size w3 w4:=hbd.trans (hb4.mono (by omega))
   have HV4:=Lib.hid hv4
   clear hv4 hb4
   go_wp2_with ((with_reducible refine Ac 6 ?_);refine Ad (o:=⟨none, .store 193 (.tmp 6) (.tmp 23),_,_,_,_⟩) rfl 193 (.tmp 6) (.tmp 23) rfl w2.heap.size (U32 R.list).toArray rfl rfl 193 (U32 V.list).toArray HV4.out Kf rfl (Ds _) ?_;intro w5 hw5)
   have hv5:w5.heap[w2.heap.size]?=some (.cells (U32 (Ol h (wl xl 64) (k+1)).list).toArray 193 (0,0)):=by
    rw[hw5.out,HNX.out, ←Adc, ←HRN.out];exact setRow_heap _ _ _ _ _ _ HV4.out
   have hbd5:Below w2.heap.size w3 w5:=hbd4.trans (An hw5.out (Nat.le_refl _))
   go_roundw
   case rel=>exact⟨k+1,by omega,by go_num,hv5,hbd5⟩
   case measure=>simp[intOf];omega
  ·have k64:k=64:=by omega
   subst k64
   obtain⟨V,hV⟩: ∃V,V=Ol h (wl xl 64) 64:=⟨_,rfl⟩
   rw[←hV]at hv
   have HV:=Lib.hid hV
   have HVV:=Lib.hid hv
   have hh4:wr.heap[w.heap.size]?=some (.cells (U32 h.list).toArray 193 (0,0)):=(hbel.block _ (by omega)).trans HH3.out
   have hr4:wr.heap[w.heap.size+1+1]?=some (.cells z8 193 (0,0)):=(hbel.block _ (by omega)).trans HR3.out
   have HH4:=Lib.hid hh4
   have HR4:=Lib.hid hr4
   have hb4:Below w.heap.size w wr:=HB3.out.trans (hbel.mono (by omega))
   have HB4:=Lib.hid hb4
   clear hV hv hh4 hr4 hb4 hbel
   obtain⟨w4,rfl⟩: ∃w4:World,w4=wr:=⟨_,rfl⟩
   go_wp2
   go_loopw [25] (fun i wr=> ∃k:Nat,k≤8∧i= .int .i64 k∧wr.heap[w2.heap.size]?=some (.cells (U32 (Hg V.list h.list k)).toArray 193 (0,0))∧Below w2.heap.size w4 wr) (fun i _=>8 - (intOf i).toNat)
   case atStart=>exact⟨0,Nat.zero_le _,rfl,by rw[Wv];exact HVV.out,Below.refl _ _⟩
   case round=>
    obtain⟨k,hk,rfl,hv,hbel⟩:=hrel
    by_cases hlt:k<8
    ·have hcv:wr.cell? ⟨w2.heap.size,k,none⟩=some (.int .u32 ((V.list.getD k 0:Nat):Int)):=by
      rw[cell_of_row wr w2.heap.size k _ _ (0,0) hv,List.getElem?_toArray,Dr _ k (by rw[Qz];exact hlt),jX,if_pos hlt]
     have hch:wr.cell? ⟨w.heap.size,k,none⟩=some (.int .u32 ((h.list.getD k 0:Nat):Int)):=by
      rw[hbel.cell (p:=⟨w.heap.size,k,none⟩) (by show w.heap.size<_;omega),cell_of_row w4 w.heap.size k _ _ (0,0) HH4.out,List.getElem?_toArray,Dr h.list k hlt]
     have hfz:=frozen_of_row wr w2.heap.size k _ _ hv
     have hset:=heap_setCell_same wr w2.heap.size k _ 193 (.int .u32 (((V.list.getD k 0+h.list.getD k 0) % 4294967296:Nat):Int)) hv
     have hst:(U32 (Hg V.list h.list k)).toArray.setIfInBounds k (.int .u32 (((V.list.getD k 0+h.list.getD k 0) % 4294967296:Nat):Int))=(U32 (Hg V.list h.list (k+1))).toArray:=by
      rw[List.setIfInBounds_toArray, ←aX,U32,U32,List.map_set]
     rw[hst]at hset
     have HSET:=Lib.hid hset
     clear hset hst hv
     generalize V.list.getD k 0=y at*
     generalize h.list.getD k 0=z at*
     have bk0:(0:Int)≤(k:Int):=Int.natCast_nonneg _
     have bk1:(k:Int)<8:=by omega
     go_wp2
     go_region
     all_goals go_wp2
     go_roundw
     case rel=>
      refine⟨k+1,by omega,by go_num, ?_,(hbel.setCell (Nat.le_refl _) _).drew⟩
      have e:((y:Int)+(z:Int)) % 4294967296=(((y+z) % 4294967296:Nat):Int):=by omega
      rw[e]
      exact HSET.out
     case measure=>simp[intOf];omega
    ·have k8:k=8:=by omega
     subst k8
     have hfin:Hg V.list h.list 8=(Fm h xl).list:=by rw[Fm, ←HV.out];rfl
     have hbb:Below w.heap.size w wr:=HB4.out.trans (hbel.mono (by omega))
     have hr5:wr.heap[w.heap.size+1+1]?=some (.cells z8 193 (0,0)):=(hbel.block _ (by omega)).trans HR4.out
     rw[hfin]at hv
     obtain⟨R,hR⟩: ∃R,R=Fm h xl:=⟨_,rfl⟩
     rw[←hR]at hv
     have HRR:=Lib.hid hR
     have HVR:=Lib.hid hv
     have HR5:=Lib.hid hr5
     clear hR hv hr5 hfin hbel
     go_wp2_with (first
      |((with_reducible refine Dl 37 ?_);refine wpList_load_row (o:=⟨some 37, .load 193 (.tmp 6),_,_,_,_⟩) rfl 193 (.tmp 6) rfl w2.heap.size rfl 193 (U32 R.list).toArray (0,0) _ HVR.out Tryz.underlying193 rfl Kf ?_)
      |((with_reducible refine Ac 4 ?_);refine Ad (o:=⟨none, .store 193 (.tmp 4) (.tmp 37),_,_,_,_⟩) rfl 193 (.tmp 4) (.tmp 37) rfl (w.heap.size+1+1) (U32 R.list).toArray rfl rfl 193 z8 HR5.out Kf rfl (Ds _) ?_;intro w6 hw6))
     have hr6:w6.heap[w.heap.size+1+1]?=some (.cells (U32 R.list).toArray 193 (0,0)):=by rw[hw6.out];exact setRow_heap _ _ _ _ _ _ HR5.out
     refine bodyPost_ret (results_cell_row Tryz.results199 _ w6 (w.heap.size+1+1) 193 _ (0,0) _ rfl hr6 Tryz.underlying193 rfl Kf) rfl ⟨by rw[←HRR.out];rfl, ?_⟩
     exact hbb.trans (An hw6.out (by omega))
end Go.Proofs.YtmdbfogjfbbpjaaGreatDoor
