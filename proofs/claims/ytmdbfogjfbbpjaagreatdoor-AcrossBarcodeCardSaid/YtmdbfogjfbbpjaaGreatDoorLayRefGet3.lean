import Derived.Test.YtmdbfogjfbbpjaaGreatDoorBcdRefGet
import Derived.RegionTactic
import Derived.BigRegion
import Derived.Deep.RegionHeld3
import Derived.Test.YtmdbfogjfbbpjaaGreatDoorLineMath
import Derived.Test.YtmdbfogjfbbpjaaGreatDoorShaRefSum
import Derived.Test.YtmdbfogjfbbpjaaGreatDoorLayPFields
import Derived.Test.YtmdbfogjfbbpjaaGreatDoorTrackBackMath
import Derived.Test.YtmdbfogjfbbpjaaGreatDoorMacRefBlock
import Derived.Test.YtmdbfogjfbbpjaaGreatDoorBitsNe
import Derived.Test.YtmdbfogjfbbpjaaGreatDoorLayPPut0
set_option maxHeartbeats 1600000
set_option maxRecDepth 100000
set_option linter.unusedVariables false
namespace Go.Proofs.YtmdbfogjfbbpjaaGreatDoor
open Go.ChangeShapes Go.WideShapes Go.ChangeAt Go.RowKit
theorem AdK (x:Nat) (q:List Nat) (n:Nat) (hn:n=(x::q).length) (E:Int) (r:Rg) (hE:By (x::q)=(E,r)) (A:Option Addr) (c:Nat) (w:World) (hA:Bs w w.heap.size (x::q) A c) (hx: ¬9<x) (hw:1≤(x:Int)∧(x:Int)≤4) (hk4:(x:Int)≠4) (v0 v1 v2 v3 v4 v5 v6 v7 v8 v9 v10 v11:Int) (hs:Bq (x::q) (Au x)=(0,[v0,v1,v2,v3,v4,v5,v6,v7,v8,v9,v10,v11])) (h0:v0=x) (u:Int) (hu:v0.tmod 3=u):Calls Tryz.prog 61 #[.slice A n c] w fun e w'=>e= .returned (.tuple #[.agg #[.int .i64 r.t.ser, .int .i64 r.t.kind, .int .i64 r.t.frm, .int .i64 r.t.till, .int .i64 r.t.cls, .int .i64 r.t.card, .int .i64 r.t.seat, .int .i64 r.t.day, .int .i64 r.t.days, .int .i64 r.t.uses, .int .i64 r.t.epoch, .int .i64 r.key, .int .i64 r.left, .int .i64 r.inn, .int .i64 r.ver], .int .i64 E])∧Below w.heap.size w w':=by
 have ht:Eh x [v0,v1,v2,v3,v4,v5,v6,v7,v8,v9,v10,v11]=(⟨(⟨v1,v0,v7,v8,v2,v3,0,v4,v5,u,v6⟩:Tk),v11,v9,v10,0⟩:Rg):=by rw[Eh,if_neg hk4, ←h0,hu];rfl
 have hr:(if Ga (⟨(⟨v1,v0,v7,v8,v2,v3,0,v4,v5,u,v6⟩:Tk),v11,v9,v10,0⟩:Rg)=true then(0,(⟨(⟨v1,v0,v7,v8,v2,v3,0,v4,v5,u,v6⟩:Tk),v11,v9,v10,0⟩:Rg))else(9,Ah))=(E,r):=by have:=hE;rw[By,if_neg hx,Gy,if_pos hw,if_neg (by decide),Yd,hs,if_neg (by simp)]at this;simp only at this;rw[ht]at this;exact this
 have HE:=Lib.hid hr
 have HS:=Lib.hid hs
 obtain⟨m,hm⟩: ∃m,m=(Au x).length:=⟨_,rfl⟩
 have HWE:=Lib.hid (show Gy x=0 by rw[Gy,if_pos hw])
 have HWN:=Lib.hid hm
 have hx9:x≤9:=by omega
 have q4:(v0==4)=false:=by rw[beq_eq_false_iff_ne,h0];exact hk4
 have hwr:IntKind.i64.wrap u=u:=IntWalk.i64_in _ (by rw[←hu,h0];rcases(show(x:Int)=1∨(x:Int)=2∨(x:Int)=3∨(x:Int)=4 by omega)with h|h|h|h<;>rw[h]<;>decide)
 clear hE hx hw hs hm hk4 h0 ht hr
 have hn63:n≤9223372036854775807:=by have:=hA.len;have:=hA.cap;omega
 have hn1:1≤n:=by rw[hn];simp
 have hnz:((n:Int)==0)=false:=by rw[beq_eq_false_iff_ne];omega
 obtain⟨ad,rfl,hb0,hc0⟩:=(hA.next (Aa w #[.int .i64 0, .int .i64 0, .int .i64 0, .int .i64 0, .int .i64 0, .int .i64 0, .int .i64 0, .int .i64 0, .int .i64 0, .int .i64 0, .int .i64 0, .int .i64 0, .int .i64 0, .int .i64 0, .int .i64 0] 39)).rd 0 _ (Co (x::q) 0 (by simp))
 have hc1:=hc0
 rw[Da]at hc1
 simp only[List.getElem_cons_zero]at hc0 hc1
 have hx255:x<256:=hA.lt x (by simp)
 have HN:=Lib.hid hn
 have HA:=Lib.hid hA
 clear hn hA
 go_enter Tryz.func61, Tryz.ntmps61
 go_wp2_with (first|(go_at_call 107;refine(Gh x _ (Au x) _ HWN.out HWE.out rfl _).mono ?_;rintro e w2 ⟨AW,cW,rfl,hz,hb⟩;have HZ:=Lib.hid hz;have HR:=Lib.hid ((Am.new w Ah).next hb);have HB2:=Lib.hid (Ay _ _ hb);have HA2:=Lib.hid (HA.out.next (Ay _ _ hb));clear hz hb)|(go_at_call 108;refine(Pg (x::q) (Au x) n m HN.out HWN.out _ _ HS.out (some ad) AW c cW _ HA2.out HZ.out).mono ?_;rintro e w3 ⟨AS,cS,rfl,hz,hb⟩;have HV:=Lib.hid hz;have HR3:=Lib.hid (HR.out.next hb);have HB3:=Lib.hid (HB2.out.trans (hb.mono HB2.out.size));clear hz hb))
 obtain⟨av,rfl,hav,a0⟩:=HV.out.at (k:=0) (x:=v0) rfl
 rw[Da]at a0
 obtain⟨_,ee,_,aa⟩:=HV.out.at (k:=1) (x:=v1) rfl
 cases ee
 have a1:w3.cell? ⟨av.block,av.off+1,none⟩=some (.int .i64 v1):=aa
 clear aa
 obtain⟨_,ee,_,aa⟩:=HV.out.at (k:=2) (x:=v2) rfl
 cases ee
 have a2:w3.cell? ⟨av.block,av.off+2,none⟩=some (.int .i64 v2):=aa
 clear aa
 obtain⟨_,ee,_,aa⟩:=HV.out.at (k:=3) (x:=v3) rfl
 cases ee
 have a3:w3.cell? ⟨av.block,av.off+3,none⟩=some (.int .i64 v3):=aa
 clear aa
 obtain⟨_,ee,_,aa⟩:=HV.out.at (k:=4) (x:=v4) rfl
 cases ee
 have a4:w3.cell? ⟨av.block,av.off+4,none⟩=some (.int .i64 v4):=aa
 clear aa
 obtain⟨_,ee,_,aa⟩:=HV.out.at (k:=5) (x:=v5) rfl
 cases ee
 have a5:w3.cell? ⟨av.block,av.off+5,none⟩=some (.int .i64 v5):=aa
 clear aa
 obtain⟨_,ee,_,aa⟩:=HV.out.at (k:=6) (x:=v6) rfl
 cases ee
 have a6:w3.cell? ⟨av.block,av.off+6,none⟩=some (.int .i64 v6):=aa
 clear aa
 obtain⟨_,ee,_,aa⟩:=HV.out.at (k:=7) (x:=v7) rfl
 cases ee
 have a7:w3.cell? ⟨av.block,av.off+7,none⟩=some (.int .i64 v7):=aa
 clear aa
 obtain⟨_,ee,_,aa⟩:=HV.out.at (k:=8) (x:=v8) rfl
 cases ee
 have a8:w3.cell? ⟨av.block,av.off+8,none⟩=some (.int .i64 v8):=aa
 clear aa
 go_region_held3 (fun w'=>w'.cell? av=some (.int .i64 v0)∧w'.cell? ⟨av.block,av.off+1,none⟩=some (.int .i64 v1)∧w'.cell? ⟨av.block,av.off+2,none⟩=some (.int .i64 v2)∧w'.cell? ⟨av.block,av.off+3,none⟩=some (.int .i64 v3)∧w'.cell? ⟨av.block,av.off+4,none⟩=some (.int .i64 v4)∧w'.cell? ⟨av.block,av.off+5,none⟩=some (.int .i64 v5)∧w'.cell? ⟨av.block,av.off+6,none⟩=some (.int .i64 v6)∧w'.cell? ⟨av.block,av.off+7,none⟩=some (.int .i64 v7)∧w'.cell? ⟨av.block,av.off+8,none⟩=some (.int .i64 v8)) (first|exact⟨a0,a1,a2,a3,a4,a5,a6,a7,a8⟩|go_keep) (fail)
 rename_i hS3
 clear hS3 a0 a1 a2 a3 a4 a5 a6 a7 a8
 have HW34:Hid (Below w3.heap.size w3 ((w3.alloc (.cells #[.int .i64 v1, .int .i64 v0, .int .i64 v7, .int .i64 v8, .int .i64 v2, .int .i64 v3, .int .i64 0, .int .i64 v4, .int .i64 v5, .int .i64 0, .int .i64 v6] 37)).drew)):=Lib.hid (Ae ((Below.refl _ _).alloc (Nat.le_refl _) _) 1)
 have HT4:Hid (Cp ((w3.alloc (.cells #[.int .i64 v1, .int .i64 v0, .int .i64 v7, .int .i64 v8, .int .i64 v2, .int .i64 v3, .int .i64 0, .int .i64 v4, .int .i64 v5, .int .i64 0, .int .i64 v6] 37)).drew) w3.heap.size (⟨v1,v0,v7,v8,v2,v3,0,v4,v5,0,v6⟩:Tk)):=Lib.hid (Cp.new w3 (⟨v1,v0,v7,v8,v2,v3,0,v4,v5,0,v6⟩:Tk))
 obtain⟨w4,hw4⟩: ∃w4,w4=(w3.alloc (.cells #[.int .i64 v1, .int .i64 v0, .int .i64 v7, .int .i64 v8, .int .i64 v2, .int .i64 v3, .int .i64 0, .int .i64 v4, .int .i64 v5, .int .i64 0, .int .i64 v6] 37)).drew:=⟨_,rfl⟩
 rw[←hw4]at HW34 HT4⊢
 have HR4:=Lib.hid (HR3.out.next HW34.out)
 have HB4:=Lib.hid (HB3.out.trans (HW34.out.mono HB3.out.size))
 have HV4:=Lib.hid (HV.out.next HW34.out)
 have hRY:w.heap.size<w3.heap.size:=HR3.out.lt
 obtain⟨Y,hY⟩: ∃Y,Y=w3.heap.size:=⟨_,rfl⟩
 rw[←hY]at HT4 hav hRY⊢
 clear hw4 hY HW34
 obtain⟨c0,c1,c2,c3,c4,c5,c6,c7,c8,c9,c10⟩:=HT4.out.cells
 have hfz:=HT4.out.frozen 9
 obtain⟨_,ee,_,aa⟩:=HV4.out.at (k:=9) (x:=v9) rfl
 cases ee
 have a9:w4.cell? ⟨av.block,av.off+9,none⟩=some (.int .i64 v9):=aa
 clear aa
 obtain⟨_,ee,_,aa⟩:=HV4.out.at (k:=10) (x:=v10) rfl
 cases ee
 have a10:w4.cell? ⟨av.block,av.off+10,none⟩=some (.int .i64 v10):=aa
 clear aa
 obtain⟨_,ee,_,aa⟩:=HV4.out.at (k:=11) (x:=v11) rfl
 cases ee
 have a11:w4.cell? ⟨av.block,av.off+11,none⟩=some (.int .i64 v11):=aa
 clear aa
 go_wp2
 obtain⟨w5,hw5⟩: ∃w5,w5=w4.setCell ⟨Y,9,none⟩ (.int .i64 u):=⟨_,rfl⟩
 rw[←hw5]
 have HT5:Hid (Cp w5 Y (⟨v1,v0,v7,v8,v2,v3,0,v4,v5,u,v6⟩:Tk)):=Lib.hid (by rw[hw5];exact heap_setCell_same w4 Y 9 _ _ _ HT4.out)
 have HR5:Hid (Am w5 w.heap.size Ah):=Lib.hid (by rw[hw5];exact(heap_setCell_other w4 _ _ _ (by simp;omega)).trans HR4.out)
 have HB5:Hid (Below w.heap.size w w5):=Lib.hid (by rw[hw5];exact HB4.out.setCell (p:=⟨Y,9,none⟩) (Nat.le_of_lt hRY) _)
 have b9:w5.cell? ⟨av.block,av.off+9,none⟩=some (.int .i64 v9):=by rw[hw5,World.cell?_setCell_far _ _ _ _ (by show Y≠av.block;omega)];exact a9
 have b10:w5.cell? ⟨av.block,av.off+10,none⟩=some (.int .i64 v10):=by rw[hw5,World.cell?_setCell_far _ _ _ _ (by show Y≠av.block;omega)];exact a10
 have b11:w5.cell? ⟨av.block,av.off+11,none⟩=some (.int .i64 v11):=by rw[hw5,World.cell?_setCell_far _ _ _ _ (by show Y≠av.block;omega)];exact a11
 clear hw5 hfz c0 c1 c2 c3 c4 c5 c6 c7 c8 c9 c10 a9 a10 a11
 obtain⟨c0,c1,c2,c3,c4,c5,c6,c7,c8,c9,c10⟩:=HT5.out.cells
 have k1:IntKind.i64.wrap ((9:Int)+1)=10:=IntWalk.i64_in _ (by omega)
 have k2:IntKind.i64.wrap ((9:Int)+2)=11:=IntWalk.i64_in _ (by omega)
 have k3:IntKind.i64.wrap (10:Int)=10:=IntWalk.i64_in _ (by omega)
 have k4:IntKind.i64.wrap (11:Int)=11:=IntWalk.i64_in _ (by omega)
 go_region_held3 (fun w'=>w'.cell? ⟨Y,0,none⟩=some (.int .i64 v1)∧w'.cell? ⟨Y,1,none⟩=some (.int .i64 v0)∧w'.cell? ⟨Y,2,none⟩=some (.int .i64 v7)∧w'.cell? ⟨Y,3,none⟩=some (.int .i64 v8)∧w'.cell? ⟨Y,4,none⟩=some (.int .i64 v2)∧w'.cell? ⟨Y,5,none⟩=some (.int .i64 v3)∧w'.cell? ⟨Y,6,none⟩=some (.int .i64 0)∧w'.cell? ⟨Y,7,none⟩=some (.int .i64 v4)∧w'.cell? ⟨Y,8,none⟩=some (.int .i64 v5)∧w'.cell? ⟨Y,9,none⟩=some (.int .i64 u)∧w'.cell? ⟨Y,10,none⟩=some (.int .i64 v6)∧w'.cell? ⟨av.block,av.off+9,none⟩=some (.int .i64 v9)∧w'.cell? ⟨av.block,av.off+10,none⟩=some (.int .i64 v10)∧w'.cell? ⟨av.block,av.off+11,none⟩=some (.int .i64 v11)) (first|exact⟨c0,c1,c2,c3,c4,c5,c6,c7,c8,c9,c10,b9,b10,b11⟩|go_keep) (fail)
 rename_i hS5
 clear hS5 c0 c1 c2 c3 c4 c5 c6 c7 c8 c9 c10 b9 b10 b11
 have HW56:Hid (Below w5.heap.size w5 ((w5.alloc (.cells #[.int .i64 v1, .int .i64 v0, .int .i64 v7, .int .i64 v8, .int .i64 v2, .int .i64 v3, .int .i64 0, .int .i64 v4, .int .i64 v5, .int .i64 u, .int .i64 v6, .int .i64 v11, .int .i64 v9, .int .i64 v10, .int .i64 0] 39)).drew)):=Lib.hid (Ae ((Below.refl _ _).alloc (Nat.le_refl _) _) 1)
 have HZ6:Hid (Am ((w5.alloc (.cells #[.int .i64 v1, .int .i64 v0, .int .i64 v7, .int .i64 v8, .int .i64 v2, .int .i64 v3, .int .i64 0, .int .i64 v4, .int .i64 v5, .int .i64 u, .int .i64 v6, .int .i64 v11, .int .i64 v9, .int .i64 v10, .int .i64 0] 39)).drew) w5.heap.size (⟨(⟨v1,v0,v7,v8,v2,v3,0,v4,v5,u,v6⟩:Tk),v11,v9,v10,0⟩:Rg)):=Lib.hid (Am.new w5 (⟨(⟨v1,v0,v7,v8,v2,v3,0,v4,v5,u,v6⟩:Tk),v11,v9,v10,0⟩:Rg))
 obtain⟨w6,hw6⟩: ∃w6,w6=(w5.alloc (.cells #[.int .i64 v1, .int .i64 v0, .int .i64 v7, .int .i64 v8, .int .i64 v2, .int .i64 v3, .int .i64 0, .int .i64 v4, .int .i64 v5, .int .i64 u, .int .i64 v6, .int .i64 v11, .int .i64 v9, .int .i64 v10, .int .i64 0] 39)).drew:=⟨_,rfl⟩
 rw[←hw6]at HW56 HZ6⊢
 have HR6:=Lib.hid (HR5.out.next HW56.out)
 have HT6:=Lib.hid (HT5.out.next HW56.out)
 have HB6:=Lib.hid (HB5.out.trans (HW56.out.mono HB5.out.size))
 obtain⟨Z,hZ⟩: ∃Z,Z=w5.heap.size:=⟨_,rfl⟩
 rw[←hZ]at HZ6⊢
 clear hw6 hZ HW56
 obtain⟨c0,c1,c2,c3,c4,c5,c6,c7,c8,c9,c10⟩:=HT6.out.cells
 by_cases h1:okT (⟨v1,v0,v7,v8,v2,v3,0,v4,v5,u,v6⟩:Tk)=true
 rotate_left
 ·have hrr: ¬(Ga (⟨(⟨v1,v0,v7,v8,v2,v3,0,v4,v5,u,v6⟩:Tk),v11,v9,v10,0⟩:Rg)=true):=fun h=>h1 ((Ec _).1 h).1
  obtain⟨rfl,rfl⟩:E=9∧r=Ah:=by have:=HE.out;rw[if_neg hrr]at this;exact⟨(Prod.mk.inj this).1.symm,(Prod.mk.inj this).2.symm⟩
  clear HE hrr
  have H1:Hid (okT (⟨v1,v0,v7,v8,v2,v3,0,v4,v5,u,v6⟩:Tk)=false):=Lib.hid (by simpa using h1)
  clear h1
  go_wp2_with (first|(go_at_call 109;refine(Bf (⟨v1,v0,v7,v8,v2,v3,0,v4,v5,u,v6⟩:Tk) _ H1.out _).mono ?_;rintro e w7 ⟨rfl,hb⟩;have HR7:=Lib.hid (HR6.out.next hb);have HZ7:=Lib.hid (HZ6.out.next hb);have HT7:=Lib.hid (HT6.out.next hb);have HB7:=Lib.hid (HB6.out.trans (hb.mono HB6.out.size));clear hb;clear c0 c1 c2 c3 c4 c5 c6 c7 c8 c9 c10;obtain⟨d0,d1,d2,d3,d4,d5,d6,d7,d8,d9,d10⟩:=HT7.out.cells;obtain⟨e0,e1,e2,e3,e4,e5,e6,e7,e8,e9,e10,e11,e12,e13,e14⟩:=HZ7.out.cells)|((with_reducible refine Ac 2 ?_);refine Al HR7.out Ai (Bh _ _ _ _ _ _ _ _ _ _ _ _ _ _ _) ?_))
  intro w9 hw9
  go_wp2
  refine bodyPost_ret (Ab Tryz.results61 _ w9 w.heap.size 39 #[.int .i64 0, .int .i64 0, .int .i64 0, .int .i64 0, .int .i64 0, .int .i64 0, .int .i64 0, .int .i64 0, .int .i64 0, .int .i64 0, .int .i64 0, .int .i64 0, .int .i64 0, .int .i64 0, .int .i64 0] (0,0) _ rfl (by rw[hw9.out];exact setRow_heap _ _ _ _ _ _ HR7.out) Tryz.underlying39 rfl Ai) rfl ⟨rfl, ?_⟩
  rw[hw9.out]
  exact below_setRow HB7.out (Nat.le_refl _) _
 have H1:=Lib.hid h1
 by_cases h2:Ft (u) v9 v10=true
 rotate_left
 ·have hrr: ¬(Ga (⟨(⟨v1,v0,v7,v8,v2,v3,0,v4,v5,u,v6⟩:Tk),v11,v9,v10,0⟩:Rg)=true):=fun h=>h2 ((Ec _).1 h).2
  obtain⟨rfl,rfl⟩:E=9∧r=Ah:=by have:=HE.out;rw[if_neg hrr]at this;exact⟨(Prod.mk.inj this).1.symm,(Prod.mk.inj this).2.symm⟩
  clear HE hrr
  have H2:Hid (Ft (u) v9 v10=false):=Lib.hid (by simpa using h2)
  clear h1 h2
  go_wp2_with (first|(go_at_call 109;refine(Bf (⟨v1,v0,v7,v8,v2,v3,0,v4,v5,u,v6⟩:Tk) _ H1.out _).mono ?_;rintro e w7 ⟨rfl,hb⟩;have HR7:=Lib.hid (HR6.out.next hb);have HZ7:=Lib.hid (HZ6.out.next hb);have HT7:=Lib.hid (HT6.out.next hb);have HB7:=Lib.hid (HB6.out.trans (hb.mono HB6.out.size));clear hb;clear c0 c1 c2 c3 c4 c5 c6 c7 c8 c9 c10;obtain⟨d0,d1,d2,d3,d4,d5,d6,d7,d8,d9,d10⟩:=HT7.out.cells;obtain⟨e0,e1,e2,e3,e4,e5,e6,e7,e8,e9,e10,e11,e12,e13,e14⟩:=HZ7.out.cells)|(go_at_call 110;refine(Gb (⟨v1,v0,v7,v8,v2,v3,0,v4,v5,u,v6⟩:Tk) v9 v10 _ H2.out _).mono ?_;rintro e w8 ⟨rfl,hb⟩;have HR8:=Lib.hid (HR7.out.next hb);have HZ8:=Lib.hid (HZ7.out.next hb);have HB8:=Lib.hid (HB7.out.trans (hb.mono HB7.out.size));clear hb;clear d0 d1 d2 d3 d4 d5 d6 d7 d8 d9 d10 e0 e1 e2 e3 e4 e5 e6 e7 e8 e9 e10 e11 e12 e13 e14;obtain⟨f0,f1,f2,f3,f4,f5,f6,f7,f8,f9,f10,f11,f12,f13,f14⟩:=HZ8.out.cells)|((with_reducible refine Ac 2 ?_);refine Al HR8.out Ai (Bh _ _ _ _ _ _ _ _ _ _ _ _ _ _ _) ?_))
  intro w9 hw9
  go_wp2
  refine bodyPost_ret (Ab Tryz.results61 _ w9 w.heap.size 39 #[.int .i64 0, .int .i64 0, .int .i64 0, .int .i64 0, .int .i64 0, .int .i64 0, .int .i64 0, .int .i64 0, .int .i64 0, .int .i64 0, .int .i64 0, .int .i64 0, .int .i64 0, .int .i64 0, .int .i64 0] (0,0) _ rfl (by rw[hw9.out];exact setRow_heap _ _ _ _ _ _ HR8.out) Tryz.underlying39 rfl Ai) rfl ⟨rfl, ?_⟩
  rw[hw9.out]
  exact below_setRow HB8.out (Nat.le_refl _) _
 ·have hrr:Ga (⟨(⟨v1,v0,v7,v8,v2,v3,0,v4,v5,u,v6⟩:Tk),v11,v9,v10,0⟩:Rg)=true:=(Ec _).2 ⟨h1,h2⟩
  obtain⟨rfl,rfl⟩:E=0∧r=(⟨(⟨v1,v0,v7,v8,v2,v3,0,v4,v5,u,v6⟩:Tk),v11,v9,v10,0⟩:Rg):=by have:=HE.out;rw[if_pos hrr]at this;exact⟨(Prod.mk.inj this).1.symm,(Prod.mk.inj this).2.symm⟩
  clear HE hrr
  have H2:=Lib.hid h2
  clear h1 h2
  go_wp2_with (first|(go_at_call 109;refine(Bf (⟨v1,v0,v7,v8,v2,v3,0,v4,v5,u,v6⟩:Tk) _ H1.out _).mono ?_;rintro e w7 ⟨rfl,hb⟩;have HR7:=Lib.hid (HR6.out.next hb);have HZ7:=Lib.hid (HZ6.out.next hb);have HT7:=Lib.hid (HT6.out.next hb);have HB7:=Lib.hid (HB6.out.trans (hb.mono HB6.out.size));clear hb;clear c0 c1 c2 c3 c4 c5 c6 c7 c8 c9 c10;obtain⟨d0,d1,d2,d3,d4,d5,d6,d7,d8,d9,d10⟩:=HT7.out.cells;obtain⟨e0,e1,e2,e3,e4,e5,e6,e7,e8,e9,e10,e11,e12,e13,e14⟩:=HZ7.out.cells)|(go_at_call 110;refine(Gb (⟨v1,v0,v7,v8,v2,v3,0,v4,v5,u,v6⟩:Tk) v9 v10 _ H2.out _).mono ?_;rintro e w8 ⟨rfl,hb⟩;have HR8:=Lib.hid (HR7.out.next hb);have HZ8:=Lib.hid (HZ7.out.next hb);have HB8:=Lib.hid (HB7.out.trans (hb.mono HB7.out.size));clear hb;clear d0 d1 d2 d3 d4 d5 d6 d7 d8 d9 d10 e0 e1 e2 e3 e4 e5 e6 e7 e8 e9 e10 e11 e12 e13 e14;obtain⟨f0,f1,f2,f3,f4,f5,f6,f7,f8,f9,f10,f11,f12,f13,f14⟩:=HZ8.out.cells)|((with_reducible refine Ac 2 ?_);refine Al HR8.out Ai (Bh _ _ _ _ _ _ _ _ _ _ _ _ _ _ _) ?_))
  intro w9 hw9
  go_wp2
  refine bodyPost_ret (Ab Tryz.results61 _ w9 w.heap.size 39 #[.int .i64 v1, .int .i64 v0, .int .i64 v7, .int .i64 v8, .int .i64 v2, .int .i64 v3, .int .i64 0, .int .i64 v4, .int .i64 v5, .int .i64 u, .int .i64 v6, .int .i64 v11, .int .i64 v9, .int .i64 v10, .int .i64 0] (0,0) _ rfl (by rw[hw9.out];exact setRow_heap _ _ _ _ _ _ HR8.out) Tryz.underlying39 rfl Ai) rfl ⟨rfl, ?_⟩
  rw[hw9.out]
  exact below_setRow HB8.out (Nat.le_refl _) _
theorem wU (l:List Nat) (n:Nat) (hn:n=l.length) (E:Int) (r:Rg) (hE:By l=(E,r)) (A:Option Addr) (c:Nat) (w:World) (hA:Bs w w.heap.size l A c):Calls Tryz.prog 61 #[.slice A n c] w fun e w'=>e= .returned (.tuple #[.agg #[.int .i64 r.t.ser, .int .i64 r.t.kind, .int .i64 r.t.frm, .int .i64 r.t.till, .int .i64 r.t.cls, .int .i64 r.t.card, .int .i64 r.t.seat, .int .i64 r.t.day, .int .i64 r.t.days, .int .i64 r.t.uses, .int .i64 r.t.epoch, .int .i64 r.key, .int .i64 r.left, .int .i64 r.inn, .int .i64 r.ver], .int .i64 E])∧Below w.heap.size w w':=by
 match l,hn,hE,hA with
 |[],hn,hE,hA=>exact Aac [] n hn E r hE A c w hA rfl
 |x::q,hn,hE,hA=>
  by_cases hx:9<x
  ·exact Aad x q n hn E r hE A c w hA hx
  ·by_cases hw:1≤(x:Int)∧(x:Int)≤4
   ·by_cases hs0:(Bq (x::q) (Au x)).1=0
    ·obtain⟨v,hv⟩: ∃v,v=(Bq (x::q) (Au x)).2:=⟨_,rfl⟩
     have hs:Bq (x::q) (Au x)=(0,v):=by rw[hv, ←hs0]
     have hl:=Qe hs
     rw[If hw]at hl
     obtain⟨ws,hws⟩:=Qc _ hw
     have hs2:=hs
     rw[hws]at hs2
     obtain⟨x',q',vs,e1,_,hvv,_⟩:=Qd hs2
     obtain rfl:x=x':=(List.cons.inj e1).1
     clear hs2 hws e1 hv
     by_cases hk4:(x:Int)=4
     ·rw[if_pos hk4]at hl
      obtain⟨v0,v1,v2,v3,v4,v5,v6,v7,v8,v9,v10,v11,v12,rfl⟩:=gA hl
      exact AcR x q n hn E r hE A c w hA hx hw hk4 v0 v1 v2 v3 v4 v5 v6 v7 v8 v9 v10 v11 v12 hs (List.cons.inj hvv).1
     ·rw[if_neg hk4]at hl
      obtain⟨v0,v1,v2,v3,v4,v5,v6,v7,v8,v9,v10,v11,rfl⟩:=fZ hl
      exact AdK x q n hn E r hE A c w hA hx hw hk4 v0 v1 v2 v3 v4 v5 v6 v7 v8 v9 v10 v11 hs (List.cons.inj hvv).1 _ rfl
    ·exact Aaf x q n hn E r hE A c w hA hx hw _ rfl hs0
   ·exact Aae x q n hn E r hE A c w hA hx hw
theorem AdL (q:Nat) (h:q<8):128 / 2^q=2^(7 - q)∧128 / 2^(q+1)=2^(7 - q) / 2∧1≤2^(7 - q)∧2^(7 - q)≤128:=by
 rcases(show q=0∨q=1∨q=2∨q=3∨q=4∨q=5∨q=6∨q=7 by omega)with rfl|rfl|rfl|rfl|rfl|rfl|rfl|rfl<;>decide
theorem Afr (d:Nat):((d:Int) % 2==1)=(d % 2==1):=by
 cases h:(d % 2==1)
 ·rw[beq_eq_false_iff_ne]at h⊢;omega
 ·rw[beq_iff_eq]at h⊢;omega
theorem Ox (b:List Nat) (n:Nat) (hn:n=b.length) (hn2:n≤1000) (A:Option Addr) (c:Nat) (w:World) (hA:Bs w w.heap.size b A c):Calls Tryz.prog 159 #[.slice A n c] w fun e w'=> ∃A' c',e= .returned (.slice A' ((8*n:Nat)) c')∧Vs w' w'.heap.size (Ag b) A' c'∧Below w.heap.size w w':=by
 obtain⟨i0,hi,hz0,hz1,hz2⟩:=info_parts Kz
 have HN:=Lib.hid hn
 have HA:=Lib.hid hA
 have hn3:n≤9223372036854775807:=by omega
 clear hn hA
 go_enter Tryz.func159, Tryz.ntmps159
 go_wp2
 go_loopw [3,4] (fun v i wr=> ∃k:Nat,k≤n∧i= .int .i64 k∧wr.ownsRow w.heap.size 4 1 v (8*k) (BL (Ag (b.take k)))∧Below w.heap.size w wr) (fun _ i _=>n - (intOf i).toNat)
 case atStart=>exact⟨0,by omega,rfl,World.ownsRow_lit w #[] 0 (Nat.le_refl _) (by decide) rfl,Aa w _ _⟩
 case round=>
  obtain⟨k,hk,rfl,hown,hbel⟩:=hrel
  by_cases hlt:k<n
  ·have hkl:k<b.length:=by rw[←HN.out];exact hlt
   obtain⟨x,hx⟩: ∃x,b[k]?=some x:=⟨_,List.getElem?_eq_getElem hkl⟩
   have hx256:x<256:=HA.out.lt x (List.mem_of_getElem? hx)
   have hU:(U8 b)[k]?=some (.int .u8 (x:Int)):=by simp[U8,hx]
   obtain⟨ad,rfl,hadl,hc⟩:=HA.out.rd k _ hU
   have HAD:=Lib.hid hadl
   have HC:=Lib.hid hc
   have HX:=Lib.hid hx
   have HOW:=Lib.hid hown
   have HBL:=Lib.hid hbel
   have b0:(0:Int)≤(k:Int):=by omega
   have b1:(k:Int)<(n:Int):=by omega
   clear hown hbel hx hkl hU hadl hc
   go_wp2
   go_loopw [3,5,6] (fun v y j wr=> ∃q:Nat,q≤8∧j= .int .i64 q∧y= .int .i64 (128 / 2^q:Nat)∧wr.ownsRow w.heap.size 4 1 v (8*k+q) (BL (Ag (b.take k)++Ff x q))∧Below w.heap.size w wr) (fun _ _ j _=>8 - (intOf j).toNat)
   case atStart=>exact⟨0,by omega,rfl,rfl,by simpa[Ff]using HOW.out,HBL.out⟩
   case round=>
    obtain⟨q,hq,rfl,rfl,hown,hbel⟩:=hrel
    replace HOW:=Lib.hid hown
    replace HBL:=Lib.hid hbel
    clear hown hbel
    by_cases hq8:q<8
    ·have hc:=(HBL.out.cell (by rw[add_block];exact HAD.out)).trans HC.out
     have hsz:=HBL.out.size
     have hu:=AdL q hq8
     rw[hu.1]
     obtain⟨y,hy⟩: ∃y,2^(7 - q)=y:=⟨_,rfl⟩
     have hbs0:=mE x q
     rw[hy]at hu hbs0⊢
     have hy1:=hu.2.2.1
     have hy2:=hu.2.2.2
     obtain⟨d,hd⟩: ∃d,x / y=d:=⟨_,rfl⟩
     rw[hd, ←Afr]at hbs0
     obtain⟨t,ht⟩: ∃t,((d:Int) % 2==1)=t:=⟨_,rfl⟩
     rw[ht]at hbs0
     have hdle:d≤x:=by rw[←hd];exact Nat.div_le_self _ _
     have hne: ¬(y:Int)=0:=by omega
     have hcast:((x:Int) / (y:Int))=(d:Int):=by rw[←hd];simp
     have wd:IntKind.i64.wrap (d:Int)=(d:Int):=IntWalk.i64_in _ (by omega)
     have HU:=Lib.hid hu.2.1
     have HBS:=Lib.hid hbs0
     have b2:(q:Int)<8:=by omega
     have hm1:8*k+q+1≤maxLen:=by unfold maxLen;omega
     have hm2:(8*k+q+1)*1≤140737488355328:=by omega
     clear hu hbs0 hd hy
     go_wp2_with (at_builtin;refine wpList_append_own _ rfl (.tmp 18) (.tmp 28) 61 rfl w.heap.size 4 i0 (.bool false) 1 1 Tryz.underlying61 hi hz0 hz1 hz2 rfl (by decide) _ (8*k+q) (BL (Ag (b.take k)++Ff x q)) rfl (HOW.out.alloc _) ⟨_,0,none⟩ 1 1 [.bool t] rfl rfl (Yv _ _) (Yw _) hm1 hm2 (by simp;omega) ?_)
     intro v8 w8 hown8 hg8 _
     have HO8:=Lib.hid (show w8.ownsRow w.heap.size 4 1 v8 (8*k+(q+1)) (BL (Ag (b.take k)++Ff x (q+1))) by
      rw[HBS.out, ←List.append_assoc,Oh, ←Nat.add_assoc]
      exact hown8)
     have HB8:=Lib.hid ((HBL.out.alloc HBL.out.size _).grown hg8 (by simp;omega) (fun p hp=>Ak HOW.out hp))
     clear hown8 hg8 hc HC HA HX HN HBS HOW HBL hcast ht
     have wy:IntKind.i64.wrap ((y:Int) / 2)=(y:Int) / 2:=IntWalk.i64_in _ (by omega)
     have HY:=Lib.hid (show(y:Int) / 2=((y / 2:Nat):Int) by omega)
     clear hy1 hdle hx256 hlt hn3 hne hm1 hm2 wd b0 b1
     go_wp2
     go_roundw
     case rel=>exact⟨q+1,by omega,by go_num,by rw[HY.out,HU.out],HO8.out,HB8.out⟩
     case measure=>simp[intOf];omega
    ·have e:q=8:=by omega
     have hb: ¬((q:Int)<8):=by omega
     have HOK:=Lib.hid (show wr.ownsRow w.heap.size 4 1 u3 (8*(k+1)) (BL (Ag (b.take (k+1)))) by
      rw[gD HX.out, ←show Ff x q=Ff x 8 by rw[e],show 8*(k+1)=8*k+q by omega]
      exact HOW.out)
     clear HOW
     go_wp2
     go_roundw
     case rel=>exact⟨k+1,by omega,by go_num,HOK.out,HBL.out⟩
     case measure=>simp[intOf];omega
  ·have e:k=n:=by omega
   have hb: ¬((k:Int)<(n:Int)):=by omega
   have ht:Ag (b.take k)=Ag b:=by rw[e,HN.out,List.take_length]
   rw[ht,e]at hown
   clear ht hlt
   obtain⟨A',c',hv,_,hbs⟩:=Iu hown
   subst hv
   go_wp2
   go_ret
   exact⟨_,_,rfl,hbs,hbel⟩
theorem lD (b:List Nat) (n:Nat) (hn:n=b.length) (hn2:n≤1000) (A:Option Addr) (c:Nat) (w:World) (hA:Bs w w.heap.size b A c):Calls Tryz.prog 106 #[.slice A n c] w fun e w'=> ∃A' c',e= .returned (.slice A' (n:Nat) c')∧Bs w' w'.heap.size (Em b) A' c'∧Below w.heap.size w w':=by
 obtain⟨i0,hi,hz0,hz1,hz2⟩:=info_parts Kz
 obtain⟨m,hm⟩: ∃m,8*n=m:=⟨_,rfl⟩
 obtain⟨L,hL⟩: ∃L,Ag b=L:=⟨_,rfl⟩
 have hu:=Ox b n hn hn2 A c w hA
 have hlen:L.length=m:=by rw[←hL,Bz, ←hn,hm]
 have hpk:packL L.reverse=Em b:=by rw[←hL];rfl
 rw[hm,hL]at hu
 have hpm:(m+7) / 8=n:=by omega
 have hm2:m≤8000:=by omega
 have HU:=Lib.hid hu
 have HL:=Lib.hid hlen
 have HP:=Lib.hid hpk
 have HPM:=Lib.hid hpm
 clear hn hA hm hL hu hlen hpk hpm
 go_enter Tryz.func106, Tryz.ntmps106
 go_wp2_with fail
 refine HU.out.mono ?_
 rintro e w1 ⟨AU,cU,rfl,hs,hb⟩
 have HS:=Lib.hid hs
 have HB1:=Lib.hid hb
 clear hs hb HU
 go_wp2
 go_loopw [4,5] (fun v i wr=> ∃(k:Nat) (z:Int),z+(k:Int)+1=(m:Int)∧ -1≤z∧i= .int .i64 z∧wr.ownsRow w1.heap.size 4 1 v k (BL (L.reverse.take k))∧Below w1.heap.size w1 wr) (fun _ i _=>(intOf i+1).toNat)
 case atStart=>exact⟨0,(m:Int) - 1,by omega,by omega,rfl,World.ownsRow_lit w1 #[] 0 (Nat.le_refl _) (by decide) rfl,Aa w1 _ _⟩
 case round=>
  obtain⟨k,z,hkz,hz,rfl,hown,hbel⟩:=hrel
  have HOW:=Lib.hid hown
  have HBL:=Lib.hid hbel
  clear hown hbel
  by_cases hlt:0≤z
  ·obtain⟨q,rfl⟩: ∃q:Nat,z=(q:Int):=⟨z.toNat,by omega⟩
   have hkL:k<L.length:=by rw[HL.out];omega
   have hqL:q<L.length:=by rw[HL.out];omega
   have hq:q=L.length - 1 - k:=by rw[HL.out];omega
   have hst:=Aai L k hkL
   rw[←hq]at hst
   obtain⟨t,ht⟩: ∃t,L.getD q false=t:=⟨_,rfl⟩
   have hqt:L[q]?=some t:=by rw[←ht,List.getD_eq_getElem?_getD,List.getElem?_eq_getElem hqL];rfl
   rw[ht]at hst
   obtain⟨ad,rfl,hadl,hc0⟩:=HS.out.at hqt
   have hc:wr.cell? (ad.add q)=some (.bool t):=(HBL.out.cell (by rw[add_block];exact hadl)).trans hc0
   have HST:=Lib.hid hst
   have HKZ:=Lib.hid hkz
   have b0:(0:Int)≤(q:Int):=by omega
   have b1:(q:Int)<(m:Int):=by omega
   have hm1:k+1≤maxLen:=by unfold maxLen;omega
   have hm3:(k+1)*1≤140737488355328:=by omega
   have wq:IntKind.i64.wrap ((q:Int) - 1)=(q:Int) - 1:=IntWalk.i64_in _ (by omega)
   have hsz:=HBL.out.size
   clear hst ht hqt hc0 hadl hq hqL hkL hkz hz hlt
   go_wp2_with (at_builtin;refine wpList_append_own _ rfl (.tmp 16) (.tmp 21) 61 rfl w1.heap.size 4 i0 (.bool false) 1 1 Tryz.underlying61 hi hz0 hz1 hz2 rfl (by decide) _ k (BL (L.reverse.take k)) rfl (HOW.out.alloc _) ⟨_,0,none⟩ 1 1 [.bool t] rfl rfl (Yv _ _) (Yw _) hm1 hm3 (by simp;omega) ?_)
   intro v8 w8 hown8 hg8 _
   have HO8:=Lib.hid (show w8.ownsRow w1.heap.size 4 1 v8 (k+1) (BL (L.reverse.take (k+1))) by
    rw[HST.out,Oh]
    exact hown8)
   have HB8:=Lib.hid ((HBL.out.alloc HBL.out.size _).grown hg8 (by simp;omega) (fun p hp=>Ak HOW.out hp))
   clear hown8 hg8 HOW HBL hc
   go_wp2
   go_roundw
   case rel=>exact⟨k+1,(q:Int) - 1,by have:=HKZ.out;omega,by omega,by first|rfl|go_num,HO8.out,HB8.out⟩
   case measure=>first|(simp[intOf];done)|(simp[intOf];omega)
  ·have e:k=m:=by omega
   have hb: ¬((0:Int)≤z):=hlt
   have hd:decide ((0:Int)≤z)=false:=decide_eq_false hlt
   have ht:L.reverse.take k=L.reverse:=by rw[List.take_of_length_le];rw[List.length_reverse,HL.out];omega
   rw[ht,e]at HOW
   clear ht e hkz
   obtain⟨A',c',hv,hvl,hvs⟩:=Iu HOW.out
   clear hvl
   subst hv
   go_wp2_with fail
   refine(Kb L.reverse m (by rw[List.length_reverse,HL.out]) (by omega) A' c' wr hvs).mono ?_
   rintro e w2 ⟨AP,cP,rfl,hs,hb2⟩
   rw[HPM.out]
   rw[HP.out]at hs
   have HS2:=Lib.hid hs
   have HB2:=Lib.hid (HB1.out.trans ((HBL.out.trans (hb2.mono HBL.out.size)).mono HB1.out.size))
   clear hs hb2 hvs
   go_wp2
   go_ret
   exact⟨_,_,rfl,HS2.out,HB2.out⟩
theorem Rr (b : List Nat) (n : Nat) (hn : n = b.length) (hn2 : n ≤ 1000) (E : Int) (hE : Du b = E) (p : List Nat) (hP : Hk b = p) (A : Option Addr) (c : Nat) (w : World) (hA : Bs w w.heap.size b A c) : Calls Tryz.prog 105 #[.slice A n c] w fun e w' => ∃ A' c', e = .returned (.tuple #[.slice A' (p.length : Nat) c', .int .i64 E]) ∧ Bs w' w'.heap.size p A' c' ∧ Below w.heap.size w w' := by
  obtain ⟨i0, hi, hz0, hz1, hz2⟩ := info_parts Gp
  obtain ⟨j0, hj, hy0, hy1, hy2⟩ := info_parts Be
  have HN := Lib.hid hn
  have HA := Lib.hid hA
  have HE := Lib.hid hE
  have HP := Lib.hid hP
  by_cases h0 : n < 2
  · have b0 : (n : Int) < 2 := by omega
    have HW := Lib.hid (Vf (b := b) (.inl (by omega)))
    clear hn hA hE hP
    go_enter Tryz.func105, Tryz.ntmps105
    have hw := HW.out
    have eE : E = 14 := HE.out.symm.trans hw.1
    have eP : p = [] := HP.out.symm.trans hw.2
    subst eE eP
    clear hw
    go_wp2
    go_ret2
    exact ⟨none, 0, rfl, Do _ _, Below.refl _ _⟩
  have b0 : ¬ ((n : Int) < 2) := by omega
  by_cases h50 : 50 < n
  · have b1 : (50 : Int) < (n : Int) := by omega
    have HW := Lib.hid (Vf (b := b) (.inr (by omega)))
    clear hn hA hE hP
    go_enter Tryz.func105, Tryz.ntmps105
    have hw := HW.out
    have eE : E = 14 := HE.out.symm.trans hw.1
    have eP : p = [] := HP.out.symm.trans hw.2
    subst eE eP
    clear hw
    go_wp2
    go_ret2
    exact ⟨none, 0, rfl, Do _ _, Below.refl _ _⟩
  have b1 : ¬ ((50 : Int) < (n : Int)) := by omega
  have HNL := Lib.hid (show ¬ (b.length < 2 ∨ 50 < b.length) by omega)
  obtain ⟨l, hl⟩ : ∃ l, Ag b = l := ⟨_, rfl⟩
  obtain ⟨m, hm⟩ : ∃ m, 8 * n = m := ⟨_, rfl⟩
  have HL := Lib.hid hl
  have HM := Lib.hid (show m = l.length by rw [← hl, Bz, ← hn, hm])
  have hm16 : 16 ≤ m := by omega
  have hm400 : m ≤ 400 := by omega
  have HM8 := Lib.hid hm
  clear hn hA hE hP hl hm
  go_enter Tryz.func105, Tryz.ntmps105
  go_wp2_with (go_at_call 159; refine (Ox b n HN.out hn2 A c _ HA.out).mono ?_; rintro e w3 ⟨A3, c3, rfl, hvs, hb3⟩; rw [HL.out] at hvs; rw [HM8.out])
  have HVS := Lib.hid hvs
  have HB3 := Lib.hid hb3
  have HA3 := Lib.hid (HA.out.next hb3)
  obtain ⟨a3, rfl, _, _⟩ := hvs.at (show l[0]? = some (l[0]'(by rw [← HM.out]; omega)) from List.getElem?_eq_getElem _)
  have hc3 := hvs.len
  have hc3' := hvs.cap
  clear hvs hb3
  by_cases h11 : ¬ chAt l 0 = 11
  · have HW := Lib.hid (vZ HNL.out (by rw [HL.out]; exact h11))
    obtain ⟨z, hz⟩ : ∃ z, chAt l 0 = z := ⟨_, rfl⟩
    have HZ := Lib.hid hz
    have z1 : ((z : Int) == 11) = false := by rw [beq_eq_false_iff_ne]; omega
    have z2 : ((z : Int) != 11) = true := by rw [bne_iff_ne]; omega
    have z3 : ¬ ((z : Int) = 11) := by omega
    clear hz
    go_wp2_with (go_at_call 160; refine (Dn l m HM.out (by omega) 0 (by omega) z HZ.out (some a3) c3 _ HVS.out).mono ?_; rintro e w4 ⟨rfl, hb4⟩)
    have hw := HW.out
    have eE : E = 4 := HE.out.symm.trans hw.1
    have eP : p = [] := HP.out.symm.trans hw.2
    subst eE eP
    clear hw
    go_wp2
    go_ret2
    exact ⟨none, 0, rfl, Do _ _, HB3.out.trans (hb4.mono HB3.out.size)⟩
  have h11 : chAt l 0 = 11 := by omega
  obtain ⟨X, hX⟩ : ∃ X, Dw l l.length 5 [] = X := ⟨_, rfl⟩
  have HG := Lib.hid (AaZ HNL.out (by rw [HL.out]; exact h11) (R := X) (by rw [HL.out]; exact hX))
  have HX := Lib.hid hX
  have H11 := Lib.hid h11
  clear hX h11
  go_wp2_with (go_at_call 160; refine (Dn l m HM.out (by omega) 0 (by omega) 11 H11.out (some a3) c3 _ HVS.out).mono ?_; rintro e w4 ⟨rfl, hb4⟩)
  have hs4 := hb4.size
  have hb4' : Below w3.heap.size w3 w4 := hb4
  go_loopw [5, 6, 7] (fun v o q wr => ∃ (i : Nat) (out : List Nat), q = .int .i64 (i : Int) ∧ i ≤ m ∧ wr.ownsRow w3.heap.size 5 1 o out.length (U8 out) ∧ Aw out = true ∧ Below w3.heap.size w3 wr ∧
      ((i = 5 * (out.length + 1) ∧ wr.ownsRow w3.heap.size 3 1 v (out.length + 1) (I64 (NZ (11 :: out))) ∧ ∃ f, l.length + 5 ≤ f + i ∧ Dw l f i out = X) ∨
       (i = 5 * (out.length + 2) ∧ wr.ownsRow w3.heap.size 3 1 v (out.length + 2) (I64 (NZ (putVals out))) ∧ X = .ok (out, i)))) (fun _ _ q _ => m + 10 - (intOf q).toNat)
  case atStart =>
    refine ⟨5, [], rfl, by omega, ?_, rfl, ?_, .inl ⟨rfl, ?_, l.length, by omega, HX.out⟩⟩
    · rw [show w4.heap.size + 1 = (w4.alloc (.cells #[.int .i64 11] 3)).heap.size from (World.size_alloc _ _).symm]
      exact World.ownsRow_lit (w4.alloc (.cells #[.int .i64 11] 3)) (size := 1) #[] 0 (Nat.le_trans hs4 (Aa w4 #[.int .i64 11] 3).size) (by decide) (by rfl)
    · exact hb4'.trans (((Aa w4 #[.int .i64 11] 3).trans ((Aa _ _ _).mono (Aa w4 #[.int .i64 11] 3).size)).mono hs4)
    · exact (World.ownsRow_lit w4 #[.int .i64 11] 1 hs4 (by decide) (by rfl)).alloc _
  case round =>
    obtain ⟨i, out, rfl, him, hob, hdg, hbel, hmode⟩ := hrel
    have HOB := Lib.hid hob
    have HDG := Lib.hid hdg
    have HBL := Lib.hid hbel
    have hszb := hbel.size
    have HV2 := Lib.hid ((HVS.out.below hbel).more hszb)
    clear hob hdg hbel
    rcases hmode with ⟨hi5, hov, f, hf, hsc⟩ | ⟨hi5, hov, hXo⟩
    · obtain ⟨v5, c5, hv5, hl5, hz5⟩ := Bo hov
      have HOV := Lib.hid hov
      have HSC := Lib.hid hsc
      have HF := Lib.hid hf
      obtain ⟨z, hz, hz15⟩ := Ad7 HDG.out
      obtain ⟨a5, rfl, ha5, hcz⟩ := hz5.at hz
      subst hv5
      have HZ5 := Lib.hid hz5
      have q0 : (((out.length + 1 : Nat) : Int) - 1) = ((out.length : Nat) : Int) := by omega
      obtain ⟨k, hk⟩ : ∃ k, out.length = k := ⟨_, rfl⟩
      rw [hk] at hl5 q0 hcz hi5 ⊢
      have q1 : ((k : Int) + 1 - 1) = (k : Int) := by omega
      have q2 : IntKind.i64.wrap (k : Int) = (k : Int) := IntWalk.i64_in _ (by omega)
      have q3 : ((z : Int) != 15) = true := by rw [bne_iff_ne]; omega
      have q4 : ((z : Int) == 15) = false := by rw [beq_eq_false_iff_ne]; omega
      have q5 : IntKind.i64.wrap ((i : Int) + 5) = (i : Int) + 5 := IntWalk.i64_in _ (by omega)
      have q6 : (0 : Int) ≤ (k : Int) := by omega
      have q7 : (k : Int) < (k : Int) + 1 := by omega
      have q8 : ((k + 1 : Nat) : Int) = (k : Int) + 1 := by omega
      have HK := Lib.hid hk
      have hk' := HK
      have HI := Lib.hid hi5
      have HL5 := Lib.hid hl5
      clear hk hl5 hi5 hz q0 hz5 hov hf hsc
      by_cases hend : m < i + 5
      · have r1 : (m : Int) < (i : Int) + 5 := by omega
        have HW := Lib.hid ((HG.out.1 5 (by rw [← HSC.out]; exact kO (by rw [← HM.out]; exact hend))))
        have hw := HW.out
        have eE : E = 5 := HE.out.symm.trans hw.1
        have eP : p = [] := HP.out.symm.trans hw.2
        subst eE eP
        clear hw
        go_wp2
        go_ret2
        exact ⟨none, 0, rfl, Do _ _, HB3.out.trans (HBL.out.mono HB3.out.size)⟩
      have hie : i + 5 ≤ m := by omega
      have r1 : ¬ ((m : Int) < (i : Int) + 5) := by omega
      have hch32 := Ld l i
      obtain ⟨ch, hch⟩ : ∃ ch, chAt l i = ch := ⟨_, rfl⟩
      rw [hch] at hch32
      have HCH := Lib.hid hch
      have HIE := Lib.hid (show i + 5 ≤ l.length by rw [← HM.out]; exact hie)
      clear hch hend
      by_cases hev : Bb ch % 2 = 0
      · have HVE := Lib.hid (Xe ch hch32 hev)
        have HW := Lib.hid ((HG.out.1 3 (by rw [← HSC.out]; exact kP HF.out HIE.out (by rw [HCH.out]; exact hev))))
        clear hev
        go_wp2_with (first | (go_at_call 160; refine (Dn l m HM.out (by omega) i (by omega) ch HCH.out (some a3) c3 _ HV2.out).mono ?_; rintro e w5 ⟨rfl, hb5⟩) | (go_at_call 161; refine (Cn (ch : Int) 0 3 HVE.out.1 HVE.out.2 _).mono ?_; rintro e w6 ⟨rfl, rfl⟩))
        have hw := HW.out
        have eE : E = 3 := HE.out.symm.trans hw.1
        have eP : p = [] := HP.out.symm.trans hw.2
        subst eE eP
        go_ret2
        exact ⟨none, 0, rfl, Do _ _, HB3.out.trans ((HBL.out.trans (hb5.mono HBL.out.size)).mono HB3.out.size)⟩
      have HVO := Lib.hid (fF ch hch32 hev)
      have HEV := Lib.hid (show ¬ Bb (chAt l i) % 2 = 0 by rw [HCH.out]; exact hev)
      obtain ⟨d, hd⟩ : ∃ d, ch % 16 = d := ⟨_, rfl⟩
      have hd16 : d < 16 := by omega
      rw [hd] at HVO
      have HD := Lib.hid (show chAt l i % 16 = d by rw [HCH.out]; exact hd)
      rw [hk'.out] at HOV
      clear hev hd hch32
      have hkb : k ≤ 400 := by have := HI.out; omega
      have hm1 : k + 1 + 1 ≤ maxLen := by unfold maxLen; omega
      have hm2 : (k + 1 + 1) * 8 ≤ 140737488355328 := by omega
      have wi5 : IntKind.i64.wrap ((i : Int) + 5) = (i : Int) + 5 := q5
      by_cases h9 : d ≤ 9
      · have s1 : ¬ ((9 : Int) < (d : Int)) := by omega
        have s2 : ((d : Int) != 15) = true := by rw [bne_iff_ne]; omega
        have s3 : ((d : Int) == 15) = false := by rw [beq_eq_false_iff_ne]; omega
        have hwa : IntKind.u8.wrap (d : Int) = (d : Int) := by simp [IntKind.wrap, IntKind.signed, IntKind.bits]; omega
        have hm3 : out.length + 1 ≤ maxLen := by rw [HK.out]; unfold maxLen; omega
        have hm4 : (out.length + 1) * 1 ≤ 140737488355328 := by rw [HK.out]; omega
        go_wp2_with (first | (go_at_call 160; refine (Dn l m HM.out (by omega) i (by omega) ch HCH.out (some a3) c3 _ HV2.out).mono ?_; rintro e w5 ⟨rfl, hb5⟩) | (go_at_call 161; refine (Cn (ch : Int) (d : Int) 0 HVO.out.1 HVO.out.2 _).mono ?_; rintro e w6 ⟨rfl, rfl⟩) | (at_builtin; refine wpList_append_own _ rfl (.tmp 57) (.tmp 59) 105 rfl w3.heap.size 3 i0 (.int .i64 0) 1 8 Tryz.underlying105 hi hz0 hz1 hz2 rfl (by decide) _ (k + 1) (I64 (NZ (11 :: out))) rfl ((Aj HOV.out hb5).alloc _) ⟨_, 0, none⟩ 1 1 (I64 [(d : Int)]) rfl rfl (Gq _ _) (Fw _) hm1 hm2 (by have := hb5.size; simp; omega) ?_))
        intro v8 w8 hown8 hg8 _
        have hsz5 := hb5.size
        have HBL5 := Lib.hid (HBL.out.trans (hb5.mono HBL.out.size))
        have HOV8 := Lib.hid (show w8.ownsRow w3.heap.size 3 1 v8 (k + 1 + 1) (I64 (NZ (11 :: (out ++ [d])))) by
          rw [fG, Ba]
          exact hown8)
        have HOB8 := Lib.hid (Jf hg8 ((Aj HOB.out hb5).alloc _) ((Aj HOV.out hb5).alloc _) (by decide))
        have HB8 := Lib.hid ((HBL5.out.alloc HBL5.out.size _).grown hg8 (by simp; omega) (fun p hp => Ak HOV.out hp))
        clear hown8 hg8 hb5 HV2 HBL HBL5 HOV HOB hcz
        have hsz8 := HB8.out.size
        go_wp2_with (at_builtin; refine wpList_append_own _ rfl (.tmp 63) (.tmp 66) 23 rfl w3.heap.size 5 j0 (.int .u8 0) 1 1 Tryz.underlying23 hj hy0 hy1 hy2 rfl (by decide) _ out.length (U8 out) rfl (HOB8.out.alloc _) ⟨_, 0, none⟩ 1 1 (U8 [d]) rfl rfl ?rd (Bd _) hm3 hm4 (by simp; omega) ?_)
        case rd =>
          intro q u hu
          first | exact hu | exact Abf _ d q u hu | (simpa [U8] using hu) | (simpa [U8, hwa] using hu)
        intro v9 w9 hown9 hg9 _
        have HOB9 := Lib.hid (show w9.ownsRow w3.heap.size 5 1 v9 (out ++ [d]).length (U8 (out ++ [d])) by
          rw [U8, List.map_append, List.length_append]
          exact hown9)
        have HOV9 := Lib.hid (Jf hg9 (HOV8.out.alloc _) (HOB8.out.alloc _) (by decide))
        have HB9 := Lib.hid ((HB8.out.alloc HB8.out.size _).grown hg9 (by simp; omega) (fun p hp => Ak HOB8.out hp))
        clear hown9 hg9 HOV8 HOB8 HB8
        go_wp2
        go_roundw
        case rel =>
          obtain ⟨g, hg1, hg2⟩ := bH (out := out) HF.out HIE.out HEV.out (by rw [HD.out]; omega)
          exact ⟨i + 5, out ++ [d], by go_num, hie, HOB9.out, Mo HDG.out h9, HB9.out, .inl ⟨by rw [List.length_append, HK.out, HI.out]; simp; omega, by rw [List.length_append, HK.out]; exact HOV9.out, g, hg1, by rw [← HSC.out, hg2, HD.out]⟩⟩
        case measure => simp [intOf]; omega
      · by_cases h15 : d = 15
        · have s1 : (9 : Int) < (d : Int) := by omega
          subst h15
          have hm5 : ((15 : Nat) : Int) = 15 := rfl
          rw [hm5] at HVO s1
          go_wp2_with (first | (go_at_call 160; refine (Dn l m HM.out (by omega) i (by omega) ch HCH.out (some a3) c3 _ HV2.out).mono ?_; rintro e w5 ⟨rfl, hb5⟩) | (go_at_call 161; refine (Cn (ch : Int) 15 0 HVO.out.1 HVO.out.2 _).mono ?_; rintro e w6 ⟨rfl, rfl⟩) | (at_builtin; refine wpList_append_own _ rfl (.tmp 57) (.tmp 59) 105 rfl w3.heap.size 3 i0 (.int .i64 0) 1 8 Tryz.underlying105 hi hz0 hz1 hz2 rfl (by decide) _ (k + 1) (I64 (NZ (11 :: out))) rfl ((Aj HOV.out hb5).alloc _) ⟨_, 0, none⟩ 1 1 (I64 [15]) rfl rfl (Gq _ _) (Fw _) hm1 hm2 (by have := hb5.size; simp; omega) ?_))
          intro v8 w8 hown8 hg8 _
          have hsz5 := hb5.size
          have HBL5 := Lib.hid (HBL.out.trans (hb5.mono HBL.out.size))
          have HOV8 := Lib.hid (show w8.ownsRow w3.heap.size 3 1 v8 (k + 1 + 1) (I64 (NZ (putVals out))) by
            rw [sO, Ba]
            exact hown8)
          have HOB8 := Lib.hid (Jf hg8 ((Aj HOB.out hb5).alloc _) ((Aj HOV.out hb5).alloc _) (by decide))
          have HB8 := Lib.hid ((HBL5.out.alloc HBL5.out.size _).grown hg8 (by simp; omega) (fun p hp => Ak HOV.out hp))
          clear hown8 hg8 hb5 HV2 HBL HBL5 HOV HOB hcz
          go_wp2
          go_roundw
          case rel => exact ⟨i + 5, out, by go_num, hie, HOB8.out, HDG.out, HB8.out, .inr ⟨by rw [HK.out, HI.out]; omega, by rw [HK.out]; exact HOV8.out, by rw [← HSC.out]; exact sP HF.out HIE.out HEV.out HD.out⟩⟩
          case measure => simp [intOf]; omega
        · have s1 : (9 : Int) < (d : Int) := by omega
          have s2 : ((d : Int) != 15) = true := by rw [bne_iff_ne]; omega
          have s3 : ((d : Int) == 15) = false := by rw [beq_eq_false_iff_ne]; omega
          have HW := Lib.hid ((HG.out.1 7 (by rw [← HSC.out]; exact kQ HF.out HIE.out HEV.out (by rw [HD.out]; omega) (by rw [HD.out]; exact h15))))
          have hw := HW.out
          have eE : E = 7 := HE.out.symm.trans hw.1
          have eP : p = [] := HP.out.symm.trans hw.2
          subst eE eP
          clear hw
          go_wp2_with (first | (go_at_call 160; refine (Dn l m HM.out (by omega) i (by omega) ch HCH.out (some a3) c3 _ HV2.out).mono ?_; rintro e w5 ⟨rfl, hb5⟩) | (go_at_call 161; refine (Cn (ch : Int) (d : Int) 0 HVO.out.1 HVO.out.2 _).mono ?_; rintro e w6 ⟨rfl, rfl⟩))
          go_ret2
          exact ⟨none, 0, rfl, Do _ _, HB3.out.trans ((HBL.out.trans (hb5.mono HBL.out.size)).mono HB3.out.size)⟩
    · obtain ⟨v5, c5, hv5, hl5, hz5⟩ := Bo hov
      obtain ⟨a5, rfl, ha5, hcz⟩ := hz5.at (Ad8 out)
      subst hv5
      obtain ⟨Ao, co, hvo, hbo⟩ := Av HOB.out (fun x hx => by have := (List.all_eq_true.1 HDG.out) x hx; simp at this; omega)
      subst hvo
      have HZ5 := Lib.hid hz5
      have HBO := Lib.hid hbo
      have HQ := Lib.hid (show Du b = exE (Ey b l out i) ∧ Hk b = exL (Ey b l out i) by have h := HG.out.2 out i hXo; rwa [HL.out] at h)
      obtain ⟨j, hj1⟩ : ∃ j, out.length + 1 = j := ⟨_, rfl⟩
      have hj2 : out.length + 2 = j + 1 := by omega
      rw [hj2] at hl5 ⊢
      rw [hj1] at hcz
      obtain ⟨k, hk⟩ : ∃ k, out.length = k := ⟨_, rfl⟩
      rw [hk] at hj1 hi5 ⊢
      have HK := Lib.hid hk
      have HL5 := Lib.hid hl5
      obtain ⟨t, ht⟩ : ∃ t, i + 5 = t := ⟨_, rfl⟩
      have HT := Lib.hid ht
      have hj400 : j ≤ 500 := by omega
      have hk400 : k ≤ 500 := by omega
      have ht500 : t ≤ 1000 := by omega
      have q2 : IntKind.i64.wrap (j : Int) = (j : Int) := IntWalk.i64_in _ (by omega)
      have q5 : IntKind.i64.wrap (t : Int) = (t : Int) := IntWalk.i64_in _ (by omega)
      have q4 : (i : Int) + 5 = (t : Int) := by omega
      have q6 : (0 : Int) ≤ (j : Int) := by omega
      have q7 : (j : Int) < (j : Int) + 1 := by omega
      have q9 : (0 : Int) ≤ (t : Int) := by omega
      clear hl5 hi5 hj1 hj2 hk hz5 hbo hov hXo HX ht ha5
      by_cases hend : m < t
      · have r1 : (m : Int) < (t : Int) := by omega
        have HW := Lib.hid (show Du b = _ ∧ Hk b = _ by have h := HQ.out; rw [Aba (by rw [← HM.out, HT.out]; exact hend)] at h; exact h)
        have hw := HW.out
        have eE : E = 5 := HE.out.symm.trans hw.1
        have eP : p = [] := HP.out.symm.trans hw.2
        subst eE eP
        clear hw
        go_wp2
        go_ret2
        exact ⟨none, 0, rfl, Do _ _, HB3.out.trans (HBL.out.mono HB3.out.size)⟩
      have r1 : ¬ ((m : Int) < (t : Int)) := by omega
      have hie : i + 5 ≤ m := by have := HT.out; omega
      have hch32 := Ld l i
      obtain ⟨ch, hch⟩ : ∃ ch, chAt l i = ch := ⟨_, rfl⟩
      rw [hch] at hch32
      have HCH := Lib.hid hch
      have HIE := Lib.hid (show i + 5 ≤ l.length by rw [← HM.out]; exact hie)
      clear hch hend
      by_cases hev : Bb ch % 2 = 0
      · have HVE := Lib.hid (Xe ch hch32 hev)
        have HW := Lib.hid (show Du b = _ ∧ Hk b = _ by have h := HQ.out; rw [Abb HIE.out (by rw [HCH.out]; exact hev)] at h; exact h)
        have hw := HW.out
        have eE : E = 3 := HE.out.symm.trans hw.1
        have eP : p = [] := HP.out.symm.trans hw.2
        subst eE eP
        clear hw
        go_wp2_with (first | (go_at_call 160; refine (Dn l m HM.out (by omega) i (by omega) ch HCH.out (some a3) c3 _ HV2.out).mono ?_; rintro e w5 ⟨rfl, hb5⟩) | (go_at_call 161; refine (Cn (ch : Int) 0 3 HVE.out.1 HVE.out.2 _).mono ?_; rintro e w6 ⟨rfl, rfl⟩))
        go_ret2
        exact ⟨none, 0, rfl, Do _ _, HB3.out.trans ((HBL.out.trans (hb5.mono HBL.out.size)).mono HB3.out.size)⟩
      have HVO := Lib.hid (fF ch hch32 hev)
      have HEV := Lib.hid (show ¬ Bb (chAt l i) % 2 = 0 by rw [HCH.out]; exact hev)
      obtain ⟨d, hd⟩ : ∃ d, ch % 16 = d := ⟨_, rfl⟩
      have hd16 : d < 16 := by omega
      rw [hd] at HVO
      have HD := Lib.hid (show chAt l i % 16 = d by rw [HCH.out]; exact hd)
      obtain ⟨x, hx⟩ : ∃ x, xorL (putVals out) = x := ⟨_, rfl⟩
      have hsm := fE (Uk HDG.out)
      rw [hx] at hsm
      have HSM := Lib.hid hsm
      have HXR := Lib.hid hx
      clear hev hd hch32 hx hsm
      by_cases hdx : ¬ d = x
      · have s1 : ((d : Int) != (x : Int)) = true := by rw [bne_iff_ne]; omega
        have s2 : ((d : Int) == (x : Int)) = false := by rw [beq_eq_false_iff_ne]; omega
        have HW := Lib.hid (show Du b = _ ∧ Hk b = _ by have h := HQ.out; rw [Abc HIE.out HEV.out (by rw [HD.out, HXR.out]; exact hdx)] at h; exact h)
        have hw := HW.out
        have eE : E = 6 := HE.out.symm.trans hw.1
        have eP : p = [] := HP.out.symm.trans hw.2
        subst eE eP
        clear hw
        go_wp2_with (first | (go_at_call 160; refine (Dn l m HM.out (by omega) i (by omega) ch HCH.out (some a3) c3 _ HV2.out).mono ?_; rintro e w5 ⟨rfl, hb5⟩) | (go_at_call 161; refine (Cn (ch : Int) (d : Int) 0 HVO.out.1 HVO.out.2 _).mono ?_; rintro e w6 ⟨rfl, rfl⟩) | (go_at_call 127; refine (Je _ (j + 1) HL5.out (some a5) c5 (x : Int) 0 HSM.out.1 HSM.out.2 _ (HZ5.out.next hb5)).mono ?_; rintro e w7 ⟨rfl, rfl⟩))
        go_ret2
        exact ⟨none, 0, rfl, Do _ _, HB3.out.trans ((HBL.out.trans (hb5.mono HBL.out.size)).mono HB3.out.size)⟩
      have hdx2 : d = x := by omega
      subst hdx2
      by_cases h77 : 77 < k
      · have s3 : (77 : Int) < (k : Int) := by omega
        have HW := Lib.hid (show Du b = _ ∧ Hk b = _ by have h := HQ.out; rw [Abd HIE.out HEV.out (by rw [HD.out, HXR.out]) (by rw [HK.out]; exact h77)] at h; exact h)
        have hw := HW.out
        have eE : E = 21 := HE.out.symm.trans hw.1
        have eP : p = [] := HP.out.symm.trans hw.2
        subst eE eP
        clear hw
        go_wp2_with (first | (go_at_call 160; refine (Dn l m HM.out (by omega) i (by omega) ch HCH.out (some a3) c3 _ HV2.out).mono ?_; rintro e w5 ⟨rfl, hb5⟩) | (go_at_call 161; refine (Cn (ch : Int) (d : Int) 0 HVO.out.1 HVO.out.2 _).mono ?_; rintro e w6 ⟨rfl, rfl⟩) | (go_at_call 127; refine (Je _ (j + 1) HL5.out (some a5) c5 (d : Int) 0 HSM.out.1 HSM.out.2 _ (HZ5.out.next hb5)).mono ?_; rintro e w7 ⟨rfl, rfl⟩))
        go_ret2
        exact ⟨none, 0, rfl, Do _ _, HB3.out.trans ((HBL.out.trans (hb5.mono HBL.out.size)).mono HB3.out.size)⟩
      have s3 : ¬ ((77 : Int) < (k : Int)) := by omega
      have s4 : (t : Int) ≤ (c3 : Int) := by have := HM.out; omega
      have hq8 : (t + 7) / 8 ≤ 1000 := by omega
      have HPT := Lib.hid (show t = (l.take t).length by rw [List.length_take, ← HM.out]; omega)
      have HPB := Lib.hid (show (t + 7) / 8 = (packL (l.take t)).length by rw [Hq, ← HPT.out])
      have HVT := Lib.hid (HV2.out.take t (by omega))
      obtain ⟨T, hT⟩ : ∃ T, packL (l.take t) = T := ⟨_, rfl⟩
      have HTT := Lib.hid hT
      rw [hT] at HPB
      clear hT
      by_cases hTb : T = b
      · have HW := Lib.hid (show Du b = _ ∧ Hk b = _ by have h := HQ.out; rw [Ad6 HIE.out HEV.out (by rw [HD.out, HXR.out]) (by rw [HK.out]; exact h77) (by rw [HT.out, HTT.out]; exact hTb)] at h; exact h)
        have hw := HW.out
        have eE : E = 0 := HE.out.symm.trans hw.1
        have eP : p = out := HP.out.symm.trans hw.2
        have eT : (T == b) = true := by rw [beq_iff_eq]; exact hTb
        subst eE eP
        clear hw hTb
        go_wp2_with (first | (go_at_call 160; refine (Dn l m HM.out (by omega) i (by omega) ch HCH.out (some a3) c3 _ HV2.out).mono ?_; rintro e w5 ⟨rfl, hb5⟩) | (go_at_call 161; refine (Cn (ch : Int) (d : Int) 0 HVO.out.1 HVO.out.2 _).mono ?_; rintro e w6 ⟨rfl, rfl⟩) | (go_at_call 127; refine (Je _ (j + 1) HL5.out (some a5) c5 (d : Int) 0 HSM.out.1 HSM.out.2 _ (HZ5.out.next hb5)).mono ?_; rintro e w7 ⟨rfl, rfl⟩) | (go_at_call 128; refine (Kb (l.take t) t HPT.out (by omega) (some a3) c3 _ (HVT.out.next hb5)).mono ?_; rintro e w8 ⟨A8, c8, rfl, hb8s, hb8⟩; rw [HTT.out] at hb8s) | (go_at_call 12; refine (Nm T b ((t + 7) / 8) n HPB.out HN.out A8 A c8 c _ _ hb8s.rd (HA.out.next ((HB3.out.trans ((HBL.out.trans (hb5.mono HBL.out.size)).mono HB3.out.size)).trans (hb8.mono ((HB3.out.trans ((HBL.out.trans (hb5.mono HBL.out.size)).mono HB3.out.size))).size))).rd (by omega) (by omega)).mono ?_; rintro e w9 ⟨rfl, hb9⟩))
        go_ret2
        refine ⟨Ao, co, by rw [HK.out]; rfl, ?_, (HB3.out.trans ((HBL.out.trans (hb5.mono HBL.out.size)).mono HB3.out.size)).trans ((hb8.trans (hb9.mono hb8.size)).mono ((HB3.out.trans ((HBL.out.trans (hb5.mono HBL.out.size)).mono HB3.out.size))).size)⟩
        exact ((HBO.out.next hb5).next hb8).next hb9
      · have HW := Lib.hid (show Du b = _ ∧ Hk b = _ by have h := HQ.out; rw [Abe HIE.out HEV.out (by rw [HD.out, HXR.out]) (by rw [HK.out]; exact h77) (by rw [HT.out, HTT.out]; exact hTb)] at h; exact h)
        have hw := HW.out
        have eE : E = 14 := HE.out.symm.trans hw.1
        have eP : p = [] := HP.out.symm.trans hw.2
        have eT : (T == b) = false := by rw [beq_eq_false_iff_ne]; exact hTb
        subst eE eP
        clear hw hTb
        go_wp2_with (first | (go_at_call 160; refine (Dn l m HM.out (by omega) i (by omega) ch HCH.out (some a3) c3 _ HV2.out).mono ?_; rintro e w5 ⟨rfl, hb5⟩) | (go_at_call 161; refine (Cn (ch : Int) (d : Int) 0 HVO.out.1 HVO.out.2 _).mono ?_; rintro e w6 ⟨rfl, rfl⟩) | (go_at_call 127; refine (Je _ (j + 1) HL5.out (some a5) c5 (d : Int) 0 HSM.out.1 HSM.out.2 _ (HZ5.out.next hb5)).mono ?_; rintro e w7 ⟨rfl, rfl⟩) | (go_at_call 128; refine (Kb (l.take t) t HPT.out (by omega) (some a3) c3 _ (HVT.out.next hb5)).mono ?_; rintro e w8 ⟨A8, c8, rfl, hb8s, hb8⟩; rw [HTT.out] at hb8s) | (go_at_call 12; refine (Nm T b ((t + 7) / 8) n HPB.out HN.out A8 A c8 c _ _ hb8s.rd (HA.out.next ((HB3.out.trans ((HBL.out.trans (hb5.mono HBL.out.size)).mono HB3.out.size)).trans (hb8.mono ((HB3.out.trans ((HBL.out.trans (hb5.mono HBL.out.size)).mono HB3.out.size))).size))).rd (by omega) (by omega)).mono ?_; rintro e w9 ⟨rfl, hb9⟩))
        go_ret2
        exact ⟨none, 0, rfl, Do _ _, (HB3.out.trans ((HBL.out.trans (hb5.mono HBL.out.size)).mono HB3.out.size)).trans ((hb8.trans (hb9.mono hb8.size)).mono ((HB3.out.trans ((HBL.out.trans (hb5.mono HBL.out.size)).mono HB3.out.size))).size)⟩
end Go.Proofs.YtmdbfogjfbbpjaaGreatDoor
