import Derived.Test.YtcnglbliidjnfaaGreatDoorRgBox
import Derived.Test.YtcnglbliidjnfaaGreatDoorTlvNum
import Derived.Test.YtcnglbliidjnfaaGreatDoorLineRefIs
import Derived.OwnWalk
namespace Go.Proofs.YtcnglbliidjnfaaGreatDoor
set_option linter.unusedVariables false
open Go.ChangeShapes Go.WideShapes Go.ChangeAt Go.RowKit
theorem zs_lit_at (w:World) (cs:Array Value) (l:List Int) (n H:Nat) (hH:w.heap.size=H) (h:cs.toList=I64 l) (hn:n=l.length) (h1:n≤1000):Zs (w.alloc (.cells cs 3)) (w.alloc (.cells cs 3)).heap.size l (some ⟨H,0,none⟩) n:=by
 subst hH
 exact zs_lit w cs l n h hn h1
theorem leastN_at {t:Nat} (h1:1≤t) (h2:t≤13):okN (t:Int)=true:=by rw[okN,decide_eq_true (by omega:(1:Int)≤t),decide_eq_true (by omega:(t:Int)≤13)];rfl
set_option maxRecDepth 100000 in
set_option maxHeartbeats 1600000 in
theorem refnums_1 (r:Rg) (hk:r.t.kind=4) (w:World):Calls Tryz.prog 75 #[.agg #[.int .i64 r.t.ser, .int .i64 r.t.kind, .int .i64 r.t.frm, .int .i64 r.t.till, .int .i64 r.t.cls, .int .i64 r.t.card, .int .i64 r.t.seat, .int .i64 r.t.day, .int .i64 r.t.days, .int .i64 r.t.uses, .int .i64 r.t.epoch, .int .i64 r.key, .int .i64 r.left, .int .i64 r.inn, .int .i64 r.ver]] w fun e w'=> ∃A,e= .returned (.slice A 13 13)∧Zs w' w'.heap.size (numL (cutU r)) A 13∧Below w.heap.size w w':=by
 have hc:numL (cutU r)=[r.ver,r.key,r.t.kind,r.t.ser,r.t.frm,r.t.till,r.t.cls,r.t.card,r.t.seat,r.t.day,r.t.days,r.t.uses,r.t.epoch]:=by rw[cutU,if_pos hk];rfl
 rw[hc]
 have q0:(r.t.kind==4)=true:=by rw[beq_iff_eq];exact hk
 clear hk hc
 go_enter Tryz.func75, Tryz.ntmps75
 go_wp2
 go_ret
 exact⟨_,rfl,zs_lit_at _ _ _ 13 _ (by simp) rfl rfl (by omega),(((Below.refl _ _).alloc (Nat.le_refl _) _).alloc (by simp) _).alloc (by simp;omega) _⟩
set_option maxRecDepth 100000 in
set_option maxHeartbeats 1600000 in
theorem refnums_0 (r:Rg) (hk:r.t.kind≠4) (w:World):Calls Tryz.prog 75 #[.agg #[.int .i64 r.t.ser, .int .i64 r.t.kind, .int .i64 r.t.frm, .int .i64 r.t.till, .int .i64 r.t.cls, .int .i64 r.t.card, .int .i64 r.t.seat, .int .i64 r.t.day, .int .i64 r.t.days, .int .i64 r.t.uses, .int .i64 r.t.epoch, .int .i64 r.key, .int .i64 r.left, .int .i64 r.inn, .int .i64 r.ver]] w fun e w'=> ∃A,e= .returned (.slice A 13 13)∧Zs w' w'.heap.size (numL (cutU r)) A 13∧Below w.heap.size w w':=by
 have hc:numL (cutU r)=[r.ver,r.key,r.t.kind,r.t.ser,r.t.frm,r.t.till,r.t.cls,r.t.card,r.t.seat,r.t.day,r.t.days,0,r.t.epoch]:=by rw[cutU,if_neg hk];rfl
 rw[hc]
 have q0:(r.t.kind==4)=false:=by rw[beq_eq_false_iff_ne];exact hk
 clear hk hc
 go_enter Tryz.func75, Tryz.ntmps75
 go_wp2
 go_ret
 exact⟨_,rfl,zs_lit_at _ _ _ 13 _ (by simp) rfl rfl (by omega),(((Below.refl _ _).alloc (Nat.le_refl _) _).alloc (by simp) _).alloc (by simp;omega) _⟩
theorem refnums_any (r:Rg) (w:World):Calls Tryz.prog 75 #[.agg #[.int .i64 r.t.ser, .int .i64 r.t.kind, .int .i64 r.t.frm, .int .i64 r.t.till, .int .i64 r.t.cls, .int .i64 r.t.card, .int .i64 r.t.seat, .int .i64 r.t.day, .int .i64 r.t.days, .int .i64 r.t.uses, .int .i64 r.t.epoch, .int .i64 r.key, .int .i64 r.left, .int .i64 r.inn, .int .i64 r.ver]] w fun e w'=> ∃A,e= .returned (.slice A 13 13)∧Zs w' w'.heap.size (numL (cutU r)) A 13∧Below w.heap.size w w':=by
 by_cases hk:r.t.kind=4
 ·exact refnums_1 r hk w
 ·exact refnums_0 r hk w
theorem fitX_snoc (v:Int) (ts:List Nat) (t:Nat):fitX v (ts++ [t])=(fitX v ts&&decide (leastN (t:Int)≤v)):=by simp[fitX]
theorem fitX_mem {v:Int} {ts:List Nat} {t:Nat} (h:t∈ts) (ht:v<leastN (t:Int)):fitX v ts=false:=by
 obtain⟨k,hk⟩:=List.mem_iff_getElem?.1 h
 exact fitX_at hk ht
set_option maxRecDepth 100000 in
set_option maxHeartbeats 1600000 in
theorem rfput_p1 (r:Rg) (E:Nat) (p:List Tf) (hE:fdPut r=(E,p)) (w:World) (h1:okT r.t=false):Calls Tryz.prog 30 #[.agg #[.int .i64 r.t.ser, .int .i64 r.t.kind, .int .i64 r.t.frm, .int .i64 r.t.till, .int .i64 r.t.cls, .int .i64 r.t.card, .int .i64 r.t.seat, .int .i64 r.t.day, .int .i64 r.t.days, .int .i64 r.t.uses, .int .i64 r.t.epoch, .int .i64 r.key, .int .i64 r.left, .int .i64 r.inn, .int .i64 r.ver]] w fun e w'=> ∃A c,e= .returned (.tuple #[.slice A (p.length:Nat) c, .int .i64 (E:Int)])∧Ts w' w'.heap.size p A c∧Below w.heap.size w w':=by
 obtain⟨rfl,rfl⟩:E=1∧p=[]:=by have:=hE;rw[fdPut_arg (by rw[argF,h1];rfl)]at this;exact⟨(Prod.mk.inj this).1.symm,(Prod.mk.inj this).2.symm⟩
 clear hE
 have H1:=Lib.hid h1
 clear h1
 obtain⟨w0,hw0⟩: ∃w0,w0=(w.alloc (.cells #[.int .i64 r.t.ser, .int .i64 r.t.kind, .int .i64 r.t.frm, .int .i64 r.t.till, .int .i64 r.t.cls, .int .i64 r.t.card, .int .i64 r.t.seat, .int .i64 r.t.day, .int .i64 r.t.days, .int .i64 r.t.uses, .int .i64 r.t.epoch, .int .i64 r.key, .int .i64 r.left, .int .i64 r.inn, .int .i64 r.ver] 28)).alloc (.cells #[.int .i64 0, .int .i64 0] 26):=⟨_,rfl⟩
 have HX:Hid (RBox w0 w.heap.size r):=Lib.hid (by rw[hw0];exact(RBox.new w r).alloc _)
 have HJ:Hid (JBox w0 (w.heap.size+1) 0 0):=Lib.hid (by rw[hw0,show w.heap.size+1=(w.alloc (.cells #[.int .i64 r.t.ser, .int .i64 r.t.kind, .int .i64 r.t.frm, .int .i64 r.t.till, .int .i64 r.t.cls, .int .i64 r.t.card, .int .i64 r.t.seat, .int .i64 r.t.day, .int .i64 r.t.days, .int .i64 r.t.uses, .int .i64 r.t.epoch, .int .i64 r.key, .int .i64 r.left, .int .i64 r.inn, .int .i64 r.ver] 28)).heap.size by simp];exact JBox.new _ 0 0)
 have HBL:Hid (Below w.heap.size w w0):=Lib.hid (by rw[hw0];exact((Below.refl _ _).alloc (Nat.le_refl _) _).alloc (by simp) _)
 have HW:=Lib.hid hw0
 clear hw0
 go_enter Tryz.func30, Tryz.ntmps30
 go_wp2_with fail
 rw[←HW.out]
 obtain⟨e0,e1,e2,e3,e4,e5,e6,e7,e8,e9,e10,e11,e12,e13,e14⟩:=HX.out.cells
 go_wp2_with (first|(go_at_call 74;refine(refis9_any r.t _ H1.out _).mono ?_;rintro e w1 ⟨rfl,hb⟩;clear e0 e1 e2 e3 e4 e5 e6 e7 e8 e9 e10 e11 e12 e13 e14;have HX1:=Lib.hid (HX.out.next hb);have HBL1:=Lib.hid (HBL.out.trans (hb.mono HBL.out.size));have HJ1:=Lib.hid (HJ.out.next hb);clear hb;obtain⟨c0,c1,c2,c3,c4,c5,c6,c7,c8,c9,c10,c11,c12,c13,c14⟩:=HX1.out.cells;obtain⟨j0,j1⟩:=HJ1.out.cells))
 go_ret2
 exact⟨none,0,rfl,Ts.empty _ _,HBL1.out⟩
set_option maxRecDepth 100000 in
set_option maxHeartbeats 1600000 in
theorem rfput_p2 (r:Rg) (E:Nat) (p:List Tf) (hE:fdPut r=(E,p)) (w:World) (h1:okT r.t=true) (h2:r.key<0):Calls Tryz.prog 30 #[.agg #[.int .i64 r.t.ser, .int .i64 r.t.kind, .int .i64 r.t.frm, .int .i64 r.t.till, .int .i64 r.t.cls, .int .i64 r.t.card, .int .i64 r.t.seat, .int .i64 r.t.day, .int .i64 r.t.days, .int .i64 r.t.uses, .int .i64 r.t.epoch, .int .i64 r.key, .int .i64 r.left, .int .i64 r.inn, .int .i64 r.ver]] w fun e w'=> ∃A c,e= .returned (.tuple #[.slice A (p.length:Nat) c, .int .i64 (E:Int)])∧Ts w' w'.heap.size p A c∧Below w.heap.size w w':=by
 obtain⟨rfl,rfl⟩:E=1∧p=[]:=by have:=hE;rw[fdPut_arg (by cases h:argF r with|false=>rfl|true=>(have:=(argF_iff r).1 h;omega))]at this;exact⟨(Prod.mk.inj this).1.symm,(Prod.mk.inj this).2.symm⟩
 clear hE
 have H1:=Lib.hid h1
 have q1:decide (r.key<0)=true:=decide_eq_true (by omega)
 clear h1 h2
 obtain⟨w0,hw0⟩: ∃w0,w0=(w.alloc (.cells #[.int .i64 r.t.ser, .int .i64 r.t.kind, .int .i64 r.t.frm, .int .i64 r.t.till, .int .i64 r.t.cls, .int .i64 r.t.card, .int .i64 r.t.seat, .int .i64 r.t.day, .int .i64 r.t.days, .int .i64 r.t.uses, .int .i64 r.t.epoch, .int .i64 r.key, .int .i64 r.left, .int .i64 r.inn, .int .i64 r.ver] 28)).alloc (.cells #[.int .i64 0, .int .i64 0] 26):=⟨_,rfl⟩
 have HX:Hid (RBox w0 w.heap.size r):=Lib.hid (by rw[hw0];exact(RBox.new w r).alloc _)
 have HJ:Hid (JBox w0 (w.heap.size+1) 0 0):=Lib.hid (by rw[hw0,show w.heap.size+1=(w.alloc (.cells #[.int .i64 r.t.ser, .int .i64 r.t.kind, .int .i64 r.t.frm, .int .i64 r.t.till, .int .i64 r.t.cls, .int .i64 r.t.card, .int .i64 r.t.seat, .int .i64 r.t.day, .int .i64 r.t.days, .int .i64 r.t.uses, .int .i64 r.t.epoch, .int .i64 r.key, .int .i64 r.left, .int .i64 r.inn, .int .i64 r.ver] 28)).heap.size by simp];exact JBox.new _ 0 0)
 have HBL:Hid (Below w.heap.size w w0):=Lib.hid (by rw[hw0];exact((Below.refl _ _).alloc (Nat.le_refl _) _).alloc (by simp) _)
 have HW:=Lib.hid hw0
 clear hw0
 go_enter Tryz.func30, Tryz.ntmps30
 go_wp2_with fail
 rw[←HW.out]
 obtain⟨e0,e1,e2,e3,e4,e5,e6,e7,e8,e9,e10,e11,e12,e13,e14⟩:=HX.out.cells
 go_wp2_with (first|(go_at_call 74;refine(refis9_any r.t _ H1.out _).mono ?_;rintro e w1 ⟨rfl,hb⟩;clear e0 e1 e2 e3 e4 e5 e6 e7 e8 e9 e10 e11 e12 e13 e14;have HX1:=Lib.hid (HX.out.next hb);have HBL1:=Lib.hid (HBL.out.trans (hb.mono HBL.out.size));have HJ1:=Lib.hid (HJ.out.next hb);clear hb;obtain⟨c0,c1,c2,c3,c4,c5,c6,c7,c8,c9,c10,c11,c12,c13,c14⟩:=HX1.out.cells;obtain⟨j0,j1⟩:=HJ1.out.cells))
 go_ret2
 exact⟨none,0,rfl,Ts.empty _ _,HBL1.out⟩
set_option maxRecDepth 100000 in
set_option maxHeartbeats 1600000 in
theorem rfput_p2b (r:Rg) (E:Nat) (p:List Tf) (hE:fdPut r=(E,p)) (w:World) (h1:okT r.t=true) (h2:99<r.key):Calls Tryz.prog 30 #[.agg #[.int .i64 r.t.ser, .int .i64 r.t.kind, .int .i64 r.t.frm, .int .i64 r.t.till, .int .i64 r.t.cls, .int .i64 r.t.card, .int .i64 r.t.seat, .int .i64 r.t.day, .int .i64 r.t.days, .int .i64 r.t.uses, .int .i64 r.t.epoch, .int .i64 r.key, .int .i64 r.left, .int .i64 r.inn, .int .i64 r.ver]] w fun e w'=> ∃A c,e= .returned (.tuple #[.slice A (p.length:Nat) c, .int .i64 (E:Int)])∧Ts w' w'.heap.size p A c∧Below w.heap.size w w':=by
 obtain⟨rfl,rfl⟩:E=1∧p=[]:=by have:=hE;rw[fdPut_arg (by cases h:argF r with|false=>rfl|true=>(have:=(argF_iff r).1 h;omega))]at this;exact⟨(Prod.mk.inj this).1.symm,(Prod.mk.inj this).2.symm⟩
 clear hE
 have H1:=Lib.hid h1
 have q1:decide (r.key<0)=false:=decide_eq_false (by omega)
 have q2:decide (99<r.key)=true:=decide_eq_true (by omega)
 clear h1 h2
 obtain⟨w0,hw0⟩: ∃w0,w0=(w.alloc (.cells #[.int .i64 r.t.ser, .int .i64 r.t.kind, .int .i64 r.t.frm, .int .i64 r.t.till, .int .i64 r.t.cls, .int .i64 r.t.card, .int .i64 r.t.seat, .int .i64 r.t.day, .int .i64 r.t.days, .int .i64 r.t.uses, .int .i64 r.t.epoch, .int .i64 r.key, .int .i64 r.left, .int .i64 r.inn, .int .i64 r.ver] 28)).alloc (.cells #[.int .i64 0, .int .i64 0] 26):=⟨_,rfl⟩
 have HX:Hid (RBox w0 w.heap.size r):=Lib.hid (by rw[hw0];exact(RBox.new w r).alloc _)
 have HJ:Hid (JBox w0 (w.heap.size+1) 0 0):=Lib.hid (by rw[hw0,show w.heap.size+1=(w.alloc (.cells #[.int .i64 r.t.ser, .int .i64 r.t.kind, .int .i64 r.t.frm, .int .i64 r.t.till, .int .i64 r.t.cls, .int .i64 r.t.card, .int .i64 r.t.seat, .int .i64 r.t.day, .int .i64 r.t.days, .int .i64 r.t.uses, .int .i64 r.t.epoch, .int .i64 r.key, .int .i64 r.left, .int .i64 r.inn, .int .i64 r.ver] 28)).heap.size by simp];exact JBox.new _ 0 0)
 have HBL:Hid (Below w.heap.size w w0):=Lib.hid (by rw[hw0];exact((Below.refl _ _).alloc (Nat.le_refl _) _).alloc (by simp) _)
 have HW:=Lib.hid hw0
 clear hw0
 go_enter Tryz.func30, Tryz.ntmps30
 go_wp2_with fail
 rw[←HW.out]
 obtain⟨e0,e1,e2,e3,e4,e5,e6,e7,e8,e9,e10,e11,e12,e13,e14⟩:=HX.out.cells
 go_wp2_with (first|(go_at_call 74;refine(refis9_any r.t _ H1.out _).mono ?_;rintro e w1 ⟨rfl,hb⟩;clear e0 e1 e2 e3 e4 e5 e6 e7 e8 e9 e10 e11 e12 e13 e14;have HX1:=Lib.hid (HX.out.next hb);have HBL1:=Lib.hid (HBL.out.trans (hb.mono HBL.out.size));have HJ1:=Lib.hid (HJ.out.next hb);clear hb;obtain⟨c0,c1,c2,c3,c4,c5,c6,c7,c8,c9,c10,c11,c12,c13,c14⟩:=HX1.out.cells;obtain⟨j0,j1⟩:=HJ1.out.cells))
 go_ret2
 exact⟨none,0,rfl,Ts.empty _ _,HBL1.out⟩
set_option maxRecDepth 100000 in
set_option maxHeartbeats 1600000 in
theorem rfput_p3a (r:Rg) (E:Nat) (p:List Tf) (hE:fdPut r=(E,p)) (w:World) (h1:okT r.t=true) (h2:0≤r.key∧r.key≤99) (h3:r.left≠0):Calls Tryz.prog 30 #[.agg #[.int .i64 r.t.ser, .int .i64 r.t.kind, .int .i64 r.t.frm, .int .i64 r.t.till, .int .i64 r.t.cls, .int .i64 r.t.card, .int .i64 r.t.seat, .int .i64 r.t.day, .int .i64 r.t.days, .int .i64 r.t.uses, .int .i64 r.t.epoch, .int .i64 r.key, .int .i64 r.left, .int .i64 r.inn, .int .i64 r.ver]] w fun e w'=> ∃A c,e= .returned (.tuple #[.slice A (p.length:Nat) c, .int .i64 (E:Int)])∧Ts w' w'.heap.size p A c∧Below w.heap.size w w':=by
 obtain⟨rfl,rfl⟩:E=1∧p=[]:=by have:=hE;rw[fdPut_arg (by cases h:argF r with|false=>rfl|true=>(have:=(argF_iff r).1 h;omega))]at this;exact⟨(Prod.mk.inj this).1.symm,(Prod.mk.inj this).2.symm⟩
 clear hE
 have H1:=Lib.hid h1
 have q1:decide (r.key<0)=false:=decide_eq_false (by omega)
 have q2:decide (99<r.key)=false:=decide_eq_false (by omega)
 have q3:(r.left==0)=false:=by rw[beq_eq_false_iff_ne];exact h3
 clear h1 h2 h3
 obtain⟨w0,hw0⟩: ∃w0,w0=(w.alloc (.cells #[.int .i64 r.t.ser, .int .i64 r.t.kind, .int .i64 r.t.frm, .int .i64 r.t.till, .int .i64 r.t.cls, .int .i64 r.t.card, .int .i64 r.t.seat, .int .i64 r.t.day, .int .i64 r.t.days, .int .i64 r.t.uses, .int .i64 r.t.epoch, .int .i64 r.key, .int .i64 r.left, .int .i64 r.inn, .int .i64 r.ver] 28)).alloc (.cells #[.int .i64 0, .int .i64 0] 26):=⟨_,rfl⟩
 have HX:Hid (RBox w0 w.heap.size r):=Lib.hid (by rw[hw0];exact(RBox.new w r).alloc _)
 have HJ:Hid (JBox w0 (w.heap.size+1) 0 0):=Lib.hid (by rw[hw0,show w.heap.size+1=(w.alloc (.cells #[.int .i64 r.t.ser, .int .i64 r.t.kind, .int .i64 r.t.frm, .int .i64 r.t.till, .int .i64 r.t.cls, .int .i64 r.t.card, .int .i64 r.t.seat, .int .i64 r.t.day, .int .i64 r.t.days, .int .i64 r.t.uses, .int .i64 r.t.epoch, .int .i64 r.key, .int .i64 r.left, .int .i64 r.inn, .int .i64 r.ver] 28)).heap.size by simp];exact JBox.new _ 0 0)
 have HBL:Hid (Below w.heap.size w w0):=Lib.hid (by rw[hw0];exact((Below.refl _ _).alloc (Nat.le_refl _) _).alloc (by simp) _)
 have HW:=Lib.hid hw0
 clear hw0
 go_enter Tryz.func30, Tryz.ntmps30
 go_wp2_with fail
 rw[←HW.out]
 obtain⟨e0,e1,e2,e3,e4,e5,e6,e7,e8,e9,e10,e11,e12,e13,e14⟩:=HX.out.cells
 go_wp2_with (first|(go_at_call 74;refine(refis9_any r.t _ H1.out _).mono ?_;rintro e w1 ⟨rfl,hb⟩;clear e0 e1 e2 e3 e4 e5 e6 e7 e8 e9 e10 e11 e12 e13 e14;have HX1:=Lib.hid (HX.out.next hb);have HBL1:=Lib.hid (HBL.out.trans (hb.mono HBL.out.size));have HJ1:=Lib.hid (HJ.out.next hb);clear hb;obtain⟨c0,c1,c2,c3,c4,c5,c6,c7,c8,c9,c10,c11,c12,c13,c14⟩:=HX1.out.cells;obtain⟨j0,j1⟩:=HJ1.out.cells))
 go_ret2
 exact⟨none,0,rfl,Ts.empty _ _,HBL1.out⟩
set_option maxRecDepth 100000 in
set_option maxHeartbeats 1600000 in
theorem rfput_p3b (r:Rg) (E:Nat) (p:List Tf) (hE:fdPut r=(E,p)) (w:World) (h1:okT r.t=true) (h2:0≤r.key∧r.key≤99) (h3:r.left=0) (h4:r.inn≠0):Calls Tryz.prog 30 #[.agg #[.int .i64 r.t.ser, .int .i64 r.t.kind, .int .i64 r.t.frm, .int .i64 r.t.till, .int .i64 r.t.cls, .int .i64 r.t.card, .int .i64 r.t.seat, .int .i64 r.t.day, .int .i64 r.t.days, .int .i64 r.t.uses, .int .i64 r.t.epoch, .int .i64 r.key, .int .i64 r.left, .int .i64 r.inn, .int .i64 r.ver]] w fun e w'=> ∃A c,e= .returned (.tuple #[.slice A (p.length:Nat) c, .int .i64 (E:Int)])∧Ts w' w'.heap.size p A c∧Below w.heap.size w w':=by
 obtain⟨rfl,rfl⟩:E=1∧p=[]:=by have:=hE;rw[fdPut_arg (by cases h:argF r with|false=>rfl|true=>(have:=(argF_iff r).1 h;omega))]at this;exact⟨(Prod.mk.inj this).1.symm,(Prod.mk.inj this).2.symm⟩
 clear hE
 have H1:=Lib.hid h1
 have q1:decide (r.key<0)=false:=decide_eq_false (by omega)
 have q2:decide (99<r.key)=false:=decide_eq_false (by omega)
 have q3:(r.left==0)=true:=by rw[beq_iff_eq];exact h3
 have q4:(r.inn==0)=false:=by rw[beq_eq_false_iff_ne];exact h4
 clear h1 h2 h3 h4
 obtain⟨w0,hw0⟩: ∃w0,w0=(w.alloc (.cells #[.int .i64 r.t.ser, .int .i64 r.t.kind, .int .i64 r.t.frm, .int .i64 r.t.till, .int .i64 r.t.cls, .int .i64 r.t.card, .int .i64 r.t.seat, .int .i64 r.t.day, .int .i64 r.t.days, .int .i64 r.t.uses, .int .i64 r.t.epoch, .int .i64 r.key, .int .i64 r.left, .int .i64 r.inn, .int .i64 r.ver] 28)).alloc (.cells #[.int .i64 0, .int .i64 0] 26):=⟨_,rfl⟩
 have HX:Hid (RBox w0 w.heap.size r):=Lib.hid (by rw[hw0];exact(RBox.new w r).alloc _)
 have HJ:Hid (JBox w0 (w.heap.size+1) 0 0):=Lib.hid (by rw[hw0,show w.heap.size+1=(w.alloc (.cells #[.int .i64 r.t.ser, .int .i64 r.t.kind, .int .i64 r.t.frm, .int .i64 r.t.till, .int .i64 r.t.cls, .int .i64 r.t.card, .int .i64 r.t.seat, .int .i64 r.t.day, .int .i64 r.t.days, .int .i64 r.t.uses, .int .i64 r.t.epoch, .int .i64 r.key, .int .i64 r.left, .int .i64 r.inn, .int .i64 r.ver] 28)).heap.size by simp];exact JBox.new _ 0 0)
 have HBL:Hid (Below w.heap.size w w0):=Lib.hid (by rw[hw0];exact((Below.refl _ _).alloc (Nat.le_refl _) _).alloc (by simp) _)
 have HW:=Lib.hid hw0
 clear hw0
 go_enter Tryz.func30, Tryz.ntmps30
 go_wp2_with fail
 rw[←HW.out]
 obtain⟨e0,e1,e2,e3,e4,e5,e6,e7,e8,e9,e10,e11,e12,e13,e14⟩:=HX.out.cells
 go_wp2_with (first|(go_at_call 74;refine(refis9_any r.t _ H1.out _).mono ?_;rintro e w1 ⟨rfl,hb⟩;clear e0 e1 e2 e3 e4 e5 e6 e7 e8 e9 e10 e11 e12 e13 e14;have HX1:=Lib.hid (HX.out.next hb);have HBL1:=Lib.hid (HBL.out.trans (hb.mono HBL.out.size));have HJ1:=Lib.hid (HJ.out.next hb);clear hb;obtain⟨c0,c1,c2,c3,c4,c5,c6,c7,c8,c9,c10,c11,c12,c13,c14⟩:=HX1.out.cells;obtain⟨j0,j1⟩:=HJ1.out.cells))
 go_ret2
 exact⟨none,0,rfl,Ts.empty _ _,HBL1.out⟩
set_option maxRecDepth 100000 in
set_option maxHeartbeats 1600000 in
theorem rfput_p4a (r:Rg) (E:Nat) (p:List Tf) (hE:fdPut r=(E,p)) (w:World) (h1:okT r.t=true) (h2:0≤r.key∧r.key≤99) (h3:r.left=0) (h4:r.inn=0) (h5:r.ver<1):Calls Tryz.prog 30 #[.agg #[.int .i64 r.t.ser, .int .i64 r.t.kind, .int .i64 r.t.frm, .int .i64 r.t.till, .int .i64 r.t.cls, .int .i64 r.t.card, .int .i64 r.t.seat, .int .i64 r.t.day, .int .i64 r.t.days, .int .i64 r.t.uses, .int .i64 r.t.epoch, .int .i64 r.key, .int .i64 r.left, .int .i64 r.inn, .int .i64 r.ver]] w fun e w'=> ∃A c,e= .returned (.tuple #[.slice A (p.length:Nat) c, .int .i64 (E:Int)])∧Ts w' w'.heap.size p A c∧Below w.heap.size w w':=by
 obtain⟨rfl,rfl⟩:E=1∧p=[]:=by have:=hE;rw[fdPut_arg (by cases h:argF r with|false=>rfl|true=>(have:=(argF_iff r).1 h;omega))]at this;exact⟨(Prod.mk.inj this).1.symm,(Prod.mk.inj this).2.symm⟩
 clear hE
 have H1:=Lib.hid h1
 have q1:decide (r.key<0)=false:=decide_eq_false (by omega)
 have q2:decide (99<r.key)=false:=decide_eq_false (by omega)
 have q3:(r.left==0)=true:=by rw[beq_iff_eq];exact h3
 have q4:(r.inn==0)=true:=by rw[beq_iff_eq];exact h4
 have q5:decide (r.ver<1)=true:=decide_eq_true (by omega)
 clear h1 h2 h3 h4 h5
 obtain⟨w0,hw0⟩: ∃w0,w0=(w.alloc (.cells #[.int .i64 r.t.ser, .int .i64 r.t.kind, .int .i64 r.t.frm, .int .i64 r.t.till, .int .i64 r.t.cls, .int .i64 r.t.card, .int .i64 r.t.seat, .int .i64 r.t.day, .int .i64 r.t.days, .int .i64 r.t.uses, .int .i64 r.t.epoch, .int .i64 r.key, .int .i64 r.left, .int .i64 r.inn, .int .i64 r.ver] 28)).alloc (.cells #[.int .i64 0, .int .i64 0] 26):=⟨_,rfl⟩
 have HX:Hid (RBox w0 w.heap.size r):=Lib.hid (by rw[hw0];exact(RBox.new w r).alloc _)
 have HJ:Hid (JBox w0 (w.heap.size+1) 0 0):=Lib.hid (by rw[hw0,show w.heap.size+1=(w.alloc (.cells #[.int .i64 r.t.ser, .int .i64 r.t.kind, .int .i64 r.t.frm, .int .i64 r.t.till, .int .i64 r.t.cls, .int .i64 r.t.card, .int .i64 r.t.seat, .int .i64 r.t.day, .int .i64 r.t.days, .int .i64 r.t.uses, .int .i64 r.t.epoch, .int .i64 r.key, .int .i64 r.left, .int .i64 r.inn, .int .i64 r.ver] 28)).heap.size by simp];exact JBox.new _ 0 0)
 have HBL:Hid (Below w.heap.size w w0):=Lib.hid (by rw[hw0];exact((Below.refl _ _).alloc (Nat.le_refl _) _).alloc (by simp) _)
 have HW:=Lib.hid hw0
 clear hw0
 go_enter Tryz.func30, Tryz.ntmps30
 go_wp2_with fail
 rw[←HW.out]
 obtain⟨e0,e1,e2,e3,e4,e5,e6,e7,e8,e9,e10,e11,e12,e13,e14⟩:=HX.out.cells
 go_wp2_with (first|(go_at_call 74;refine(refis9_any r.t _ H1.out _).mono ?_;rintro e w1 ⟨rfl,hb⟩;clear e0 e1 e2 e3 e4 e5 e6 e7 e8 e9 e10 e11 e12 e13 e14;have HX1:=Lib.hid (HX.out.next hb);have HBL1:=Lib.hid (HBL.out.trans (hb.mono HBL.out.size));have HJ1:=Lib.hid (HJ.out.next hb);clear hb;obtain⟨c0,c1,c2,c3,c4,c5,c6,c7,c8,c9,c10,c11,c12,c13,c14⟩:=HX1.out.cells;obtain⟨j0,j1⟩:=HJ1.out.cells))
 go_ret2
 exact⟨none,0,rfl,Ts.empty _ _,HBL1.out⟩
set_option maxRecDepth 100000 in
set_option maxHeartbeats 1600000 in
theorem rfput_p4b (r:Rg) (E:Nat) (p:List Tf) (hE:fdPut r=(E,p)) (w:World) (h1:okT r.t=true) (h2:0≤r.key∧r.key≤99) (h3:r.left=0) (h4:r.inn=0) (h5:3<r.ver):Calls Tryz.prog 30 #[.agg #[.int .i64 r.t.ser, .int .i64 r.t.kind, .int .i64 r.t.frm, .int .i64 r.t.till, .int .i64 r.t.cls, .int .i64 r.t.card, .int .i64 r.t.seat, .int .i64 r.t.day, .int .i64 r.t.days, .int .i64 r.t.uses, .int .i64 r.t.epoch, .int .i64 r.key, .int .i64 r.left, .int .i64 r.inn, .int .i64 r.ver]] w fun e w'=> ∃A c,e= .returned (.tuple #[.slice A (p.length:Nat) c, .int .i64 (E:Int)])∧Ts w' w'.heap.size p A c∧Below w.heap.size w w':=by
 obtain⟨rfl,rfl⟩:E=1∧p=[]:=by have:=hE;rw[fdPut_arg (by cases h:argF r with|false=>rfl|true=>(have:=(argF_iff r).1 h;omega))]at this;exact⟨(Prod.mk.inj this).1.symm,(Prod.mk.inj this).2.symm⟩
 clear hE
 have H1:=Lib.hid h1
 have q1:decide (r.key<0)=false:=decide_eq_false (by omega)
 have q2:decide (99<r.key)=false:=decide_eq_false (by omega)
 have q3:(r.left==0)=true:=by rw[beq_iff_eq];exact h3
 have q4:(r.inn==0)=true:=by rw[beq_iff_eq];exact h4
 have q5:decide (r.ver<1)=false:=decide_eq_false (by omega)
 have q6:decide (3<r.ver)=true:=decide_eq_true (by omega)
 clear h1 h2 h3 h4 h5
 obtain⟨w0,hw0⟩: ∃w0,w0=(w.alloc (.cells #[.int .i64 r.t.ser, .int .i64 r.t.kind, .int .i64 r.t.frm, .int .i64 r.t.till, .int .i64 r.t.cls, .int .i64 r.t.card, .int .i64 r.t.seat, .int .i64 r.t.day, .int .i64 r.t.days, .int .i64 r.t.uses, .int .i64 r.t.epoch, .int .i64 r.key, .int .i64 r.left, .int .i64 r.inn, .int .i64 r.ver] 28)).alloc (.cells #[.int .i64 0, .int .i64 0] 26):=⟨_,rfl⟩
 have HX:Hid (RBox w0 w.heap.size r):=Lib.hid (by rw[hw0];exact(RBox.new w r).alloc _)
 have HJ:Hid (JBox w0 (w.heap.size+1) 0 0):=Lib.hid (by rw[hw0,show w.heap.size+1=(w.alloc (.cells #[.int .i64 r.t.ser, .int .i64 r.t.kind, .int .i64 r.t.frm, .int .i64 r.t.till, .int .i64 r.t.cls, .int .i64 r.t.card, .int .i64 r.t.seat, .int .i64 r.t.day, .int .i64 r.t.days, .int .i64 r.t.uses, .int .i64 r.t.epoch, .int .i64 r.key, .int .i64 r.left, .int .i64 r.inn, .int .i64 r.ver] 28)).heap.size by simp];exact JBox.new _ 0 0)
 have HBL:Hid (Below w.heap.size w w0):=Lib.hid (by rw[hw0];exact((Below.refl _ _).alloc (Nat.le_refl _) _).alloc (by simp) _)
 have HW:=Lib.hid hw0
 clear hw0
 go_enter Tryz.func30, Tryz.ntmps30
 go_wp2_with fail
 rw[←HW.out]
 obtain⟨e0,e1,e2,e3,e4,e5,e6,e7,e8,e9,e10,e11,e12,e13,e14⟩:=HX.out.cells
 go_wp2_with (first|(go_at_call 74;refine(refis9_any r.t _ H1.out _).mono ?_;rintro e w1 ⟨rfl,hb⟩;clear e0 e1 e2 e3 e4 e5 e6 e7 e8 e9 e10 e11 e12 e13 e14;have HX1:=Lib.hid (HX.out.next hb);have HBL1:=Lib.hid (HBL.out.trans (hb.mono HBL.out.size));have HJ1:=Lib.hid (HJ.out.next hb);clear hb;obtain⟨c0,c1,c2,c3,c4,c5,c6,c7,c8,c9,c10,c11,c12,c13,c14⟩:=HX1.out.cells;obtain⟨j0,j1⟩:=HJ1.out.cells))
 go_ret2
 exact⟨none,0,rfl,Ts.empty _ _,HBL1.out⟩
set_option maxRecDepth 100000 in
set_option maxHeartbeats 1600000 in
theorem rfput_ok (r:Rg) (E:Nat) (p:List Tf) (hE:fdPut r=(E,p)) (w:World) (ha:argF r=true):Calls Tryz.prog 30 #[.agg #[.int .i64 r.t.ser, .int .i64 r.t.kind, .int .i64 r.t.frm, .int .i64 r.t.till, .int .i64 r.t.cls, .int .i64 r.t.card, .int .i64 r.t.seat, .int .i64 r.t.day, .int .i64 r.t.days, .int .i64 r.t.uses, .int .i64 r.t.epoch, .int .i64 r.key, .int .i64 r.left, .int .i64 r.inn, .int .i64 r.ver]] w fun e w'=> ∃A c,e= .returned (.tuple #[.slice A (p.length:Nat) c, .int .i64 (E:Int)])∧Ts w' w'.heap.size p A c∧Below w.heap.size w w':=by
 obtain⟨h1,h2,h2b,h3,h4,h5,h6⟩:=(argF_iff r).1 ha
 have HIN:=Lib.hid (num_in ha)
 have HE:=Lib.hid hE
 have HAR:=Lib.hid ha
 have H1:=Lib.hid h1
 have q1:decide (r.key<0)=false:=decide_eq_false (by omega)
 have q2:decide (99<r.key)=false:=decide_eq_false (by omega)
 have q3:(r.left==0)=true:=by rw[beq_iff_eq];exact h3
 have q4:(r.inn==0)=true:=by rw[beq_iff_eq];exact h4
 have q5:decide (r.ver<1)=false:=decide_eq_false (by omega)
 have q6:decide (3<r.ver)=false:=decide_eq_false (by omega)
 obtain⟨q,hq⟩: ∃q,q=cutU r:=⟨_,rfl⟩
 have HQ:=Lib.hid hq.symm
 clear h1 h2 h2b h3 h4 h5 h6 ha hE hq
 obtain⟨w0,hw0⟩: ∃w0,w0=(w.alloc (.cells #[.int .i64 r.t.ser, .int .i64 r.t.kind, .int .i64 r.t.frm, .int .i64 r.t.till, .int .i64 r.t.cls, .int .i64 r.t.card, .int .i64 r.t.seat, .int .i64 r.t.day, .int .i64 r.t.days, .int .i64 r.t.uses, .int .i64 r.t.epoch, .int .i64 r.key, .int .i64 r.left, .int .i64 r.inn, .int .i64 r.ver] 28)).alloc (.cells #[.int .i64 0, .int .i64 0] 26):=⟨_,rfl⟩
 have HX:Hid (RBox w0 w.heap.size r):=Lib.hid (by rw[hw0];exact(RBox.new w r).alloc _)
 have HJ:Hid (JBox w0 (w.heap.size+1) 0 0):=Lib.hid (by rw[hw0,show w.heap.size+1=(w.alloc (.cells #[.int .i64 r.t.ser, .int .i64 r.t.kind, .int .i64 r.t.frm, .int .i64 r.t.till, .int .i64 r.t.cls, .int .i64 r.t.card, .int .i64 r.t.seat, .int .i64 r.t.day, .int .i64 r.t.days, .int .i64 r.t.uses, .int .i64 r.t.epoch, .int .i64 r.key, .int .i64 r.left, .int .i64 r.inn, .int .i64 r.ver] 28)).heap.size by simp];exact JBox.new _ 0 0)
 have HBL:Hid (Below w.heap.size w w0):=Lib.hid (by rw[hw0];exact((Below.refl _ _).alloc (Nat.le_refl _) _).alloc (by simp) _)
 have HW:=Lib.hid hw0
 clear hw0
 go_enter Tryz.func30, Tryz.ntmps30
 go_wp2_with fail
 rw[←HW.out]
 obtain⟨e0,e1,e2,e3,e4,e5,e6,e7,e8,e9,e10,e11,e12,e13,e14⟩:=HX.out.cells
 go_wp2_with (first|(go_at_call 74;refine(refis9_any r.t _ H1.out _).mono ?_;rintro e w1 ⟨rfl,hb⟩;clear e0 e1 e2 e3 e4 e5 e6 e7 e8 e9 e10 e11 e12 e13 e14;have HX1:=Lib.hid (HX.out.next hb);have HBL1:=Lib.hid (HBL.out.trans (hb.mono HBL.out.size));have HJ1:=Lib.hid (HJ.out.next hb);clear hb;obtain⟨c0,c1,c2,c3,c4,c5,c6,c7,c8,c9,c10,c11,c12,c13,c14⟩:=HX1.out.cells;obtain⟨j0,j1⟩:=HJ1.out.cells))
 refine(refnums_any r w1).mono ?_
 rintro e w4 ⟨A4,rfl,hz,hb⟩
 rw[HQ.out]at hz
 have HZ:=Lib.hid hz
 have HX4:=Lib.hid (HX1.out.next hb)
 have HBL4:=Lib.hid (HBL1.out.trans (hb.mono HBL1.out.size))
 clear hz hb j0 j1 HJ HJ1 c0 c1 c2 c3 c4 c5 c6 c7 c8 c9 c10 c11 c12 c13 c14
 rw[HQ.out]at HIN
 go_wp2_with fail
 go_loopw [6,7] (fun v i wr=> ∃(j:Nat) (M:List TV),j≤13∧i= .int .i64 j∧M.map (·.f)=fldF 1 ((numL q).take j)∧fitX r.ver (tagsF 1 ((numL q).take j))=true∧M.length≤j∧wr.ownsRow w4.heap.size 77 2 v M.length (flatV M)∧(∀q∈M,TyB wr q.S∧Bs wr wr.heap.size q.f.val q.S q.c)∧Below w4.heap.size w4 wr) (fun _ i _=>13 - (intOf i).toNat)
 case atStart=>exact⟨0,[],by omega,rfl,rfl,rfl,by simp,World.ownsRow_lit w4 #[] 0 (Nat.le_refl _) (by decide) rfl,by simp,below_lit w4 _ _⟩
 case round=>
  obtain⟨j,M,hj,rfl,hmap,hfit,hml,hown,hvals,hbel⟩:=hrel
  have HMP:=Lib.hid hmap
  have HFT:=Lib.hid hfit
  have HO:=Lib.hid hown
  have HV:=Lib.hid hvals
  have HBL:=Lib.hid hbel
  have hsz:=hbel.size
  clear hmap hfit hown hvals hbel
  by_cases hlt:j<13
  ·have HT:=Lib.hid (tagsF_take (numL q) j (by rw[numL_len];omega))
   have HFD:=Lib.hid (fldF_take (numL q) j (by rw[numL_len];omega))
   obtain⟨x,hx⟩: ∃x,x=(numL q).getD j 0:=⟨_,rfl⟩
   have hxi:(numL q)[j]?=some x:=by rw[hx,List.getD_eq_getElem?_getD,List.getElem?_eq_getElem (by rw[numL_len];exact hlt)];rfl
   have hmem: ∀(h0:x≠0),j+1∈tagsF 1 (numL q):=fun h0=>by have:=mem_tagsF (numL q) 1 j (by rw[numL_len];exact hlt) (by rw[←hx];exact h0);rwa[Nat.add_comm]at this
   have hin:=HIN.out x (List.mem_of_getElem? hxi)
   rw[←hx]at HT HFD
   obtain⟨ad,rfl,had,hc⟩:=(HZ.out.next HBL.out).at hxi
   have hcv:=(HX4.out.next HBL.out).cells.2.2.2.2.2.2.2.2.2.2.2.2.2.2
   have HK:=Lib.hid (leastN_at (t:=j+1) (by omega) (by omega))
   obtain⟨v,hv⟩: ∃v,leastN ((j+1:Nat):Int)=v:=⟨_,rfl⟩
   have HLV:=Lib.hid hv
   have HMEM:=Lib.hid hmem
   have HXIN:=Lib.hid hin
   have ec:((j+1:Nat):Int)=(j:Int)+1:=by omega
   have b1:(0:Int)≤(j:Int):=by omega
   have b2:(j:Int)<13:=by omega
   clear hx hxi hmem hin hv
   go_wp2_with fail
   have hnm:=refname_any ((j+1:Nat):Int) v true HLV.out HK.out wr
   rw[ec]at hnm
   refine hnm.mono ?_
   rintro e w5 ⟨rfl,rfl⟩
   clear hnm ec
   by_cases h0:x=0
   ·have q0:(x !=0)=false:=by rw[h0];rfl
    have ht:=HT.out
    have hf:=HFD.out
    rw[if_pos h0,List.append_nil]at ht hf
    have HTS:=Lib.hid ht
    have HFS:=Lib.hid hf
    clear ht hf HT HFD h0
    go_wp2
    go_roundw
    case rel=>exact⟨j+1,M,by omega,by go_num,by rw[HFS.out];exact HMP.out,by rw[HTS.out];exact HFT.out,by omega,HO.out,HV.out,HBL.out⟩
    case measure=>simp[intOf];omega
   ·have q0:(x !=0)=true:=by rw[bne_iff_ne];exact h0
    have ht:=HT.out
    have hf:=HFD.out
    rw[if_neg h0]at ht hf
    have HTS:=Lib.hid ht
    have HFS:=Lib.hid hf
    have HM1:=Lib.hid (HMEM.out h0)
    clear ht hf HT HFD h0 HMEM
    by_cases hvv:r.ver<v
    ·have he:=HE.out
     rw[fdPut_fit HAR.out (by rw[HQ.out];exact fitX_mem HM1.out (by rw[HLV.out];exact hvv))]at he
     obtain⟨rfl,rfl⟩:=Prod.mk.inj he
     have HBE:=Lib.hid (HBL4.out.trans (HBL.out.mono HBL4.out.size))
     clear he
     go_wp2
     go_ret2
     exact⟨none,0,rfl,Ts.empty _ _,HBE.out⟩
    ·have HNF:=Lib.hid (show fitX r.ver (tagsF 1 ((numL q).take (j+1)))=true by rw[HTS.out,fitX_snoc,HFT.out,HLV.out,decide_eq_true (by omega)];rfl)
     obtain⟨N,hN⟩: ∃N:Nat,x=(N:Int):=⟨x.toNat,by have:=HXIN.out;omega⟩
     subst hN
     have HFS2:=HFS.out
     rw[Int.toNat_natCast]at HFS2
     obtain⟨p,hp⟩: ∃p,p=numB N:=⟨_,rfl⟩
     rw[←hp]at HFS2
     have HFS3:=Lib.hid HFS2
     have HP:=Lib.hid hp.symm
     have hN63:N<9223372036854775808:=by have:=HXIN.out;omega
     clear HFS2 HFS hp
     go_wp2_with fail
     refine(refnumber_own N hN63 p HP.out wr).mono ?_
     rintro e w5 ⟨vv,rfl,hwn,hb⟩
     obtain⟨S,cs,rfl,hbs⟩:=bs_of_own hwn (by rw[←HP.out];exact numB_lt N)
     have HTY:=Lib.hid (tyb_of_own hwn)
     have HBS:=Lib.hid hbs
     have HO1:=Lib.hid (own_below HO.out hb)
     have hs1:w4.heap.size≤w5.heap.size:=Nat.le_trans hsz hb.size
     have HV1:=Lib.hid (fun q hq=>And.intro ((HV.out q hq).1.next hb) ((HV.out q hq).2.next hb))
     have HBL1:=Lib.hid (HBL.out.trans (hb.mono hsz))
     clear hwn hbs hb
     go_wp2_with (at_builtin;refine wpList_append_field_by rfl (.tmp 80) (.tmp 85) rfl w5 w4.heap.size M.length u6 M ⟨⟨((j+1:Nat):Int),p⟩,S,cs⟩ _ rfl rfl HO1.out w5.heap.size rfl rfl (by omega) hs1 ?_;intro v3 w3 hown3 hg3)
     have hge: ∀g,u6.ownBlock=some g→w4.heap.size≤g:=fun g hg=>own_ge HO1.out hg
     have hb3:Below w4.heap.size w4 w3:=HBL1.out.grown hg3 hs1 hge
     have HB3:=Lib.hid hb3
     have HO3:=Lib.hid hown3
     have HV3:=Lib.hid (show∀q∈M++ [(⟨⟨((j+1:Nat):Int),p⟩,S,cs⟩:TV)],TyB w3 q.S∧Bs w3 w3.heap.size q.f.val q.S q.c from fun q hq=>by
      rcases List.mem_append.1 hq with h|h
      ·exact bs_grown (HV1.out q h).1 (HV1.out q h).2 HO1.out hg3
      ·rw[List.mem_singleton]at h
       subst h
       exact bs_grown HTY.out HBS.out HO1.out hg3)
     clear hown3 hg3 hge hb3 HO1 HV1
     go_wp2
     go_roundw
     case rel=>exact⟨j+1,M++ [⟨⟨((j+1:Nat):Int),p⟩,S,cs⟩],by omega,by go_num,by rw[List.map_append,HMP.out,HFS3.out];rfl,HNF.out,by rw[List.length_append,List.length_singleton];omega,by rw[List.length_append,List.length_singleton];exact HO3.out,HV3.out,HB3.out⟩
     case measure=>simp[intOf];omega
  ·have e:j=13:=by omega
   subst e
   have e2:(numL q).take 13=numL q:=rfl
   have hfit:=HFT.out
   have hmp:=HMP.out
   rw[e2]at hfit hmp
   have he:=HE.out
   rw[fdPut_ok HAR.out (by rw[HQ.out];exact hfit),HQ.out]at he
   obtain⟨rfl,rfl⟩:=Prod.mk.inj he
   obtain⟨A2,c2,e3,hts⟩:=ts_of_own HO.out (fun q hq=>(HV.out q hq).2)
   rw[hmp]at hts
   have hln:M.length=(fldF 1 (numL q)).length:=by rw[←hmp,List.length_map]
   have HLN:=Lib.hid hln
   have HTS:=Lib.hid hts
   have HBE:=Lib.hid (HBL4.out.trans (HBL.out.mono HBL4.out.size))
   clear e2 hfit hmp hts he hlt hln
   subst e3
   go_wp2
   go_ret2
   exact⟨A2,c2,by rw[←HLN.out];rfl,HTS.out,HBE.out⟩
set_option maxRecDepth 100000 in
set_option maxHeartbeats 1600000 in
theorem rfput_any (r:Rg) (E:Nat) (p:List Tf) (hE:fdPut r=(E,p)) (w:World):Calls Tryz.prog 30 #[.agg #[.int .i64 r.t.ser, .int .i64 r.t.kind, .int .i64 r.t.frm, .int .i64 r.t.till, .int .i64 r.t.cls, .int .i64 r.t.card, .int .i64 r.t.seat, .int .i64 r.t.day, .int .i64 r.t.days, .int .i64 r.t.uses, .int .i64 r.t.epoch, .int .i64 r.key, .int .i64 r.left, .int .i64 r.inn, .int .i64 r.ver]] w fun e w'=> ∃A c,e= .returned (.tuple #[.slice A (p.length:Nat) c, .int .i64 (E:Int)])∧Ts w' w'.heap.size p A c∧Below w.heap.size w w':=by
 cases h1:okT r.t with
 |false=>exact rfput_p1 r E p hE w h1
 |true=>
  by_cases h2:r.key<0
  ·exact rfput_p2 r E p hE w h1 h2
  by_cases h2b:99<r.key
  ·exact rfput_p2b r E p hE w h1 h2b
  by_cases h3:r.left=0
  rotate_left
  ·exact rfput_p3a r E p hE w h1 (by omega) h3
  by_cases h4:r.inn=0
  rotate_left
  ·exact rfput_p3b r E p hE w h1 (by omega) h3 h4
  by_cases h5:r.ver<1
  ·exact rfput_p4a r E p hE w h1 (by omega) h3 h4 h5
  by_cases h6:3<r.ver
  ·exact rfput_p4b r E p hE w h1 (by omega) h3 h4 h6
  exact rfput_ok r E p hE w ((argF_iff r).2 ⟨h1,by omega,by omega,h3,h4,by omega,by omega⟩)
end Go.Proofs.YtcnglbliidjnfaaGreatDoor
