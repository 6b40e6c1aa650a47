import Derived.Test.YtcnglbliidjnfaaGreatDoorTlvNum
import Derived.Test.YtcnglbliidjnfaaGreatDoorTicketPRight3
import Derived.Laws.EntriesVeiled
import Derived.Test.YtcnglbliidjnfaaGreatDoorRgBox
section
namespace Go.Proofs.YtcnglbliidjnfaaGreatDoor
set_option linter.unusedVariables false
open Go.ChangeShapes Go.WideShapes Go.ChangeAt Go.RowKit
set_option maxRecDepth 100000 in
set_option maxHeartbeats 1600000 in
theorem fput_p1 (r:Rg) (E:Nat) (p:List Tf) (hE:fdPut r=(E,p)) (w:World) (h1:okT r.t=false):Calls Tryz.prog 25 #[.agg #[.int .i64 r.t.ser, .int .i64 r.t.kind, .int .i64 r.t.frm, .int .i64 r.t.till, .int .i64 r.t.cls, .int .i64 r.t.card, .int .i64 r.t.seat, .int .i64 r.t.day, .int .i64 r.t.days, .int .i64 r.t.uses, .int .i64 r.t.epoch, .int .i64 r.key, .int .i64 r.left, .int .i64 r.inn, .int .i64 r.ver]] w fun e w'=> ∃A c,e= .returned (.tuple #[.slice A (p.length:Nat) c, .int .i64 (E:Int)])∧Ts w' w'.heap.size p A c∧Below w.heap.size w w':=by
 obtain⟨rfl,rfl⟩:E=1∧p=[]:=by have:=hE;rw[fdPut_arg (by rw[argF,h1];rfl)]at this;exact⟨(Prod.mk.inj this).1.symm,(Prod.mk.inj this).2.symm⟩
 clear hE
 have H1:=Lib.hid h1
 clear h1
 obtain⟨w0,hw0⟩: ∃w0,w0=w.alloc (.cells #[.int .i64 r.t.ser, .int .i64 r.t.kind, .int .i64 r.t.frm, .int .i64 r.t.till, .int .i64 r.t.cls, .int .i64 r.t.card, .int .i64 r.t.seat, .int .i64 r.t.day, .int .i64 r.t.days, .int .i64 r.t.uses, .int .i64 r.t.epoch, .int .i64 r.key, .int .i64 r.left, .int .i64 r.inn, .int .i64 r.ver] 28):=⟨_,rfl⟩
 have HX:Hid (RBox w0 w.heap.size r):=Lib.hid (by rw[hw0];exact RBox.new w r)
 have HBL:Hid (Below w.heap.size w w0):=Lib.hid (by rw[hw0];exact below_lit w _ _)
 have HW:=Lib.hid hw0
 clear hw0
 go_enter Tryz.func25, Tryz.ntmps25
 go_wp2_with fail
 rw[←HW.out]
 obtain⟨e0,e1,e2,e3,e4,e5,e6,e7,e8,e9,e10,e11,e12,e13,e14⟩:=HX.out.cells
 go_wp2_with (first|(go_at_call 61;refine(pis9_any r.t _ H1.out _).mono ?_;rintro e w1 ⟨rfl,hb⟩;clear e0 e1 e2 e3 e4 e5 e6 e7 e8 e9 e10 e11 e12 e13 e14;have HX1:=Lib.hid (HX.out.next hb);have HBL1:=Lib.hid (HBL.out.trans (hb.mono HBL.out.size));clear hb;obtain⟨c0,c1,c2,c3,c4,c5,c6,c7,c8,c9,c10,c11,c12,c13,c14⟩:=HX1.out.cells))
 go_ret2
 exact⟨none,0,rfl,Ts.empty _ _,HBL1.out⟩
set_option maxRecDepth 100000 in
set_option maxHeartbeats 1600000 in
theorem fput_p2 (r:Rg) (E:Nat) (p:List Tf) (hE:fdPut r=(E,p)) (w:World) (h1:okT r.t=true) (h2:(decide (0≤r.key)&&decide (r.key≤99))=false):Calls Tryz.prog 25 #[.agg #[.int .i64 r.t.ser, .int .i64 r.t.kind, .int .i64 r.t.frm, .int .i64 r.t.till, .int .i64 r.t.cls, .int .i64 r.t.card, .int .i64 r.t.seat, .int .i64 r.t.day, .int .i64 r.t.days, .int .i64 r.t.uses, .int .i64 r.t.epoch, .int .i64 r.key, .int .i64 r.left, .int .i64 r.inn, .int .i64 r.ver]] w fun e w'=> ∃A c,e= .returned (.tuple #[.slice A (p.length:Nat) c, .int .i64 (E:Int)])∧Ts w' w'.heap.size p A c∧Below w.heap.size w w':=by
 obtain⟨rfl,rfl⟩:E=1∧p=[]:=by have:=hE;rw[fdPut_arg (by cases h:argF r with|false=>rfl|true=>(have:=(argF_iff r).1 h;simp at h2;omega))]at this;exact⟨(Prod.mk.inj this).1.symm,(Prod.mk.inj this).2.symm⟩
 clear hE
 have H1:=Lib.hid h1
 have H2:=Lib.hid h2
 clear h1 h2
 obtain⟨w0,hw0⟩: ∃w0,w0=w.alloc (.cells #[.int .i64 r.t.ser, .int .i64 r.t.kind, .int .i64 r.t.frm, .int .i64 r.t.till, .int .i64 r.t.cls, .int .i64 r.t.card, .int .i64 r.t.seat, .int .i64 r.t.day, .int .i64 r.t.days, .int .i64 r.t.uses, .int .i64 r.t.epoch, .int .i64 r.key, .int .i64 r.left, .int .i64 r.inn, .int .i64 r.ver] 28):=⟨_,rfl⟩
 have HX:Hid (RBox w0 w.heap.size r):=Lib.hid (by rw[hw0];exact RBox.new w r)
 have HBL:Hid (Below w.heap.size w w0):=Lib.hid (by rw[hw0];exact below_lit w _ _)
 have HW:=Lib.hid hw0
 clear hw0
 go_enter Tryz.func25, Tryz.ntmps25
 go_wp2_with fail
 rw[←HW.out]
 obtain⟨e0,e1,e2,e3,e4,e5,e6,e7,e8,e9,e10,e11,e12,e13,e14⟩:=HX.out.cells
 go_wp2_with (first|(go_at_call 61;refine(pis9_any r.t _ H1.out _).mono ?_;rintro e w1 ⟨rfl,hb⟩;clear e0 e1 e2 e3 e4 e5 e6 e7 e8 e9 e10 e11 e12 e13 e14;have HX1:=Lib.hid (HX.out.next hb);have HBL1:=Lib.hid (HBL.out.trans (hb.mono HBL.out.size));clear hb;obtain⟨c0,c1,c2,c3,c4,c5,c6,c7,c8,c9,c10,c11,c12,c13,c14⟩:=HX1.out.cells)|(go_at_call 62;refine(pkey_any r.key _ H2.out _).mono ?_;rintro e w2 ⟨rfl,rfl⟩))
 go_ret2
 exact⟨none,0,rfl,Ts.empty _ _,HBL1.out⟩
set_option maxRecDepth 100000 in
set_option maxHeartbeats 1600000 in
theorem fput_p3a (r:Rg) (E:Nat) (p:List Tf) (hE:fdPut r=(E,p)) (w:World) (h1:okT r.t=true) (h2:(decide (0≤r.key)&&decide (r.key≤99))=true) (h3:r.left≠0):Calls Tryz.prog 25 #[.agg #[.int .i64 r.t.ser, .int .i64 r.t.kind, .int .i64 r.t.frm, .int .i64 r.t.till, .int .i64 r.t.cls, .int .i64 r.t.card, .int .i64 r.t.seat, .int .i64 r.t.day, .int .i64 r.t.days, .int .i64 r.t.uses, .int .i64 r.t.epoch, .int .i64 r.key, .int .i64 r.left, .int .i64 r.inn, .int .i64 r.ver]] w fun e w'=> ∃A c,e= .returned (.tuple #[.slice A (p.length:Nat) c, .int .i64 (E:Int)])∧Ts w' w'.heap.size p A c∧Below w.heap.size w w':=by
 obtain⟨rfl,rfl⟩:E=1∧p=[]:=by have:=hE;rw[fdPut_arg (by cases h:argF r with|false=>rfl|true=>(have:=(argF_iff r).1 h;omega))]at this;exact⟨(Prod.mk.inj this).1.symm,(Prod.mk.inj this).2.symm⟩
 clear hE
 have H1:=Lib.hid h1
 have H2:=Lib.hid h2
 have q3:(r.left==0)=false:=by rw[beq_eq_false_iff_ne];exact h3
 clear h1 h2 h3
 obtain⟨w0,hw0⟩: ∃w0,w0=w.alloc (.cells #[.int .i64 r.t.ser, .int .i64 r.t.kind, .int .i64 r.t.frm, .int .i64 r.t.till, .int .i64 r.t.cls, .int .i64 r.t.card, .int .i64 r.t.seat, .int .i64 r.t.day, .int .i64 r.t.days, .int .i64 r.t.uses, .int .i64 r.t.epoch, .int .i64 r.key, .int .i64 r.left, .int .i64 r.inn, .int .i64 r.ver] 28):=⟨_,rfl⟩
 have HX:Hid (RBox w0 w.heap.size r):=Lib.hid (by rw[hw0];exact RBox.new w r)
 have HBL:Hid (Below w.heap.size w w0):=Lib.hid (by rw[hw0];exact below_lit w _ _)
 have HW:=Lib.hid hw0
 clear hw0
 go_enter Tryz.func25, Tryz.ntmps25
 go_wp2_with fail
 rw[←HW.out]
 obtain⟨e0,e1,e2,e3,e4,e5,e6,e7,e8,e9,e10,e11,e12,e13,e14⟩:=HX.out.cells
 go_wp2_with (first|(go_at_call 61;refine(pis9_any r.t _ H1.out _).mono ?_;rintro e w1 ⟨rfl,hb⟩;clear e0 e1 e2 e3 e4 e5 e6 e7 e8 e9 e10 e11 e12 e13 e14;have HX1:=Lib.hid (HX.out.next hb);have HBL1:=Lib.hid (HBL.out.trans (hb.mono HBL.out.size));clear hb;obtain⟨c0,c1,c2,c3,c4,c5,c6,c7,c8,c9,c10,c11,c12,c13,c14⟩:=HX1.out.cells)|(go_at_call 62;refine(pkey_any r.key _ H2.out _).mono ?_;rintro e w2 ⟨rfl,rfl⟩))
 go_ret2
 exact⟨none,0,rfl,Ts.empty _ _,HBL1.out⟩
set_option maxRecDepth 100000 in
set_option maxHeartbeats 1600000 in
theorem fput_p3b (r:Rg) (E:Nat) (p:List Tf) (hE:fdPut r=(E,p)) (w:World) (h1:okT r.t=true) (h2:(decide (0≤r.key)&&decide (r.key≤99))=true) (h3:r.left=0) (h4:r.inn≠0):Calls Tryz.prog 25 #[.agg #[.int .i64 r.t.ser, .int .i64 r.t.kind, .int .i64 r.t.frm, .int .i64 r.t.till, .int .i64 r.t.cls, .int .i64 r.t.card, .int .i64 r.t.seat, .int .i64 r.t.day, .int .i64 r.t.days, .int .i64 r.t.uses, .int .i64 r.t.epoch, .int .i64 r.key, .int .i64 r.left, .int .i64 r.inn, .int .i64 r.ver]] w fun e w'=> ∃A c,e= .returned (.tuple #[.slice A (p.length:Nat) c, .int .i64 (E:Int)])∧Ts w' w'.heap.size p A c∧Below w.heap.size w w':=by
 obtain⟨rfl,rfl⟩:E=1∧p=[]:=by have:=hE;rw[fdPut_arg (by cases h:argF r with|false=>rfl|true=>(have:=(argF_iff r).1 h;omega))]at this;exact⟨(Prod.mk.inj this).1.symm,(Prod.mk.inj this).2.symm⟩
 clear hE
 have H1:=Lib.hid h1
 have H2:=Lib.hid h2
 have q3:(r.left==0)=true:=by rw[beq_iff_eq];exact h3
 have q4:(r.inn==0)=false:=by rw[beq_eq_false_iff_ne];exact h4
 clear h1 h2 h3 h4
 obtain⟨w0,hw0⟩: ∃w0,w0=w.alloc (.cells #[.int .i64 r.t.ser, .int .i64 r.t.kind, .int .i64 r.t.frm, .int .i64 r.t.till, .int .i64 r.t.cls, .int .i64 r.t.card, .int .i64 r.t.seat, .int .i64 r.t.day, .int .i64 r.t.days, .int .i64 r.t.uses, .int .i64 r.t.epoch, .int .i64 r.key, .int .i64 r.left, .int .i64 r.inn, .int .i64 r.ver] 28):=⟨_,rfl⟩
 have HX:Hid (RBox w0 w.heap.size r):=Lib.hid (by rw[hw0];exact RBox.new w r)
 have HBL:Hid (Below w.heap.size w w0):=Lib.hid (by rw[hw0];exact below_lit w _ _)
 have HW:=Lib.hid hw0
 clear hw0
 go_enter Tryz.func25, Tryz.ntmps25
 go_wp2_with fail
 rw[←HW.out]
 obtain⟨e0,e1,e2,e3,e4,e5,e6,e7,e8,e9,e10,e11,e12,e13,e14⟩:=HX.out.cells
 go_wp2_with (first|(go_at_call 61;refine(pis9_any r.t _ H1.out _).mono ?_;rintro e w1 ⟨rfl,hb⟩;clear e0 e1 e2 e3 e4 e5 e6 e7 e8 e9 e10 e11 e12 e13 e14;have HX1:=Lib.hid (HX.out.next hb);have HBL1:=Lib.hid (HBL.out.trans (hb.mono HBL.out.size));clear hb;obtain⟨c0,c1,c2,c3,c4,c5,c6,c7,c8,c9,c10,c11,c12,c13,c14⟩:=HX1.out.cells)|(go_at_call 62;refine(pkey_any r.key _ H2.out _).mono ?_;rintro e w2 ⟨rfl,rfl⟩))
 go_ret2
 exact⟨none,0,rfl,Ts.empty _ _,HBL1.out⟩
set_option maxRecDepth 100000 in
set_option maxHeartbeats 1600000 in
theorem fput_p4 (r:Rg) (E:Nat) (p:List Tf) (hE:fdPut r=(E,p)) (w:World) (h1:okT r.t=true) (h2:(decide (0≤r.key)&&decide (r.key≤99))=true) (h3:r.left=0) (h4:r.inn=0) (h5:(decide (1≤r.ver)&&decide (r.ver≤3))=false):Calls Tryz.prog 25 #[.agg #[.int .i64 r.t.ser, .int .i64 r.t.kind, .int .i64 r.t.frm, .int .i64 r.t.till, .int .i64 r.t.cls, .int .i64 r.t.card, .int .i64 r.t.seat, .int .i64 r.t.day, .int .i64 r.t.days, .int .i64 r.t.uses, .int .i64 r.t.epoch, .int .i64 r.key, .int .i64 r.left, .int .i64 r.inn, .int .i64 r.ver]] w fun e w'=> ∃A c,e= .returned (.tuple #[.slice A (p.length:Nat) c, .int .i64 (E:Int)])∧Ts w' w'.heap.size p A c∧Below w.heap.size w w':=by
 obtain⟨rfl,rfl⟩:E=1∧p=[]:=by have:=hE;rw[fdPut_arg (by cases h:argF r with|false=>rfl|true=>(have:=(argF_iff r).1 h;simp at h5;omega))]at this;exact⟨(Prod.mk.inj this).1.symm,(Prod.mk.inj this).2.symm⟩
 clear hE
 have H1:=Lib.hid h1
 have H2:=Lib.hid h2
 have H3:=Lib.hid h5
 have q3:(r.left==0)=true:=by rw[beq_iff_eq];exact h3
 have q4:(r.inn==0)=true:=by rw[beq_iff_eq];exact h4
 clear h1 h2 h3 h4 h5
 obtain⟨w0,hw0⟩: ∃w0,w0=w.alloc (.cells #[.int .i64 r.t.ser, .int .i64 r.t.kind, .int .i64 r.t.frm, .int .i64 r.t.till, .int .i64 r.t.cls, .int .i64 r.t.card, .int .i64 r.t.seat, .int .i64 r.t.day, .int .i64 r.t.days, .int .i64 r.t.uses, .int .i64 r.t.epoch, .int .i64 r.key, .int .i64 r.left, .int .i64 r.inn, .int .i64 r.ver] 28):=⟨_,rfl⟩
 have HX:Hid (RBox w0 w.heap.size r):=Lib.hid (by rw[hw0];exact RBox.new w r)
 have HBL:Hid (Below w.heap.size w w0):=Lib.hid (by rw[hw0];exact below_lit w _ _)
 have HW:=Lib.hid hw0
 clear hw0
 go_enter Tryz.func25, Tryz.ntmps25
 go_wp2_with fail
 rw[←HW.out]
 obtain⟨e0,e1,e2,e3,e4,e5,e6,e7,e8,e9,e10,e11,e12,e13,e14⟩:=HX.out.cells
 go_wp2_with (first|(go_at_call 61;refine(pis9_any r.t _ H1.out _).mono ?_;rintro e w1 ⟨rfl,hb⟩;clear e0 e1 e2 e3 e4 e5 e6 e7 e8 e9 e10 e11 e12 e13 e14;have HX1:=Lib.hid (HX.out.next hb);have HBL1:=Lib.hid (HBL.out.trans (hb.mono HBL.out.size));clear hb;obtain⟨c0,c1,c2,c3,c4,c5,c6,c7,c8,c9,c10,c11,c12,c13,c14⟩:=HX1.out.cells)|(go_at_call 62;refine(pkey_any r.key _ H2.out _).mono ?_;rintro e w2 ⟨rfl,rfl⟩)|(go_at_call 63;refine(pversion_any r.ver _ H3.out _).mono ?_;rintro e w2 ⟨rfl,rfl⟩))
 go_ret2
 exact⟨none,0,rfl,Ts.empty _ _,HBL1.out⟩
set_option maxRecDepth 100000 in
set_option maxHeartbeats 1600000 in
theorem fput_5c (r:Rg) (E:Nat) (p:List Tf) (hE:fdPut r=(E,p)) (w:World) (ha:argF r=true) (hk:r.t.kind=4) (hf:fitX r.ver (tagsF 1 (numL (cutU r)))=false):Calls Tryz.prog 25 #[.agg #[.int .i64 r.t.ser, .int .i64 r.t.kind, .int .i64 r.t.frm, .int .i64 r.t.till, .int .i64 r.t.cls, .int .i64 r.t.card, .int .i64 r.t.seat, .int .i64 r.t.day, .int .i64 r.t.days, .int .i64 r.t.uses, .int .i64 r.t.epoch, .int .i64 r.key, .int .i64 r.left, .int .i64 r.inn, .int .i64 r.ver]] w fun e w'=> ∃A c,e= .returned (.tuple #[.slice A (p.length:Nat) c, .int .i64 (E:Int)])∧Ts w' w'.heap.size p A c∧Below w.heap.size w w':=by
 obtain⟨rfl,rfl⟩:E=18∧p=[]:=by have:=hE;rw[fdPut_fit ha hf]at this;exact⟨(Prod.mk.inj this).1.symm,(Prod.mk.inj this).2.symm⟩
 clear hE
 have hmf: ∀(fn:Fn) (first cap:Array Value) (w:World),(Instr.makeFunc fn first cap).run Tryz.prog w= .ok (.func fn first cap) w:=fun _ _ _ _=>rfl
 obtain⟨h1,h2,h3,h4,h5,h6,h7⟩:=(argF_iff r).1 ha
 have H1:=Lib.hid h1
 have H2:=Lib.hid (show(decide (0≤r.key)&&decide (r.key≤99))=true by rw[decide_eq_true h2,decide_eq_true h3];rfl)
 have H3:=Lib.hid (show(decide (1≤r.ver)&&decide (r.ver≤3))=true by rw[decide_eq_true h6,decide_eq_true h7];rfl)
 have q3:(r.left==0)=true:=by rw[beq_iff_eq];exact h4
 have q4:(r.inn==0)=true:=by rw[beq_iff_eq];exact h5
 have HK:=Lib.hid (show(r.t.kind==4)=true by rw[beq_iff_eq];exact hk)
 have HC:=Lib.hid (show cutU r=r by rw[cutU,if_pos hk])
 have HIN:=Lib.hid (num_in ha)
 obtain⟨q,hq⟩: ∃q,q=cutU r:=⟨_,rfl⟩
 rw[←hq]at hf HC HIN
 try rw[←hq]
 have hqv:q.ver=r.ver:=by rw[hq,cut_ver]
 rw[←hqv]at hf
 obtain⟨n,hn⟩: ∃n,n=(tagsF 1 (numL q)).length:=⟨_,rfl⟩
 have HN:=Lib.hid hn
 have HF:=Lib.hid hf
 have hn13:n≤13:=by rw[hn];exact Nat.le_trans (tagsF_len _ _) (by rw[numL_len];omega)
 have HTS:=Lib.hid (show∀t∈tagsF 1 (numL q),1≤t∧t≤13 from fun t ht=>by have:=tagsF_mem _ _ _ ht;rw[numL_len]at this;omega)
 have HTX:=Lib.hid (show∀t∈tagsF 1 (numL q),1≤t∧t≤13∧0≤(numL q).getD (t - 1) 0∧(numL q).getD (t - 1) 0<9223372036854775808 from fun t ht=>by have h1:=HTS.out t ht;have h2:=num_at HIN.out (t - 1);omega)
 have HLN:=Lib.hid (show(fldF 1 (numL q)).length=n by rw[fldF_len];exact hn.symm)
 clear h1 h2 h3 h4 h5 h6 h7 ha hk hf hq hqv hn
 obtain⟨w0,hw0⟩: ∃w0,w0=w.alloc (.cells #[.int .i64 r.t.ser, .int .i64 r.t.kind, .int .i64 r.t.frm, .int .i64 r.t.till, .int .i64 r.t.cls, .int .i64 r.t.card, .int .i64 r.t.seat, .int .i64 r.t.day, .int .i64 r.t.days, .int .i64 r.t.uses, .int .i64 r.t.epoch, .int .i64 r.key, .int .i64 r.left, .int .i64 r.inn, .int .i64 r.ver] 28):=⟨_,rfl⟩
 have HX:Hid (RBox w0 w.heap.size r):=Lib.hid (by rw[hw0];exact RBox.new w r)
 have HBL:Hid (Below w.heap.size w w0):=Lib.hid (by rw[hw0];exact below_lit w _ _)
 have HW:=Lib.hid hw0
 clear hw0
 go_enter Tryz.func25, Tryz.ntmps25
 go_wp2_with fail
 rw[←HW.out]
 obtain⟨e0,e1,e2,e3,e4,e5,e6,e7,e8,e9,e10,e11,e12,e13,e14⟩:=HX.out.cells
 go_wp2_with (first|(go_at_call 61;refine(pis9_any r.t _ H1.out _).mono ?_;rintro e w1 ⟨rfl,hb⟩;clear e0 e1 e2 e3 e4 e5 e6 e7 e8 e9 e10 e11 e12 e13 e14;have HX1:=Lib.hid (HX.out.next hb);have HBL1:=Lib.hid (HBL.out.trans (hb.mono HBL.out.size));clear hb;obtain⟨c0,c1,c2,c3,c4,c5,c6,c7,c8,c9,c10,c11,c12,c13,c14⟩:=HX1.out.cells)|(go_at_call 62;refine(pkey_any r.key _ H2.out _).mono ?_;rintro e w2 ⟨rfl,rfl⟩)|(go_at_call 63;refine(pversion_any r.ver _ H3.out _).mono ?_;rintro e w2 ⟨rfl,rfl⟩))
 refine(ptellsu_any r w1.heap.size _ HK.out _ (heap_alloc_new w1 _)).mono ?_
 rintro e w2 ⟨rfl,rfl⟩
 go_wp2_with fail
 have HF0:=Lib.hid (fbox_new w1 (rgL q) (List.map (fun x=>Value.int .i64 x) (rgL r)).toArray (by rw[HC.out]<;>rfl))
 have HB3:=Lib.hid (below_lit w1 (List.map (fun x=>Value.int .i64 x) (rgL r)).toArray 94)
 have hs3:=HB3.out.size
 refine(ptags_any q w1.heap.size n HN.out _ HF0.out).mono ?_
 rintro e w4 ⟨A4,k4,rfl,hz,hb⟩
 have HZ:=Lib.hid hz
 have HFB:=Lib.hid (HF0.out.next hb)
 have HBL4:=Lib.hid (HBL1.out.trans ((HB3.out.trans (hb.mono hs3)).mono HBL1.out.size))
 clear hb hz HF0 HB3 hs3 c0 c1 c2 c3 c4 c5 c6 c7 c8 c9 c10 c11 c12 c13 c14
 obtain⟨d0,d1,d2,d3,d4,d5,d6,d7,d8,d9,d10,d11,d12,d13,d14⟩:=HFB.out.cells
 go_wp2_with fail
 refine(ptells_any q.ver _ n HN.out HTS.out _ HF.out A4 k4 w4 HZ.out).mono ?_
 rintro e w5 ⟨rfl,rfl⟩
 go_wp2
 go_ret2
 exact⟨none,0,rfl,Ts.empty _ _,HBL4.out⟩
set_option maxRecDepth 100000 in
set_option maxHeartbeats 1600000 in
theorem fput_5n (r:Rg) (E:Nat) (p:List Tf) (hE:fdPut r=(E,p)) (w:World) (ha:argF r=true) (hk:r.t.kind≠4) (hf:fitX r.ver (tagsF 1 (numL (cutU r)))=false):Calls Tryz.prog 25 #[.agg #[.int .i64 r.t.ser, .int .i64 r.t.kind, .int .i64 r.t.frm, .int .i64 r.t.till, .int .i64 r.t.cls, .int .i64 r.t.card, .int .i64 r.t.seat, .int .i64 r.t.day, .int .i64 r.t.days, .int .i64 r.t.uses, .int .i64 r.t.epoch, .int .i64 r.key, .int .i64 r.left, .int .i64 r.inn, .int .i64 r.ver]] w fun e w'=> ∃A c,e= .returned (.tuple #[.slice A (p.length:Nat) c, .int .i64 (E:Int)])∧Ts w' w'.heap.size p A c∧Below w.heap.size w w':=by
 obtain⟨rfl,rfl⟩:E=18∧p=[]:=by have:=hE;rw[fdPut_fit ha hf]at this;exact⟨(Prod.mk.inj this).1.symm,(Prod.mk.inj this).2.symm⟩
 clear hE
 have hmf: ∀(fn:Fn) (first cap:Array Value) (w:World),(Instr.makeFunc fn first cap).run Tryz.prog w= .ok (.func fn first cap) w:=fun _ _ _ _=>rfl
 obtain⟨h1,h2,h3,h4,h5,h6,h7⟩:=(argF_iff r).1 ha
 have H1:=Lib.hid h1
 have H2:=Lib.hid (show(decide (0≤r.key)&&decide (r.key≤99))=true by rw[decide_eq_true h2,decide_eq_true h3];rfl)
 have H3:=Lib.hid (show(decide (1≤r.ver)&&decide (r.ver≤3))=true by rw[decide_eq_true h6,decide_eq_true h7];rfl)
 have q3:(r.left==0)=true:=by rw[beq_iff_eq];exact h4
 have q4:(r.inn==0)=true:=by rw[beq_iff_eq];exact h5
 have HK:=Lib.hid (show(r.t.kind==4)=false by rw[beq_eq_false_iff_ne];exact hk)
 have HC:=Lib.hid (show cutU r= { r with t:= { r.t with uses:=0 } } by rw[cutU,if_neg hk])
 have HIN:=Lib.hid (num_in ha)
 obtain⟨q,hq⟩: ∃q,q=cutU r:=⟨_,rfl⟩
 rw[←hq]at hf HC HIN
 try rw[←hq]
 have hqv:q.ver=r.ver:=by rw[hq,cut_ver]
 rw[←hqv]at hf
 obtain⟨n,hn⟩: ∃n,n=(tagsF 1 (numL q)).length:=⟨_,rfl⟩
 have HN:=Lib.hid hn
 have HF:=Lib.hid hf
 have hn13:n≤13:=by rw[hn];exact Nat.le_trans (tagsF_len _ _) (by rw[numL_len];omega)
 have HTS:=Lib.hid (show∀t∈tagsF 1 (numL q),1≤t∧t≤13 from fun t ht=>by have:=tagsF_mem _ _ _ ht;rw[numL_len]at this;omega)
 have HTX:=Lib.hid (show∀t∈tagsF 1 (numL q),1≤t∧t≤13∧0≤(numL q).getD (t - 1) 0∧(numL q).getD (t - 1) 0<9223372036854775808 from fun t ht=>by have h1:=HTS.out t ht;have h2:=num_at HIN.out (t - 1);omega)
 have HLN:=Lib.hid (show(fldF 1 (numL q)).length=n by rw[fldF_len];exact hn.symm)
 clear h1 h2 h3 h4 h5 h6 h7 ha hk hf hq hqv hn
 obtain⟨w0,hw0⟩: ∃w0,w0=w.alloc (.cells #[.int .i64 r.t.ser, .int .i64 r.t.kind, .int .i64 r.t.frm, .int .i64 r.t.till, .int .i64 r.t.cls, .int .i64 r.t.card, .int .i64 r.t.seat, .int .i64 r.t.day, .int .i64 r.t.days, .int .i64 r.t.uses, .int .i64 r.t.epoch, .int .i64 r.key, .int .i64 r.left, .int .i64 r.inn, .int .i64 r.ver] 28):=⟨_,rfl⟩
 have HX:Hid (RBox w0 w.heap.size r):=Lib.hid (by rw[hw0];exact RBox.new w r)
 have HBL:Hid (Below w.heap.size w w0):=Lib.hid (by rw[hw0];exact below_lit w _ _)
 have HW:=Lib.hid hw0
 clear hw0
 go_enter Tryz.func25, Tryz.ntmps25
 go_wp2_with fail
 rw[←HW.out]
 obtain⟨e0,e1,e2,e3,e4,e5,e6,e7,e8,e9,e10,e11,e12,e13,e14⟩:=HX.out.cells
 go_wp2_with (first|(go_at_call 61;refine(pis9_any r.t _ H1.out _).mono ?_;rintro e w1 ⟨rfl,hb⟩;clear e0 e1 e2 e3 e4 e5 e6 e7 e8 e9 e10 e11 e12 e13 e14;have HX1:=Lib.hid (HX.out.next hb);have HBL1:=Lib.hid (HBL.out.trans (hb.mono HBL.out.size));clear hb;obtain⟨c0,c1,c2,c3,c4,c5,c6,c7,c8,c9,c10,c11,c12,c13,c14⟩:=HX1.out.cells)|(go_at_call 62;refine(pkey_any r.key _ H2.out _).mono ?_;rintro e w2 ⟨rfl,rfl⟩)|(go_at_call 63;refine(pversion_any r.ver _ H3.out _).mono ?_;rintro e w2 ⟨rfl,rfl⟩))
 refine(ptellsu_any r w1.heap.size _ HK.out _ (heap_alloc_new w1 _)).mono ?_
 rintro e w2 ⟨rfl,rfl⟩
 go_wp2_with fail
 have HF0:=Lib.hid (fbox_new w1 (rgL q) ((List.map (fun x=>Value.int .i64 x) (rgL r)).set 9 (.int .i64 0)).toArray (by rw[HC.out]<;>rfl))
 have HB3:=Lib.hid (below_lit w1 ((List.map (fun x=>Value.int .i64 x) (rgL r)).set 9 (.int .i64 0)).toArray 94)
 have hs3:=HB3.out.size
 refine(ptags_any q w1.heap.size n HN.out _ HF0.out).mono ?_
 rintro e w4 ⟨A4,k4,rfl,hz,hb⟩
 have HZ:=Lib.hid hz
 have HFB:=Lib.hid (HF0.out.next hb)
 have HBL4:=Lib.hid (HBL1.out.trans ((HB3.out.trans (hb.mono hs3)).mono HBL1.out.size))
 clear hb hz HF0 HB3 hs3 c0 c1 c2 c3 c4 c5 c6 c7 c8 c9 c10 c11 c12 c13 c14
 obtain⟨d0,d1,d2,d3,d4,d5,d6,d7,d8,d9,d10,d11,d12,d13,d14⟩:=HFB.out.cells
 go_wp2_with fail
 refine(ptells_any q.ver _ n HN.out HTS.out _ HF.out A4 k4 w4 HZ.out).mono ?_
 rintro e w5 ⟨rfl,rfl⟩
 go_wp2
 go_ret2
 exact⟨none,0,rfl,Ts.empty _ _,HBL4.out⟩
set_option maxRecDepth 100000 in
set_option maxHeartbeats 1600000 in
theorem fput_6c (r:Rg) (E:Nat) (p:List Tf) (hE:fdPut r=(E,p)) (w:World) (ha:argF r=true) (hk:r.t.kind=4) (hf:fitX r.ver (tagsF 1 (numL (cutU r)))=true):Calls Tryz.prog 25 #[.agg #[.int .i64 r.t.ser, .int .i64 r.t.kind, .int .i64 r.t.frm, .int .i64 r.t.till, .int .i64 r.t.cls, .int .i64 r.t.card, .int .i64 r.t.seat, .int .i64 r.t.day, .int .i64 r.t.days, .int .i64 r.t.uses, .int .i64 r.t.epoch, .int .i64 r.key, .int .i64 r.left, .int .i64 r.inn, .int .i64 r.ver]] w fun e w'=> ∃A c,e= .returned (.tuple #[.slice A (p.length:Nat) c, .int .i64 (E:Int)])∧Ts w' w'.heap.size p A c∧Below w.heap.size w w':=by
 obtain⟨rfl,rfl⟩:E=0∧p=fldF 1 (numL (cutU r)):=by have:=hE;rw[fdPut_ok ha hf]at this;exact⟨(Prod.mk.inj this).1.symm,(Prod.mk.inj this).2.symm⟩
 clear hE
 have hmf: ∀(fn:Fn) (first cap:Array Value) (w:World),(Instr.makeFunc fn first cap).run Tryz.prog w= .ok (.func fn first cap) w:=fun _ _ _ _=>rfl
 obtain⟨h1,h2,h3,h4,h5,h6,h7⟩:=(argF_iff r).1 ha
 have H1:=Lib.hid h1
 have H2:=Lib.hid (show(decide (0≤r.key)&&decide (r.key≤99))=true by rw[decide_eq_true h2,decide_eq_true h3];rfl)
 have H3:=Lib.hid (show(decide (1≤r.ver)&&decide (r.ver≤3))=true by rw[decide_eq_true h6,decide_eq_true h7];rfl)
 have q3:(r.left==0)=true:=by rw[beq_iff_eq];exact h4
 have q4:(r.inn==0)=true:=by rw[beq_iff_eq];exact h5
 have HK:=Lib.hid (show(r.t.kind==4)=true by rw[beq_iff_eq];exact hk)
 have HC:=Lib.hid (show cutU r=r by rw[cutU,if_pos hk])
 have HIN:=Lib.hid (num_in ha)
 obtain⟨q,hq⟩: ∃q,q=cutU r:=⟨_,rfl⟩
 rw[←hq]at hf HC HIN
 try rw[←hq]
 have hqv:q.ver=r.ver:=by rw[hq,cut_ver]
 rw[←hqv]at hf
 obtain⟨n,hn⟩: ∃n,n=(tagsF 1 (numL q)).length:=⟨_,rfl⟩
 have HN:=Lib.hid hn
 have HF:=Lib.hid hf
 have hn13:n≤13:=by rw[hn];exact Nat.le_trans (tagsF_len _ _) (by rw[numL_len];omega)
 have HTS:=Lib.hid (show∀t∈tagsF 1 (numL q),1≤t∧t≤13 from fun t ht=>by have:=tagsF_mem _ _ _ ht;rw[numL_len]at this;omega)
 have HTX:=Lib.hid (show∀t∈tagsF 1 (numL q),1≤t∧t≤13∧0≤(numL q).getD (t - 1) 0∧(numL q).getD (t - 1) 0<9223372036854775808 from fun t ht=>by have h1:=HTS.out t ht;have h2:=num_at HIN.out (t - 1);omega)
 have HLN:=Lib.hid (show(fldF 1 (numL q)).length=n by rw[fldF_len];exact hn.symm)
 clear h1 h2 h3 h4 h5 h6 h7 ha hk hf hq hqv hn
 obtain⟨w0,hw0⟩: ∃w0,w0=w.alloc (.cells #[.int .i64 r.t.ser, .int .i64 r.t.kind, .int .i64 r.t.frm, .int .i64 r.t.till, .int .i64 r.t.cls, .int .i64 r.t.card, .int .i64 r.t.seat, .int .i64 r.t.day, .int .i64 r.t.days, .int .i64 r.t.uses, .int .i64 r.t.epoch, .int .i64 r.key, .int .i64 r.left, .int .i64 r.inn, .int .i64 r.ver] 28):=⟨_,rfl⟩
 have HX:Hid (RBox w0 w.heap.size r):=Lib.hid (by rw[hw0];exact RBox.new w r)
 have HBL:Hid (Below w.heap.size w w0):=Lib.hid (by rw[hw0];exact below_lit w _ _)
 have HW:=Lib.hid hw0
 clear hw0
 go_enter Tryz.func25, Tryz.ntmps25
 go_wp2_with fail
 rw[←HW.out]
 obtain⟨e0,e1,e2,e3,e4,e5,e6,e7,e8,e9,e10,e11,e12,e13,e14⟩:=HX.out.cells
 go_wp2_with (first|(go_at_call 61;refine(pis9_any r.t _ H1.out _).mono ?_;rintro e w1 ⟨rfl,hb⟩;clear e0 e1 e2 e3 e4 e5 e6 e7 e8 e9 e10 e11 e12 e13 e14;have HX1:=Lib.hid (HX.out.next hb);have HBL1:=Lib.hid (HBL.out.trans (hb.mono HBL.out.size));clear hb;obtain⟨c0,c1,c2,c3,c4,c5,c6,c7,c8,c9,c10,c11,c12,c13,c14⟩:=HX1.out.cells)|(go_at_call 62;refine(pkey_any r.key _ H2.out _).mono ?_;rintro e w2 ⟨rfl,rfl⟩)|(go_at_call 63;refine(pversion_any r.ver _ H3.out _).mono ?_;rintro e w2 ⟨rfl,rfl⟩))
 refine(ptellsu_any r w1.heap.size _ HK.out _ (heap_alloc_new w1 _)).mono ?_
 rintro e w2 ⟨rfl,rfl⟩
 go_wp2_with fail
 have HF0:=Lib.hid (fbox_new w1 (rgL q) (List.map (fun x=>Value.int .i64 x) (rgL r)).toArray (by rw[HC.out]<;>rfl))
 have HB3:=Lib.hid (below_lit w1 (List.map (fun x=>Value.int .i64 x) (rgL r)).toArray 94)
 have hs3:=HB3.out.size
 refine(ptags_any q w1.heap.size n HN.out _ HF0.out).mono ?_
 rintro e w4 ⟨A4,k4,rfl,hz,hb⟩
 have HZ:=Lib.hid hz
 have HFB:=Lib.hid (HF0.out.next hb)
 have HBL4:=Lib.hid (HBL1.out.trans ((HB3.out.trans (hb.mono hs3)).mono HBL1.out.size))
 clear hb hz HF0 HB3 hs3 c0 c1 c2 c3 c4 c5 c6 c7 c8 c9 c10 c11 c12 c13 c14
 obtain⟨d0,d1,d2,d3,d4,d5,d6,d7,d8,d9,d10,d11,d12,d13,d14⟩:=HFB.out.cells
 go_wp2_with fail
 refine(ptells_any q.ver _ n HN.out HTS.out _ HF.out A4 k4 w4 HZ.out).mono ?_
 rintro e w5 ⟨rfl,rfl⟩
 go_wp2_with fail
 refine(pfldof_any q w1.heap.size _ n HN.out hn13 HTX.out A4 k4 w4 HFB.out HZ.out).mono ?_
 rintro e w6 ⟨A6,k6,rfl,ht,hb⟩
 rw[fldT_all]at ht
 have HT:=Lib.hid ht
 have HBE:=Lib.hid (HBL4.out.trans (hb.mono HBL4.out.size))
 clear ht hb d0 d1 d2 d3 d4 d5 d6 d7 d8 d9 d10 d11 d12 d13 d14
 go_wp2
 go_ret2
 exact⟨A6,k6,by rw[HLN.out];rfl,HT.out,HBE.out⟩
set_option maxRecDepth 100000 in
set_option maxHeartbeats 1600000 in
theorem fput_6n (r:Rg) (E:Nat) (p:List Tf) (hE:fdPut r=(E,p)) (w:World) (ha:argF r=true) (hk:r.t.kind≠4) (hf:fitX r.ver (tagsF 1 (numL (cutU r)))=true):Calls Tryz.prog 25 #[.agg #[.int .i64 r.t.ser, .int .i64 r.t.kind, .int .i64 r.t.frm, .int .i64 r.t.till, .int .i64 r.t.cls, .int .i64 r.t.card, .int .i64 r.t.seat, .int .i64 r.t.day, .int .i64 r.t.days, .int .i64 r.t.uses, .int .i64 r.t.epoch, .int .i64 r.key, .int .i64 r.left, .int .i64 r.inn, .int .i64 r.ver]] w fun e w'=> ∃A c,e= .returned (.tuple #[.slice A (p.length:Nat) c, .int .i64 (E:Int)])∧Ts w' w'.heap.size p A c∧Below w.heap.size w w':=by
 obtain⟨rfl,rfl⟩:E=0∧p=fldF 1 (numL (cutU r)):=by have:=hE;rw[fdPut_ok ha hf]at this;exact⟨(Prod.mk.inj this).1.symm,(Prod.mk.inj this).2.symm⟩
 clear hE
 have hmf: ∀(fn:Fn) (first cap:Array Value) (w:World),(Instr.makeFunc fn first cap).run Tryz.prog w= .ok (.func fn first cap) w:=fun _ _ _ _=>rfl
 obtain⟨h1,h2,h3,h4,h5,h6,h7⟩:=(argF_iff r).1 ha
 have H1:=Lib.hid h1
 have H2:=Lib.hid (show(decide (0≤r.key)&&decide (r.key≤99))=true by rw[decide_eq_true h2,decide_eq_true h3];rfl)
 have H3:=Lib.hid (show(decide (1≤r.ver)&&decide (r.ver≤3))=true by rw[decide_eq_true h6,decide_eq_true h7];rfl)
 have q3:(r.left==0)=true:=by rw[beq_iff_eq];exact h4
 have q4:(r.inn==0)=true:=by rw[beq_iff_eq];exact h5
 have HK:=Lib.hid (show(r.t.kind==4)=false by rw[beq_eq_false_iff_ne];exact hk)
 have HC:=Lib.hid (show cutU r= { r with t:= { r.t with uses:=0 } } by rw[cutU,if_neg hk])
 have HIN:=Lib.hid (num_in ha)
 obtain⟨q,hq⟩: ∃q,q=cutU r:=⟨_,rfl⟩
 rw[←hq]at hf HC HIN
 try rw[←hq]
 have hqv:q.ver=r.ver:=by rw[hq,cut_ver]
 rw[←hqv]at hf
 obtain⟨n,hn⟩: ∃n,n=(tagsF 1 (numL q)).length:=⟨_,rfl⟩
 have HN:=Lib.hid hn
 have HF:=Lib.hid hf
 have hn13:n≤13:=by rw[hn];exact Nat.le_trans (tagsF_len _ _) (by rw[numL_len];omega)
 have HTS:=Lib.hid (show∀t∈tagsF 1 (numL q),1≤t∧t≤13 from fun t ht=>by have:=tagsF_mem _ _ _ ht;rw[numL_len]at this;omega)
 have HTX:=Lib.hid (show∀t∈tagsF 1 (numL q),1≤t∧t≤13∧0≤(numL q).getD (t - 1) 0∧(numL q).getD (t - 1) 0<9223372036854775808 from fun t ht=>by have h1:=HTS.out t ht;have h2:=num_at HIN.out (t - 1);omega)
 have HLN:=Lib.hid (show(fldF 1 (numL q)).length=n by rw[fldF_len];exact hn.symm)
 clear h1 h2 h3 h4 h5 h6 h7 ha hk hf hq hqv hn
 obtain⟨w0,hw0⟩: ∃w0,w0=w.alloc (.cells #[.int .i64 r.t.ser, .int .i64 r.t.kind, .int .i64 r.t.frm, .int .i64 r.t.till, .int .i64 r.t.cls, .int .i64 r.t.card, .int .i64 r.t.seat, .int .i64 r.t.day, .int .i64 r.t.days, .int .i64 r.t.uses, .int .i64 r.t.epoch, .int .i64 r.key, .int .i64 r.left, .int .i64 r.inn, .int .i64 r.ver] 28):=⟨_,rfl⟩
 have HX:Hid (RBox w0 w.heap.size r):=Lib.hid (by rw[hw0];exact RBox.new w r)
 have HBL:Hid (Below w.heap.size w w0):=Lib.hid (by rw[hw0];exact below_lit w _ _)
 have HW:=Lib.hid hw0
 clear hw0
 go_enter Tryz.func25, Tryz.ntmps25
 go_wp2_with fail
 rw[←HW.out]
 obtain⟨e0,e1,e2,e3,e4,e5,e6,e7,e8,e9,e10,e11,e12,e13,e14⟩:=HX.out.cells
 go_wp2_with (first|(go_at_call 61;refine(pis9_any r.t _ H1.out _).mono ?_;rintro e w1 ⟨rfl,hb⟩;clear e0 e1 e2 e3 e4 e5 e6 e7 e8 e9 e10 e11 e12 e13 e14;have HX1:=Lib.hid (HX.out.next hb);have HBL1:=Lib.hid (HBL.out.trans (hb.mono HBL.out.size));clear hb;obtain⟨c0,c1,c2,c3,c4,c5,c6,c7,c8,c9,c10,c11,c12,c13,c14⟩:=HX1.out.cells)|(go_at_call 62;refine(pkey_any r.key _ H2.out _).mono ?_;rintro e w2 ⟨rfl,rfl⟩)|(go_at_call 63;refine(pversion_any r.ver _ H3.out _).mono ?_;rintro e w2 ⟨rfl,rfl⟩))
 refine(ptellsu_any r w1.heap.size _ HK.out _ (heap_alloc_new w1 _)).mono ?_
 rintro e w2 ⟨rfl,rfl⟩
 go_wp2_with fail
 have HF0:=Lib.hid (fbox_new w1 (rgL q) ((List.map (fun x=>Value.int .i64 x) (rgL r)).set 9 (.int .i64 0)).toArray (by rw[HC.out]<;>rfl))
 have HB3:=Lib.hid (below_lit w1 ((List.map (fun x=>Value.int .i64 x) (rgL r)).set 9 (.int .i64 0)).toArray 94)
 have hs3:=HB3.out.size
 refine(ptags_any q w1.heap.size n HN.out _ HF0.out).mono ?_
 rintro e w4 ⟨A4,k4,rfl,hz,hb⟩
 have HZ:=Lib.hid hz
 have HFB:=Lib.hid (HF0.out.next hb)
 have HBL4:=Lib.hid (HBL1.out.trans ((HB3.out.trans (hb.mono hs3)).mono HBL1.out.size))
 clear hb hz HF0 HB3 hs3 c0 c1 c2 c3 c4 c5 c6 c7 c8 c9 c10 c11 c12 c13 c14
 obtain⟨d0,d1,d2,d3,d4,d5,d6,d7,d8,d9,d10,d11,d12,d13,d14⟩:=HFB.out.cells
 go_wp2_with fail
 refine(ptells_any q.ver _ n HN.out HTS.out _ HF.out A4 k4 w4 HZ.out).mono ?_
 rintro e w5 ⟨rfl,rfl⟩
 go_wp2_with fail
 refine(pfldof_any q w1.heap.size _ n HN.out hn13 HTX.out A4 k4 w4 HFB.out HZ.out).mono ?_
 rintro e w6 ⟨A6,k6,rfl,ht,hb⟩
 rw[fldT_all]at ht
 have HT:=Lib.hid ht
 have HBE:=Lib.hid (HBL4.out.trans (hb.mono HBL4.out.size))
 clear ht hb d0 d1 d2 d3 d4 d5 d6 d7 d8 d9 d10 d11 d12 d13 d14
 go_wp2
 go_ret2
 exact⟨A6,k6,by rw[HLN.out];rfl,HT.out,HBE.out⟩
set_option maxRecDepth 100000 in
set_option maxHeartbeats 1600000 in
theorem fput_any (r:Rg) (E:Nat) (p:List Tf) (hE:fdPut r=(E,p)) (w:World):Calls Tryz.prog 25 #[.agg #[.int .i64 r.t.ser, .int .i64 r.t.kind, .int .i64 r.t.frm, .int .i64 r.t.till, .int .i64 r.t.cls, .int .i64 r.t.card, .int .i64 r.t.seat, .int .i64 r.t.day, .int .i64 r.t.days, .int .i64 r.t.uses, .int .i64 r.t.epoch, .int .i64 r.key, .int .i64 r.left, .int .i64 r.inn, .int .i64 r.ver]] w fun e w'=> ∃A c,e= .returned (.tuple #[.slice A (p.length:Nat) c, .int .i64 (E:Int)])∧Ts w' w'.heap.size p A c∧Below w.heap.size w w':=by
 cases h1:okT r.t with
 |false=>exact fput_p1 r E p hE w h1
 |true=>
  cases h2:(decide (0≤r.key)&&decide (r.key≤99))with
  |false=>exact fput_p2 r E p hE w h1 h2
  |true=>
   by_cases h3:r.left=0
   rotate_left
   ·exact fput_p3a r E p hE w h1 h2 h3
   by_cases h4:r.inn=0
   rotate_left
   ·exact fput_p3b r E p hE w h1 h2 h3 h4
   cases h5:(decide (1≤r.ver)&&decide (r.ver≤3))with
   |false=>exact fput_p4 r E p hE w h1 h2 h3 h4 h5
   |true=>
    have ha:argF r=true:=(argF_iff r).2 (by simp at h2 h5;exact⟨h1,h2.1,h2.2,h3,h4,h5.1,h5.2⟩)
    cases hf:fitX r.ver (tagsF 1 (numL (cutU r)))with
    |false=>
     by_cases hk:r.t.kind=4
     ·exact fput_5c r E p hE w ha hk hf
     ·exact fput_5n r E p hE w ha hk hf
    |true=>
     by_cases hk:r.t.kind=4
     ·exact fput_6c r E p hE w ha hk hf
     ·exact fput_6n r E p hE w ha hk hf
end Go.Proofs.YtcnglbliidjnfaaGreatDoor
end
section
namespace Go.Proofs.YtcnglbliidjnfaaGreatDoor
set_option linter.unusedVariables false
open Go.ChangeShapes Go.WideShapes Go.ChangeAt Go.RowKit
set_option maxRecDepth 100000 in
set_option maxHeartbeats 1600000 in
theorem pis_tlv (l:List Tf) (n:Nat) (hn:n=l.length) (b:Bool) (hb:isT 0 l=b) (A:Option Addr) (c:Nat) (w:World) (hA:Ts w w.heap.size l A c):
  Calls Tryz.prog 71 #[.slice A n c] w fun e w'=>e= .returned (.bool b)∧Below w.heap.size w w':=by
 have h1:n≤9223372036854775807:=by have h1:=hA.len;have h2:=hA.cap;omega
 have HN:=Lib.hid hn
 have HB:=Lib.hid hb
 have HA:=Lib.hid hA
 clear hn hb hA
 go_enter Tryz.func71, Tryz.ntmps71
 go_wp2
 go_loopw [3,8] (fun a i wr=> ∃k:Nat,k≤n∧i= .int .i64 k∧a= .int .i64 (lastT 0 (l.take k))∧isT 0 (l.take k)=true∧Below w.heap.size w wr) (fun _ i _=>n - (intOf i).toNat)
 case atStart=>exact⟨0,Nat.zero_le _,rfl,rfl,rfl,Below.refl _ _⟩
 case round=>
  obtain⟨k,hk,rfl,rfl,hall,hbel⟩:=hrel
  have HH:=Lib.hid hall
  have HBL:=Lib.hid hbel
  clear hall hbel
  by_cases hlt:k<n
  ·obtain⟨ad,S,cc,rfl,had,hk4⟩:=(HA.out.below HBL.out).rd k (by rw[←HN.out];exact hlt)
   have hc0:=hk4.c0
   have hc1:=hk4.c1
   have hcap:=hk4.bs.len
   have hcap2:=hk4.bs.cap
   have HKL:=Lib.hid (show k<l.length by rw[←HN.out];exact hlt)
   have b1:(0:Int)≤(k:Int):=by omega
   have b2:(k:Int)<(n:Int):=by omega
   have HBAD:=Lib.hid (fun h=>HB.out.symm.trans (isT_bad l k HKL.out h))
   have HOK:=Lib.hid (fun h=>isT_step l k HKL.out HH.out h)
   obtain⟨x,hx⟩: ∃x,x=l.getD k TF0:=⟨_,rfl⟩
   obtain⟨a,ha⟩: ∃a,a=lastT 0 (l.take k):=⟨_,rfl⟩
   rw[←hx]at hc0 hc1 hcap HBAD HOK
   rw[←ha]at HBAD HOK⊢
   have HB2:=Lib.hid (show Below w.heap.size w (wr.alloc (.cells #[.int .i64 x.tag, .slice S x.val.length cc] 77))from HBL.out.trans ((below_lit wr _ _).mono HBL.out.size))
   clear hx ha hk4
   by_cases q1:x.tag≤a
   ·have e:=HBAD.out (by rw[←Bool.not_eq_true,okTf_iff];omega)
    have HE:=Lib.hid e
    clear e
    go_wp2
    go_ret
    exact⟨by rw[HE.out];rfl,HB2.out⟩
   by_cases q2:255<x.tag
   ·have e:=HBAD.out (by rw[←Bool.not_eq_true,okTf_iff];omega)
    have HE:=Lib.hid e
    clear e
    go_wp2
    go_ret
    exact⟨by rw[HE.out];rfl,HB2.out⟩
   by_cases q3:255<x.val.length
   ·have e:=HBAD.out (by rw[←Bool.not_eq_true,okTf_iff];omega)
    have q4:(255:Int)<(x.val.length:Int):=by omega
    have HE:=Lib.hid e
    clear e
    go_wp2
    go_ret
    exact⟨by rw[HE.out];rfl,HB2.out⟩
   have q4: ¬(255:Int)<(x.val.length:Int):=by omega
   have HO:=Lib.hid (HOK.out ((okTf_iff _ _ _).2 ⟨by omega,by omega,by omega⟩))
   go_wp2
   go_roundw
   case rel=>exact⟨k+1,by omega,by go_num,by rw[HO.out.2],HO.out.1,HB2.out⟩
   case measure=>simp[intOf];omega
  ·have e:k=n:=by omega
   have e2:l.take k=l:=List.take_of_length_le (by rw[←HN.out];omega)
   have HE:=Lib.hid (show b=true by rw[←HB.out, ←e2];exact HH.out)
   clear e2
   go_wp2
   go_ret
   exact⟨by rw[HE.out];rfl,HBL.out⟩
end Go.Proofs.YtcnglbliidjnfaaGreatDoor
end
