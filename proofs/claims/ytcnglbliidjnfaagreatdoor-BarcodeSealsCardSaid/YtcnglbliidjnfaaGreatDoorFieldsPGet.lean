import Derived.Test.YtcnglbliidjnfaaGreatDoorFortyPPut
import Derived.Test.YtcnglbliidjnfaaGreatDoorTlvNum
import Derived.Test.YtcnglbliidjnfaaGreatDoorRgBox
import Derived.Test.YtcnglbliidjnfaaGreatDoorTicketPRight3
import Derived.Test.YtcnglbliidjnfaaGreatDoorFieldsPPut
import Derived.Laws.EntriesVeiled
import Derived.OwnWalk
import Derived.BigRegion
import Derived.RegionTactic
import Derived.Deep.RegionWith
import Derived.BigQuiet
import Derived.Deep.QuietTactic
namespace Go.Proofs.YtcnglbliidjnfaaGreatDoor
set_option linter.unusedVariables false
open Go.ChangeShapes Go.WideShapes Go.ChangeAt Go.RowKit
set_option maxRecDepth 100000 in
set_option maxHeartbeats 1600000 in
theorem fget_p1 (l:List Tf) (n:Nat) (hn:n=l.length) (E:Nat) (r:Rg) (hE:fdGet l=(E,r)) (A:Option Addr) (c:Nat) (w:World) (hA:Ts w w.heap.size l A c) (hi:isT 0 l=false):Calls Tryz.prog 38 #[.slice A n c] w fun e w'=>e= .returned (.tuple #[.agg #[.int .i64 r.t.ser, .int .i64 r.t.kind, .int .i64 r.t.frm, .int .i64 r.t.till, .int .i64 r.t.cls, .int .i64 r.t.card, .int .i64 r.t.seat, .int .i64 r.t.day, .int .i64 r.t.days, .int .i64 r.t.uses, .int .i64 r.t.epoch, .int .i64 r.key, .int .i64 r.left, .int .i64 r.inn, .int .i64 r.ver], .int .i64 (E:Int)])∧Below w.heap.size w w':=by
 obtain⟨rfl,rfl⟩:E=1∧r=zeroR:=by have:=hE;rw[fdGet,if_pos hi]at this;exact⟨(Prod.mk.inj this).1.symm,(Prod.mk.inj this).2.symm⟩
 clear hE
 have HN:=Lib.hid hn
 have HA:=Lib.hid hA
 have HI:=Lib.hid hi
 clear hn hA hi
 have HR0:=Lib.hid (RBox.new w zeroR)
 have hl0:=below_lit w #[.int .i64 0, .int .i64 0, .int .i64 0, .int .i64 0, .int .i64 0, .int .i64 0, .int .i64 0, .int .i64 0, .int .i64 0, .int .i64 0, .int .i64 0, .int .i64 0, .int .i64 0, .int .i64 0, .int .i64 0] 28
 have HB0:=Lib.hid hl0
 have HA0:=Lib.hid (HA.out.next hl0)
 clear hl0
 go_enter Tryz.func38, Tryz.ntmps38
 go_wp2_with fail
 refine(pis_tlv l n HN.out false HI.out A c _ HA0.out).mono ?_
 rintro e w1 ⟨rfl,hb⟩
 have HR1:=Lib.hid (HR0.out.next hb)
 have HB1:=Lib.hid (HB0.out.trans (hb.mono HB0.out.size))
 have HA1:=Lib.hid (HA0.out.next hb)
 clear hb HR0 HB0 HA0
 go_wp2_with ((with_reducible refine at_store 2 ?_);refine wpList_store_named (o:=⟨none, .store 28 (.tmp 2) (.tmp 9),_,_,_,_⟩) rfl 28 (.tmp 2) (.tmp 9) rfl w.heap.size #[.int .i64 0, .int .i64 0, .int .i64 0, .int .i64 0, .int .i64 0, .int .i64 0, .int .i64 0, .int .i64 0, .int .i64 0, .int .i64 0, .int .i64 0, .int .i64 0, .int .i64 0, .int .i64 0, .int .i64 0] rfl rfl 28 #[.int .i64 0, .int .i64 0, .int .i64 0, .int .i64 0, .int .i64 0, .int .i64 0, .int .i64 0, .int .i64 0, .int .i64 0, .int .i64 0, .int .i64 0, .int .i64 0, .int .i64 0, .int .i64 0, .int .i64 0] HR1.out infoRd rfl (rg_one _ _ _ _ _ _ _ _ _ _ _ _ _ _ _) ?_)
 intro w9 hw9
 go_wp2
 refine bodyPost_ret (results_row_tmp' Tryz.results38 _ w9 w.heap.size 28 #[.int .i64 0, .int .i64 0, .int .i64 0, .int .i64 0, .int .i64 0, .int .i64 0, .int .i64 0, .int .i64 0, .int .i64 0, .int .i64 0, .int .i64 0, .int .i64 0, .int .i64 0, .int .i64 0, .int .i64 0] (0,0) _ rfl (by rw[hw9.out];exact setRow_heap _ _ _ _ _ _ HR1.out) Tryz.underlying28 rfl infoRd) rfl ⟨rfl, ?_⟩
 rw[hw9.out]
 exact below_setRow HB1.out (Nat.le_refl _) _
set_option maxRecDepth 100000 in
set_option maxHeartbeats 1600000 in
theorem fget_p2 (l:List Tf) (n:Nat) (hn:n=l.length) (E:Nat) (r:Rg) (hE:fdGet l=(E,r)) (A:Option Addr) (c:Nat) (w:World) (hA:Ts w w.heap.size l A c) (hi:isT 0 l=true) (a:List Int) (F:Nat) (hf:fdFill z13 l=(F,a)) (h0:F≠0):Calls Tryz.prog 38 #[.slice A n c] w fun e w'=>e= .returned (.tuple #[.agg #[.int .i64 r.t.ser, .int .i64 r.t.kind, .int .i64 r.t.frm, .int .i64 r.t.till, .int .i64 r.t.cls, .int .i64 r.t.card, .int .i64 r.t.seat, .int .i64 r.t.day, .int .i64 r.t.days, .int .i64 r.t.uses, .int .i64 r.t.epoch, .int .i64 r.key, .int .i64 r.left, .int .i64 r.inn, .int .i64 r.ver], .int .i64 (E:Int)])∧Below w.heap.size w w':=by
 obtain⟨rfl,rfl⟩:E=F∧r=zeroR:=by have:=hE;rw[fdGet,if_neg (by rw[hi];decide),hf,if_pos h0]at this;exact⟨(Prod.mk.inj this).1.symm,(Prod.mk.inj this).2.symm⟩
 clear hE
 have HFILL:=Lib.hid hf
 have s1:((E:Int)==0)=false:=by rw[beq_eq_false_iff_ne];omega
 have s2:((E:Int) !=0)=true:=by rw[bne_iff_ne];omega
 have s3:(E==0)=false:=by rw[beq_eq_false_iff_ne];exact h0
 have s4:(E !=0)=true:=by rw[bne_iff_ne];exact h0
 clear hf h0
 have hmf: ∀(fn:Fn) (first cap:Array Value) (w:World),(Instr.makeFunc fn first cap).run Tryz.prog w= .ok (.func fn first cap) w:=fun _ _ _ _=>rfl
 have HN:=Lib.hid hn
 have HA:=Lib.hid hA
 have HI:=Lib.hid hi
 clear hn hA hi
 have HR0:=Lib.hid (RBox.new w zeroR)
 have hl0:=below_lit w #[.int .i64 0, .int .i64 0, .int .i64 0, .int .i64 0, .int .i64 0, .int .i64 0, .int .i64 0, .int .i64 0, .int .i64 0, .int .i64 0, .int .i64 0, .int .i64 0, .int .i64 0, .int .i64 0, .int .i64 0] 28
 have HB0:=Lib.hid hl0
 have HA0:=Lib.hid (HA.out.next hl0)
 clear hl0
 go_enter Tryz.func38, Tryz.ntmps38
 go_wp2_with fail
 refine(pis_tlv l n HN.out true HI.out A c _ HA0.out).mono ?_
 rintro e w1 ⟨rfl,hb⟩
 have HR1:=Lib.hid (HR0.out.next hb)
 have HB1:=Lib.hid (HB0.out.trans (hb.mono HB0.out.size))
 have HA1:=Lib.hid (HA0.out.next hb)
 clear hb HR0 HB0 HA0
 go_wp2_with fail
 have HZ0:=Lib.hid (fbox_new w1 (rgL (rdL z13)) #[.int .i64 0, .int .i64 0, .int .i64 0, .int .i64 0, .int .i64 0, .int .i64 0, .int .i64 0, .int .i64 0, .int .i64 0, .int .i64 0, .int .i64 0, .int .i64 0, .int .i64 0, .int .i64 0, .int .i64 0] rfl)
 have hl1:=below_lit w1 #[.int .i64 0, .int .i64 0, .int .i64 0, .int .i64 0, .int .i64 0, .int .i64 0, .int .i64 0, .int .i64 0, .int .i64 0, .int .i64 0, .int .i64 0, .int .i64 0, .int .i64 0, .int .i64 0, .int .i64 0] 94
 obtain⟨X,hX⟩: ∃X,X=w1.heap.size:=⟨_,rfl⟩
 have HXW:=Lib.hid (show w.heap.size<X by rw[hX];exact HR1.out.lt)
 have HR2:=Lib.hid (HR1.out.next hl1)
 have HB2:=Lib.hid (HB1.out.trans (hl1.mono HB1.out.size))
 have HA2:=Lib.hid (HA1.out.below hl1)
 rw[←hX]at HZ0 HA2
 rw[←hX]
 clear hX hl1 HR1 HB1 HA1
 refine(pfill_any l n HN.out HI.out z13 rfl _ _ HFILL.out X A c _ HZ0.out HA2.out).mono ?_
 rintro e w3 ⟨rfl,hbx,hg⟩
 have HF:=Lib.hid hbx
 have HR3:=Lib.hid (show RBox w3 w.heap.size zeroR from(hg.block _ HR2.out.lt (by have:=HXW.out;simp;omega)).trans HR2.out)
 have HB3:=Lib.hid (HB2.out.trans (below_grownR hg (Nat.le_of_lt HXW.out) HB2.out.size))
 clear hbx hg HZ0 HR2 HB2 HA2
 go_wp2_with ((with_reducible refine at_store 2 ?_);refine wpList_store_named (o:=⟨none, .store 28 (.tmp 2) (.tmp 15),_,_,_,_⟩) rfl 28 (.tmp 2) (.tmp 15) rfl w.heap.size #[.int .i64 0, .int .i64 0, .int .i64 0, .int .i64 0, .int .i64 0, .int .i64 0, .int .i64 0, .int .i64 0, .int .i64 0, .int .i64 0, .int .i64 0, .int .i64 0, .int .i64 0, .int .i64 0, .int .i64 0] rfl rfl 28 #[.int .i64 0, .int .i64 0, .int .i64 0, .int .i64 0, .int .i64 0, .int .i64 0, .int .i64 0, .int .i64 0, .int .i64 0, .int .i64 0, .int .i64 0, .int .i64 0, .int .i64 0, .int .i64 0, .int .i64 0] HR3.out infoRd rfl (rg_one _ _ _ _ _ _ _ _ _ _ _ _ _ _ _) ?_)
 intro w9 hw9
 go_wp2
 refine bodyPost_ret (results_row_tmp' Tryz.results38 _ w9 w.heap.size 28 #[.int .i64 0, .int .i64 0, .int .i64 0, .int .i64 0, .int .i64 0, .int .i64 0, .int .i64 0, .int .i64 0, .int .i64 0, .int .i64 0, .int .i64 0, .int .i64 0, .int .i64 0, .int .i64 0, .int .i64 0] (0,0) _ rfl (by rw[hw9.out];exact setRow_heap _ _ _ _ _ _ HR3.out) Tryz.underlying28 rfl infoRd) rfl ⟨rfl, ?_⟩
 rw[hw9.out]
 exact below_setRow HB3.out (Nat.le_refl _) _
set_option maxRecDepth 100000 in
set_option maxHeartbeats 1600000 in
theorem fget_p3 (l:List Tf) (n:Nat) (hn:n=l.length) (E:Nat) (r:Rg) (hE:fdGet l=(E,r)) (A:Option Addr) (c:Nat) (w:World) (hA:Ts w w.heap.size l A c) (hi:isT 0 l=true) (q:Rg) (hf:fdFill z13 l=(0,numL q)) (hq:rdL (numL q)=q) (hv:(decide (1≤q.ver)&&decide (q.ver≤3))=false):Calls Tryz.prog 38 #[.slice A n c] w fun e w'=>e= .returned (.tuple #[.agg #[.int .i64 r.t.ser, .int .i64 r.t.kind, .int .i64 r.t.frm, .int .i64 r.t.till, .int .i64 r.t.cls, .int .i64 r.t.card, .int .i64 r.t.seat, .int .i64 r.t.day, .int .i64 r.t.days, .int .i64 r.t.uses, .int .i64 r.t.epoch, .int .i64 r.key, .int .i64 r.left, .int .i64 r.inn, .int .i64 r.ver], .int .i64 (E:Int)])∧Below w.heap.size w w':=by
 obtain⟨rfl,rfl⟩:E=12∧r=zeroR:=by have:=hE;rw[fdGet,if_neg (by rw[hi];decide),hf,if_neg (by simp),fdTold,hq]at this;dsimp only at this;rw[if_pos (verX_no (by rw[hq];exact hv))]at this;exact⟨(Prod.mk.inj this).1.symm,(Prod.mk.inj this).2.symm⟩
 clear hE
 have HFILL:=Lib.hid hf
 have HQ:=Lib.hid hq
 clear hf hq
 have HV:=Lib.hid hv
 clear hv
 have hmf: ∀(fn:Fn) (first cap:Array Value) (w:World),(Instr.makeFunc fn first cap).run Tryz.prog w= .ok (.func fn first cap) w:=fun _ _ _ _=>rfl
 have HN:=Lib.hid hn
 have HA:=Lib.hid hA
 have HI:=Lib.hid hi
 clear hn hA hi
 have HR0:=Lib.hid (RBox.new w zeroR)
 have hl0:=below_lit w #[.int .i64 0, .int .i64 0, .int .i64 0, .int .i64 0, .int .i64 0, .int .i64 0, .int .i64 0, .int .i64 0, .int .i64 0, .int .i64 0, .int .i64 0, .int .i64 0, .int .i64 0, .int .i64 0, .int .i64 0] 28
 have HB0:=Lib.hid hl0
 have HA0:=Lib.hid (HA.out.next hl0)
 clear hl0
 go_enter Tryz.func38, Tryz.ntmps38
 go_wp2_with fail
 refine(pis_tlv l n HN.out true HI.out A c _ HA0.out).mono ?_
 rintro e w1 ⟨rfl,hb⟩
 have HR1:=Lib.hid (HR0.out.next hb)
 have HB1:=Lib.hid (HB0.out.trans (hb.mono HB0.out.size))
 have HA1:=Lib.hid (HA0.out.next hb)
 clear hb HR0 HB0 HA0
 go_wp2_with fail
 have HZ0:=Lib.hid (fbox_new w1 (rgL (rdL z13)) #[.int .i64 0, .int .i64 0, .int .i64 0, .int .i64 0, .int .i64 0, .int .i64 0, .int .i64 0, .int .i64 0, .int .i64 0, .int .i64 0, .int .i64 0, .int .i64 0, .int .i64 0, .int .i64 0, .int .i64 0] rfl)
 have hl1:=below_lit w1 #[.int .i64 0, .int .i64 0, .int .i64 0, .int .i64 0, .int .i64 0, .int .i64 0, .int .i64 0, .int .i64 0, .int .i64 0, .int .i64 0, .int .i64 0, .int .i64 0, .int .i64 0, .int .i64 0, .int .i64 0] 94
 obtain⟨X,hX⟩: ∃X,X=w1.heap.size:=⟨_,rfl⟩
 have HXW:=Lib.hid (show w.heap.size<X by rw[hX];exact HR1.out.lt)
 have HR2:=Lib.hid (HR1.out.next hl1)
 have HB2:=Lib.hid (HB1.out.trans (hl1.mono HB1.out.size))
 have HA2:=Lib.hid (HA1.out.below hl1)
 rw[←hX]at HZ0 HA2
 rw[←hX]
 clear hX hl1 HR1 HB1 HA1
 refine(pfill_any l n HN.out HI.out z13 rfl _ _ HFILL.out X A c _ HZ0.out HA2.out).mono ?_
 rintro e w3 ⟨rfl,hbx,hg⟩
 have HF:=Lib.hid hbx
 have HR3:=Lib.hid (show RBox w3 w.heap.size zeroR from(hg.block _ HR2.out.lt (by have:=HXW.out;simp;omega)).trans HR2.out)
 have HB3:=Lib.hid (HB2.out.trans (below_grownR hg (Nat.le_of_lt HXW.out) HB2.out.size))
 clear hbx hg HZ0 HR2 HB2 HA2
 rw[HQ.out]at HF
 obtain⟨d0,d1,d2,d3,d4,d5,d6,d7,d8,d9,d10,d11,d12,d13,d14⟩:=HF.out.cells
 go_wp2_with fail
 go_quiet (first|(go_at_call 63;refine Calls.quiet_of_same ((pversion_any q.ver _ HV.out _).mono fun _ _ h=>⟨h.1,h.2.symm⟩)))
 go_wp2_with ((with_reducible refine at_store 2 ?_);refine wpList_store_named (o:=⟨none, .store 28 (.tmp 2) (.tmp 29),_,_,_,_⟩) rfl 28 (.tmp 2) (.tmp 29) rfl w.heap.size #[.int .i64 0, .int .i64 0, .int .i64 0, .int .i64 0, .int .i64 0, .int .i64 0, .int .i64 0, .int .i64 0, .int .i64 0, .int .i64 0, .int .i64 0, .int .i64 0, .int .i64 0, .int .i64 0, .int .i64 0] rfl rfl 28 #[.int .i64 0, .int .i64 0, .int .i64 0, .int .i64 0, .int .i64 0, .int .i64 0, .int .i64 0, .int .i64 0, .int .i64 0, .int .i64 0, .int .i64 0, .int .i64 0, .int .i64 0, .int .i64 0, .int .i64 0] HR3.out infoRd rfl (rg_one _ _ _ _ _ _ _ _ _ _ _ _ _ _ _) ?_)
 intro w9 hw9
 go_wp2
 refine bodyPost_ret (results_row_tmp' Tryz.results38 _ w9 w.heap.size 28 #[.int .i64 0, .int .i64 0, .int .i64 0, .int .i64 0, .int .i64 0, .int .i64 0, .int .i64 0, .int .i64 0, .int .i64 0, .int .i64 0, .int .i64 0, .int .i64 0, .int .i64 0, .int .i64 0, .int .i64 0] (0,0) _ rfl (by rw[hw9.out];exact setRow_heap _ _ _ _ _ _ HR3.out) Tryz.underlying28 rfl infoRd) rfl ⟨rfl, ?_⟩
 rw[hw9.out]
 exact below_setRow (below_drewN HB3.out _) (Nat.le_refl _) _
set_option maxRecDepth 100000 in
set_option maxHeartbeats 1600000 in
theorem fget_p4 (l:List Tf) (n:Nat) (hn:n=l.length) (E:Nat) (r:Rg) (hE:fdGet l=(E,r)) (A:Option Addr) (c:Nat) (w:World) (hA:Ts w w.heap.size l A c) (hi:isT 0 l=true) (q:Rg) (hf:fdFill z13 l=(0,numL q)) (hq:rdL (numL q)=q) (hv:(decide (1≤q.ver)&&decide (q.ver≤3))=true) (hft:fitX q.ver (tagsF 1 (numL q))=false):Calls Tryz.prog 38 #[.slice A n c] w fun e w'=>e= .returned (.tuple #[.agg #[.int .i64 r.t.ser, .int .i64 r.t.kind, .int .i64 r.t.frm, .int .i64 r.t.till, .int .i64 r.t.cls, .int .i64 r.t.card, .int .i64 r.t.seat, .int .i64 r.t.day, .int .i64 r.t.days, .int .i64 r.t.uses, .int .i64 r.t.epoch, .int .i64 r.key, .int .i64 r.left, .int .i64 r.inn, .int .i64 r.ver], .int .i64 (E:Int)])∧Below w.heap.size w w':=by
 obtain⟨rfl,rfl⟩:E=12∧r=zeroR:=by have:=hE;rw[fdGet,if_neg (by rw[hi];decide),hf,if_neg (by simp),fdTold,hq]at this;dsimp only at this;rw[if_pos (verX_fit (by rw[hq];exact hft))]at this;exact⟨(Prod.mk.inj this).1.symm,(Prod.mk.inj this).2.symm⟩
 clear hE
 have HFILL:=Lib.hid hf
 have HQ:=Lib.hid hq
 clear hf hq
 obtain⟨m,hm⟩: ∃m,m=(tagsF 1 (numL q)).length:=⟨_,rfl⟩
 have HM:=Lib.hid hm
 have HTS:=Lib.hid (show∀t∈tagsF 1 (numL q),1≤t∧t≤13 from fun t ht=>by have:=tagsF_mem _ _ _ ht;rw[numL_len]at this;omega)
 have HV:=Lib.hid hv
 have HFT:=Lib.hid hft
 clear hm hv hft
 have hmf: ∀(fn:Fn) (first cap:Array Value) (w:World),(Instr.makeFunc fn first cap).run Tryz.prog w= .ok (.func fn first cap) w:=fun _ _ _ _=>rfl
 have HN:=Lib.hid hn
 have HA:=Lib.hid hA
 have HI:=Lib.hid hi
 clear hn hA hi
 have HR0:=Lib.hid (RBox.new w zeroR)
 have hl0:=below_lit w #[.int .i64 0, .int .i64 0, .int .i64 0, .int .i64 0, .int .i64 0, .int .i64 0, .int .i64 0, .int .i64 0, .int .i64 0, .int .i64 0, .int .i64 0, .int .i64 0, .int .i64 0, .int .i64 0, .int .i64 0] 28
 have HB0:=Lib.hid hl0
 have HA0:=Lib.hid (HA.out.next hl0)
 clear hl0
 go_enter Tryz.func38, Tryz.ntmps38
 go_wp2_with fail
 refine(pis_tlv l n HN.out true HI.out A c _ HA0.out).mono ?_
 rintro e w1 ⟨rfl,hb⟩
 have HR1:=Lib.hid (HR0.out.next hb)
 have HB1:=Lib.hid (HB0.out.trans (hb.mono HB0.out.size))
 have HA1:=Lib.hid (HA0.out.next hb)
 clear hb HR0 HB0 HA0
 go_wp2_with fail
 have HZ0:=Lib.hid (fbox_new w1 (rgL (rdL z13)) #[.int .i64 0, .int .i64 0, .int .i64 0, .int .i64 0, .int .i64 0, .int .i64 0, .int .i64 0, .int .i64 0, .int .i64 0, .int .i64 0, .int .i64 0, .int .i64 0, .int .i64 0, .int .i64 0, .int .i64 0] rfl)
 have hl1:=below_lit w1 #[.int .i64 0, .int .i64 0, .int .i64 0, .int .i64 0, .int .i64 0, .int .i64 0, .int .i64 0, .int .i64 0, .int .i64 0, .int .i64 0, .int .i64 0, .int .i64 0, .int .i64 0, .int .i64 0, .int .i64 0] 94
 obtain⟨X,hX⟩: ∃X,X=w1.heap.size:=⟨_,rfl⟩
 have HXW:=Lib.hid (show w.heap.size<X by rw[hX];exact HR1.out.lt)
 have HR2:=Lib.hid (HR1.out.next hl1)
 have HB2:=Lib.hid (HB1.out.trans (hl1.mono HB1.out.size))
 have HA2:=Lib.hid (HA1.out.below hl1)
 rw[←hX]at HZ0 HA2
 rw[←hX]
 clear hX hl1 HR1 HB1 HA1
 refine(pfill_any l n HN.out HI.out z13 rfl _ _ HFILL.out X A c _ HZ0.out HA2.out).mono ?_
 rintro e w3 ⟨rfl,hbx,hg⟩
 have HF:=Lib.hid hbx
 have HR3:=Lib.hid (show RBox w3 w.heap.size zeroR from(hg.block _ HR2.out.lt (by have:=HXW.out;simp;omega)).trans HR2.out)
 have HB3:=Lib.hid (HB2.out.trans (below_grownR hg (Nat.le_of_lt HXW.out) HB2.out.size))
 clear hbx hg HZ0 HR2 HB2 HA2
 rw[HQ.out]at HF
 have HFD:FBox w3.drew X (rgL q):=HF.out
 obtain⟨d0,d1,d2,d3,d4,d5,d6,d7,d8,d9,d10,d11,d12,d13,d14⟩:=HFD.cells
 have HBD:Below w.heap.size w w3.drew:=HB3.out.drew
 have HRD:RBox w3.drew w.heap.size zeroR:=HR3.out
 go_wp2_with fail
 go_region_with (first|(go_at_call 63;refine(pversion_any q.ver _ HV.out _).mono ?_;rintro e w5 ⟨rfl,rfl⟩)|(go_at_call 65;refine(ptags_any q X m HM.out _ HFD).mono ?_;rintro e w6 ⟨A6,k6,rfl,hz,hb⟩;have HZ6:=Lib.hid hz;have HF6:=HFD.next hb;have HB6:=Lib.hid (HBD.trans (hb.mono HBD.size));have HR6:=Lib.hid (HRD.next hb);obtain⟨f0,f1,f2,f3,f4,f5,f6,f7,f8,f9,f10,f11,f12,f13,f14⟩:=HF6.cells;clear hz hb)|(go_at_call 67;refine(ptells_any q.ver _ m HM.out HTS.out _ HFT.out A6 k6 _ HZ6.out).mono ?_;rintro e w7 ⟨rfl,rfl⟩))
 all_goals (
  go_wp2_with ((with_reducible refine at_store 2 ?_);refine wpList_store_named (o:=⟨none, .store 28 (.tmp 2) (.tmp 29),_,_,_,_⟩) rfl 28 (.tmp 2) (.tmp 29) rfl w.heap.size #[.int .i64 0, .int .i64 0, .int .i64 0, .int .i64 0, .int .i64 0, .int .i64 0, .int .i64 0, .int .i64 0, .int .i64 0, .int .i64 0, .int .i64 0, .int .i64 0, .int .i64 0, .int .i64 0, .int .i64 0] rfl rfl 28 #[.int .i64 0, .int .i64 0, .int .i64 0, .int .i64 0, .int .i64 0, .int .i64 0, .int .i64 0, .int .i64 0, .int .i64 0, .int .i64 0, .int .i64 0, .int .i64 0, .int .i64 0, .int .i64 0, .int .i64 0] HR6.out infoRd rfl (rg_one _ _ _ _ _ _ _ _ _ _ _ _ _ _ _) ?_)
  intro w9 hw9
  go_wp2
  refine bodyPost_ret (results_row_tmp' Tryz.results38 _ w9 w.heap.size 28 #[.int .i64 0, .int .i64 0, .int .i64 0, .int .i64 0, .int .i64 0, .int .i64 0, .int .i64 0, .int .i64 0, .int .i64 0, .int .i64 0, .int .i64 0, .int .i64 0, .int .i64 0, .int .i64 0, .int .i64 0] (0,0) _ rfl (by rw[hw9.out];exact setRow_heap _ _ _ _ _ _ HR6.out) Tryz.underlying28 rfl infoRd) rfl ⟨rfl, ?_⟩
  rw[hw9.out]
  exact below_setRow HB6.out (Nat.le_refl _) _)
set_option maxRecDepth 100000 in
set_option maxHeartbeats 1600000 in
theorem fget_p5 (l:List Tf) (n:Nat) (hn:n=l.length) (E:Nat) (r:Rg) (hE:fdGet l=(E,r)) (A:Option Addr) (c:Nat) (w:World) (hA:Ts w w.heap.size l A c) (hi:isT 0 l=true) (q:Rg) (hf:fdFill z13 l=(0,numL q)) (hq:rdL (numL q)=q) (hv:(decide (1≤q.ver)&&decide (q.ver≤3))=true) (hft:fitX q.ver (tagsF 1 (numL q))=true) (hu: ¬(q.t.kind=4∨q.t.uses=0)):Calls Tryz.prog 38 #[.slice A n c] w fun e w'=>e= .returned (.tuple #[.agg #[.int .i64 r.t.ser, .int .i64 r.t.kind, .int .i64 r.t.frm, .int .i64 r.t.till, .int .i64 r.t.cls, .int .i64 r.t.card, .int .i64 r.t.seat, .int .i64 r.t.day, .int .i64 r.t.days, .int .i64 r.t.uses, .int .i64 r.t.epoch, .int .i64 r.key, .int .i64 r.left, .int .i64 r.inn, .int .i64 r.ver], .int .i64 (E:Int)])∧Below w.heap.size w w':=by
 obtain⟨rfl,rfl⟩:E=9∧r=zeroR:=by have:=hE;rw[fdGet,if_neg (by rw[hi];decide),hf,if_neg (by simp),fdTold,hq]at this;dsimp only at this;rw[if_neg (by rw[verX_ok (by rw[hq];exact hv) (by rw[hq];exact hft)];decide)]at this;rw[if_pos (right_no hu)]at this;exact⟨(Prod.mk.inj this).1.symm,(Prod.mk.inj this).2.symm⟩
 clear hE
 have HSE:=Lib.hid (settle_no hu)
 clear hu
 have HFILL:=Lib.hid hf
 have HQ:=Lib.hid hq
 clear hf hq
 obtain⟨m,hm⟩: ∃m,m=(tagsF 1 (numL q)).length:=⟨_,rfl⟩
 have HM:=Lib.hid hm
 have HTS:=Lib.hid (show∀t∈tagsF 1 (numL q),1≤t∧t≤13 from fun t ht=>by have:=tagsF_mem _ _ _ ht;rw[numL_len]at this;omega)
 have HV:=Lib.hid hv
 have HFT:=Lib.hid hft
 clear hm hv hft
 have hmf: ∀(fn:Fn) (first cap:Array Value) (w:World),(Instr.makeFunc fn first cap).run Tryz.prog w= .ok (.func fn first cap) w:=fun _ _ _ _=>rfl
 have HN:=Lib.hid hn
 have HA:=Lib.hid hA
 have HI:=Lib.hid hi
 clear hn hA hi
 have HR0:=Lib.hid (RBox.new w zeroR)
 have hl0:=below_lit w #[.int .i64 0, .int .i64 0, .int .i64 0, .int .i64 0, .int .i64 0, .int .i64 0, .int .i64 0, .int .i64 0, .int .i64 0, .int .i64 0, .int .i64 0, .int .i64 0, .int .i64 0, .int .i64 0, .int .i64 0] 28
 have HB0:=Lib.hid hl0
 have HA0:=Lib.hid (HA.out.next hl0)
 clear hl0
 go_enter Tryz.func38, Tryz.ntmps38
 go_wp2_with fail
 refine(pis_tlv l n HN.out true HI.out A c _ HA0.out).mono ?_
 rintro e w1 ⟨rfl,hb⟩
 have HR1:=Lib.hid (HR0.out.next hb)
 have HB1:=Lib.hid (HB0.out.trans (hb.mono HB0.out.size))
 have HA1:=Lib.hid (HA0.out.next hb)
 clear hb HR0 HB0 HA0
 go_wp2_with fail
 have HZ0:=Lib.hid (fbox_new w1 (rgL (rdL z13)) #[.int .i64 0, .int .i64 0, .int .i64 0, .int .i64 0, .int .i64 0, .int .i64 0, .int .i64 0, .int .i64 0, .int .i64 0, .int .i64 0, .int .i64 0, .int .i64 0, .int .i64 0, .int .i64 0, .int .i64 0] rfl)
 have hl1:=below_lit w1 #[.int .i64 0, .int .i64 0, .int .i64 0, .int .i64 0, .int .i64 0, .int .i64 0, .int .i64 0, .int .i64 0, .int .i64 0, .int .i64 0, .int .i64 0, .int .i64 0, .int .i64 0, .int .i64 0, .int .i64 0] 94
 obtain⟨X,hX⟩: ∃X,X=w1.heap.size:=⟨_,rfl⟩
 have HXW:=Lib.hid (show w.heap.size<X by rw[hX];exact HR1.out.lt)
 have HR2:=Lib.hid (HR1.out.next hl1)
 have HB2:=Lib.hid (HB1.out.trans (hl1.mono HB1.out.size))
 have HA2:=Lib.hid (HA1.out.below hl1)
 rw[←hX]at HZ0 HA2
 rw[←hX]
 clear hX hl1 HR1 HB1 HA1
 refine(pfill_any l n HN.out HI.out z13 rfl _ _ HFILL.out X A c _ HZ0.out HA2.out).mono ?_
 rintro e w3 ⟨rfl,hbx,hg⟩
 have HF:=Lib.hid hbx
 have HR3:=Lib.hid (show RBox w3 w.heap.size zeroR from(hg.block _ HR2.out.lt (by have:=HXW.out;simp;omega)).trans HR2.out)
 have HB3:=Lib.hid (HB2.out.trans (below_grownR hg (Nat.le_of_lt HXW.out) HB2.out.size))
 clear hbx hg HZ0 HR2 HB2 HA2
 rw[HQ.out]at HF
 have HFD:FBox w3.drew X (rgL q):=HF.out
 obtain⟨d0,d1,d2,d3,d4,d5,d6,d7,d8,d9,d10,d11,d12,d13,d14⟩:=HFD.cells
 have HBD:Below w.heap.size w w3.drew:=HB3.out.drew
 have HRD:RBox w3.drew w.heap.size zeroR:=HR3.out
 go_wp2_with fail
 go_region_with (first|(go_at_call 63;refine(pversion_any q.ver _ HV.out _).mono ?_;rintro e w5 ⟨rfl,rfl⟩)|(go_at_call 65;refine(ptags_any q X m HM.out _ HFD).mono ?_;rintro e w6 ⟨A6,k6,rfl,hz,hb⟩;have HZ6:=Lib.hid hz;have HF6:=HFD.next hb;have HB6:=Lib.hid (HBD.trans (hb.mono HBD.size));have HR6:=Lib.hid (HRD.next hb);obtain⟨f0,f1,f2,f3,f4,f5,f6,f7,f8,f9,f10,f11,f12,f13,f14⟩:=HF6.cells;clear hz hb)|(go_at_call 67;refine(ptells_any q.ver _ m HM.out HTS.out _ HFT.out A6 k6 _ HZ6.out).mono ?_;rintro e w7 ⟨rfl,rfl⟩))
 all_goals (
  go_wp2_with fail
  refine(psettle_any q X false q HSE.out _ HF6).mono ?_
  rintro e w8 ⟨rfl,hbx,hg⟩
  have HF8:=Lib.hid hbx
  have HR8:=Lib.hid (show RBox w8 w.heap.size zeroR from(hg.block _ HR6.out.lt (by have:=HXW.out;simp;omega)).trans HR6.out)
  have HB8:=Lib.hid (HB6.out.trans (below_grownR hg (Nat.le_of_lt HXW.out) HB6.out.size))
  clear hbx hg HR6
  obtain⟨g0,g1,g2,g3,g4,g5,g6,g7,g8,g9,g10,g11,g12,g13,g14⟩:=HF8.out.cells
  go_wp2_with ((with_reducible refine at_store 2 ?_);refine wpList_store_named (o:=⟨none, .store 28 (.tmp 2) (.tmp 44),_,_,_,_⟩) rfl 28 (.tmp 2) (.tmp 44) rfl w.heap.size #[.int .i64 0, .int .i64 0, .int .i64 0, .int .i64 0, .int .i64 0, .int .i64 0, .int .i64 0, .int .i64 0, .int .i64 0, .int .i64 0, .int .i64 0, .int .i64 0, .int .i64 0, .int .i64 0, .int .i64 0] rfl rfl 28 #[.int .i64 0, .int .i64 0, .int .i64 0, .int .i64 0, .int .i64 0, .int .i64 0, .int .i64 0, .int .i64 0, .int .i64 0, .int .i64 0, .int .i64 0, .int .i64 0, .int .i64 0, .int .i64 0, .int .i64 0] HR8.out infoRd rfl (rg_one _ _ _ _ _ _ _ _ _ _ _ _ _ _ _) ?_)
  intro w9 hw9
  go_wp2
  refine bodyPost_ret (results_row_tmp' Tryz.results38 _ w9 w.heap.size 28 #[.int .i64 0, .int .i64 0, .int .i64 0, .int .i64 0, .int .i64 0, .int .i64 0, .int .i64 0, .int .i64 0, .int .i64 0, .int .i64 0, .int .i64 0, .int .i64 0, .int .i64 0, .int .i64 0, .int .i64 0] (0,0) _ rfl (by rw[hw9.out];exact setRow_heap _ _ _ _ _ _ HR8.out) Tryz.underlying28 rfl infoRd) rfl ⟨rfl, ?_⟩
  rw[hw9.out]
  exact below_setRow HB8.out (Nat.le_refl _) _)
set_option maxRecDepth 100000 in
set_option maxHeartbeats 1600000 in
theorem fget_p6 (l:List Tf) (n:Nat) (hn:n=l.length) (E:Nat) (r:Rg) (hE:fdGet l=(E,r)) (A:Option Addr) (c:Nat) (w:World) (hA:Ts w w.heap.size l A c) (hi:isT 0 l=true) (q:Rg) (hf:fdFill z13 l=(0,numL q)) (hq:rdL (numL q)=q) (hv:(decide (1≤q.ver)&&decide (q.ver≤3))=true) (hft:fitX q.ver (tagsF 1 (numL q))=true) (hu:q.t.kind=4∨q.t.uses=0) (hk:99<q.key):Calls Tryz.prog 38 #[.slice A n c] w fun e w'=>e= .returned (.tuple #[.agg #[.int .i64 r.t.ser, .int .i64 r.t.kind, .int .i64 r.t.frm, .int .i64 r.t.till, .int .i64 r.t.cls, .int .i64 r.t.card, .int .i64 r.t.seat, .int .i64 r.t.day, .int .i64 r.t.days, .int .i64 r.t.uses, .int .i64 r.t.epoch, .int .i64 r.key, .int .i64 r.left, .int .i64 r.inn, .int .i64 r.ver], .int .i64 (E:Int)])∧Below w.heap.size w w':=by
 obtain⟨rfl,rfl⟩:E=9∧r=zeroR:=by have:=hE;rw[fdGet,if_neg (by rw[hi];decide),hf,if_neg (by simp),fdTold,hq]at this;dsimp only at this;rw[if_neg (by rw[verX_ok (by rw[hq];exact hv) (by rw[hq];exact hft)];decide)]at this;rw[if_pos (right_key hk)]at this;exact⟨(Prod.mk.inj this).1.symm,(Prod.mk.inj this).2.symm⟩
 clear hE
 obtain⟨s,hs⟩: ∃s,s=ownR q:=⟨_,rfl⟩
 have HSE:=Lib.hid (show settleX q=(true,s) by rw[hs];exact settle_ok hu)
 have hsk:s.key=q.key:=by rw[hs,ownR_key]
 have HK:=Lib.hid (show(decide (0≤s.key)&&decide (s.key≤99))=false by rw[hsk,decide_eq_false (by omega: ¬q.key≤99),Bool.and_false])
 clear hu hk hsk hs
 have HFILL:=Lib.hid hf
 have HQ:=Lib.hid hq
 clear hf hq
 obtain⟨m,hm⟩: ∃m,m=(tagsF 1 (numL q)).length:=⟨_,rfl⟩
 have HM:=Lib.hid hm
 have HTS:=Lib.hid (show∀t∈tagsF 1 (numL q),1≤t∧t≤13 from fun t ht=>by have:=tagsF_mem _ _ _ ht;rw[numL_len]at this;omega)
 have HV:=Lib.hid hv
 have HFT:=Lib.hid hft
 clear hm hv hft
 have hmf: ∀(fn:Fn) (first cap:Array Value) (w:World),(Instr.makeFunc fn first cap).run Tryz.prog w= .ok (.func fn first cap) w:=fun _ _ _ _=>rfl
 have HN:=Lib.hid hn
 have HA:=Lib.hid hA
 have HI:=Lib.hid hi
 clear hn hA hi
 have HR0:=Lib.hid (RBox.new w zeroR)
 have hl0:=below_lit w #[.int .i64 0, .int .i64 0, .int .i64 0, .int .i64 0, .int .i64 0, .int .i64 0, .int .i64 0, .int .i64 0, .int .i64 0, .int .i64 0, .int .i64 0, .int .i64 0, .int .i64 0, .int .i64 0, .int .i64 0] 28
 have HB0:=Lib.hid hl0
 have HA0:=Lib.hid (HA.out.next hl0)
 clear hl0
 go_enter Tryz.func38, Tryz.ntmps38
 go_wp2_with fail
 refine(pis_tlv l n HN.out true HI.out A c _ HA0.out).mono ?_
 rintro e w1 ⟨rfl,hb⟩
 have HR1:=Lib.hid (HR0.out.next hb)
 have HB1:=Lib.hid (HB0.out.trans (hb.mono HB0.out.size))
 have HA1:=Lib.hid (HA0.out.next hb)
 clear hb HR0 HB0 HA0
 go_wp2_with fail
 have HZ0:=Lib.hid (fbox_new w1 (rgL (rdL z13)) #[.int .i64 0, .int .i64 0, .int .i64 0, .int .i64 0, .int .i64 0, .int .i64 0, .int .i64 0, .int .i64 0, .int .i64 0, .int .i64 0, .int .i64 0, .int .i64 0, .int .i64 0, .int .i64 0, .int .i64 0] rfl)
 have hl1:=below_lit w1 #[.int .i64 0, .int .i64 0, .int .i64 0, .int .i64 0, .int .i64 0, .int .i64 0, .int .i64 0, .int .i64 0, .int .i64 0, .int .i64 0, .int .i64 0, .int .i64 0, .int .i64 0, .int .i64 0, .int .i64 0] 94
 obtain⟨X,hX⟩: ∃X,X=w1.heap.size:=⟨_,rfl⟩
 have HXW:=Lib.hid (show w.heap.size<X by rw[hX];exact HR1.out.lt)
 have HR2:=Lib.hid (HR1.out.next hl1)
 have HB2:=Lib.hid (HB1.out.trans (hl1.mono HB1.out.size))
 have HA2:=Lib.hid (HA1.out.below hl1)
 rw[←hX]at HZ0 HA2
 rw[←hX]
 clear hX hl1 HR1 HB1 HA1
 refine(pfill_any l n HN.out HI.out z13 rfl _ _ HFILL.out X A c _ HZ0.out HA2.out).mono ?_
 rintro e w3 ⟨rfl,hbx,hg⟩
 have HF:=Lib.hid hbx
 have HR3:=Lib.hid (show RBox w3 w.heap.size zeroR from(hg.block _ HR2.out.lt (by have:=HXW.out;simp;omega)).trans HR2.out)
 have HB3:=Lib.hid (HB2.out.trans (below_grownR hg (Nat.le_of_lt HXW.out) HB2.out.size))
 clear hbx hg HZ0 HR2 HB2 HA2
 rw[HQ.out]at HF
 have HFD:FBox w3.drew X (rgL q):=HF.out
 obtain⟨d0,d1,d2,d3,d4,d5,d6,d7,d8,d9,d10,d11,d12,d13,d14⟩:=HFD.cells
 have HBD:Below w.heap.size w w3.drew:=HB3.out.drew
 have HRD:RBox w3.drew w.heap.size zeroR:=HR3.out
 go_wp2_with fail
 go_region_with (first|(go_at_call 63;refine(pversion_any q.ver _ HV.out _).mono ?_;rintro e w5 ⟨rfl,rfl⟩)|(go_at_call 65;refine(ptags_any q X m HM.out _ HFD).mono ?_;rintro e w6 ⟨A6,k6,rfl,hz,hb⟩;have HZ6:=Lib.hid hz;have HF6:=HFD.next hb;have HB6:=Lib.hid (HBD.trans (hb.mono HBD.size));have HR6:=Lib.hid (HRD.next hb);obtain⟨f0,f1,f2,f3,f4,f5,f6,f7,f8,f9,f10,f11,f12,f13,f14⟩:=HF6.cells;clear hz hb)|(go_at_call 67;refine(ptells_any q.ver _ m HM.out HTS.out _ HFT.out A6 k6 _ HZ6.out).mono ?_;rintro e w7 ⟨rfl,rfl⟩))
 all_goals (
  go_wp2_with fail
  refine(psettle_any q X true s HSE.out _ HF6).mono ?_
  rintro e w8 ⟨rfl,hbx,hg⟩
  have HF8:=Lib.hid hbx
  have HR8:=Lib.hid (show RBox w8 w.heap.size zeroR from(hg.block _ HR6.out.lt (by have:=HXW.out;simp;omega)).trans HR6.out)
  have HB8:=Lib.hid (HB6.out.trans (below_grownR hg (Nat.le_of_lt HXW.out) HB6.out.size))
  clear hbx hg HR6
  obtain⟨g0,g1,g2,g3,g4,g5,g6,g7,g8,g9,g10,g11,g12,g13,g14⟩:=HF8.out.cells
  go_wp2_with (first|(go_at_call 62;refine(pkey_any s.key _ HK.out _).mono ?_;rintro e w9 ⟨rfl,rfl⟩)|((with_reducible refine at_store 2 ?_);refine wpList_store_named (o:=⟨none, .store 28 (.tmp 2) (.tmp 44),_,_,_,_⟩) rfl 28 (.tmp 2) (.tmp 44) rfl w.heap.size #[.int .i64 0, .int .i64 0, .int .i64 0, .int .i64 0, .int .i64 0, .int .i64 0, .int .i64 0, .int .i64 0, .int .i64 0, .int .i64 0, .int .i64 0, .int .i64 0, .int .i64 0, .int .i64 0, .int .i64 0] rfl rfl 28 #[.int .i64 0, .int .i64 0, .int .i64 0, .int .i64 0, .int .i64 0, .int .i64 0, .int .i64 0, .int .i64 0, .int .i64 0, .int .i64 0, .int .i64 0, .int .i64 0, .int .i64 0, .int .i64 0, .int .i64 0] HR8.out infoRd rfl (rg_one _ _ _ _ _ _ _ _ _ _ _ _ _ _ _) ?_))
  intro w9 hw9
  go_wp2
  refine bodyPost_ret (results_row_tmp' Tryz.results38 _ w9 w.heap.size 28 #[.int .i64 0, .int .i64 0, .int .i64 0, .int .i64 0, .int .i64 0, .int .i64 0, .int .i64 0, .int .i64 0, .int .i64 0, .int .i64 0, .int .i64 0, .int .i64 0, .int .i64 0, .int .i64 0, .int .i64 0] (0,0) _ rfl (by rw[hw9.out];exact setRow_heap _ _ _ _ _ _ HR8.out) Tryz.underlying28 rfl infoRd) rfl ⟨rfl, ?_⟩
  rw[hw9.out]
  exact below_setRow HB8.out (Nat.le_refl _) _)
set_option maxRecDepth 100000 in
set_option maxHeartbeats 1600000 in
theorem fget_p7 (l:List Tf) (n:Nat) (hn:n=l.length) (E:Nat) (r:Rg) (hE:fdGet l=(E,r)) (A:Option Addr) (c:Nat) (w:World) (hA:Ts w w.heap.size l A c) (hi:isT 0 l=true) (q:Rg) (hf:fdFill z13 l=(0,numL q)) (hq:rdL (numL q)=q) (hv:(decide (1≤q.ver)&&decide (q.ver≤3))=true) (hft:fitX q.ver (tagsF 1 (numL q))=true) (hu:q.t.kind=4∨q.t.uses=0) (hk:q.key≤99) (ho:okT (ownR q).t=false):Calls Tryz.prog 38 #[.slice A n c] w fun e w'=>e= .returned (.tuple #[.agg #[.int .i64 r.t.ser, .int .i64 r.t.kind, .int .i64 r.t.frm, .int .i64 r.t.till, .int .i64 r.t.cls, .int .i64 r.t.card, .int .i64 r.t.seat, .int .i64 r.t.day, .int .i64 r.t.days, .int .i64 r.t.uses, .int .i64 r.t.epoch, .int .i64 r.key, .int .i64 r.left, .int .i64 r.inn, .int .i64 r.ver], .int .i64 (E:Int)])∧Below w.heap.size w w':=by
 obtain⟨rfl,rfl⟩:E=9∧r=zeroR:=by have:=hE;rw[fdGet,if_neg (by rw[hi];decide),hf,if_neg (by simp),fdTold,hq]at this;dsimp only at this;rw[if_neg (by rw[verX_ok (by rw[hq];exact hv) (by rw[hq];exact hft)];decide)]at this;rw[if_pos (right_ok ho)]at this;exact⟨(Prod.mk.inj this).1.symm,(Prod.mk.inj this).2.symm⟩
 clear hE
 obtain⟨s,hs⟩: ∃s,s=ownR q:=⟨_,rfl⟩
 have HSE:=Lib.hid (show settleX q=(true,s) by rw[hs];exact settle_ok hu)
 have hsk:s.key=q.key:=by rw[hs,ownR_key]
 have hk0:0≤q.key:=by have:=fill_pos l z13 (by decide) q.key;rw[hf]at this;exact this (List.mem_of_getElem? (i:=1) rfl)
 have HK:=Lib.hid (show(decide (0≤s.key)&&decide (s.key≤99))=true by rw[hsk,decide_eq_true hk0,decide_eq_true hk];rfl)
 have HO:=Lib.hid (show okT s.t=false by rw[hs];exact ho)
 clear hu hk hk0 hsk hs ho
 have HFILL:=Lib.hid hf
 have HQ:=Lib.hid hq
 clear hf hq
 obtain⟨m,hm⟩: ∃m,m=(tagsF 1 (numL q)).length:=⟨_,rfl⟩
 have HM:=Lib.hid hm
 have HTS:=Lib.hid (show∀t∈tagsF 1 (numL q),1≤t∧t≤13 from fun t ht=>by have:=tagsF_mem _ _ _ ht;rw[numL_len]at this;omega)
 have HV:=Lib.hid hv
 have HFT:=Lib.hid hft
 clear hm hv hft
 have hmf: ∀(fn:Fn) (first cap:Array Value) (w:World),(Instr.makeFunc fn first cap).run Tryz.prog w= .ok (.func fn first cap) w:=fun _ _ _ _=>rfl
 have HN:=Lib.hid hn
 have HA:=Lib.hid hA
 have HI:=Lib.hid hi
 clear hn hA hi
 have HR0:=Lib.hid (RBox.new w zeroR)
 have hl0:=below_lit w #[.int .i64 0, .int .i64 0, .int .i64 0, .int .i64 0, .int .i64 0, .int .i64 0, .int .i64 0, .int .i64 0, .int .i64 0, .int .i64 0, .int .i64 0, .int .i64 0, .int .i64 0, .int .i64 0, .int .i64 0] 28
 have HB0:=Lib.hid hl0
 have HA0:=Lib.hid (HA.out.next hl0)
 clear hl0
 go_enter Tryz.func38, Tryz.ntmps38
 go_wp2_with fail
 refine(pis_tlv l n HN.out true HI.out A c _ HA0.out).mono ?_
 rintro e w1 ⟨rfl,hb⟩
 have HR1:=Lib.hid (HR0.out.next hb)
 have HB1:=Lib.hid (HB0.out.trans (hb.mono HB0.out.size))
 have HA1:=Lib.hid (HA0.out.next hb)
 clear hb HR0 HB0 HA0
 go_wp2_with fail
 have HZ0:=Lib.hid (fbox_new w1 (rgL (rdL z13)) #[.int .i64 0, .int .i64 0, .int .i64 0, .int .i64 0, .int .i64 0, .int .i64 0, .int .i64 0, .int .i64 0, .int .i64 0, .int .i64 0, .int .i64 0, .int .i64 0, .int .i64 0, .int .i64 0, .int .i64 0] rfl)
 have hl1:=below_lit w1 #[.int .i64 0, .int .i64 0, .int .i64 0, .int .i64 0, .int .i64 0, .int .i64 0, .int .i64 0, .int .i64 0, .int .i64 0, .int .i64 0, .int .i64 0, .int .i64 0, .int .i64 0, .int .i64 0, .int .i64 0] 94
 obtain⟨X,hX⟩: ∃X,X=w1.heap.size:=⟨_,rfl⟩
 have HXW:=Lib.hid (show w.heap.size<X by rw[hX];exact HR1.out.lt)
 have HR2:=Lib.hid (HR1.out.next hl1)
 have HB2:=Lib.hid (HB1.out.trans (hl1.mono HB1.out.size))
 have HA2:=Lib.hid (HA1.out.below hl1)
 rw[←hX]at HZ0 HA2
 rw[←hX]
 clear hX hl1 HR1 HB1 HA1
 refine(pfill_any l n HN.out HI.out z13 rfl _ _ HFILL.out X A c _ HZ0.out HA2.out).mono ?_
 rintro e w3 ⟨rfl,hbx,hg⟩
 have HF:=Lib.hid hbx
 have HR3:=Lib.hid (show RBox w3 w.heap.size zeroR from(hg.block _ HR2.out.lt (by have:=HXW.out;simp;omega)).trans HR2.out)
 have HB3:=Lib.hid (HB2.out.trans (below_grownR hg (Nat.le_of_lt HXW.out) HB2.out.size))
 clear hbx hg HZ0 HR2 HB2 HA2
 rw[HQ.out]at HF
 have HFD:FBox w3.drew X (rgL q):=HF.out
 obtain⟨d0,d1,d2,d3,d4,d5,d6,d7,d8,d9,d10,d11,d12,d13,d14⟩:=HFD.cells
 have HBD:Below w.heap.size w w3.drew:=HB3.out.drew
 have HRD:RBox w3.drew w.heap.size zeroR:=HR3.out
 go_wp2_with fail
 go_region_with (first|(go_at_call 63;refine(pversion_any q.ver _ HV.out _).mono ?_;rintro e w5 ⟨rfl,rfl⟩)|(go_at_call 65;refine(ptags_any q X m HM.out _ HFD).mono ?_;rintro e w6 ⟨A6,k6,rfl,hz,hb⟩;have HZ6:=Lib.hid hz;have HF6:=HFD.next hb;have HB6:=Lib.hid (HBD.trans (hb.mono HBD.size));have HR6:=Lib.hid (HRD.next hb);obtain⟨f0,f1,f2,f3,f4,f5,f6,f7,f8,f9,f10,f11,f12,f13,f14⟩:=HF6.cells;clear hz hb)|(go_at_call 67;refine(ptells_any q.ver _ m HM.out HTS.out _ HFT.out A6 k6 _ HZ6.out).mono ?_;rintro e w7 ⟨rfl,rfl⟩))
 all_goals (
  go_wp2_with fail
  refine(psettle_any q X true s HSE.out _ HF6).mono ?_
  rintro e w8 ⟨rfl,hbx,hg⟩
  have HF8:=Lib.hid hbx
  have HR8:=Lib.hid (show RBox w8 w.heap.size zeroR from(hg.block _ HR6.out.lt (by have:=HXW.out;simp;omega)).trans HR6.out)
  have HB8:=Lib.hid (HB6.out.trans (below_grownR hg (Nat.le_of_lt HXW.out) HB6.out.size))
  clear hbx hg HR6
  obtain⟨g0,g1,g2,g3,g4,g5,g6,g7,g8,g9,g10,g11,g12,g13,g14⟩:=HF8.out.cells
  go_wp2_with (first|(go_at_call 62;refine(pkey_any s.key _ HK.out _).mono ?_;rintro e w9 ⟨rfl,rfl⟩)|(go_at_call 61;refine(pis9_any s.t _ HO.out _).mono ?_;rintro e w9 ⟨rfl,hb⟩;have HR9:=Lib.hid (HR8.out.next hb);have HB9:=Lib.hid (HB8.out.trans (hb.mono HB8.out.size));have HF9:=HF8.out.next hb;clear g0 g1 g2 g3 g4 g5 g6 g7 g8 g9 g10 g11 g12 g13 g14 hb;obtain⟨i0,i1,i2,i3,i4,i5,i6,i7,i8,i9,i10,i11,i12,i13,i14⟩:=HF9.cells)|((with_reducible refine at_store 2 ?_);refine wpList_store_named (o:=⟨none, .store 28 (.tmp 2) (.tmp 44),_,_,_,_⟩) rfl 28 (.tmp 2) (.tmp 44) rfl w.heap.size #[.int .i64 0, .int .i64 0, .int .i64 0, .int .i64 0, .int .i64 0, .int .i64 0, .int .i64 0, .int .i64 0, .int .i64 0, .int .i64 0, .int .i64 0, .int .i64 0, .int .i64 0, .int .i64 0, .int .i64 0] rfl rfl 28 #[.int .i64 0, .int .i64 0, .int .i64 0, .int .i64 0, .int .i64 0, .int .i64 0, .int .i64 0, .int .i64 0, .int .i64 0, .int .i64 0, .int .i64 0, .int .i64 0, .int .i64 0, .int .i64 0, .int .i64 0] HR9.out infoRd rfl (rg_one _ _ _ _ _ _ _ _ _ _ _ _ _ _ _) ?_))
  intro w9 hw9
  go_wp2
  refine bodyPost_ret (results_row_tmp' Tryz.results38 _ w9 w.heap.size 28 #[.int .i64 0, .int .i64 0, .int .i64 0, .int .i64 0, .int .i64 0, .int .i64 0, .int .i64 0, .int .i64 0, .int .i64 0, .int .i64 0, .int .i64 0, .int .i64 0, .int .i64 0, .int .i64 0, .int .i64 0] (0,0) _ rfl (by rw[hw9.out];exact setRow_heap _ _ _ _ _ _ HR9.out) Tryz.underlying28 rfl infoRd) rfl ⟨rfl, ?_⟩
  rw[hw9.out]
  exact below_setRow HB9.out (Nat.le_refl _) _)
set_option maxRecDepth 100000 in
set_option maxHeartbeats 1600000 in
theorem fget_p8 (l:List Tf) (n:Nat) (hn:n=l.length) (E:Nat) (r:Rg) (hE:fdGet l=(E,r)) (A:Option Addr) (c:Nat) (w:World) (hA:Ts w w.heap.size l A c) (hi:isT 0 l=true) (q:Rg) (hf:fdFill z13 l=(0,numL q)) (hq:rdL (numL q)=q) (hv:(decide (1≤q.ver)&&decide (q.ver≤3))=true) (hft:fitX q.ver (tagsF 1 (numL q))=true) (hu:q.t.kind=4∨q.t.uses=0) (hk:q.key≤99) (ho:okT (ownR q).t=true):Calls Tryz.prog 38 #[.slice A n c] w fun e w'=>e= .returned (.tuple #[.agg #[.int .i64 r.t.ser, .int .i64 r.t.kind, .int .i64 r.t.frm, .int .i64 r.t.till, .int .i64 r.t.cls, .int .i64 r.t.card, .int .i64 r.t.seat, .int .i64 r.t.day, .int .i64 r.t.days, .int .i64 r.t.uses, .int .i64 r.t.epoch, .int .i64 r.key, .int .i64 r.left, .int .i64 r.inn, .int .i64 r.ver], .int .i64 (E:Int)])∧Below w.heap.size w w':=by
 obtain⟨rfl,rfl⟩:E=0∧r=ownR q:=by have:=hE;rw[fdGet,if_neg (by rw[hi];decide),hf,if_neg (by simp),fdTold,hq]at this;dsimp only at this;rw[if_neg (by rw[verX_ok (by rw[hq];exact hv) (by rw[hq];exact hft)];decide)]at this;rw[if_neg (by rw[right_yes hu hk ho];decide)]at this;rw[ownR_set ho];exact⟨(Prod.mk.inj this).1.symm,(Prod.mk.inj this).2.symm⟩
 clear hE
 obtain⟨s,hs⟩: ∃s,s=ownR q:=⟨_,rfl⟩
 have HSE:=Lib.hid (show settleX q=(true,s) by rw[hs];exact settle_ok hu)
 have hsk:s.key=q.key:=by rw[hs,ownR_key]
 have hk0:0≤q.key:=by have:=fill_pos l z13 (by decide) q.key;rw[hf]at this;exact this (List.mem_of_getElem? (i:=1) rfl)
 have HK:=Lib.hid (show(decide (0≤s.key)&&decide (s.key≤99))=true by rw[hsk,decide_eq_true hk0,decide_eq_true hk];rfl)
 have HO:=Lib.hid (show okT s.t=true by rw[hs];exact ho)
 rw[←hs]
 clear hu hk hk0 hsk hs ho
 have HFILL:=Lib.hid hf
 have HQ:=Lib.hid hq
 clear hf hq
 obtain⟨m,hm⟩: ∃m,m=(tagsF 1 (numL q)).length:=⟨_,rfl⟩
 have HM:=Lib.hid hm
 have HTS:=Lib.hid (show∀t∈tagsF 1 (numL q),1≤t∧t≤13 from fun t ht=>by have:=tagsF_mem _ _ _ ht;rw[numL_len]at this;omega)
 have HV:=Lib.hid hv
 have HFT:=Lib.hid hft
 clear hm hv hft
 have hmf: ∀(fn:Fn) (first cap:Array Value) (w:World),(Instr.makeFunc fn first cap).run Tryz.prog w= .ok (.func fn first cap) w:=fun _ _ _ _=>rfl
 have HN:=Lib.hid hn
 have HA:=Lib.hid hA
 have HI:=Lib.hid hi
 clear hn hA hi
 have HR0:=Lib.hid (RBox.new w zeroR)
 have hl0:=below_lit w #[.int .i64 0, .int .i64 0, .int .i64 0, .int .i64 0, .int .i64 0, .int .i64 0, .int .i64 0, .int .i64 0, .int .i64 0, .int .i64 0, .int .i64 0, .int .i64 0, .int .i64 0, .int .i64 0, .int .i64 0] 28
 have HB0:=Lib.hid hl0
 have HA0:=Lib.hid (HA.out.next hl0)
 clear hl0
 go_enter Tryz.func38, Tryz.ntmps38
 go_wp2_with fail
 refine(pis_tlv l n HN.out true HI.out A c _ HA0.out).mono ?_
 rintro e w1 ⟨rfl,hb⟩
 have HR1:=Lib.hid (HR0.out.next hb)
 have HB1:=Lib.hid (HB0.out.trans (hb.mono HB0.out.size))
 have HA1:=Lib.hid (HA0.out.next hb)
 clear hb HR0 HB0 HA0
 go_wp2_with fail
 have HZ0:=Lib.hid (fbox_new w1 (rgL (rdL z13)) #[.int .i64 0, .int .i64 0, .int .i64 0, .int .i64 0, .int .i64 0, .int .i64 0, .int .i64 0, .int .i64 0, .int .i64 0, .int .i64 0, .int .i64 0, .int .i64 0, .int .i64 0, .int .i64 0, .int .i64 0] rfl)
 have hl1:=below_lit w1 #[.int .i64 0, .int .i64 0, .int .i64 0, .int .i64 0, .int .i64 0, .int .i64 0, .int .i64 0, .int .i64 0, .int .i64 0, .int .i64 0, .int .i64 0, .int .i64 0, .int .i64 0, .int .i64 0, .int .i64 0] 94
 obtain⟨X,hX⟩: ∃X,X=w1.heap.size:=⟨_,rfl⟩
 have HXW:=Lib.hid (show w.heap.size<X by rw[hX];exact HR1.out.lt)
 have HR2:=Lib.hid (HR1.out.next hl1)
 have HB2:=Lib.hid (HB1.out.trans (hl1.mono HB1.out.size))
 have HA2:=Lib.hid (HA1.out.below hl1)
 rw[←hX]at HZ0 HA2
 rw[←hX]
 clear hX hl1 HR1 HB1 HA1
 refine(pfill_any l n HN.out HI.out z13 rfl _ _ HFILL.out X A c _ HZ0.out HA2.out).mono ?_
 rintro e w3 ⟨rfl,hbx,hg⟩
 have HF:=Lib.hid hbx
 have HR3:=Lib.hid (show RBox w3 w.heap.size zeroR from(hg.block _ HR2.out.lt (by have:=HXW.out;simp;omega)).trans HR2.out)
 have HB3:=Lib.hid (HB2.out.trans (below_grownR hg (Nat.le_of_lt HXW.out) HB2.out.size))
 clear hbx hg HZ0 HR2 HB2 HA2
 rw[HQ.out]at HF
 have HFD:FBox w3.drew X (rgL q):=HF.out
 obtain⟨d0,d1,d2,d3,d4,d5,d6,d7,d8,d9,d10,d11,d12,d13,d14⟩:=HFD.cells
 have HBD:Below w.heap.size w w3.drew:=HB3.out.drew
 have HRD:RBox w3.drew w.heap.size zeroR:=HR3.out
 go_wp2_with fail
 go_region_with (first|(go_at_call 63;refine(pversion_any q.ver _ HV.out _).mono ?_;rintro e w5 ⟨rfl,rfl⟩)|(go_at_call 65;refine(ptags_any q X m HM.out _ HFD).mono ?_;rintro e w6 ⟨A6,k6,rfl,hz,hb⟩;have HZ6:=Lib.hid hz;have HF6:=HFD.next hb;have HB6:=Lib.hid (HBD.trans (hb.mono HBD.size));have HR6:=Lib.hid (HRD.next hb);obtain⟨f0,f1,f2,f3,f4,f5,f6,f7,f8,f9,f10,f11,f12,f13,f14⟩:=HF6.cells;clear hz hb)|(go_at_call 67;refine(ptells_any q.ver _ m HM.out HTS.out _ HFT.out A6 k6 _ HZ6.out).mono ?_;rintro e w7 ⟨rfl,rfl⟩))
 all_goals (
  go_wp2_with fail
  refine(psettle_any q X true s HSE.out _ HF6).mono ?_
  rintro e w8 ⟨rfl,hbx,hg⟩
  have HF8:=Lib.hid hbx
  have HR8:=Lib.hid (show RBox w8 w.heap.size zeroR from(hg.block _ HR6.out.lt (by have:=HXW.out;simp;omega)).trans HR6.out)
  have HB8:=Lib.hid (HB6.out.trans (below_grownR hg (Nat.le_of_lt HXW.out) HB6.out.size))
  clear hbx hg HR6
  obtain⟨g0,g1,g2,g3,g4,g5,g6,g7,g8,g9,g10,g11,g12,g13,g14⟩:=HF8.out.cells
  go_wp2_with (first|(go_at_call 62;refine(pkey_any s.key _ HK.out _).mono ?_;rintro e w9 ⟨rfl,rfl⟩)|(go_at_call 61;refine(pis9_any s.t _ HO.out _).mono ?_;rintro e w9 ⟨rfl,hb⟩;have HR9:=Lib.hid (HR8.out.next hb);have HB9:=Lib.hid (HB8.out.trans (hb.mono HB8.out.size));have HF9:=HF8.out.next hb;clear g0 g1 g2 g3 g4 g5 g6 g7 g8 g9 g10 g11 g12 g13 g14 hb;obtain⟨i0,i1,i2,i3,i4,i5,i6,i7,i8,i9,i10,i11,i12,i13,i14⟩:=HF9.cells)|((with_reducible refine at_store 2 ?_);refine wpList_store_named (o:=⟨none, .store 28 (.tmp 2) (.tmp 45),_,_,_,_⟩) rfl 28 (.tmp 2) (.tmp 45) rfl w.heap.size #[.int .i64 s.t.ser, .int .i64 s.t.kind, .int .i64 s.t.frm, .int .i64 s.t.till, .int .i64 s.t.cls, .int .i64 s.t.card, .int .i64 s.t.seat, .int .i64 s.t.day, .int .i64 s.t.days, .int .i64 s.t.uses, .int .i64 s.t.epoch, .int .i64 s.key, .int .i64 s.left, .int .i64 s.inn, .int .i64 s.ver] rfl rfl 28 #[.int .i64 0, .int .i64 0, .int .i64 0, .int .i64 0, .int .i64 0, .int .i64 0, .int .i64 0, .int .i64 0, .int .i64 0, .int .i64 0, .int .i64 0, .int .i64 0, .int .i64 0, .int .i64 0, .int .i64 0] HR9.out infoRd rfl (rg_one _ _ _ _ _ _ _ _ _ _ _ _ _ _ _) ?_))
  intro w9 hw9
  go_wp2
  refine bodyPost_ret (results_row_tmp' Tryz.results38 _ w9 w.heap.size 28 #[.int .i64 s.t.ser, .int .i64 s.t.kind, .int .i64 s.t.frm, .int .i64 s.t.till, .int .i64 s.t.cls, .int .i64 s.t.card, .int .i64 s.t.seat, .int .i64 s.t.day, .int .i64 s.t.days, .int .i64 s.t.uses, .int .i64 s.t.epoch, .int .i64 s.key, .int .i64 s.left, .int .i64 s.inn, .int .i64 s.ver] (0,0) _ rfl (by rw[hw9.out];exact setRow_heap _ _ _ _ _ _ HR9.out) Tryz.underlying28 rfl infoRd) rfl ⟨rfl, ?_⟩
  rw[hw9.out]
  exact below_setRow HB9.out (Nat.le_refl _) _)
set_option maxRecDepth 100000 in
set_option maxHeartbeats 1600000 in
theorem fget_any (l:List Tf) (n:Nat) (hn:n=l.length) (E:Nat) (r:Rg) (hE:fdGet l=(E,r)) (A:Option Addr) (c:Nat) (w:World) (hA:Ts w w.heap.size l A c):Calls Tryz.prog 38 #[.slice A n c] w fun e w'=>e= .returned (.tuple #[.agg #[.int .i64 r.t.ser, .int .i64 r.t.kind, .int .i64 r.t.frm, .int .i64 r.t.till, .int .i64 r.t.cls, .int .i64 r.t.card, .int .i64 r.t.seat, .int .i64 r.t.day, .int .i64 r.t.days, .int .i64 r.t.uses, .int .i64 r.t.epoch, .int .i64 r.key, .int .i64 r.left, .int .i64 r.inn, .int .i64 r.ver], .int .i64 (E:Int)])∧Below w.heap.size w w':=by
 cases hi:isT 0 l with
 |false=>exact fget_p1 l n hn E r hE A c w hA hi
 |true=>
  obtain⟨F,a,hf⟩: ∃F a,fdFill z13 l=(F,a):=⟨_,_,rfl⟩
  by_cases h0:F=0
  rotate_left
  ·exact fget_p2 l n hn E r hE A c w hA hi a F hf h0
  subst h0
  obtain⟨q,hq⟩: ∃q,q=rdL a:=⟨_,rfl⟩
  have ha:a=numL q:=by
   have:=fdFill_len l z13
   rw[hf]at this
   rw[hq];exact list_13 this
  subst ha
  cases hv:(decide (1≤q.ver)&&decide (q.ver≤3))with
  |false=>exact fget_p3 l n hn E r hE A c w hA hi q hf hq.symm hv
  |true=>
   cases hft:fitX q.ver (tagsF 1 (numL q))with
   |false=>exact fget_p4 l n hn E r hE A c w hA hi q hf hq.symm hv hft
   |true=>
    by_cases hu:q.t.kind=4∨q.t.uses=0
    rotate_left
    ·exact fget_p5 l n hn E r hE A c w hA hi q hf hq.symm hv hft hu
    by_cases hk:q.key≤99
    rotate_left
    ·exact fget_p6 l n hn E r hE A c w hA hi q hf hq.symm hv hft hu (by omega)
    cases ho:okT (ownR q).t with
    |false=>exact fget_p7 l n hn E r hE A c w hA hi q hf hq.symm hv hft hu hk ho
    |true=>exact fget_p8 l n hn E r hE A c w hA hi q hf hq.symm hv hft hu hk ho
end Go.Proofs.YtcnglbliidjnfaaGreatDoor
