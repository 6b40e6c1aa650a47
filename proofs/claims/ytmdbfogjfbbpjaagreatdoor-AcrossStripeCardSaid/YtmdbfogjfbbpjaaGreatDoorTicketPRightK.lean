import Derived.Test.YtmdbfogjfbbpjaaGreatDoorTicketPRight
set_option maxHeartbeats 3200000
set_option maxRecDepth 20000
set_option linter.unusedVariables false
namespace Go.Proofs.YtmdbfogjfbbpjaaGreatDoor
open Go.ChangeShapes Go.WideShapes Go.ChangeAt Go.RowKit
def AdF (t:Tk) (lo hi:Int) (f f2 f3:Nat):Prop:= ∀w,Calls Tryz.prog 150 #[.agg #[.int .i64 t.ser, .int .i64 t.kind, .int .i64 t.frm, .int .i64 t.till, .int .i64 t.cls, .int .i64 t.card, .int .i64 t.seat, .int .i64 t.day, .int .i64 t.days, .int .i64 t.uses, .int .i64 t.epoch]] w fun e w'=>e= .returned (.tuple #[.agg #[.int .i64 lo, .int .i64 hi, .func (.func f) #[.agg #[.int .i64 t.ser, .int .i64 t.kind, .int .i64 t.frm, .int .i64 t.till, .int .i64 t.cls, .int .i64 t.card, .int .i64 t.seat, .int .i64 t.day, .int .i64 t.days, .int .i64 t.uses, .int .i64 t.epoch]] #[], .func (.func f2) #[.agg #[.int .i64 t.ser, .int .i64 t.kind, .int .i64 t.frm, .int .i64 t.till, .int .i64 t.cls, .int .i64 t.card, .int .i64 t.seat, .int .i64 t.day, .int .i64 t.days, .int .i64 t.uses, .int .i64 t.epoch]] #[], .func (.func f3) #[.agg #[.int .i64 t.ser, .int .i64 t.kind, .int .i64 t.frm, .int .i64 t.till, .int .i64 t.cls, .int .i64 t.card, .int .i64 t.seat, .int .i64 t.day, .int .i64 t.days, .int .i64 t.uses, .int .i64 t.epoch]] #[]], .bool true])∧Below w.heap.size w w'
def Aey (t:Tk) (f:Nat) (h:Bool):Prop:= ∀w,Calls Tryz.prog f #[.agg #[.int .i64 t.ser, .int .i64 t.kind, .int .i64 t.frm, .int .i64 t.till, .int .i64 t.cls, .int .i64 t.card, .int .i64 t.seat, .int .i64 t.day, .int .i64 t.days, .int .i64 t.uses, .int .i64 t.epoch]] w fun e w'=>e= .returned (.bool h)∧Below w.heap.size w w'
theorem Rl (t:Tk) (lo hi:Int) (f f2 f3:Nat) (hk:AdF t lo hi f f2 f3) (x:hbB t=true) (y:inB t.uses lo hi=true) (he: ∀(a:Array Value) (w:World),(callFunc f a).run Tryz.prog w= .ok (.enter f a) w) (z:Aey t f true) (w:World):Calls Tryz.prog 96 #[.agg #[.int .i64 t.ser, .int .i64 t.kind, .int .i64 t.frm, .int .i64 t.till, .int .i64 t.cls, .int .i64 t.card, .int .i64 t.seat, .int .i64 t.day, .int .i64 t.days, .int .i64 t.uses, .int .i64 t.epoch]] w fun e w'=>e= .returned (.tuple #[.agg #[.int .i64 lo, .int .i64 hi, .func (.func f) #[.agg #[.int .i64 t.ser, .int .i64 t.kind, .int .i64 t.frm, .int .i64 t.till, .int .i64 t.cls, .int .i64 t.card, .int .i64 t.seat, .int .i64 t.day, .int .i64 t.days, .int .i64 t.uses, .int .i64 t.epoch]] #[], .func (.func f2) #[.agg #[.int .i64 t.ser, .int .i64 t.kind, .int .i64 t.frm, .int .i64 t.till, .int .i64 t.cls, .int .i64 t.card, .int .i64 t.seat, .int .i64 t.day, .int .i64 t.days, .int .i64 t.uses, .int .i64 t.epoch]] #[], .func (.func f3) #[.agg #[.int .i64 t.ser, .int .i64 t.kind, .int .i64 t.frm, .int .i64 t.till, .int .i64 t.cls, .int .i64 t.card, .int .i64 t.seat, .int .i64 t.day, .int .i64 t.days, .int .i64 t.uses, .int .i64 t.epoch]] #[]], .bool true])∧Below w.heap.size w w':=by
 have HK:=Lib.hid hk
 have HX:=Lib.hid x
 have HY:=Lib.hid y
 have HZ:=Lib.hid z
 clear hk x y z
 go_enter Tryz.func96, Tryz.ntmps96
 go_wp2_with fail
 refine(HK.out _).mono ?_
 rintro e w1 ⟨rfl,hb⟩
 obtain⟨hc,hf⟩:=Ms hb
 have hz:=hb.size
 simp only[World.size_alloc]at hz
 have hz2:w.heap.size+1+1<w1.heap.size:=by omega
 have hz1:w.heap.size+1<w1.heap.size:=by omega
 have hr:=(hb.block (w.heap.size+1) (by simp)).trans ((heap_alloc_old _ _ (by simp)).trans (heap_alloc2_new w _ _))
 have HB1:=Lib.hid ((((Below.refl _ w).alloc (Nat.le_refl _) _).alloc (by simp) _|>.alloc (by simp;omega) _).trans (hb.mono (by simp;omega)))
 clear hb hz
 go_wp2_with fail
 refine(Kc t true HX.out _).mono ?_
 rintro e w2 ⟨rfl,hb⟩
 obtain⟨hc2,hf2⟩:=Ms hb
 have hz:=hb.size
 try simp only[World.size_alloc]at hz
 have hz22:w.heap.size+1+1<w2.heap.size:=by omega
 have hz21:w.heap.size+1<w2.heap.size:=by omega
 have hz20:w1.heap.size<w2.heap.size:=by omega
 have HB2:=Lib.hid ((HB1.out.alloc HB1.out.size _).trans (hb.mono (by simp;omega)))
 replace hr:=(hb.block (w.heap.size+1) (by simp;omega)).trans ((heap_alloc_old _ _ (by omega)).trans hr)
 clear hb hz
 go_wp2_with fail
 refine(Bp _ _ _ _ HY.out _).mono ?_
 rintro e w3 ⟨rfl,e1⟩
 rw[e1]
 clear e1 w3
 go_wp2_with fail
 refine(HZ.out _).mono ?_
 rintro e w3 ⟨rfl,hb⟩
 obtain⟨hc3,hf3⟩:=Ms hb
 have hz:=hb.size
 try simp only[World.size_alloc]at hz
 have hz32:w.heap.size+1+1<w3.heap.size:=by omega
 have hz31:w.heap.size+1<w3.heap.size:=by omega
 have hz30:w1.heap.size<w3.heap.size:=by omega
 have HB3:=Lib.hid (HB2.out.trans (hb.mono (by omega)))
 replace hr:=(hb.block (w.heap.size+1) (by omega)).trans hr
 clear hb hz
 have HR:=Lib.hid hr
 clear hr
 go_wp2_with ((with_reducible refine Ac 2 ?_);refine Al HR.out Ke (Wn _ _ _ _ _ rfl rfl rfl) ?_)
 intro w4 hw4
 go_wp2
 refine bodyPost_ret (Ab Tryz.results96 _ w4 (w.heap.size+1) 116 #[.int .i64 lo, .int .i64 hi, .func (.func f) #[.agg #[.int .i64 t.ser, .int .i64 t.kind, .int .i64 t.frm, .int .i64 t.till, .int .i64 t.cls, .int .i64 t.card, .int .i64 t.seat, .int .i64 t.day, .int .i64 t.days, .int .i64 t.uses, .int .i64 t.epoch]] #[], .func (.func f2) #[.agg #[.int .i64 t.ser, .int .i64 t.kind, .int .i64 t.frm, .int .i64 t.till, .int .i64 t.cls, .int .i64 t.card, .int .i64 t.seat, .int .i64 t.day, .int .i64 t.days, .int .i64 t.uses, .int .i64 t.epoch]] #[], .func (.func f3) #[.agg #[.int .i64 t.ser, .int .i64 t.kind, .int .i64 t.frm, .int .i64 t.till, .int .i64 t.cls, .int .i64 t.card, .int .i64 t.seat, .int .i64 t.day, .int .i64 t.days, .int .i64 t.uses, .int .i64 t.epoch]] #[]] (0,0) _ rfl (by rw[hw4.out];exact setRow_heap _ _ _ _ _ _ HR.out) Tryz.underlying116 rfl Ke) rfl ⟨rfl, ?_⟩
 rw[hw4.out]
 exact below_setRow HB3.out (by omega) _
theorem Rm (t:Tk) (lo hi:Int) (f f2 f3:Nat) (hk:AdF t lo hi f f2 f3) (x:hbB t=false) (w:World):Calls Tryz.prog 96 #[.agg #[.int .i64 t.ser, .int .i64 t.kind, .int .i64 t.frm, .int .i64 t.till, .int .i64 t.cls, .int .i64 t.card, .int .i64 t.seat, .int .i64 t.day, .int .i64 t.days, .int .i64 t.uses, .int .i64 t.epoch]] w fun e w'=>e= .returned (.tuple #[.agg #[.int .i64 0, .int .i64 0, .nilFunc, .nilFunc, .nilFunc], .bool false])∧Below w.heap.size w w':=by
 have HK:=Lib.hid hk
 have HX:=Lib.hid x
 clear hk x
 go_enter Tryz.func96, Tryz.ntmps96
 go_wp2_with fail
 refine(HK.out _).mono ?_
 rintro e w1 ⟨rfl,hb⟩
 obtain⟨hc,hf⟩:=Ms hb
 have hz:=hb.size
 simp only[World.size_alloc]at hz
 have hz2:w.heap.size+1+1<w1.heap.size:=by omega
 have hz1:w.heap.size+1<w1.heap.size:=by omega
 have hr:=(hb.block (w.heap.size+1) (by simp)).trans ((heap_alloc_old _ _ (by simp)).trans (heap_alloc2_new w _ _))
 have HB1:=Lib.hid ((((Below.refl _ w).alloc (Nat.le_refl _) _).alloc (by simp) _|>.alloc (by simp;omega) _).trans (hb.mono (by simp;omega)))
 clear hb hz
 go_wp2_with fail
 refine(Kc t false HX.out _).mono ?_
 rintro e w2 ⟨rfl,hb⟩
 obtain⟨hc2,hf2⟩:=Ms hb
 have hz:=hb.size
 try simp only[World.size_alloc]at hz
 have hz22:w.heap.size+1+1<w2.heap.size:=by omega
 have hz21:w.heap.size+1<w2.heap.size:=by omega
 have hz20:w1.heap.size<w2.heap.size:=by omega
 have HB2:=Lib.hid ((HB1.out.alloc HB1.out.size _).trans (hb.mono (by simp;omega)))
 replace hr:=(hb.block (w.heap.size+1) (by simp;omega)).trans ((heap_alloc_old _ _ (by omega)).trans hr)
 clear hb hz
 have HR:=Lib.hid hr
 clear hr
 go_wp2_with ((with_reducible refine Ac 2 ?_);refine Al HR.out Ke (Wn _ _ _ _ _ rfl rfl rfl) ?_)
 intro w4 hw4
 go_wp2
 refine bodyPost_ret (Ab Tryz.results96 _ w4 (w.heap.size+1) 116 #[.int .i64 0, .int .i64 0, .nilFunc, .nilFunc, .nilFunc] (0,0) _ rfl (by rw[hw4.out];exact setRow_heap _ _ _ _ _ _ HR.out) Tryz.underlying116 rfl Ke) rfl ⟨rfl, ?_⟩
 rw[hw4.out]
 exact below_setRow HB2.out (by omega) _
theorem Rn (t:Tk) (lo hi:Int) (f f2 f3:Nat) (hk:AdF t lo hi f f2 f3) (x:hbB t=true) (y:inB t.uses lo hi=false) (w:World):Calls Tryz.prog 96 #[.agg #[.int .i64 t.ser, .int .i64 t.kind, .int .i64 t.frm, .int .i64 t.till, .int .i64 t.cls, .int .i64 t.card, .int .i64 t.seat, .int .i64 t.day, .int .i64 t.days, .int .i64 t.uses, .int .i64 t.epoch]] w fun e w'=>e= .returned (.tuple #[.agg #[.int .i64 0, .int .i64 0, .nilFunc, .nilFunc, .nilFunc], .bool false])∧Below w.heap.size w w':=by
 have HK:=Lib.hid hk
 have HX:=Lib.hid x
 have HY:=Lib.hid y
 clear hk x y
 go_enter Tryz.func96, Tryz.ntmps96
 go_wp2_with fail
 refine(HK.out _).mono ?_
 rintro e w1 ⟨rfl,hb⟩
 obtain⟨hc,hf⟩:=Ms hb
 have hz:=hb.size
 simp only[World.size_alloc]at hz
 have hz2:w.heap.size+1+1<w1.heap.size:=by omega
 have hz1:w.heap.size+1<w1.heap.size:=by omega
 have hr:=(hb.block (w.heap.size+1) (by simp)).trans ((heap_alloc_old _ _ (by simp)).trans (heap_alloc2_new w _ _))
 have HB1:=Lib.hid ((((Below.refl _ w).alloc (Nat.le_refl _) _).alloc (by simp) _|>.alloc (by simp;omega) _).trans (hb.mono (by simp;omega)))
 clear hb hz
 go_wp2_with fail
 refine(Kc t true HX.out _).mono ?_
 rintro e w2 ⟨rfl,hb⟩
 obtain⟨hc2,hf2⟩:=Ms hb
 have hz:=hb.size
 try simp only[World.size_alloc]at hz
 have hz22:w.heap.size+1+1<w2.heap.size:=by omega
 have hz21:w.heap.size+1<w2.heap.size:=by omega
 have hz20:w1.heap.size<w2.heap.size:=by omega
 have HB2:=Lib.hid ((HB1.out.alloc HB1.out.size _).trans (hb.mono (by simp;omega)))
 replace hr:=(hb.block (w.heap.size+1) (by simp;omega)).trans ((heap_alloc_old _ _ (by omega)).trans hr)
 clear hb hz
 go_wp2_with fail
 refine(Bp _ _ _ _ HY.out _).mono ?_
 rintro e w3 ⟨rfl,e1⟩
 rw[e1]
 clear e1 w3
 have HR:=Lib.hid hr
 clear hr
 go_wp2_with ((with_reducible refine Ac 2 ?_);refine Al HR.out Ke (Wn _ _ _ _ _ rfl rfl rfl) ?_)
 intro w4 hw4
 go_wp2
 refine bodyPost_ret (Ab Tryz.results96 _ w4 (w.heap.size+1) 116 #[.int .i64 0, .int .i64 0, .nilFunc, .nilFunc, .nilFunc] (0,0) _ rfl (by rw[hw4.out];exact setRow_heap _ _ _ _ _ _ HR.out) Tryz.underlying116 rfl Ke) rfl ⟨rfl, ?_⟩
 rw[hw4.out]
 exact below_setRow HB2.out (by omega) _
theorem Ro (t:Tk) (lo hi:Int) (f f2 f3:Nat) (hk:AdF t lo hi f f2 f3) (x:hbB t=true) (y:inB t.uses lo hi=true) (he: ∀(a:Array Value) (w:World),(callFunc f a).run Tryz.prog w= .ok (.enter f a) w) (z:Aey t f false) (w:World):Calls Tryz.prog 96 #[.agg #[.int .i64 t.ser, .int .i64 t.kind, .int .i64 t.frm, .int .i64 t.till, .int .i64 t.cls, .int .i64 t.card, .int .i64 t.seat, .int .i64 t.day, .int .i64 t.days, .int .i64 t.uses, .int .i64 t.epoch]] w fun e w'=>e= .returned (.tuple #[.agg #[.int .i64 0, .int .i64 0, .nilFunc, .nilFunc, .nilFunc], .bool false])∧Below w.heap.size w w':=by
 have HK:=Lib.hid hk
 have HX:=Lib.hid x
 have HY:=Lib.hid y
 have HZ:=Lib.hid z
 clear hk x y z
 go_enter Tryz.func96, Tryz.ntmps96
 go_wp2_with fail
 refine(HK.out _).mono ?_
 rintro e w1 ⟨rfl,hb⟩
 obtain⟨hc,hf⟩:=Ms hb
 have hz:=hb.size
 simp only[World.size_alloc]at hz
 have hz2:w.heap.size+1+1<w1.heap.size:=by omega
 have hz1:w.heap.size+1<w1.heap.size:=by omega
 have hr:=(hb.block (w.heap.size+1) (by simp)).trans ((heap_alloc_old _ _ (by simp)).trans (heap_alloc2_new w _ _))
 have HB1:=Lib.hid ((((Below.refl _ w).alloc (Nat.le_refl _) _).alloc (by simp) _|>.alloc (by simp;omega) _).trans (hb.mono (by simp;omega)))
 clear hb hz
 go_wp2_with fail
 refine(Kc t true HX.out _).mono ?_
 rintro e w2 ⟨rfl,hb⟩
 obtain⟨hc2,hf2⟩:=Ms hb
 have hz:=hb.size
 try simp only[World.size_alloc]at hz
 have hz22:w.heap.size+1+1<w2.heap.size:=by omega
 have hz21:w.heap.size+1<w2.heap.size:=by omega
 have hz20:w1.heap.size<w2.heap.size:=by omega
 have HB2:=Lib.hid ((HB1.out.alloc HB1.out.size _).trans (hb.mono (by simp;omega)))
 replace hr:=(hb.block (w.heap.size+1) (by simp;omega)).trans ((heap_alloc_old _ _ (by omega)).trans hr)
 clear hb hz
 go_wp2_with fail
 refine(Bp _ _ _ _ HY.out _).mono ?_
 rintro e w3 ⟨rfl,e1⟩
 rw[e1]
 clear e1 w3
 go_wp2_with fail
 refine(HZ.out _).mono ?_
 rintro e w3 ⟨rfl,hb⟩
 obtain⟨hc3,hf3⟩:=Ms hb
 have hz:=hb.size
 try simp only[World.size_alloc]at hz
 have hz32:w.heap.size+1+1<w3.heap.size:=by omega
 have hz31:w.heap.size+1<w3.heap.size:=by omega
 have hz30:w1.heap.size<w3.heap.size:=by omega
 have HB3:=Lib.hid (HB2.out.trans (hb.mono (by omega)))
 replace hr:=(hb.block (w.heap.size+1) (by omega)).trans hr
 clear hb hz
 have HR:=Lib.hid hr
 clear hr
 go_wp2_with ((with_reducible refine Ac 2 ?_);refine Al HR.out Ke (Wn _ _ _ _ _ rfl rfl rfl) ?_)
 intro w4 hw4
 go_wp2
 refine bodyPost_ret (Ab Tryz.results96 _ w4 (w.heap.size+1) 116 #[.int .i64 0, .int .i64 0, .nilFunc, .nilFunc, .nilFunc] (0,0) _ rfl (by rw[hw4.out];exact setRow_heap _ _ _ _ _ _ HR.out) Tryz.underlying116 rfl Ke) rfl ⟨rfl, ?_⟩
 rw[hw4.out]
 exact below_setRow HB3.out (by omega) _
theorem AfK (t:Tk) (hk:t.kind<1∨4<t.kind) (w:World):Calls Tryz.prog 96 #[.agg #[.int .i64 t.ser, .int .i64 t.kind, .int .i64 t.frm, .int .i64 t.till, .int .i64 t.cls, .int .i64 t.card, .int .i64 t.seat, .int .i64 t.day, .int .i64 t.days, .int .i64 t.uses, .int .i64 t.epoch]] w fun e w'=>e= .returned (.tuple #[.agg #[.int .i64 0, .int .i64 0, .nilFunc, .nilFunc, .nilFunc], .bool false])∧Below w.heap.size w w':=by
 have HK:=Lib.hid hk
 clear hk
 go_enter Tryz.func96, Tryz.ntmps96
 go_wp2_with fail
 refine(Aei t HK.out _).mono ?_
 rintro e w1 ⟨rfl,hb⟩
 obtain⟨hc,hf⟩:=Ms hb
 have hz:=hb.size
 simp only[World.size_alloc]at hz
 have hz2:w.heap.size+1+1<w1.heap.size:=by omega
 have hz1:w.heap.size+1<w1.heap.size:=by omega
 have hr:=(hb.block (w.heap.size+1) (by simp)).trans ((heap_alloc_old _ _ (by simp)).trans (heap_alloc2_new w _ _))
 have HB1:=Lib.hid ((((Below.refl _ w).alloc (Nat.le_refl _) _).alloc (by simp) _|>.alloc (by simp;omega) _).trans (hb.mono (by simp;omega)))
 clear hb hz
 have HR:=Lib.hid hr
 clear hr
 go_wp2_with ((with_reducible refine Ac 2 ?_);refine Al ((heap_alloc_old _ _ hz1).trans HR.out) Ke (Wn _ _ _ _ _ rfl rfl rfl) ?_)
 intro w4 hw4
 go_wp2
 refine bodyPost_ret (Ab Tryz.results96 _ w4 (w.heap.size+1) 116 #[.int .i64 0, .int .i64 0, .nilFunc, .nilFunc, .nilFunc] (0,0) _ rfl (by rw[hw4.out];exact setRow_heap _ _ _ _ _ _ ((heap_alloc_old _ _ hz1).trans HR.out)) Tryz.underlying116 rfl Ke) rfl ⟨rfl, ?_⟩
 rw[hw4.out]
 exact below_setRow (HB1.out.alloc HB1.out.size _) (by omega) _
theorem wI (t:Tk) (hok:okT t=false) (w:World):Calls Tryz.prog 96 #[.agg #[.int .i64 t.ser, .int .i64 t.kind, .int .i64 t.frm, .int .i64 t.till, .int .i64 t.cls, .int .i64 t.card, .int .i64 t.seat, .int .i64 t.day, .int .i64 t.days, .int .i64 t.uses, .int .i64 t.epoch]] w fun e w'=>e= .returned (.tuple #[.agg #[.int .i64 0, .int .i64 0, .nilFunc, .nilFunc, .nilFunc], .bool false])∧Below w.heap.size w w':=by
 by_cases h1:t.kind=1
 ·exact rX (Aer h1) hok (Rm t 1 1 _ _ _ (Vo t h1) · w) (Rn t 1 1 _ _ _ (Vo t h1) · · w) (fun x y z=>Ro t 1 1 _ _ _ (Vo t h1) x y (fun _ _=>by kernel_rfl) (Gi t _ z) w)
 ·by_cases h2:t.kind=2
  ·exact rX (Aes h2) hok (Rm t 2 2 _ _ _ (Vp t h2) · w) (Rn t 2 2 _ _ _ (Vp t h2) · · w) (fun x y z=>Ro t 2 2 _ _ _ (Vp t h2) x y (fun _ _=>by kernel_rfl) (Gi t _ z) w)
  ·by_cases h3:t.kind=3
   ·exact rX (Aet h3) hok (Rm t 0 0 _ _ _ (Vq t h3) · w) (Rn t 0 0 _ _ _ (Vq t h3) · · w) (fun x y z=>Ro t 0 0 _ _ _ (Vq t h3) x y (fun _ _=>by kernel_rfl) (Oz t _ z) w)
   ·by_cases h4:t.kind=4
    ·exact rX (Aeu h4) hok (Rm t 2 20 _ _ _ (Vr t h4) · w) (Rn t 2 20 _ _ _ (Vr t h4) · · w) (fun x y z=>Ro t 2 20 _ _ _ (Vr t h4) x y (fun _ _=>by kernel_rfl) (Gi t _ z) w)
    ·exact AfK t (by omega) w
theorem Abq (t:Tk) (hk:t.kind=1) (hok:okT t=true) (w:World):Calls Tryz.prog 96 #[.agg #[.int .i64 t.ser, .int .i64 t.kind, .int .i64 t.frm, .int .i64 t.till, .int .i64 t.cls, .int .i64 t.card, .int .i64 t.seat, .int .i64 t.day, .int .i64 t.days, .int .i64 t.uses, .int .i64 t.epoch]] w fun e w'=>e= .returned (.tuple #[.agg #[.int .i64 1, .int .i64 1, .func (.func 188) #[.agg #[.int .i64 t.ser, .int .i64 t.kind, .int .i64 t.frm, .int .i64 t.till, .int .i64 t.cls, .int .i64 t.card, .int .i64 t.seat, .int .i64 t.day, .int .i64 t.days, .int .i64 t.uses, .int .i64 t.epoch]] #[], .func (.func 189) #[.agg #[.int .i64 t.ser, .int .i64 t.kind, .int .i64 t.frm, .int .i64 t.till, .int .i64 t.cls, .int .i64 t.card, .int .i64 t.seat, .int .i64 t.day, .int .i64 t.days, .int .i64 t.uses, .int .i64 t.epoch]] #[], .func (.func 190) #[.agg #[.int .i64 t.ser, .int .i64 t.kind, .int .i64 t.frm, .int .i64 t.till, .int .i64 t.cls, .int .i64 t.card, .int .i64 t.seat, .int .i64 t.day, .int .i64 t.days, .int .i64 t.uses, .int .i64 t.epoch]] #[]], .bool true])∧Below w.heap.size w w':=by
 rw[Aer hk]at hok
 simp only[Bool.and_eq_true]at hok
 exact Rl t 1 1 _ _ _ (Vo t hk) hok.1 hok.2.1 (fun _ _=>by kernel_rfl) (Gi t _ hok.2.2) w
theorem Abr (t:Tk) (hk:t.kind=2) (hok:okT t=true) (w:World):Calls Tryz.prog 96 #[.agg #[.int .i64 t.ser, .int .i64 t.kind, .int .i64 t.frm, .int .i64 t.till, .int .i64 t.cls, .int .i64 t.card, .int .i64 t.seat, .int .i64 t.day, .int .i64 t.days, .int .i64 t.uses, .int .i64 t.epoch]] w fun e w'=>e= .returned (.tuple #[.agg #[.int .i64 2, .int .i64 2, .func (.func 188) #[.agg #[.int .i64 t.ser, .int .i64 t.kind, .int .i64 t.frm, .int .i64 t.till, .int .i64 t.cls, .int .i64 t.card, .int .i64 t.seat, .int .i64 t.day, .int .i64 t.days, .int .i64 t.uses, .int .i64 t.epoch]] #[], .func (.func 189) #[.agg #[.int .i64 t.ser, .int .i64 t.kind, .int .i64 t.frm, .int .i64 t.till, .int .i64 t.cls, .int .i64 t.card, .int .i64 t.seat, .int .i64 t.day, .int .i64 t.days, .int .i64 t.uses, .int .i64 t.epoch]] #[], .func (.func 191) #[.agg #[.int .i64 t.ser, .int .i64 t.kind, .int .i64 t.frm, .int .i64 t.till, .int .i64 t.cls, .int .i64 t.card, .int .i64 t.seat, .int .i64 t.day, .int .i64 t.days, .int .i64 t.uses, .int .i64 t.epoch]] #[]], .bool true])∧Below w.heap.size w w':=by
 rw[Aes hk]at hok
 simp only[Bool.and_eq_true]at hok
 exact Rl t 2 2 _ _ _ (Vp t hk) hok.1 hok.2.1 (fun _ _=>by kernel_rfl) (Gi t _ hok.2.2) w
theorem Abs (t:Tk) (hk:t.kind=3) (hok:okT t=true) (w:World):Calls Tryz.prog 96 #[.agg #[.int .i64 t.ser, .int .i64 t.kind, .int .i64 t.frm, .int .i64 t.till, .int .i64 t.cls, .int .i64 t.card, .int .i64 t.seat, .int .i64 t.day, .int .i64 t.days, .int .i64 t.uses, .int .i64 t.epoch]] w fun e w'=>e= .returned (.tuple #[.agg #[.int .i64 0, .int .i64 0, .func (.func 192) #[.agg #[.int .i64 t.ser, .int .i64 t.kind, .int .i64 t.frm, .int .i64 t.till, .int .i64 t.cls, .int .i64 t.card, .int .i64 t.seat, .int .i64 t.day, .int .i64 t.days, .int .i64 t.uses, .int .i64 t.epoch]] #[], .func (.func 193) #[.agg #[.int .i64 t.ser, .int .i64 t.kind, .int .i64 t.frm, .int .i64 t.till, .int .i64 t.cls, .int .i64 t.card, .int .i64 t.seat, .int .i64 t.day, .int .i64 t.days, .int .i64 t.uses, .int .i64 t.epoch]] #[], .func (.func 194) #[.agg #[.int .i64 t.ser, .int .i64 t.kind, .int .i64 t.frm, .int .i64 t.till, .int .i64 t.cls, .int .i64 t.card, .int .i64 t.seat, .int .i64 t.day, .int .i64 t.days, .int .i64 t.uses, .int .i64 t.epoch]] #[]], .bool true])∧Below w.heap.size w w':=by
 rw[Aet hk]at hok
 simp only[Bool.and_eq_true]at hok
 exact Rl t 0 0 _ _ _ (Vq t hk) hok.1 hok.2.1 (fun _ _=>by kernel_rfl) (Oz t _ hok.2.2) w
theorem Abt (t:Tk) (hk:t.kind=4) (hok:okT t=true) (w:World):Calls Tryz.prog 96 #[.agg #[.int .i64 t.ser, .int .i64 t.kind, .int .i64 t.frm, .int .i64 t.till, .int .i64 t.cls, .int .i64 t.card, .int .i64 t.seat, .int .i64 t.day, .int .i64 t.days, .int .i64 t.uses, .int .i64 t.epoch]] w fun e w'=>e= .returned (.tuple #[.agg #[.int .i64 2, .int .i64 20, .func (.func 188) #[.agg #[.int .i64 t.ser, .int .i64 t.kind, .int .i64 t.frm, .int .i64 t.till, .int .i64 t.cls, .int .i64 t.card, .int .i64 t.seat, .int .i64 t.day, .int .i64 t.days, .int .i64 t.uses, .int .i64 t.epoch]] #[], .func (.func 189) #[.agg #[.int .i64 t.ser, .int .i64 t.kind, .int .i64 t.frm, .int .i64 t.till, .int .i64 t.cls, .int .i64 t.card, .int .i64 t.seat, .int .i64 t.day, .int .i64 t.days, .int .i64 t.uses, .int .i64 t.epoch]] #[], .func (.func 195) #[.agg #[.int .i64 t.ser, .int .i64 t.kind, .int .i64 t.frm, .int .i64 t.till, .int .i64 t.cls, .int .i64 t.card, .int .i64 t.seat, .int .i64 t.day, .int .i64 t.days, .int .i64 t.uses, .int .i64 t.epoch]] #[]], .bool true])∧Below w.heap.size w w':=by
 rw[Aeu hk]at hok
 simp only[Bool.and_eq_true]at hok
 exact Rl t 2 20 _ _ _ (Vr t hk) hok.1 hok.2.1 (fun _ _=>by kernel_rfl) (Gi t _ hok.2.2) w
theorem Abu {t:Tk} (h:okT t=true):t.kind=1∨t.kind=2∨t.kind=3∨t.kind=4:=by
 have hn:=(Dc t).1 ((Dm t).1 h).1
 omega
theorem Kr (t:Tk) (b:Bool) (hb:okT t=b) (w:World):Calls Tryz.prog 52 #[.agg #[.int .i64 t.ser, .int .i64 t.kind, .int .i64 t.frm, .int .i64 t.till, .int .i64 t.cls, .int .i64 t.card, .int .i64 t.seat, .int .i64 t.day, .int .i64 t.days, .int .i64 t.uses, .int .i64 t.epoch]] w fun e w'=>e= .returned (.bool b)∧Below w.heap.size w w':=by
 cases b with
 |false=>
  have HO:=Lib.hid hb
  clear hb
  go_enter Tryz.func52, Tryz.ntmps52
  go_wp2_with fail
  refine(wI t HO.out _).mono ?_
  rintro e w1 ⟨rfl,hb⟩
  have HB1:=Lib.hid (((Below.refl _ w).alloc (Nat.le_refl _) _).trans (hb.mono (by simp)))
  clear hb
  go_wp2
  go_ret
  exact⟨rfl,HB1.out.alloc HB1.out.size _⟩
 |true=>
  have HO:=Lib.hid hb
  have hk:=Abu hb
  clear hb
  rcases hk with hk|hk|hk|hk
  ·have HK:=Lib.hid hk
   clear hk
   go_enter Tryz.func52, Tryz.ntmps52
   go_wp2_with fail
   refine(Abq t HK.out HO.out _).mono ?_
   rintro e w1 ⟨rfl,hb⟩
   have HB1:=Lib.hid (((Below.refl _ w).alloc (Nat.le_refl _) _).trans (hb.mono (by simp)))
   clear hb
   go_wp2
   go_ret
   exact⟨rfl,HB1.out.alloc HB1.out.size _⟩
  ·have HK:=Lib.hid hk
   clear hk
   go_enter Tryz.func52, Tryz.ntmps52
   go_wp2_with fail
   refine(Abr t HK.out HO.out _).mono ?_
   rintro e w1 ⟨rfl,hb⟩
   have HB1:=Lib.hid (((Below.refl _ w).alloc (Nat.le_refl _) _).trans (hb.mono (by simp)))
   clear hb
   go_wp2
   go_ret
   exact⟨rfl,HB1.out.alloc HB1.out.size _⟩
  ·have HK:=Lib.hid hk
   clear hk
   go_enter Tryz.func52, Tryz.ntmps52
   go_wp2_with fail
   refine(Abs t HK.out HO.out _).mono ?_
   rintro e w1 ⟨rfl,hb⟩
   have HB1:=Lib.hid (((Below.refl _ w).alloc (Nat.le_refl _) _).trans (hb.mono (by simp)))
   clear hb
   go_wp2
   go_ret
   exact⟨rfl,HB1.out.alloc HB1.out.size _⟩
  ·have HK:=Lib.hid hk
   clear hk
   go_enter Tryz.func52, Tryz.ntmps52
   go_wp2_with fail
   refine(Abt t HK.out HO.out _).mono ?_
   rintro e w1 ⟨rfl,hb⟩
   have HB1:=Lib.hid (((Below.refl _ w).alloc (Nat.le_refl _) _).trans (hb.mono (by simp)))
   clear hb
   go_wp2
   go_ret
   exact⟨rfl,HB1.out.alloc HB1.out.size _⟩
end Go.Proofs.YtmdbfogjfbbpjaaGreatDoor
