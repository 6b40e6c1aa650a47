import Derived.Test.YtmdbfogjfbbpjaaGreatDoorLayPPut0
import Derived.Laws.EntriesVeiled
import Derived.Test.YtmdbfogjfbbpjaaGreatDoorLineMath
import Derived.Test.YtmdbfogjfbbpjaaGreatDoorTrackBackMath
import Derived.Test.YtmdbfogjfbbpjaaGreatDoorLayPFields
import Derived.Test.YtmdbfogjfbbpjaaGreatDoorShaRefSum
import Derived.Deep.RegionWith
set_option maxHeartbeats 1600000
set_option maxRecDepth 100000
set_option linter.unusedVariables false
namespace Go.Proofs.YtmdbfogjfbbpjaaGreatDoor
open Go.ChangeShapes Go.WideShapes Go.ChangeAt Go.RowKit
def Ih (w:World) (b:Nat) (x:Int):Prop:=w.heap[b]?=some (.cells #[.int .i64 x] 3 (0,0))
theorem Ih.lt {w:World} {b:Nat} {x:Int} (h:Ih w b x):b<w.heap.size:=lt_of_block h
theorem Ih.next {w w':World} {b:Nat} {x:Int} (h:Ih w b x) (hb:Below w.heap.size w w'):Ih w' b x:=(hb.block _ h.lt).trans h
theorem Ih.new (w:World) (x:Int):Ih (w.alloc (.cells #[.int .i64 x] 3)) w.heap.size x:=heap_alloc_new w _
theorem Ih.set {w:World} {b:Nat} {x:Int} (h:Ih w b x) (y:Int):Ih (w.setCell ⟨b,0,none⟩ (.int .i64 y)) b y:=one_setCell h
theorem Sf (b:B5): ∀k:Nat,k<5→ ∀w:World,(Instr.index 182 (.agg #[.bool b.b0, .bool b.b1, .bool b.b2, .bool b.b3, .bool b.b4]) (.int .i64 (k:Int))).run Tryz.prog w= .ok (.bool (Tc b k)) w
 |0,_=>fun w=>by kernel_rfl
 |1,_=>fun w=>by kernel_rfl
 |2,_=>fun w=>by kernel_rfl
 |3,_=>fun w=>by kernel_rfl
 |4,_=>fun w=>by kernel_rfl
 |k+5,h=>absurd h (by omega)
theorem Acs (k m:Nat) (hk:k<5) (hm:m<32) (C:Nat) (w:World) (hC:Ih w C m):Calls Tryz.prog 254 #[.int .i64 (k:Int), .pointer (some ⟨C,0,none⟩)] w fun e w'=>e= .returned (.tuple #[])∧Ih w' C ((m|||2^k:Nat):Int)∧Below C w w':=by
 have c0:=cell_of_one hC
 have f0:=free_of_one hC
 have b0:(0:Int)≤(k:Int):=by omega
 have b1:(k:Int)≤64:=by omega
 have w1:IntKind.i64.wrap (1*2^k)=2^k:=bI k hk
 have w2:IntKind.i64.wrap (2^k)=2^k:=by have:=bI k hk;rwa[Int.one_mul]at this
 have o1:=Abi m hm k hk
 have HO:=Lib.hid o1
 have HI:=Lib.hid hC
 clear o1 hC hk hm
 go_enter Tryz.func254, Tryz.ntmps254
 go_wp2
 go_region
 all_goals (try go_wp2)
 all_goals (try go_end0)
 all_goals
  rw[HO.out]
  exact⟨rfl,HI.out.set _,Ae ((Below.refl C w).setCell (p:=⟨C,0,none⟩) (Nat.le_refl _) _) 1⟩
theorem rD (k m:Nat) (hm:m<32) (C:Nat) (w:World) (hC:Ih w C m):Calls Tryz.prog 260 #[.int .i64 (k:Int), .pointer (some ⟨C,0,none⟩)] w fun e w'=>e= .returned (.tuple #[])∧Ih w' C ((m+1:Nat):Int)∧Below C w w':=by
 have c0:=cell_of_one hC
 have f0:=free_of_one hC
 have w1:IntKind.i64.wrap ((m:Int)+1)=(m:Int)+1:=IntWalk.i64_in _ (by omega)
 have HI:=Lib.hid hC
 clear hC hm
 go_enter Tryz.func260, Tryz.ntmps260
 go_wp2
 go_end0
 exact⟨rfl,HI.out.set _,(Below.refl C w).setCell (p:=⟨C,0,none⟩) (Nat.le_refl _) _⟩
theorem mT (b:B5) (C:Nat) (w:World) (hC:Ih w C 0):Calls Tryz.prog 253 #[.agg #[.bool b.b0, .bool b.b1, .bool b.b2, .bool b.b3, .bool b.b4], .func (.func 254) #[] #[.pointer (some ⟨C,0,none⟩)]] w fun e w'=>e= .returned (.tuple #[])∧Ih w' C ((orUp b 5:Nat):Int)∧Below C w w':=by
 obtain⟨w1,hw1⟩: ∃w1,w1=w.alloc (.cells #[.bool b.b0, .bool b.b1, .bool b.b2, .bool b.b3, .bool b.b4] 182):=⟨_,rfl⟩
 have hbel:=(Aa w #[.bool b.b0, .bool b.b1, .bool b.b2, .bool b.b3, .bool b.b4] 182)
 rw[←hw1]at hbel
 have HI:Hid (Ih w1 C 0):=Lib.hid (hC.next hbel)
 have HB:Hid (Below C w w1):=Lib.hid (hbel.mono (Nat.le_of_lt hC.lt))
 have HX:Hid (Bc w1 w.heap.size b):=Lib.hid (by rw[hw1];exact Bc.new w b)
 have HW:Hid (w.alloc (.cells #[.bool b.b0, .bool b.b1, .bool b.b2, .bool b.b3, .bool b.b4] 182)=w1):=Lib.hid hw1.symm
 obtain⟨c0,c1,c2,c3,c4⟩:=HX.out.cells
 clear hw1 hbel hC
 go_enter Tryz.func253, Tryz.ntmps253
 go_wp2
 rw[HW.out]
 go_wp2
 go_loopw [7] (fun i wr=> ∃k:Nat,k≤5∧i= .int .i64 k∧Ih wr C ((orUp b k:Nat):Int)∧Below C w wr) (fun i _=>5 - (intOf i).toNat)
 case atStart=>exact⟨0,by omega,rfl,HI.out,HB.out⟩
 case round=>
  obtain⟨k,hk,rfl,hx,hbel⟩:=hrel
  replace HI:=Lib.hid hx
  replace HB:=Lib.hid hbel
  clear hx hbel
  by_cases hlt:k<5
  ·have HL:=Lib.hid hlt
   have b1:(k:Int)<5:=by omega
   have hidx:=Sf b k hlt
   clear hlt
   cases hg:Tc b k
   case false=>
    have HS:=Lib.hid (show orUp b (k+1)=orUp b k by simp only[orUp,hg];rfl)
    rw[hg]at hidx
    clear hg
    go_wp2
    case roundEnd=>exact⟨⟨k+1,HL.out,by go_num,by rw[HS.out];exact HI.out,HB.out⟩,by have:=HL.out;simp[intOf];omega⟩
   case true=>
    have HS:=Lib.hid (show orUp b (k+1)=orUp b k|||2^k by simp only[orUp,hg];rfl)
    rw[hg]at hidx
    clear hg
    go_wp2_with (go_at_call 254;refine(Acs k (orUp b k) HL.out (Ad9 b (Nat.le_of_lt HL.out)) C _ HI.out).mono ?_;rintro e w2 ⟨rfl,hi2,hb2⟩)
    case roundEnd=>exact⟨⟨k+1,HL.out,by go_num,by rw[HS.out];exact hi2,HB.out.trans hb2⟩,by have:=HL.out;simp[intOf];omega⟩
  ·have e:k=5:=by omega
   subst e
   have hb1: ¬(((5:Nat):Int)<5):=by omega
   clear hlt hk
   go_wp2
   go_end0
   exact⟨rfl,HI.out,HB.out⟩
theorem Zw (b:B5) (C:Nat) (w:World) (hC:Ih w C 0):Calls Tryz.prog 253 #[.agg #[.bool b.b0, .bool b.b1, .bool b.b2, .bool b.b3, .bool b.b4], .func (.func 260) #[] #[.pointer (some ⟨C,0,none⟩)]] w fun e w'=>e= .returned (.tuple #[])∧Ih w' C ((cntUp b 5:Nat):Int)∧Below C w w':=by
 obtain⟨w1,hw1⟩: ∃w1,w1=w.alloc (.cells #[.bool b.b0, .bool b.b1, .bool b.b2, .bool b.b3, .bool b.b4] 182):=⟨_,rfl⟩
 have hbel:=(Aa w #[.bool b.b0, .bool b.b1, .bool b.b2, .bool b.b3, .bool b.b4] 182)
 rw[←hw1]at hbel
 have HI:Hid (Ih w1 C 0):=Lib.hid (hC.next hbel)
 have HB:Hid (Below C w w1):=Lib.hid (hbel.mono (Nat.le_of_lt hC.lt))
 have HX:Hid (Bc w1 w.heap.size b):=Lib.hid (by rw[hw1];exact Bc.new w b)
 have HW:Hid (w.alloc (.cells #[.bool b.b0, .bool b.b1, .bool b.b2, .bool b.b3, .bool b.b4] 182)=w1):=Lib.hid hw1.symm
 obtain⟨c0,c1,c2,c3,c4⟩:=HX.out.cells
 clear hw1 hbel hC
 go_enter Tryz.func253, Tryz.ntmps253
 go_wp2
 rw[HW.out]
 go_wp2
 go_loopw [7] (fun i wr=> ∃k:Nat,k≤5∧i= .int .i64 k∧Ih wr C ((cntUp b k:Nat):Int)∧Below C w wr) (fun i _=>5 - (intOf i).toNat)
 case atStart=>exact⟨0,by omega,rfl,HI.out,HB.out⟩
 case round=>
  obtain⟨k,hk,rfl,hx,hbel⟩:=hrel
  replace HI:=Lib.hid hx
  replace HB:=Lib.hid hbel
  clear hx hbel
  by_cases hlt:k<5
  ·have HL:=Lib.hid hlt
   have b1:(k:Int)<5:=by omega
   have hidx:=Sf b k hlt
   clear hlt
   cases hg:Tc b k
   case false=>
    have HS:=Lib.hid (show cntUp b (k+1)=cntUp b k by simp only[cntUp,hg];rfl)
    rw[hg]at hidx
    clear hg
    go_wp2
    case roundEnd=>exact⟨⟨k+1,HL.out,by go_num,by rw[HS.out];exact HI.out,HB.out⟩,by have:=HL.out;simp[intOf];omega⟩
   case true=>
    have HS:=Lib.hid (show cntUp b (k+1)=cntUp b k+1 by simp only[cntUp,hg];rfl)
    rw[hg]at hidx
    clear hg
    go_wp2_with (go_at_call 260;refine(rD k (cntUp b k) (by have:=kR b k;have:=HL.out;omega) C _ HI.out).mono ?_;rintro e w2 ⟨rfl,hi2,hb2⟩)
    case roundEnd=>exact⟨⟨k+1,HL.out,by go_num,by rw[HS.out];exact hi2,HB.out.trans hb2⟩,by have:=HL.out;simp[intOf];omega⟩
  ·have e:k=5:=by omega
   subst e
   have hb1: ¬(((5:Nat):Int)<5):=by omega
   clear hlt hk
   go_wp2
   go_end0
   exact⟨rfl,HI.out,HB.out⟩
theorem tR (b:B5) (v:Int) (hv:ofB b=v) (w:World):Calls Tryz.prog 239 #[.agg #[.bool b.b0, .bool b.b1, .bool b.b2, .bool b.b3, .bool b.b4]] w fun e w'=>e= .returned (.int .i64 v)∧Below w.heap.size w w':=by
 obtain⟨w1,hw1⟩: ∃w1,w1=w.alloc (.cells #[.bool b.b0, .bool b.b1, .bool b.b2, .bool b.b3, .bool b.b4] 182):=⟨_,rfl⟩
 obtain⟨w2,hw2⟩: ∃w2,w2=w1.alloc (.cells #[.int .i64 0] 3):=⟨_,rfl⟩
 have hsz:w1.heap.size=w.heap.size+1:=by rw[hw1];exact Array.size_push ..
 have HB:Hid (Below w.heap.size w w2):=Lib.hid (by rw[hw2,hw1];exact(Aa w _ _).trans ((Aa _ _ _).mono (Aa w _ _).size))
 have HX:Hid (Bc w2 w.heap.size b):=Lib.hid (by rw[hw2];exact Bc.next (by rw[hw1];exact Bc.new w b) (Aa w1 _ _))
 have HI:Hid (Ih w2 (w.heap.size+1) 0):=Lib.hid (by rw[hw2, ←hsz];exact Ih.new w1 0)
 have HW:Hid ((w.alloc (.cells #[.bool b.b0, .bool b.b1, .bool b.b2, .bool b.b3, .bool b.b4] 182)).alloc (.cells #[.int .i64 0] 3)=w2):=Lib.hid (by rw[hw2,hw1])
 obtain⟨c0,c1,c2,c3,c4⟩:=HX.out.cells
 have HV:Hid (((orUp b 5:Nat):Int)=v):=Lib.hid ((Abg b).trans hv)
 clear hw1 hw2 hsz w1 hv
 go_enter Tryz.func239, Tryz.ntmps239
 go_wp2_with (go_at_call 253;refine(mT b (w.heap.size+1) _ (by rw[HW.out];exact HI.out)).mono ?_;rintro e w3 ⟨rfl,hi3,hb3⟩;rw[HV.out]at hi3;have cC:=cell_of_one hi3)
 go_ret
 refine⟨rfl,HB.out.trans (Below.mono ?_ (Nat.le_succ _))⟩
 rw[←HW.out]
 exact hb3
theorem dG (b:B5) (v:Int) (hv:((cntUp b 5:Nat):Int)=v) (w:World):Calls Tryz.prog 255 #[.agg #[.bool b.b0, .bool b.b1, .bool b.b2, .bool b.b3, .bool b.b4]] w fun e w'=>e= .returned (.int .i64 v)∧Below w.heap.size w w':=by
 obtain⟨w1,hw1⟩: ∃w1,w1=w.alloc (.cells #[.bool b.b0, .bool b.b1, .bool b.b2, .bool b.b3, .bool b.b4] 182):=⟨_,rfl⟩
 obtain⟨w2,hw2⟩: ∃w2,w2=w1.alloc (.cells #[.int .i64 0] 3):=⟨_,rfl⟩
 have hsz:w1.heap.size=w.heap.size+1:=by rw[hw1];exact Array.size_push ..
 have HB:Hid (Below w.heap.size w w2):=Lib.hid (by rw[hw2,hw1];exact(Aa w _ _).trans ((Aa _ _ _).mono (Aa w _ _).size))
 have HX:Hid (Bc w2 w.heap.size b):=Lib.hid (by rw[hw2];exact Bc.next (by rw[hw1];exact Bc.new w b) (Aa w1 _ _))
 have HI:Hid (Ih w2 (w.heap.size+1) 0):=Lib.hid (by rw[hw2, ←hsz];exact Ih.new w1 0)
 have HW:Hid ((w.alloc (.cells #[.bool b.b0, .bool b.b1, .bool b.b2, .bool b.b3, .bool b.b4] 182)).alloc (.cells #[.int .i64 0] 3)=w2):=Lib.hid (by rw[hw2,hw1])
 obtain⟨c0,c1,c2,c3,c4⟩:=HX.out.cells
 have HV:Hid (((cntUp b 5:Nat):Int)=v):=Lib.hid (hv)
 clear hw1 hw2 hsz w1 hv
 go_enter Tryz.func255, Tryz.ntmps255
 go_wp2_with (go_at_call 253;refine(Zw b (w.heap.size+1) _ (by rw[HW.out];exact HI.out)).mono ?_;rintro e w3 ⟨rfl,hi3,hb3⟩;rw[HV.out]at hi3;have cC:=cell_of_one hi3)
 go_ret
 refine⟨rfl,HB.out.trans (Below.mono ?_ (Nat.le_succ _))⟩
 rw[←HW.out]
 exact hb3
theorem Mg (n:Nat) (b:B5) (hn:n<16) (hb:gB n=b) (w:World):Calls Tryz.prog 240 #[.int .i64 (n:Int)] w fun e w'=>e= .returned (.agg #[.bool b.b0, .bool b.b1, .bool b.b2, .bool b.b3, .bool b.b4])∧Below w.heap.size w w':=by
 obtain⟨d,hd⟩: ∃d,upB n 5=d:=⟨_,rfl⟩
 obtain⟨k,hk⟩: ∃k,cntUp d 5=k:=⟨_,rfl⟩
 have hk5:k≤5:=by rw[←hk];exact kR d 5
 obtain⟨w1,hw1⟩: ∃w1,w1=w.alloc (.cells #[.bool false, .bool false, .bool false, .bool false, .bool false] 182):=⟨_,rfl⟩
 have HB:Hid (Below w.heap.size w w1):=Lib.hid (by rw[hw1];exact Aa w _ _)
 have HR:Hid (Bc w1 w.heap.size noB):=Lib.hid (by rw[hw1];exact Bc.new w noB)
 have HW:Hid (w.alloc (.cells #[.bool false, .bool false, .bool false, .bool false, .bool false] 182)=w1):=Lib.hid hw1.symm
 have hsz1:w.heap.size<w1.heap.size:=HR.out.lt
 have HS1:=Lib.hid hsz1
 have HD:=Lib.hid hd
 have HK:=Lib.hid hk
 have HN:=Lib.hid hn
 have HG:Hid (fB d (k % 2==0) 4=b):=Lib.hid (by rw[←hb,gB,hd,hk])
 clear hw1 hsz1 hd hk hn hb
 cases q:((k:Int) % 2==0)
 case false=>
  have HQ:Hid (fB d _ 4=b):=Lib.hid (show fB d (decide ((k:Int) % 2=0)) 4=b by rw[←HG.out];congr 1;rw[Bool.eq_iff_iff];simp;omega)
  have hq2:decide ((k:Int) % 2=0)=_:=q
  rw[hq2]at HQ
  clear hq2
  go_enter Tryz.func240, Tryz.ntmps240
  go_wp2_with (first
   |(go_at_call 216;rw[HW.out];refine(Pw n d (Nat.lt_trans HN.out (by decide)) HD.out _).mono ?_;rintro e w2 ⟨rfl,hb2⟩;have HX2:=Bc.new w2 d;have hr2:=(HR.out.next hb2).next (Aa w2 #[.bool d.b0, .bool d.b1, .bool d.b2, .bool d.b3, .bool d.b4] 182);obtain⟨c0,c1,c2,c3,c4⟩:=HX2.cells)
   |(go_at_call 255;refine(dG d k (by rw[HK.out]) _).mono ?_;rintro e w4 ⟨rfl,hb4⟩;clear c0 c1 c2 c3 c4;have HX4:=HX2.next hb4;have hne:w.heap.size≠w2.heap.size:=(by have:=HS1.out;have:=hb2.size;omega);have f4:=HX4.frozen 4;have s4:=HX4.get 4 (by decide);have HX5:=HX4.set false 4 (by decide);rw[HQ.out]at HX5;have hr5:=(hr2.next hb4).setAt (.bool false) (j:=4) hne;obtain⟨c0,c1,c2,c3,c4⟩:=HX5.cells)
   |((with_reducible refine Ac 2 ?_);refine Ad (o:=⟨none, .store 182 (.tmp 2) (.tmp 11),_,_,_,_⟩) rfl 182 (.tmp 2) (.tmp 11) rfl w.heap.size #[.bool b.b0, .bool b.b1, .bool b.b2, .bool b.b3, .bool b.b4] rfl rfl 182 #[.bool false, .bool false, .bool false, .bool false, .bool false] hr5 Fo rfl (Pq _ _ _ _ _) ?_;intro w6 hw6))
  have hr6:=setRow_heap (w4.setCell ⟨w2.heap.size,4,none⟩ (.bool false)) w.heap.size #[.bool false, .bool false, .bool false, .bool false, .bool false] #[.bool b.b0, .bool b.b1, .bool b.b2, .bool b.b3, .bool b.b4] 182 (0,0) hr5
  rw[←hw6.out]at hr6
  have hb6:=An hw6.out (Nat.le_refl w.heap.size)
  have hle1:=HS1.out
  have hle2:=hb2.size
  have hal:=Aa w2 #[.bool d.b0, .bool d.b1, .bool d.b2, .bool d.b3, .bool d.b4] 182
  have h1:=(HB.out.trans (hb2.mono (Nat.le_of_lt hle1))).trans (hal.mono (by omega))
  have h2:=(h1.trans (hb4.mono (by have:=hal.size;omega))).setCell (p:=⟨w2.heap.size,4,none⟩) (by show w.heap.size≤w2.heap.size;omega) (.bool false)
  refine bodyPost_ret (Ic Tryz.results240 _ w6 w.heap.size 182 #[.bool b.b0, .bool b.b1, .bool b.b2, .bool b.b3, .bool b.b4] (0,0) _ rfl hr6 Tryz.underlying182 rfl Fo) rfl ⟨rfl,h2.trans hb6⟩
 case true=>
  have HQ:Hid (fB d _ 4=b):=Lib.hid (show fB d (decide ((k:Int) % 2=0)) 4=b by rw[←HG.out];congr 1;rw[Bool.eq_iff_iff];simp;omega)
  have hq2:decide ((k:Int) % 2=0)=_:=q
  rw[hq2]at HQ
  clear hq2
  go_enter Tryz.func240, Tryz.ntmps240
  go_wp2_with (first
   |(go_at_call 216;rw[HW.out];refine(Pw n d (Nat.lt_trans HN.out (by decide)) HD.out _).mono ?_;rintro e w2 ⟨rfl,hb2⟩;have HX2:=Bc.new w2 d;have hr2:=(HR.out.next hb2).next (Aa w2 #[.bool d.b0, .bool d.b1, .bool d.b2, .bool d.b3, .bool d.b4] 182);obtain⟨c0,c1,c2,c3,c4⟩:=HX2.cells)
   |(go_at_call 255;refine(dG d k (by rw[HK.out]) _).mono ?_;rintro e w4 ⟨rfl,hb4⟩;clear c0 c1 c2 c3 c4;have HX4:=HX2.next hb4;have hne:w.heap.size≠w2.heap.size:=(by have:=HS1.out;have:=hb2.size;omega);have f4:=HX4.frozen 4;have s4:=HX4.get 4 (by decide);have HX5:=HX4.set true 4 (by decide);rw[HQ.out]at HX5;have hr5:=(hr2.next hb4).setAt (.bool true) (j:=4) hne;obtain⟨c0,c1,c2,c3,c4⟩:=HX5.cells)
   |((with_reducible refine Ac 2 ?_);refine Ad (o:=⟨none, .store 182 (.tmp 2) (.tmp 11),_,_,_,_⟩) rfl 182 (.tmp 2) (.tmp 11) rfl w.heap.size #[.bool b.b0, .bool b.b1, .bool b.b2, .bool b.b3, .bool b.b4] rfl rfl 182 #[.bool false, .bool false, .bool false, .bool false, .bool false] hr5 Fo rfl (Pq _ _ _ _ _) ?_;intro w6 hw6))
  have hr6:=setRow_heap (w4.setCell ⟨w2.heap.size,4,none⟩ (.bool true)) w.heap.size #[.bool false, .bool false, .bool false, .bool false, .bool false] #[.bool b.b0, .bool b.b1, .bool b.b2, .bool b.b3, .bool b.b4] 182 (0,0) hr5
  rw[←hw6.out]at hr6
  have hb6:=An hw6.out (Nat.le_refl w.heap.size)
  have hle1:=HS1.out
  have hle2:=hb2.size
  have hal:=Aa w2 #[.bool d.b0, .bool d.b1, .bool d.b2, .bool d.b3, .bool d.b4] 182
  have h1:=(HB.out.trans (hb2.mono (Nat.le_of_lt hle1))).trans (hal.mono (by omega))
  have h2:=(h1.trans (hb4.mono (by have:=hal.size;omega))).setCell (p:=⟨w2.heap.size,4,none⟩) (by show w.heap.size≤w2.heap.size;omega) (.bool true)
  refine bodyPost_ret (Ic Tryz.results240 _ w6 w.heap.size 182 #[.bool b.b0, .bool b.b1, .bool b.b2, .bool b.b3, .bool b.b4] (0,0) _ rfl hr6 Tryz.underlying182 rfl Fo) rfl ⟨rfl,h2.trans hb6⟩
theorem yN (v x E:Int) (hv:Yh v=x) (hE:Yi v=E) (w:World):Calls Tryz.prog 217 #[.int .i64 v] w fun e w'=>e= .returned (.tuple #[.int .i64 x, .int .i64 E])∧Below w.heap.size w w':=by
 cases h:isV v with
 |false=>
  have e1:x=0:=by rw[←hv,Yh,h];rfl
  have e2:E=1:=by rw[←hE,Yi,h];rfl
  subst e1 e2
  have HV:=Lib.hid h
  clear hv hE h
  go_enter Tryz.func217, Tryz.ntmps217
  go_wp2_with (go_at_call 218;refine(In v false HV.out _).mono ?_;rintro e w1 ⟨rfl,rfl⟩)
  go_ret2
  exact⟨rfl,Below.refl _ _⟩
 |true=>
  have hs:=(Er v).1 h
  obtain⟨n,hn⟩: ∃n:Nat,v=(n:Int):=⟨v.toNat,by omega⟩
  subst hn
  have e2:E=0:=by rw[←hE,Yi,h];rfl
  subst e2
  have HN:=Lib.hid (show n<16 by omega)
  obtain⟨b,hb⟩: ∃b,gB n=b:=⟨_,rfl⟩
  have HB:=Lib.hid hb
  have HO:Hid (ofB b=x):=Lib.hid (by rw[←hb,AdA n HN.out,hv])
  have HV:=Lib.hid h
  clear hv hE h hs hb
  go_enter Tryz.func217, Tryz.ntmps217
  go_wp2_with (first
   |(go_at_call 218;refine(In n true HV.out _).mono ?_;rintro e w1 ⟨rfl,rfl⟩)
   |(go_at_call 240;refine(Mg n b HN.out HB.out _).mono ?_;rintro e w2 ⟨rfl,hb2⟩)
   |(go_at_call 239;refine(tR b x HO.out _).mono ?_;rintro e w3 ⟨rfl,hb3⟩))
  go_ret2
  exact⟨rfl,hb2.trans (hb3.mono hb2.size)⟩
theorem Oi (c:Int) (b:B5) (E:Int) (hb:Ky c=b) (hE:Mi c=E) (w:World):Calls Tryz.prog 172 #[.int .i64 c] w fun e w'=>e= .returned (.tuple #[.agg #[.bool b.b0, .bool b.b1, .bool b.b2, .bool b.b3, .bool b.b4], .int .i64 E])∧Below w.heap.size w w':=by
 obtain⟨w1,hw1⟩: ∃w1,w1=w.alloc (.cells #[.bool false, .bool false, .bool false, .bool false, .bool false] 182):=⟨_,rfl⟩
 have HB:Hid (Below w.heap.size w w1):=Lib.hid (by rw[hw1];exact Aa w _ _)
 have HR:Hid (Bc w1 w.heap.size noB):=Lib.hid (by rw[hw1];exact Bc.new w noB)
 have HW:Hid (w.alloc (.cells #[.bool false, .bool false, .bool false, .bool false, .bool false] 182)=w1):=Lib.hid hw1.symm
 clear hw1
 cases h:isC c with
 |false=>
  have e1:b=noB:=by rw[←hb,Ky,h];rfl
  have e2:E=1:=by rw[←hE,Mi,h];rfl
  subst e1 e2
  clear hb hE
  cases q1:decide (c<0)
  case true=>
   clear h
   go_enter Tryz.func172, Tryz.ntmps172
   go_wp2_with ((with_reducible refine Ac 2 ?_);(try rw[HW.out]);refine Ad (o:=⟨none, .store 182 (.tmp 2) (.tmp 10),_,_,_,_⟩) rfl 182 (.tmp 2) (.tmp 10) rfl w.heap.size #[.bool false, .bool false, .bool false, .bool false, .bool false] rfl rfl 182 #[.bool false, .bool false, .bool false, .bool false, .bool false] HR.out Fo rfl (Pq false false false false false) ?_;intro w6 hw6)
   have hr6:=setRow_heap w1 w.heap.size #[.bool false, .bool false, .bool false, .bool false, .bool false] #[.bool false, .bool false, .bool false, .bool false, .bool false] 182 (0,0) HR.out
   rw[←hw6.out]at hr6
   have hb6:=An hw6.out (Nat.le_refl w.heap.size)
   refine bodyPost_ret (Ab Tryz.results172 _ w6 w.heap.size 182 #[.bool false, .bool false, .bool false, .bool false, .bool false] (0,0) _ rfl hr6 Tryz.underlying182 rfl Fo) rfl ⟨rfl,HB.out.trans hb6⟩
  case false=>
   have q2:decide (32≤c)=true:=by
    rw[decide_eq_false_iff_not]at q1
    refine decide_eq_true ?_
    rcases Int.lt_or_le 31 c with h1|h1
    ·omega
    ·rw[(Hw c).2 ⟨by omega,h1⟩]at h;cases h
   clear h
   go_enter Tryz.func172, Tryz.ntmps172
   go_wp2_with ((with_reducible refine Ac 2 ?_);(try rw[HW.out]);refine Ad (o:=⟨none, .store 182 (.tmp 2) (.tmp 10),_,_,_,_⟩) rfl 182 (.tmp 2) (.tmp 10) rfl w.heap.size #[.bool false, .bool false, .bool false, .bool false, .bool false] rfl rfl 182 #[.bool false, .bool false, .bool false, .bool false, .bool false] HR.out Fo rfl (Pq false false false false false) ?_;intro w6 hw6)
   have hr6:=setRow_heap w1 w.heap.size #[.bool false, .bool false, .bool false, .bool false, .bool false] #[.bool false, .bool false, .bool false, .bool false, .bool false] 182 (0,0) HR.out
   rw[←hw6.out]at hr6
   have hb6:=An hw6.out (Nat.le_refl w.heap.size)
   refine bodyPost_ret (Ab Tryz.results172 _ w6 w.heap.size 182 #[.bool false, .bool false, .bool false, .bool false, .bool false] (0,0) _ rfl hr6 Tryz.underlying182 rfl Fo) rfl ⟨rfl,HB.out.trans hb6⟩
 |true=>
  have hs:=(Hw c).1 h
  have q1:decide (c<0)=false:=decide_eq_false (by omega)
  have q2:decide (32≤c)=false:=decide_eq_false (by omega)
  have e2:E=0:=by rw[←hE,Mi,if_pos h]
  have hbb:=(fC h).trans hb
  obtain⟨n,hn⟩: ∃n:Nat,c=(n:Int):=⟨c.toNat,by omega⟩
  subst hn e2
  have ht:(n:Int).toNat=n:=by omega
  rw[ht]at hbb
  have HBB:=Lib.hid hbb
  have HN:=Lib.hid (show n<32 by omega)
  clear hb hE h hs hbb ht
  go_enter Tryz.func172, Tryz.ntmps172
  go_wp2_with (first
   |(go_at_call 216;rw[HW.out];refine(Pw n b HN.out HBB.out _).mono ?_;rintro e w2 ⟨rfl,hb2⟩;have hr2:=HR.out.next hb2)
   |((with_reducible refine Ac 2 ?_);refine Ad (o:=⟨none, .store 182 (.tmp 2) (.tmp 12),_,_,_,_⟩) rfl 182 (.tmp 2) (.tmp 12) rfl w.heap.size #[.bool b.b0, .bool b.b1, .bool b.b2, .bool b.b3, .bool b.b4] rfl rfl 182 #[.bool false, .bool false, .bool false, .bool false, .bool false] hr2 Fo rfl (Pq _ _ _ _ _) ?_;intro w6 hw6))
  have hr6:=setRow_heap w2 w.heap.size #[.bool false, .bool false, .bool false, .bool false, .bool false] #[.bool b.b0, .bool b.b1, .bool b.b2, .bool b.b3, .bool b.b4] 182 (0,0) hr2
  rw[←hw6.out]at hr6
  have hb6:=An hw6.out (Nat.le_refl w.heap.size)
  refine bodyPost_ret (Ab Tryz.results172 _ w6 w.heap.size 182 #[.bool b.b0, .bool b.b1, .bool b.b2, .bool b.b3, .bool b.b4] (0,0) _ rfl hr6 Tryz.underlying182 rfl Fo) rfl ⟨rfl,(HB.out.trans (hb2.mono HB.out.size)).trans hb6⟩
theorem Acu (l:List Int) (n:Nat) (hn:n=l.length) (A:Option Addr) (c:Nat) (x E:Int) (hv:gE l=x) (hE:gF l=E) (w:World) (hA:Zs w w.heap.size l A c):Calls Tryz.prog 174 #[.slice A n c] w fun e w'=>e= .returned (.tuple #[.int .i64 x, .int .i64 E])∧w'=w:=by
 have HN:=Lib.hid hn
 have HV:=Lib.hid hv
 have HE:=Lib.hid hE
 have HA:=Lib.hid hA
 have hc:=hA.cap
 have hlc:=hA.len
 have hn3:n≤9223372036854775807:=by omega
 clear hn hv hE hA hc hlc
 go_enter Tryz.func174, Tryz.ntmps174
 go_wp2
 go_loop [4,9] (fun s i=> ∃k:Nat,k≤n∧i= .int .i64 k∧s= .int .i64 (sumX (l.take k):Nat)∧Hj (l.take k)=true) (fun _ i=>n - (intOf i).toNat)
 case atStart=>exact⟨0,by omega,rfl,rfl,rfl⟩
 case round=>
  obtain⟨k,hk,rfl,rfl,hok⟩:=hrel
  have HO:=Lib.hid hok
  clear hok
  by_cases hlt:k<n
  ·have hkl:k<l.length:=by rw[←HN.out];exact hlt
   obtain⟨z,hz⟩: ∃z,l[k]?=some z:=⟨_,List.getElem?_eq_getElem hkl⟩
   obtain⟨ad,rfl,hadl,hc⟩:=HA.out.at hz
   have b1:(k:Int)<(n:Int):=by omega
   have b0:(0:Int)≤(k:Int):=by omega
   have HZ:=Lib.hid hz
   clear hz hkl hadl
   cases hvz:isV z
   case true=>
    obtain⟨m,hm⟩: ∃m:Nat,z=(m:Int):=⟨z.toNat,by have:=(Er z).1 hvz;omega⟩
    have hx:bits BinOp.xor IntKind.i64 ((sumX (l.take k):Nat):Int) z=((sumX (l.take (k+1)):Nat):Int):=by
     rw[cK HZ.out,hm]
     exact bG _ (tG _ HO.out) m (by have:=(Er z).1 hvz;omega)
    have HS:=Lib.hid hx
    have HO2:=Lib.hid (show Hj (l.take (k+1))=true by rw[Yj HZ.out,HO.out,hvz];rfl)
    have HV2:=Lib.hid hvz
    clear hlt hm hx hvz
    go_wp2_with (go_at_call 218;refine(In z true HV2.out _).mono ?_;rintro e w1 ⟨rfl,rfl⟩)
    case roundEnd=>exact⟨⟨k+1,by omega,by go_num,by rw[HS.out],HO2.out⟩,by simp[intOf];omega⟩
   case false=>
    have hb:=hvz
    have HV2:=Lib.hid hvz
    have hs:=fD HZ.out hb
    have e1:x=0:=by rw[←HV.out,gE,hs];rfl
    have e2:E=1:=by rw[←HE.out,gF,hs];rfl
    subst e1 e2
    clear hb hs hvz
    go_wp2_with (go_at_call 218;refine(In z false HV2.out _).mono ?_;rintro e w1 ⟨rfl,rfl⟩)
    go_ret2
    exact⟨rfl,rfl⟩
  ·have e:k=n:=by omega
   have ht:l.take k=l:=by rw[e,HN.out];exact List.take_length
   have hs:Hj l=true:=by have:=HO.out;rwa[ht]at this
   have e1:((sumX l:Nat):Int)=x:=by rw[←HV.out,gE,if_pos hs]
   have e2:E=0:=by rw[←HE.out,gF,if_pos hs]
   subst e2
   have hnb: ¬((k:Int)<(n:Int)):=by omega
   rw[ht,e1]
   clear ht hs e1 hlt e
   go_wp2
   go_ret2
   exact⟨rfl,rfl⟩
theorem Nn (v c:Nat) (hv:v<16) (hc:charN v=c) (w:World):Calls Tryz.prog 173 #[.int .i64 (v:Int)] w fun e w'=>e= .returned (.int .i64 (c:Int))∧Below w.heap.size w w':=by
 have cf:=Ps v hv
 rw[hc]at cf
 have HCF:=Lib.hid cf
 clear cf hc
 go_enter Tryz.func173, Tryz.ntmps173
 go_wp2_with (go_at_call 217;refine(yN _ _ _ HCF.out.1 HCF.out.2.1 _).mono ?_;rintro e w2 ⟨rfl,hb⟩)
 go_ret
 exact⟨rfl,hb⟩
theorem Qi (vs:List Nat) (hv: ∀v∈vs,v<16) (n:Nat) (hn:n=vs.length) (A:Option Addr) (c:Nat) (x:Nat) (hx:xorL vs=x) (w:World) (hA:Zs w w.heap.size (NZ vs) A c):Calls Tryz.prog 123 #[.slice A n c] w fun e w'=>e= .returned (.int .i64 (x:Int))∧w'=w:=by
 have cf:=fE hv
 rw[hx]at cf
 have HCF:=Lib.hid cf
 have HN:=Lib.hid (show n=(NZ vs).length by rw[Pr];exact hn)
 have HA:=Lib.hid hA
 clear cf hx hn hA
 go_enter Tryz.func123, Tryz.ntmps123
 go_wp2_with (go_at_call 174;refine(Acu _ _ HN.out _ _ _ _ HCF.out.1 HCF.out.2 _ HA.out).mono ?_;rintro e w2 ⟨rfl,rfl⟩)
 go_ret
 exact⟨rfl,rfl⟩
theorem mU (vs:List Nat) (hv: ∀v∈vs,v<16) (n:Nat) (hn:n=vs.length) (hn2:n≤2000) (A:Option Addr) (c:Nat) (w:World) (hA:Zs w w.heap.size (NZ vs) A c):Calls Tryz.prog 122 #[.slice A n c] w fun e w'=> ∃A' c',e= .returned (.slice A' ((5*n:Nat)) c')∧Vs w' w'.heap.size (Ap vs) A' c'∧Below w.heap.size w w':=by
 obtain⟨i0,hi,hz0,hz1,hz2⟩:=info_parts Kz
 have HN:=Lib.hid hn
 have HA:=Lib.hid hA
 have HV:=Lib.hid hv
 have hn3:n≤9223372036854775807:=by omega
 clear hn hA hv
 go_enter Tryz.func122, Tryz.ntmps122
 go_wp2
 go_loopw [3,11] (fun v i wr=> ∃k:Nat,k≤n∧i= .int .i64 k∧wr.ownsRow w.heap.size 4 1 v (5*k) (BL (Ap (vs.take k)))∧Below w.heap.size w wr) (fun _ i _=>n - (intOf i).toNat)
 case atStart=>exact⟨0,by omega,rfl,World.ownsRow_lit w #[] 0 (Nat.le_refl _) (by decide) rfl,Aa w _ _⟩
 case round=>
  obtain⟨k,hk,rfl,hown,hbel⟩:=hrel
  by_cases hlt:k<n
  ·obtain⟨x,hx⟩: ∃x,vs[k]?=some x:=⟨_,List.getElem?_eq_getElem (by rw[←HN.out];exact hlt)⟩
   have hx16:x<16:=HV.out x (List.mem_of_getElem? hx)
   obtain⟨ad,rfl,hadl,hc0⟩:=HA.out.at (sM hx)
   have hc:wr.cell? (ad.add k)=some (.int .i64 (x:Int)):=(hbel.cell (by rw[add_block];exact hadl)).trans hc0
   have HX:=Lib.hid hx
   have HOW:=Lib.hid hown
   have HBL:=Lib.hid hbel
   have cf:=Ps x hx16
   obtain⟨ch,hch⟩: ∃ch,charN x=ch:=⟨_,rfl⟩
   rw[hch]at cf
   obtain⟨b,hb⟩: ∃b,Ky (ch:Int)=b:=⟨_,rfl⟩
   rw[hb]at cf
   have HCF:=Lib.hid cf
   have HB:=Lib.hid hb
   have HCH:=Lib.hid hch
   have b0:(0:Int)≤(k:Int):=by omega
   have b1:(k:Int)<(n:Int):=by omega
   clear hown hbel hx hadl hc0 cf hb hch
   go_wp2_with (go_at_call 173;refine(Nn x ch hx16 HCH.out _).mono ?_;rintro e w2 ⟨rfl,hb2⟩)
   have HO2:=Lib.hid (Aj HOW.out hb2)
   have HB2:=Lib.hid (HBL.out.trans (hb2.mono HBL.out.size))
   clear hb2 hc
   have hm1:5*k+5≤maxLen:=by unfold maxLen;omega
   have hm2:(5*k+5)*1≤140737488355328:=by omega
   have hsz:=HB2.out.size
   go_wp2_with (first|(go_at_call 172;refine(Oi _ b 0 HB.out HCF.out.2.2.1 _).mono ?_;rintro e w3 ⟨rfl,hb3⟩)|(at_builtin;refine wpList_append_own _ rfl (.tmp 21) (.tmp 22) 61 rfl w.heap.size 4 i0 (.bool false) 1 1 Tryz.underlying61 hi hz0 hz1 hz2 rfl (by decide) _ (5*k) (BL (Ap (vs.take k))) rfl (Aj (Aj HO2.out hb3) (Aa w3 _ _)) ⟨w3.heap.size,0,none⟩ 5 5 (BL (B5L b)) rfl rfl (Ad5 (Bc.new w3 b)) (Acq _) hm1 hm2 (by have:=hb3.size;simp;omega) ?_))
   have hszA:w.heap.size≤w3.heap.size:=Nat.le_trans hsz hb3.size
   replace HOW:=Lib.hid (Aj (Aj HO2.out hb3) (Aa w3 #[.bool b.b0, .bool b.b1, .bool b.b2, .bool b.b3, .bool b.b4] 182))
   replace HBL:=Lib.hid ((HB2.out.trans (hb3.mono HB2.out.size)).trans ((Aa w3 #[.bool b.b0, .bool b.b1, .bool b.b2, .bool b.b3, .bool b.b4] 182).mono hszA))
   clear hb3 HO2 HB2 hsz
   intro v8 w8 hown8 hg8 _
   have HO8:=Lib.hid (show w8.ownsRow w.heap.size 4 1 v8 (5*(k+1)) (BL (Ap (vs.take (k+1)))) by
    rw[Ui HX.out, ←HCF.out.2.2.2,Oh,show 5*(k+1)=5*k+5 by omega]
    exact hown8)
   have HB8:=Lib.hid (HBL.out.grown hg8 (by simp;omega) (fun p hp=>Ak HOW.out hp))
   clear hown8 hg8 HOW HBL
   go_wp2
   go_roundw
   case rel=>exact⟨k+1,by omega,by go_num,HO8.out,HB8.out⟩
   case measure=>simp[intOf];omega
  ·have e:k=n:=by omega
   have hb: ¬((k:Int)<(n:Int)):=by omega
   have ht:Ap (vs.take k)=Ap vs:=by rw[e,HN.out,List.take_length]
   rw[ht,e]at hown
   clear ht hlt
   obtain⟨A',c',hv,_,hbs⟩:=Iu hown
   subst hv
   go_wp2
   go_ret
   exact⟨_,_,rfl,hbs,hbel⟩
theorem AfW: ∀r:Nat,r<8→ ∀p:Nat,p<2^r→bits BinOp.or IntKind.u8 ((p*2^(8 - r):Nat):Int) ((2^(7 - r):Nat):Int)=((p*2^(8 - r)+1*2^(7 - r):Nat):Int):=by decide+kernel
theorem Af6: ∀x:Nat,x<256→ ∀r:Nat,r<8→(bits BinOp.and IntKind.u8 (x:Int) ((2^(7 - r):Nat):Int) !=0)=(x / 2^(7 - r) % 2==1):=by decide+kernel
theorem Aed: ∀r:Nat,r<8→(2:Int)^(7 - r) % 256=((2^(7 - r):Nat):Int):=by decide
theorem dH (i:Nat) (hi:i<100000000) (w:World):Calls Tryz.prog 80 #[.int .i64 (i:Int)] w fun e w'=>e= .returned (.int .u8 ((2^(7 - i % 8):Nat):Int))∧w'=w:=by
 obtain⟨r,hr⟩: ∃r,i % 8=r:=⟨_,rfl⟩
 have hr8:r<8:=by omega
 have hm:((i:Int) % 8)=(r:Int):=by omega
 have hm2:((i:Int).tmod 8)=(r:Int):=by rw[Int.tmod_eq_emod_of_nonneg (by omega)];omega
 have b0:0≤7 - (r:Int):=by omega
 have b1:7 - (r:Int)≤64:=by omega
 have hk:=Aed r hr8
 rw[hr]
 go_enter Tryz.func80, Tryz.ntmps80
 go_wp2
 go_ret
 exact⟨congrArg (fun z=>Ending.returned (Value.int IntKind.u8 z)) hk,rfl⟩
open Go.ChangeShapes Go.WideShapes Go.ChangeAt Go.RowKit
theorem Oj (l:List Bool) (n:Nat) (hn:n=l.length) (hn2:n≤8388608) (A:Option Addr) (c:Nat) (w:World) (hA:Vs w w.heap.size l A c):Calls Tryz.prog 39 #[.slice A n c] w fun e w'=> ∃A' c',e= .returned (.slice A' ((n+7) / 8) c')∧Bs w' w'.heap.size (packL l) A' c'∧Below w.heap.size w w':=by
 obtain⟨i0,hi,hz0,hz1,hz2⟩:=info_parts Be
 obtain⟨m,hm⟩: ∃m,(n+7) / 8=m:=⟨_,rfl⟩
 have HM:=Lib.hid hm
 have HN:=Lib.hid hn
 have HA:=Lib.hid hA
 have hm2:m≤8388608:=by omega
 have e1:((n:Int)+8 - 1) / 8=(m:Int):=by omega
 have e2:((n:Int)+8 - 1).tdiv 8=(m:Int):=by rw[Int.tdiv_eq_ediv_of_nonneg (by omega)];exact e1
 rw[hm]
 clear hn hA hm
 go_enter Tryz.func39, Tryz.ntmps39
 go_wp2_with (at_make;refine wpList_make_full _ rfl _ _ 23 rfl w.heap.size 5 i0 (.int .u8 0) 1 Tryz.underlying23 hi hz0 hz1 _ _ _ _ m rfl rfl (by omega) (by omega) ?b2 ?b3 (Nat.le_refl _) ?_)
 case b2=>rw[hz2];omega
 case b3=>unfold maxLen;omega
 intro w1 hown hg
 have HOW:=Lib.hid (show w1.ownsRow w.heap.size 5 1 (.slice (some ⟨w.heap.size,0,none⟩) m m) m (U8 (Cw (l.take 0) m)) by
  rw[toList_madeCells_one]at hown
  rw[AcW,U8,List.map_replicate]
  exact hown)
 have HBL:=Lib.hid (show Below w.heap.size w w1 from(Below.refl _ _).grown hg (Nat.le_refl _) (by simp))
 clear hown hg
 go_wp2
 go_loopw [14] (fun i wr=> ∃k:Nat,k≤n∧i= .int .i64 k∧wr.ownsRow w.heap.size 5 1 (.slice (some ⟨w.heap.size,0,none⟩) m m) m (U8 (Cw (l.take k) m))∧Below w.heap.size w wr) (fun i _=>n - (intOf i).toNat)
 case atStart=>exact⟨0,Nat.zero_le _,rfl,HOW.out,HBL.out⟩
 case round=>
  obtain⟨k,hk,rfl,hown,hbel⟩:=hrel
  replace HOW:=Lib.hid hown
  replace HBL:=Lib.hid hbel
  clear hown hbel
  by_cases hlt:k<n
  ·have hkl:k<l.length:=by rw[←HN.out];exact hlt
   obtain⟨x,hx⟩: ∃x,l[k]?=some x:=⟨_,List.getElem?_eq_getElem hkl⟩
   obtain⟨ad,rfl,hadl,hc0⟩:=HA.out.at hx
   have hc:wr.cell? (ad.add k)=some (.bool x):=(HBL.out.cell (by rw[add_block];exact hadl)).trans hc0
   obtain⟨j,hj⟩: ∃j,k / 8=j:=⟨_,rfl⟩
   have hjm:j<m:=by have:=HM.out;omega
   have e3:(k:Int) / 8=(j:Int):=by omega
   have e4:(k:Int).tdiv 8=(j:Int):=by rw[Int.tdiv_eq_ediv_of_nonneg (by omega)];exact e3
   have hst:=AcV l k m (by rw[hj];exact hjm)
   have hol:=AeE l k m (by rw[hj];exact hjm)
   have hg:l.getD k false=x:=by rw[List.getD_eq_getElem?_getD,hx];rfl
   rw[hj]at hst hol
   rw[hg]at hst
   have HPB:=Lib.hid (AeF l k)
   obtain⟨y,hy⟩: ∃y,iP l k=y:=⟨_,rfl⟩
   rw[hy]at hst hol HPB
   have hf:=HOW.out.frozenAt j
   have hc2:wr.cell? ⟨w.heap.size,j,none⟩=some (.int .u8 (y:Int)):=by
    rw[HOW.out.cellAt j (by omega),U8,List.getElem?_map,hol];rfl
   have HST:=Lib.hid hst
   have b0:(0:Int)≤(j:Int):=by omega
   have wj:IntKind.i64.wrap (j:Int)=(j:Int):=IntWalk.i64_in _ (by omega)
   have b1:(j:Int)<(m:Int):=by omega
   have b2:(k:Int)<(n:Int):=by omega
   clear hst hol hg hy hx hc0 hadl hkl hlt hj
   cases x with
   |false=>
    have hs0:Cw (l.take (k+1)) m=Cw (l.take k) m:=by
     rw[HST.out]
     simp only[bit,Bool.false_eq_true,if_false,Nat.zero_mul,Nat.add_zero]
     exact List.ext_getElem? fun q=>by
      by_cases hq:q=j
      ·subst hq
       rw[List.getElem?_set_self (by rw[It];exact hjm)]
       have:=HOW.out.cellAt q (by omega)
       rw[hc2,U8,List.getElem?_map]at this
       cases hz:(Cw (l.take k) m)[q]? with
       |none=>rw[hz]at this;cases this
       |some z=>
        rw[hz]at this
        simp at this
        congr 1
        omega
      ·rw[List.getElem?_set_ne (by omega)]
    have HS0:=Lib.hid hs0
    clear hs0 hc2
    go_wp2
    go_roundw
    case rel=>exact⟨k+1,by omega,by go_num,by rw[HS0.out];exact HOW.out,HBL.out⟩
    case measure=>simp[intOf];omega
   |true=>
    obtain⟨r,p,hr8,hp,hkr,hyp⟩:=HPB.out
    have hor:bits BinOp.or IntKind.u8 (y:Int) ((2^(7 - k % 8):Nat):Int)=((y+1*2^(7 - k % 8):Nat):Int):=by rw[hyp,hkr];exact AfW r hr8 p hp
    obtain⟨z,hz⟩: ∃z,2^(7 - k % 8)=z:=⟨_,rfl⟩
    have hmask:=dH k (by omega)
    rw[hz]at hor hmask
    have HMK:=Lib.hid hmask
    have HSR:=Lib.hid (HOW.out.stored j (.int .u8 ((y:Int)+(z:Int)))).1
    have HSE:=Lib.hid (show(U8 (Cw (l.take k) m)).set j (.int .u8 ((y:Int)+(z:Int)))=U8 (Cw (l.take (k+1)) m) by rw[HST.out,hz,U8,U8,List.map_set];simp[bit])
    clear hp hkr hyp hz hmask HPB HST
    go_wp2
    go_region_with (go_at_call 80;refine(HMK.out _).mono ?_;rintro e w8 ⟨rfl,rfl⟩)
    all_goals
     go_wp2
     go_roundw
     case rel=>exact⟨k+1,by omega,by go_num,by rw[←HSE.out];exact HSR.out.drew,(HBL.out.setCell (p:=⟨w.heap.size,j,none⟩) (Nat.le_refl _) _).drew⟩
     case measure=>simp[intOf];omega
  ·have e:k=n:=by omega
   have hb: ¬((k:Int)<(n:Int)):=by omega
   have ht:Cw (l.take k) m=packL l:=by rw[e,HN.out,List.take_length,packL, ←HM.out,HN.out]
   rw[ht]at HOW
   clear ht hlt e
   go_wp2
   go_ret
   refine⟨_,_,rfl, ?_,HBL.out⟩
   have h:=Av HOW.out (Yg l)
   obtain⟨A',c',hv,hbs⟩:=h
   cases hv
   exact hbs
open Go.ChangeShapes Go.WideShapes Go.ChangeAt Go.RowKit
theorem Ur (b:List Nat) (n:Nat) (hn:n=b.length) (hn2:n≤1048576) (A:Option Addr) (c:Nat) (w:World) (hA:Bs w w.heap.size b A c):Calls Tryz.prog 38 #[.slice A n c] w fun e w'=>e= .returned (.slice (some ⟨w.heap.size,0,none⟩) (8*n) (8*n))∧w'.ownsRow w.heap.size 4 1 (.slice (some ⟨w.heap.size,0,none⟩) (8*n) (8*n)) (8*n) (BL (Ag b))∧Below w.heap.size w w':=by
 obtain⟨i0,hi,hz0,hz1,hz2⟩:=info_parts Kz
 obtain⟨m,hm⟩: ∃m,8*n=m:=⟨_,rfl⟩
 have HM:=Lib.hid hm
 have HN:=Lib.hid hn
 have HA:=Lib.hid hA
 have hm2:m≤8388608:=by omega
 have e1:(n:Int)*8=(m:Int):=by omega
 have wm:IntKind.i64.wrap (m:Int)=(m:Int):=IntWalk.i64_in _ (by omega)
 rw[hm]
 clear hn hA hm
 go_enter Tryz.func38, Tryz.ntmps38
 go_wp2_with (at_make;refine wpList_make_full _ rfl _ _ 61 rfl w.heap.size 4 i0 (.bool false) 1 Tryz.underlying61 hi hz0 hz1 _ _ _ _ m rfl rfl (by omega) (by omega) ?b2 ?b3 (Nat.le_refl _) ?_)
 case b2=>rw[hz2];omega
 case b3=>unfold maxLen;omega
 intro w1 hown hg
 have HOW:=Lib.hid (show w1.ownsRow w.heap.size 4 1 (.slice (some ⟨w.heap.size,0,none⟩) m m) m (BL (Fl b 0)) by
  rw[toList_madeCells_one]at hown
  rw[iQ,BL,List.map_replicate, ←HN.out,HM.out]
  exact hown)
 have HBL:=Lib.hid (show Below w.heap.size w w1 from(Below.refl _ _).grown hg (Nat.le_refl _) (by simp))
 clear hown hg
 go_wp2
 go_loopw [11] (fun i wr=> ∃k:Nat,k≤m∧i= .int .i64 k∧wr.ownsRow w.heap.size 4 1 (.slice (some ⟨w.heap.size,0,none⟩) m m) m (BL (Fl b k))∧Below w.heap.size w wr) (fun i _=>m - (intOf i).toNat)
 case atStart=>exact⟨0,Nat.zero_le _,rfl,HOW.out,HBL.out⟩
 case round=>
  obtain⟨k,hk,rfl,hown,hbel⟩:=hrel
  replace HOW:=Lib.hid hown
  replace HBL:=Lib.hid hbel
  clear hown hbel
  by_cases hlt:k<m
  ·obtain⟨j,hj⟩: ∃j,k / 8=j:=⟨_,rfl⟩
   have hjn:j<n:=by have:=HM.out;omega
   have hjl:j<b.length:=by rw[←HN.out];exact hjn
   obtain⟨x,hx⟩: ∃x,b[j]?=some x:=⟨_,List.getElem?_eq_getElem hjl⟩
   have hx256:x<256:=HA.out.lt x (List.mem_of_getElem? hx)
   have hU:(U8 b)[j]?=some (.int .u8 (x:Int)):=by simp[U8,hx]
   obtain⟨ad,rfl,hadl,hc0⟩:=HA.out.rd j _ hU
   have hc:wr.cell? (ad.add j)=some (.int .u8 (x:Int)):=(HBL.out.cell (by rw[add_block];exact hadl)).trans hc0
   have e3:(k:Int) / 8=(j:Int):=by omega
   have e4:(k:Int).tdiv 8=(j:Int):=by rw[Int.tdiv_eq_ediv_of_nonneg (by omega)];exact e3
   have wj:IntKind.i64.wrap (j:Int)=(j:Int):=IntWalk.i64_in _ (by omega)
   have hub:=AeG b k x (by rw[hj];exact hx)
   have hst:=nX b k (by rw[←HN.out,HM.out];exact hlt)
   obtain⟨t,ht⟩: ∃t,(Ag b).getD k false=t:=⟨_,rfl⟩
   rw[ht]at hub hst
   have hand:=Af6 x hx256 (k % 8) (by omega)
   rw[←hub]at hand
   have hmask:=dH k (by omega)
   obtain⟨z,hz⟩: ∃z,2^(7 - k % 8)=z:=⟨_,rfl⟩
   rw[hz]at hand hmask
   have HMK:=Lib.hid hmask
   have hf:=HOW.out.frozenAt k
   have hc2: ∃v,wr.cell? ⟨w.heap.size,k,none⟩=some v:=by
    rw[HOW.out.cellAt k (by omega),BL,List.getElem?_map]
    rw[List.getElem?_eq_getElem (by rw[nV _ _ (by rw[←HN.out,HM.out];exact hk), ←HN.out,HM.out];exact hlt)]
    exact⟨_,rfl⟩
   obtain⟨v2,hc2⟩:=hc2
   have HSR:=Lib.hid (show(wr.setCell ⟨w.heap.size,k,none⟩ (.bool t)).ownsRow w.heap.size 4 1 (.slice (some ⟨w.heap.size,0,none⟩) m m) m (BL (Fl b (k+1))) by
    have h:=(HOW.out.stored k (.bool t)).1
    have e:(BL (Fl b k)).set k (.bool t)=BL (Fl b (k+1)):=by rw[←hst,BL,BL,List.map_set]
    rw[e]at h
    exact h)
   have b0:(0:Int)≤(j:Int):=by omega
   have b1:(j:Int)<(n:Int):=by omega
   have b2:(k:Int)<(m:Int):=by omega
   have b3:(0:Int)≤(k:Int):=by omega
   clear hmask hst hub ht hz hx hU hc0 hadl hjl hj
   go_wp2
   go_region_with (go_at_call 80;refine(HMK.out _).mono ?_;rintro e w8 ⟨rfl,rfl⟩)
   all_goals
    go_wp2
    go_roundw
    case rel=>exact⟨k+1,by omega,by go_num,HSR.out.drew,(HBL.out.setCell (p:=⟨w.heap.size,k,none⟩) (Nat.le_refl _) _).drew⟩
    case measure=>simp[intOf];omega
  ·have e:k=m:=by omega
   have hb: ¬((k:Int)<(m:Int)):=by omega
   have ht:Fl b k=Ag b:=by rw[e, ←HM.out,HN.out];exact nW b
   rw[ht]at HOW
   clear ht hlt e
   go_wp2
   go_ret
   exact⟨rfl,HOW.out,HBL.out⟩
theorem mV (b:List Nat) (n:Nat) (hn:n=b.length) (hn2:n≤1048576) (A:Option Addr) (c:Nat) (w:World) (hA:Bs w w.heap.size b A c):Calls Tryz.prog 38 #[.slice A n c] w fun e w'=> ∃A' c',e= .returned (.slice A' ((8*n:Nat)) c')∧Vs w' w'.heap.size (Ag b) A' c'∧Below w.heap.size w w':=by
 refine(Ur b n hn hn2 A c w hA).mono ?_
 rintro e w' ⟨rfl,ho,hb⟩
 obtain⟨A',c',hv,_,hbs⟩:=Iu ho
 cases hv
 exact⟨_,_,rfl,hbs,hb⟩
theorem Acv (d:List Nat) (n:Nat) (hn:n=d.length) (hn2:n≤9223372036854775807) (E:Int) (hE:Gl d=E) (p:List Nat) (hP:putL d=p) (A:Option Addr) (c:Nat) (w:World) (hA:Bs w w.heap.size d A c):Calls Tryz.prog 70 #[.slice A n c] w fun e w'=> ∃A' c',e= .returned (.tuple #[.slice A' (p.length:Nat) c', .int .i64 E])∧Bs w' w'.heap.size p A' c'∧Below w.heap.size w w':=by
 obtain⟨i0,hi,hz0,hz1,hz2⟩:=info_parts Gp
 have HN:=Lib.hid hn
 have HA:=Lib.hid hA
 have HE:=Lib.hid hE
 have HP:=Lib.hid hP
 have hn3:n≤9223372036854775807:=by omega
 by_cases h77:77<n
 ·have e21:E=21:=by rw[←hE,Gl,if_pos (by rw[←hn];exact h77)]
  have hp:p=[]:=by rw[←hP,putL,if_neg (by rw[hE,e21];decide)]
  subst e21 hp
  have b0:(77:Int)<(n:Int):=by omega
  clear hn hA hE hP
  go_enter Tryz.func70, Tryz.ntmps70
  go_wp2
  go_ret2
  exact⟨none,0,rfl,⟨by intro k u hu;simp[U8]at hu,fun _=>rfl,by simp,by omega,by simp⟩,Below.refl _ _⟩
 have b77: ¬((77:Int)<(n:Int)):=by omega
 clear hn hA hE hP
 go_enter Tryz.func70, Tryz.ntmps70
 go_wp2
 go_loopw [4,13] (fun v i wr=> ∃k:Nat,k≤n∧i= .int .i64 k∧wr.ownsRow w.heap.size 3 1 v (k+1) (I64 (NZ (11::d.take k)))∧Aw (d.take k)=true∧Below w.heap.size w wr) (fun _ i _=>n - (intOf i).toNat)
 case atStart=>exact⟨0,by omega,rfl,World.ownsRow_lit w #[.int .i64 11] 1 (Nat.le_refl _) (by decide) rfl,rfl,Aa w _ _⟩
 case round=>
  obtain⟨k,hk,rfl,hown,hdg,hbel⟩:=hrel
  have HOW:=Lib.hid hown
  have HBL:=Lib.hid hbel
  have HDG:=Lib.hid hdg
  clear hown hbel hdg
  by_cases hlt:k<n
  ·have hkl:k<d.length:=by rw[←HN.out];exact hlt
   obtain⟨x,hx⟩: ∃x,d[k]?=some x:=⟨_,List.getElem?_eq_getElem hkl⟩
   have hx256:x<256:=HA.out.lt x (List.mem_of_getElem? hx)
   have hU:(U8 d)[k]?=some (.int .u8 (x:Int)):=by simp[U8,hx]
   obtain⟨ad,rfl,hadl,hc0⟩:=HA.out.rd k _ hU
   have hc:wr.cell? (ad.add k)=some (.int .u8 (x:Int)):=(HBL.out.cell (by rw[add_block];exact hadl)).trans hc0
   have HX:=Lib.hid hx
   have b0:(0:Int)≤(k:Int):=by omega
   have b1:(k:Int)<(n:Int):=by omega
   clear hx hkl hU hadl hc0
   by_cases hx9:x≤9
   ·have b2: ¬((9:Int)<(x:Int)):=by omega
    have wx:IntKind.i64.wrap (x:Int)=(x:Int):=IntWalk.i64_in _ (by omega)
    have HST:=Lib.hid (sN HX.out)
    have HD2:=Lib.hid (show Aw (d.take (k+1))=true by rw[Uj HX.out,HDG.out,decide_eq_true hx9];rfl)
    have hm1:k+1+1≤maxLen:=by unfold maxLen;omega
    have hm2:(k+1+1)*8≤140737488355328:=by omega
    have hsz:=HBL.out.size
    go_wp2_with (at_builtin;refine wpList_append_own _ rfl (.tmp 19) (.tmp 22) 105 rfl w.heap.size 3 i0 (.int .i64 0) 1 8 Tryz.underlying105 hi hz0 hz1 hz2 rfl (by decide) _ (k+1) (I64 (NZ (11::d.take k))) rfl (HOW.out.alloc _) ⟨_,0,none⟩ 1 1 (I64 [(x:Int)]) rfl rfl (Gq _ _) (Fw _) hm1 hm2 (by simp;omega) ?_)
    intro v8 w8 hown8 hg8 _
    have HO8:=Lib.hid (show w8.ownsRow w.heap.size 3 1 v8 (k+1+1) (I64 (NZ (11::d.take (k+1)))) by
     rw[HST.out,Ba]
     exact hown8)
    have HB8:=Lib.hid ((HBL.out.alloc HBL.out.size _).grown hg8 (by simp;omega) (fun p hp=>Ak HOW.out hp))
    clear hown8 hg8 HOW HBL hc
    go_wp2
    go_roundw
    case rel=>exact⟨k+1,by omega,by go_num,HO8.out,HD2.out,HB8.out⟩
    case measure=>simp[intOf];omega
   ·have b2:(9:Int)<(x:Int):=by omega
    have hbad:=Xd HX.out hx9
    have e7:E=7:=by rw[←HE.out,Gl,if_neg (by rw[←HN.out];exact h77),if_neg (by rw[hbad];decide)]
    have hp:p=[]:=by rw[←HP.out,putL,if_neg (by rw[HE.out,e7];decide)]
    subst e7 hp
    clear hbad hlt
    go_wp2
    go_ret2
    exact⟨none,0,rfl,⟨by intro k u hu;simp[U8]at hu,fun _=>rfl,by simp,by omega,by simp⟩,HBL.out⟩
  ·have e:k=n:=by omega
   have hb: ¬((k:Int)<(n:Int)):=by omega
   have ht:d.take k=d:=by rw[e,HN.out,List.take_length]
   rw[ht]at HOW HDG
   have e0:E=0:=by rw[←HE.out,Gl,if_neg (by rw[←HN.out];exact h77),if_pos HDG.out]
   have hE0:Gl d=0:=HE.out.trans e0
   have hp:p=packL (Ap (trackV d)):=by rw[←HP.out,putL,if_pos hE0]
   have hpl:(packL (Ap (trackV d))).length=(5*(n+3)+7) / 8:=by rw[Hq,Fy,Lc, ←HN.out]
   subst e0 e hp
   have HPL:=Lib.hid hpl
   have HP1:=Lib.hid (sO d)
   have HP2:=Lib.hid (Aex d)
   obtain⟨x,hx⟩: ∃x,xorL (putVals d)=x:=⟨_,rfl⟩
   have HX:=Lib.hid hx
   rw[hx]at HP2
   have hm1:k+1+1≤maxLen:=by unfold maxLen;omega
   have hm2:(k+1+1)*8≤140737488355328:=by omega
   have hm3:k+2+1≤maxLen:=by unfold maxLen;omega
   have hm4:(k+2+1)*8≤140737488355328:=by omega
   have hsz:=HBL.out.size
   clear ht hlt hx hpl hE0 HP
   go_wp2_with (at_builtin;refine wpList_append_own _ rfl (.tmp 25) (.tmp 26) 105 rfl w.heap.size 3 i0 (.int .i64 0) 1 8 Tryz.underlying105 hi hz0 hz1 hz2 rfl (by decide) _ (k+1) (I64 (NZ (11::d))) rfl (HOW.out.alloc _) ⟨_,0,none⟩ 1 1 (I64 [15]) rfl rfl (Gq _ _) (Fw _) hm1 hm2 (by simp;omega) ?_)
   intro v8 w8 hown8 hg8 _
   have HO8:=Lib.hid (show w8.ownsRow w.heap.size 3 1 v8 (k+2) (I64 (NZ (putVals d))) by
    rw[HP1.out,Ba]
    exact hown8)
   have HB8:=Lib.hid ((HBL.out.alloc HBL.out.size _).grown hg8 (by simp;omega) (fun p hp=>Ak HOW.out hp))
   clear hown8 hg8 HOW HBL
   obtain⟨A8,c8,hv8,hl8,hz8⟩:=Bo HO8.out
   subst hv8
   have HZ8:=Lib.hid hz8
   have HL8:=Lib.hid (show k+2=(putVals d).length by rw[hl8,Pr])
   clear hz8 hl8
   have hsz8:=HB8.out.size
   have hsz8':=HZ8.out.len
   go_wp2_with (first|(go_at_call 123;refine(Qi (putVals d) (Uk HDG.out) (k+2) HL8.out A8 c8 x HX.out _ HZ8.out).mono ?_;rintro e w10 ⟨rfl,rfl⟩)|(at_builtin;refine wpList_append_own _ rfl (.tmp 28) (.tmp 31) 105 rfl w.heap.size 3 i0 (.int .i64 0) 1 8 Tryz.underlying105 hi hz0 hz1 hz2 rfl (by decide) _ (k+2) (I64 (NZ (putVals d))) rfl (HO8.out.alloc _) ⟨_,0,none⟩ 1 1 (I64 [(x:Int)]) rfl rfl (Gq _ _) (Fw _) hm3 hm4 (by simp;omega) ?_))
   intro v9 w9 hown9 hg9 _
   have HO9:=Lib.hid (show w9.ownsRow w.heap.size 3 1 v9 (k+3) (I64 (NZ (trackV d))) by
    rw[HP2.out,Ba]
    exact hown9)
   have HB9:=Lib.hid ((HB8.out.alloc HB8.out.size _).grown hg9 (by simp;omega) (fun p hp=>Ak HO8.out hp))
   clear hown9 hg9 HO8 HB8 HZ8
   obtain⟨A9,c9,hv9,hl9,hz9⟩:=Bo HO9.out
   subst hv9
   have HZ9:=Lib.hid hz9
   have HL9:=Lib.hid (show k+3=(trackV d).length by rw[hl9,Pr])
   have HC9:=Lib.hid (show 5*(k+3)=(Ap (trackV d)).length by rw[Fy, ←HL9.out])
   clear hz9 hl9
   have hb5:5*(k+3)≤5000:=by omega
   have hk3:k+3≤2000:=by omega
   go_wp2_with (first|(go_at_call 122;refine(mU (trackV d) (Aew HDG.out) (k+3) HL9.out hk3 A9 c9 _ HZ9.out).mono ?_;rintro e w11 ⟨A11,c11,rfl,hvs,hb11⟩;replace HB9:=Lib.hid (HB9.out.trans (hb11.mono HB9.out.size));clear hb11)|(go_at_call 39;refine(Oj (Ap (trackV d)) (5*(k+3)) HC9.out (by omega) A11 c11 _ hvs).mono ?_;rintro e w12 ⟨A12,c12,rfl,hbs,hb12⟩))
   go_ret2
   exact⟨_,_,by rw[HPL.out];rfl,hbs,HB9.out.trans (hb12.mono HB9.out.size)⟩
section
variable {P:Program} (w:World)
end
theorem mW (w:World):(sizeOf 4).run Tryz.prog w= .ok 1 w:=by kernel_rfl
end Go.Proofs.YtmdbfogjfbbpjaaGreatDoor
