import Derived.Test.YtmdbfogjfbbpjaaGreatDoorParityPOnes
import Derived.Deep.RegionWith
import Derived.Test.YtmdbfogjfbbpjaaGreatDoorLineMath
import Derived.Test.YtmdbfogjfbbpjaaGreatDoorMem
import Derived.Test.YtmdbfogjfbbpjaaGreatDoorLayPPut0
import Derived.Deep.RegionHeld3
import Derived.Test.YtmdbfogjfbbpjaaGreatDoorLayPFields
import Derived.Test.YtmdbfogjfbbpjaaGreatDoorEqualBytes
import Derived.Laws.CopyOwn
import Derived.WalkLawsBesides
import Derived.Defers
import Derived.Recover
import Derived.WalkMore
set_option maxHeartbeats 1600000
set_option maxRecDepth 100000
set_option linter.unusedVariables false
namespace Go.Proofs.YtmdbfogjfbbpjaaGreatDoor
open Go.ChangeShapes Go.WideShapes Go.ChangeAt Go.RowKit
section
variable {P:Program} (w:World)
theorem Pb (d:Nat) (t e:TypeId) (n:Nat) (ht:P.underlying t=some (.array n e)) (he:P.underlying e=some .bool) (hsz: ∀w,(sizeOf e).run P w= .ok 1 w)
  (xs ys:List Bool) (hx:xs.length=n) (hy:ys.length=n):
  (Op.equalIn (d+2) t (.agg (xs.map Value.bool).toArray) (.agg (ys.map Value.bool).toArray)).run P w= .ok (decide (∀i∈List.range' 0 n 1,xs.getD i false=ys.getD i false)) w:=by
 rw[Op.equalIn]
 simp only[Sem.run_bind,run_underlying ht,Result.andThen_ok,hsz,Std.Legacy.Range.forIn_eq_forIn_range',Std.Legacy.Range.size,Nat.sub_zero,Nat.add_sub_cancel,Nat.div_one]
 have hl: ∀i∈List.range' 0 n 1,i<n:=fun i hi=>by simpa using(List.mem_range'_1.1 hi).2
 generalize List.range' 0 n 1=l at hl⊢
 induction l with
 |nil=>simp
 |cons i l ih=>
  have hi:i<n:=hl i (by simp)
  have px:(part e (xs.map Value.bool).toArray (i*1)).run P w= .ok (.bool (xs.getD i false)) w:=by
   simp[part,isAgg,run_underlying he,List.getD,List.getElem?_eq_getElem (show i<xs.length by omega)]
  have py:(part e (ys.map Value.bool).toArray (i*1)).run P w= .ok (.bool (ys.getD i false)) w:=by
   simp[part,isAgg,run_underlying he,List.getD,List.getElem?_eq_getElem (show i<ys.length by omega)]
  have pe:=run_equalIn_bool w d e (xs.getD i false) (ys.getD i false) he
  simp only[List.forIn_cons,Sem.run_bind,px,py,pe,Result.andThen_ok]
  by_cases hxy:xs.getD i false=ys.getD i false
  ·have hb:(xs.getD i false==ys.getD i false)=true:=by rw[beq_iff_eq];exact hxy
   rw[hb]
   simp only[Bool.not_true,Bool.false_eq_true,if_false,Sem.run_pure,Result.andThen_ok]
   rw[ih fun j hj=>hl j (by simp[hj])]
   congr 1
   rw[decide_eq_decide]
   simp only[List.forall_mem_cons]
   exact⟨fun h=>⟨hxy,h⟩,fun h=>h.2⟩
  ·have hb:(xs.getD i false==ys.getD i false)=false:=by rw[beq_eq_false_iff_ne];exact hxy
   rw[hb]
   have hf:decide (∀j∈i::l,xs.getD j false=ys.getD j false)=false:=by
    rw[decide_eq_false_iff_not]
    intro h
    exact hxy (h i (by simp))
   rw[hf]
   simp
end
theorem Ae8 (b g:B5):decide (∀i∈List.range' 0 5 1,[b.b0,b.b1,b.b2,b.b3,b.b4].getD i false=[g.b0,g.b1,g.b2,g.b3,g.b4].getD i false)=decide (b=g):=by
 rw[decide_eq_decide]
 obtain⟨b0,b1,b2,b3,b4⟩:=b
 obtain⟨g0,g1,g2,g3,g4⟩:=g
 constructor
 ·intro h
  have h0:=h 0 (by decide)
  have h1:=h 1 (by decide)
  have h2:=h 2 (by decide)
  have h3:=h 3 (by decide)
  have h4:=h 4 (by decide)
  simp at h0 h1 h2 h3 h4
  rw[h0,h1,h2,h3,h4]
 ·intro h
  rw[h]
  intro i _
  rfl
theorem zJ (b g:B5) (w:World):(Op.equalIn 10000 182 (.agg #[.bool b.b0, .bool b.b1, .bool b.b2, .bool b.b3, .bool b.b4]) (.agg #[.bool g.b0, .bool g.b1, .bool g.b2, .bool g.b3, .bool g.b4])).run Tryz.prog w= .ok (decide (b=g)) w:=by
 rw[←Ae8 b g]
 exact Pb w 9998 182 4 5 Tryz.underlying182 Tryz.underlying4 mW [b.b0,b.b1,b.b2,b.b3,b.b4] [g.b0,g.b1,g.b2,g.b3,g.b4] rfl rfl
theorem Vu (c x E:Int) (hv:Zq c=x) (hE:Zr c=E) (w:World):Calls Tryz.prog 241 #[.int .i64 c] w fun e w'=>e= .returned (.tuple #[.int .i64 x, .int .i64 E])∧Below w.heap.size w w':=by
 cases h:isC c with
 |false=>
  have e1:x=0:=by rw[←hv,Zq,h];rfl
  have e2:E=1:=by rw[←hE,Zr,h];rfl
  subst e1 e2
  have HB:Hid (Ky c=noB):=Lib.hid (by rw[Ky,h];rfl)
  have HE:Hid (Mi c=1):=Lib.hid (by rw[Mi,h];rfl)
  clear hv hE h
  go_enter Tryz.func241, Tryz.ntmps241
  go_wp2_with (go_at_call 172;refine(Oi c noB 1 HB.out HE.out _).mono ?_;rintro e w1 ⟨rfl,hb1⟩)
  go_ret2
  exact⟨rfl,hb1.trans ((Aa w1 #[.bool noB.b0, .bool noB.b1, .bool noB.b2, .bool noB.b3, .bool noB.b4] 182).mono hb1.size)⟩
 |true=>
  have hs:=(Hw c).1 h
  obtain⟨n,hn⟩: ∃n:Nat,c=(n:Int):=⟨c.toNat,by omega⟩
  subst hn
  have ht:(n:Int).toNat=n:=by omega
  have hn32:n<32:=by omega
  obtain⟨b,hb⟩: ∃b,upB n 5=b:=⟨_,rfl⟩
  obtain⟨g,hg⟩: ∃g,gB (n % 16)=g:=⟨_,rfl⟩
  obtain⟨m,hm⟩: ∃m,n % 16=m:=⟨_,rfl⟩
  have hm16:m<16:=by omega
  have HM:Hid ((n:Int) % 16=(m:Int)):=Lib.hid (by omega)
  have HM16:=Lib.hid hm16
  have hgm:gB m=g:=by rw[←hm];exact hg
  have HG:=Lib.hid hgm
  have HB:Hid (Ky (n:Int)=b):=Lib.hid (by rw[←fC h,ht];exact hb)
  have HE:Hid (Mi (n:Int)=0):=Lib.hid (by rw[Mi,if_pos h])
  have hvv:=Abh n hn32
  rw[hb,hg]at hvv
  have hne:=zJ b g
  have hx:(if Bb n % 2=0 then 0 else(m:Int))=x:=by rw[←hv,Zq,if_pos h,ht,HM.out]
  have hE2:(if Bb n % 2=0 then 3 else 0)=E:=by rw[←hE,Zr,if_pos h,ht]
  have hmod:((n:Int) % 16)=(m:Int):=HM.out
  have htm:Int.tmod (n:Int) 16=(m:Int):=by rw[Int.tmod_eq_emod_of_nonneg (by omega)];exact hmod
  clear hv hE h hs ht hb hg hm hm16 hgm hn32
  by_cases ho:Bb n % 2=0
  ·rw[if_pos ho]at hx hE2
   subst hx hE2
   have hdec:decide (b=g)=false:=by
    refine decide_eq_false ?_
    rw[hvv]
    omega
   rw[hdec]at hne
   clear hvv ho hdec
   go_enter Tryz.func241, Tryz.ntmps241
   go_wp2_with (go_at_call 172;refine(Oi n b 0 HB.out HE.out _).mono ?_;rintro e w1 ⟨rfl,hb1⟩;have HX:=Bc.new w1 b;obtain⟨c0,c1,c2,c3,c4⟩:=HX.cells;have hbl:=hb1.trans ((Aa w1 #[.bool b.b0, .bool b.b1, .bool b.b2, .bool b.b3, .bool b.b4] 182).mono hb1.size))
   have HXd:Bc (w1.alloc (.cells #[.bool b.b0, .bool b.b1, .bool b.b2, .bool b.b3, .bool b.b4] 182)).drew w1.heap.size b:=HX
   go_region_with (go_at_call 240;refine(Mg m g HM16.out HG.out _).mono ?_;rintro e w2 ⟨rfl,hb2⟩;have HX2:=HXd.next hb2;obtain⟨d0,d1,d2,d3,d4⟩:=HX2.cells)
   all_goals go_wp2
   all_goals go_ret2
   all_goals exact⟨rfl,hbl.drew.trans (hb2.mono hbl.size)⟩
  ·rw[if_neg ho]at hx hE2
   subst hx hE2
   have hdec:decide (b=g)=true:=by
    refine decide_eq_true ?_
    rw[hvv]
    omega
   rw[hdec]at hne
   clear hvv ho hdec
   go_enter Tryz.func241, Tryz.ntmps241
   go_wp2_with (go_at_call 172;refine(Oi n b 0 HB.out HE.out _).mono ?_;rintro e w1 ⟨rfl,hb1⟩;have HX:=Bc.new w1 b;obtain⟨c0,c1,c2,c3,c4⟩:=HX.cells;have hbl:=hb1.trans ((Aa w1 #[.bool b.b0, .bool b.b1, .bool b.b2, .bool b.b3, .bool b.b4] 182).mono hb1.size))
   have HXd:Bc (w1.alloc (.cells #[.bool b.b0, .bool b.b1, .bool b.b2, .bool b.b3, .bool b.b4] 182)).drew w1.heap.size b:=HX
   go_region_with (go_at_call 240;refine(Mg m g HM16.out HG.out _).mono ?_;rintro e w2 ⟨rfl,hb2⟩;have HX2:=HXd.next hb2;obtain⟨d0,d1,d2,d3,d4⟩:=HX2.cells)
   all_goals go_wp2
   all_goals go_ret2
   all_goals exact⟨rfl,hbl.drew.trans (hb2.mono hbl.size)⟩
theorem zK (b:B5) (j:Nat) (hj:j<5):(ofB b).toNat / 2^j=2*((ofB b).toNat / 2^(j+1))+(Tc b j).toNat:=by
 obtain⟨b0,b1,b2,b3,b4⟩:=b
 rcases(show j=0∨j=1∨j=2∨j=3∨j=4 by omega)with rfl|rfl|rfl|rfl|rfl<;>cases b0<;>cases b1<;>cases b2<;>cases b3<;>cases b4<;>decide
theorem Ae9 (b:B5):0≤ofB b∧ofB b≤31:=(Hw _).1 (AbX b).1
theorem uC (b:B5) (v:Int) (hv:ofB b=v) (w:World):Calls Tryz.prog 202 #[.agg #[.bool b.b0, .bool b.b1, .bool b.b2, .bool b.b3, .bool b.b4]] w fun e w'=>e= .returned (.int .i64 v)∧Below w.heap.size w w':=by
 obtain⟨w1,hw1⟩: ∃w1,w1=w.alloc (.cells #[.bool b.b0, .bool b.b1, .bool b.b2, .bool b.b3, .bool b.b4] 182):=⟨_,rfl⟩
 have HB:Hid (Below w.heap.size w w1):=Lib.hid (by rw[hw1];exact Aa w _ _)
 have HX:Hid (Bc w1 w.heap.size b):=Lib.hid (by rw[hw1];exact Bc.new w b)
 have HW:Hid (w.alloc (.cells #[.bool b.b0, .bool b.b1, .bool b.b2, .bool b.b3, .bool b.b4] 182)=w1):=Lib.hid hw1.symm
 clear hw1
 have hlt:=Ae9 b
 have HN:=Lib.hid (show(ofB b).toNat<32 by omega)
 have HV:=Lib.hid (show(((ofB b).toNat:Nat):Int)=v by rw[←hv];omega)
 clear hv hlt
 go_enter Tryz.func202, Tryz.ntmps202
 go_wp2
 rw[HW.out]
 go_loop [3,4] (fun n i=> ∃k:Nat,k≤5∧i= .int .i64 ((k:Int) - 1)∧n= .int .i64 ((ofB b).toNat / 2^k:Nat)) (fun _ i=>(intOf i+1).toNat)
 case atStart=>exact⟨5,by omega,rfl,by rw[Nat.div_eq_of_lt (by have:=HN.out;omega)];rfl⟩
 case round=>
  obtain⟨k,hk,rfl,rfl⟩:=hrel
  by_cases h0:k=0
  ·subst h0
   have hx:(ofB b).toNat / 2^0=(ofB b).toNat:=by simp
   rw[hx,HV.out]
   clear hx hk
   go_wp2
   go_ret
   exact⟨rfl,HB.out⟩
  ·obtain⟨j,hj⟩: ∃j,k=j+1:=⟨k - 1,by omega⟩
   subst hj
   have hij:((j+1:Nat):Int) - 1=(j:Int):=by omega
   rw[hij]
   have hj5:j<5:=by omega
   have hst:=zK b j hj5
   obtain⟨m,hm⟩: ∃m,(ofB b).toNat / 2^(j+1)=m:=⟨_,rfl⟩
   rw[hm]at hst
   rw[hm]
   have hmle:m≤31:=by have:=HN.out;rw[←hm];exact Nat.le_trans (Nat.div_le_self _ _) (by omega)
   have b0:(0:Int)≤(j:Int):=by omega
   have b1:(j:Int)<5:=by omega
   have hbit:=HX.out.get j hj5
   have w2m:IntKind.i64.wrap (2*(m:Int))=2*(m:Int):=IntWalk.i64_in _ (by omega)
   have w2m1:IntKind.i64.wrap (2*(m:Int)+1)=2*(m:Int)+1:=IntWalk.i64_in _ (by omega)
   have wj:IntKind.i64.wrap ((j:Int) - 1)=(j:Int) - 1:=IntWalk.i64_in _ (by omega)
   cases hg:Tc b j
   all_goals
    rw[hg]at hst hbit
    have HS:=Lib.hid hst
    clear hst hg hij h0 hm
    go_wp2
    go_round
    case rel=>exact⟨j,by omega,by first|rfl|(rw[wj];done)|go_num,by rw[HS.out];first|rfl|go_num|(simp;omega)⟩
    case measure=>first|(simp[intOf];done)|(simp[intOf];omega)
theorem Aem {l:List Bool} {i:Nat} (h:i+5≤l.length): ∃b:B5,l[i]?=some b.b0∧l[i+1]?=some b.b1∧l[i+2]?=some b.b2∧l[i+3]?=some b.b3∧l[i+4]?=some b.b4∧ofB b=((chAt l i:Nat):Int):=by
 obtain⟨b0,h0⟩: ∃b,l[i]?=some b:=⟨_,List.getElem?_eq_getElem (by omega)⟩
 obtain⟨b1,h1⟩: ∃b,l[i+1]?=some b:=⟨_,List.getElem?_eq_getElem (by omega)⟩
 obtain⟨b2,h2⟩: ∃b,l[i+2]?=some b:=⟨_,List.getElem?_eq_getElem (by omega)⟩
 obtain⟨b3,h3⟩: ∃b,l[i+3]?=some b:=⟨_,List.getElem?_eq_getElem (by omega)⟩
 obtain⟨b4,h4⟩: ∃b,l[i+4]?=some b:=⟨_,List.getElem?_eq_getElem (by omega)⟩
 refine⟨⟨b0,b1,b2,b3,b4⟩,h0,h1,h2,h3,h4, ?_⟩
 simp only[chAt,List.getD_eq_getElem?_getD,h0,h1,h2,h3,h4,Option.getD_some,ofB]
 cases b0<;>cases b1<;>cases b2<;>cases b3<;>cases b4<;>rfl
theorem Dn (l:List Bool) (n:Nat) (hn:n=l.length) (hn2:n≤10000) (i:Nat) (hi:i+5≤n) (v:Nat) (hv:chAt l i=v) (A:Option Addr) (c:Nat) (w:World) (hA:Vs w w.heap.size l A c):Calls Tryz.prog 160 #[.slice A n c, .int .i64 (i:Int)] w fun e w'=>e= .returned (.int .i64 (v:Int))∧Below w.heap.size w w':=by
 obtain⟨b,h0,h1,h2,h3,h4,hof⟩:=Aem (l:=l) (i:=i) (by rw[←hn];exact hi)
 obtain⟨ad,rfl,hadl,c0⟩:=hA.at h0
 have c1:=hA.cells _ _ (Oy h1)
 have c2:=hA.cells _ _ (Oy h2)
 have c3:=hA.cells _ _ (Oy h3)
 have c4:=hA.cells _ _ (Oy h4)
 rw[hv]at hof
 have HOF:=Lib.hid hof
 have HAD:=Lib.hid hadl
 obtain⟨i0,hi0⟩: ∃i0,i=i0:=⟨_,rfl⟩
 obtain⟨i1,hi1⟩: ∃i1,i+1=i1:=⟨_,rfl⟩
 obtain⟨i2,hi2⟩: ∃i2,i+2=i2:=⟨_,rfl⟩
 obtain⟨i3,hi3⟩: ∃i3,i+3=i3:=⟨_,rfl⟩
 obtain⟨i4,hi4⟩: ∃i4,i+4=i4:=⟨_,rfl⟩
 rw[hi0]at c0
 rw[hi1]at c1
 rw[hi2]at c2
 rw[hi3]at c3
 rw[hi4]at c4
 have k1:(i0:Int)+1=(i1:Int):=by omega
 have k2:(i0:Int)+2=(i2:Int):=by omega
 have k3:(i0:Int)+3=(i3:Int):=by omega
 have k4:(i0:Int)+4=(i4:Int):=by omega
 have b0:(0:Int)≤(i0:Int):=by omega
 have b1:(i0:Int)<(n:Int):=by omega
 have b2:(i1:Int)<(n:Int):=by omega
 have b3:(i2:Int)<(n:Int):=by omega
 have b4:(i3:Int)<(n:Int):=by omega
 have b5:(i4:Int)<(n:Int):=by omega
 have z1:(0:Int)≤(i1:Int):=by omega
 have z2:(0:Int)≤(i2:Int):=by omega
 have z3:(0:Int)≤(i3:Int):=by omega
 have z4:(0:Int)≤(i4:Int):=by omega
 have w1:IntKind.i64.wrap (i1:Int)=(i1:Int):=IntWalk.i64_in _ (by omega)
 have w2:IntKind.i64.wrap (i2:Int)=(i2:Int):=IntWalk.i64_in _ (by omega)
 have w3:IntKind.i64.wrap (i3:Int)=(i3:Int):=IntWalk.i64_in _ (by omega)
 have w4:IntKind.i64.wrap (i4:Int)=(i4:Int):=IntWalk.i64_in _ (by omega)
 rw[hi0]
 clear h0 h1 h2 h3 h4 hof hA hn hv hadl hi hi0 hi1 hi2 hi3 hi4 hn2
 go_enter Tryz.func160, Tryz.ntmps160
 go_wp2
 go_region_held3 (fun w'=>w'.cell? (ad.add i0)=some (.bool b.b0)∧w'.cell? (ad.add i1)=some (.bool b.b1)∧w'.cell? (ad.add i2)=some (.bool b.b2)∧w'.cell? (ad.add i3)=some (.bool b.b3)∧w'.cell? (ad.add i4)=some (.bool b.b4))
  (first|exact⟨(hb8.cell (by rw[add_block];exact HAD.out)).trans c0,(hb8.cell (by rw[add_block];exact HAD.out)).trans c1,(hb8.cell (by rw[add_block];exact HAD.out)).trans c2,(hb8.cell (by rw[add_block];exact HAD.out)).trans c3,(hb8.cell (by rw[add_block];exact HAD.out)).trans c4⟩|go_keep)
  ((go_at_call 202;refine(uC b _ HOF.out _).mono ?_;rintro e w8 ⟨rfl,hb8⟩))
 go_wp2
 go_ret
 exact⟨rfl,(Below.refl w.heap.size w).drew.trans hb8⟩
def Pc (E:Int):List PanicEntry:=[{ v:= .iface 27 (.int .i64 E),recovered:=false }]
theorem Et (E:Int) (w:World):Calls Tryz.prog 180 #[.bool true, .int .i64 E] w fun e w'=>e= .returned (.tuple #[])∧w'=w:=by
 go_enter Tryz.func180, Tryz.ntmps180
 go_wp2
 first|(go_end0;exact⟨rfl,rfl⟩)|(go_ret;exact⟨rfl,rfl⟩)
theorem Eu (E:Int) (w:World):Calls Tryz.prog 180 #[.bool false, .int .i64 E] w fun e w'=>e= .panicked (Pc E)∧w'=w:=by
 go_enter Tryz.func180, Tryz.ntmps180
 go_wp2
 exact⟨rfl,rfl,rfl⟩
def Gk (w:World) (X:Nat) (a:Addr) (m c i:Nat):Prop:=w.heap[X]?=some (.cells #[.slice (some a) m c, .int .i64 (i:Int)] 187 (0,0))
theorem Gk.lt {w:World} {X:Nat} {a:Addr} {m c i:Nat} (h:Gk w X a m c i):X<w.heap.size:=(Array.getElem?_eq_some_iff.1 h).1
theorem Gk.bits {w:World} {X:Nat} {a:Addr} {m c i:Nat} (h:Gk w X a m c i):w.cell? ⟨X,0,none⟩=some (.slice (some a) m c):=cell_of_row w X 0 _ _ _ h
theorem Gk.at {w:World} {X:Nat} {a:Addr} {m c i:Nat} (h:Gk w X a m c i):w.cell? ⟨X,1,none⟩=some (.int .i64 (i:Int)):=cell_of_row w X 1 _ _ _ h
theorem Gk.fz {w:World} {X:Nat} {a:Addr} {m c i:Nat} (h:Gk w X a m c i) (j:Nat):w.frozen? ⟨X,j,none⟩=false:=frozen_of_row w X j _ _ h
theorem Gk.set {w:World} {X:Nat} {a:Addr} {m c i:Nat} (h:Gk w X a m c i) (j:Nat):Gk (w.setCell ⟨X,1,none⟩ (.int .i64 (j:Int))) X a m c j:=heap_setCell_same w X 1 _ _ _ h
theorem Gk.grown {w w':World} {X:Nat} {a:Addr} {m c i:Nat} {row:Option Nat} (h:Gk w X a m c i) (hg:w.grownBy w' row) (hne:some X≠row):Gk w' X a m c i:=(hg.block X h.lt hne).trans h
theorem Gk.next {w w':World} {X:Nat} {a:Addr} {m c i:Nat} (h:Gk w X a m c i) (hb:Below w.heap.size w w'):Gk w' X a m c i:=(hb.block X h.lt).trans h
theorem Dv {w w':World} (row:Option Nat) (h:Below w.heap.size w w'):w.grownBy w' row:=⟨h.os,h.tape,h.output,h.size,fun k hk _=>h.block k hk⟩
theorem Ar {w w' w'':World} {row:Option Nat} (h:w.grownBy w' row) (h':w'.grownBy w'' row):w.grownBy w'' row:=⟨h'.os.trans h.os,h'.tape.trans h.tape,h'.output.trans h.output,Nat.le_trans h.size h'.size,fun k hk hne=>(h'.block k (Nat.lt_of_lt_of_le hk h.size) hne).trans (h.block k hk hne)⟩
theorem Vs.grown {w w':World} {X:Nat} {l:List Bool} {A:Option Addr} {c:Nat} (h:Vs w X l A c) (hX:X<w.heap.size) (hg:w.grownBy w' (some X)):Vs w' X l A c:=by
 refine⟨fun k u hu=> ?_,h.nil,h.len,h.cap⟩
 obtain⟨ad,e,hlt,hc⟩:=h.rd k u hu
 refine⟨ad,e,hlt, ?_⟩
 have hblk:w'.heap[(ad.add k).block]?=w.heap[(ad.add k).block]?:=hg.block _ (by rw[add_block];omega) (by rw[add_block];simp;omega)
 exact(World.cell?_of_block hblk).trans hc
open Go.ChangeShapes Go.WideShapes Go.ChangeAt Go.RowKit
theorem Zd (l:List Bool) (m:Nat) (hm:m=l.length) (hm2:m≤10000) (i:Nat) (X:Nat) (a:Addr) (c:Nat) (w:World) (hK:Gk w X a m c i) (hV:Vs w X l (some a) c) (him:i≤m) (hi:m<i+5):Calls Tryz.prog 219 #[.pointer (some ⟨X,0,none⟩)] w fun e w'=>e= .panicked (Pc 5)∧w.grownBy w' (some X):=by
 have c0:=hK.bits
 have c1:=hK.at
 have hdec:decide ((5:Int)≤(m:Int) - (i:Int))=false:=decide_eq_false (by omega)
 have hwr:IntKind.i64.wrap ((m:Int) - (i:Int))=(m:Int) - (i:Int):=IntWalk.i64_in _ (by omega)
 have HK:=Lib.hid hK
 clear hK hV hm
 go_enter Tryz.func219, Tryz.ntmps219
 go_wp2
 refine wp_region_held_drew (S:=(fun w'=>w'.cell? ⟨X,0,none⟩=some (.slice (some a) m c)∧w'.cell? ⟨X,1,none⟩=some (.int .i64 (i:Int)))) (by kernel_rfl) ⟨c0,c1⟩ (fun hHeld=> ?_)
 refine pl 0 4 hHeld ?_
 refine pl 1 5 hHeld ?_
 refine pl 2 6 hHeld ?_
 refine pl 3 7 hHeld ?_ (hy:=by intro w hSw;obtain⟨h0,h1⟩:=hSw;go_simp;(first|done|with_reducible rfl))
 refine pl 4 8 hHeld ?_
 refine pl 5 9 hHeld ?_
 refine pl 6 10 hHeld ?_
 refine pl 7 11 hHeld ?_
 refine pl 8 12 hHeld ?_ (hy:=by intro w hSw;obtain⟨h0,h1⟩:=hSw;go_simp;(first|done|with_reducible rfl))
 refine pl 9 13 hHeld ?_
 refine pl 10 14 hHeld ?_
 refine wpAnyH_ready (rs:=[11]) (by kernel_rfl) (by simp) ?_
 refine AllReadyH.cons (o:=⟨some 15, .call _,_,_,_,_⟩) rfl (fun K hK=> ?_) AllReadyH.nil
 go_simp
 go_at_call 180
 refine(Eu 5 _).mono ?_
 rintro e w8 ⟨rfl,rfl⟩
 exact⟨rfl,rfl,Dv _ (Below.refl w.heap.size w).drew⟩
open Go.ChangeShapes Go.WideShapes Go.ChangeAt Go.RowKit
theorem zL {w:World} {B:Nat} {l:List Bool} {a:Addr} {c i:Nat} (h:Vs w B l (some a) c) (b:B5) (h0:l[i]?=some b.b0) (h1:l[i+1]?=some b.b1) (h2:l[i+2]?=some b.b2) (h3:l[i+3]?=some b.b3) (h4:l[i+4]?=some b.b4):
  ∀j u,(BL (B5L b))[j]?=some u→w.cell? ((a.add i).add j)=some u:=by
 intro j u hu
 rw[Addr.add_add]
 match j,hu with
 |0,hu=>cases hu;exact h.cells _ _ (Oy h0)
 |1,hu=>cases hu;exact h.cells _ _ (Oy h1)
 |2,hu=>cases hu;exact h.cells _ _ (Oy h2)
 |3,hu=>cases hu;exact h.cells _ _ (Oy h3)
 |4,hu=>cases hu;exact h.cells _ _ (Oy h4)
 |j+5,hu=>simp[BL,B5L]at hu
theorem Ht (l:List Bool) (m:Nat) (hm:m=l.length) (hm2:m≤10000) (i:Nat) (X:Nat) (a:Addr) (c:Nat) (w:World) (hK:Gk w X a m c i) (hV:Vs w X l (some a) c) (hi:i+5≤m) (ch:Nat) (hch:chAt l i=ch):Calls Tryz.prog 219 #[.pointer (some ⟨X,0,none⟩)] w fun e w'=>e= .returned (.int .i64 (ch:Int))∧Gk w' X a m c (i+5)∧w.grownBy w' (some X):=by
 obtain⟨b,h0,h1,h2,h3,h4,hof⟩:=Aem (l:=l) (i:=i) (by rw[←hm];exact hi)
 have c0:=hK.bits
 have c1:=hK.at
 have hdec:decide ((5:Int)≤(m:Int) - (i:Int))=true:=decide_eq_true (by omega)
 have hwr:IntKind.i64.wrap ((m:Int) - (i:Int))=(m:Int) - (i:Int):=IntWalk.i64_in _ (by omega)
 have hs:=zL hV b h0 h1 h2 h3 h4
 rw[hch]at hof
 have HOF:=Lib.hid hof
 have HK:=Lib.hid hK
 have hmc:m≤c:=by have:=hV.len;omega
 have hVc:=hV.cap
 have HS:=Lib.hid hs
 clear h0 h1 h2 h3 h4 hof hch hm hV hs hK
 go_enter Tryz.func219, Tryz.ntmps219
 go_wp2
 refine wp_region_held_drew (S:=(fun w'=>w'.cell? ⟨X,0,none⟩=some (.slice (some a) m c)∧w'.cell? ⟨X,1,none⟩=some (.int .i64 (i:Int)))) (by kernel_rfl) ⟨c0,c1⟩ (fun hHeld=> ?_)
 refine pl 0 4 hHeld ?_
 refine pl 1 5 hHeld ?_
 refine pl 2 6 hHeld ?_
 refine pl 3 7 hHeld ?_ (hy:=by intro w hSw;obtain⟨h0,h1⟩:=hSw;go_simp;(first|done|with_reducible rfl))
 refine pl 4 8 hHeld ?_
 refine pl 5 9 hHeld ?_
 refine pl 6 10 hHeld ?_
 refine pl 7 11 hHeld ?_
 refine pl 8 12 hHeld ?_ (hy:=by intro w hSw;obtain⟨h0,h1⟩:=hSw;go_simp;(first|done|with_reducible rfl))
 refine pl 9 13 hHeld ?_
 refine pl 10 14 hHeld ?_
 refine wpAnyH_ready (rs:=[11]) (by kernel_rfl) (by simp) ?_
 refine AllReadyH.cons (o:=⟨some 15, .call _,_,_,_,_⟩) rfl (fun K hK=> ?_) AllReadyH.nil
 go_simp
 go_at_call 180
 refine(Et 5 _).mono ?_
 rintro e w8 ⟨rfl,rfl⟩
 go_wp2_with fail
 refine hK.out _ _ ⟨c0,c1⟩ (fun hHeld=> ?_)
 clear hK K
 refine wpAnyH_done (by kernel_rfl) ?_ _
 go_wp2
 obtain⟨w2,hw2⟩: ∃w2,(w.alloc (.cells #[.bool false, .bool false, .bool false, .bool false, .bool false] 182)).drew=w2:=⟨_,rfl⟩
 rw[hw2]
 have hb2:Below w.heap.size w w2:=by rw[←hw2];exact(Aa w _ _).drew
 have hbx:Bc w2 w.heap.size noB:=by rw[←hw2];exact Bc.new w noB
 obtain⟨Y,hY⟩: ∃Y,w.heap.size=Y:=⟨_,rfl⟩
 have hXY:X<Y:=by rw[←hY];exact HK.out.lt
 have hsrc: ∀j u,(BL (B5L b))[j]?=some u→w2.cell? ((a.add i).add j)=some u:=fun j u hu=>(World.cell?_of_block (hb2.block _ (World.block_lt_of_cell? w _ (HS.out j u hu)))).trans (HS.out j u hu)
 have hk2:=HK.out.next hb2
 have d0:=hk2.bits
 have d1:=hk2.at
 rw[hY]at hbx hb2⊢
 have hne1: ¬Y=X:=by omega
 have hne2: ¬X=Y:=by omega
 have hi0:(0:Int)≤(i:Int):=by omega
 have hi1:(i:Int)≤(m:Int):=by omega
 have hi2:(i:Int)≤(c:Int):=by omega
 have hi3:i≤c:=by omega
 have hi4:i≤m:=by omega
 have hm1:Nat.min (m - i) 5=5:=Nat.min_eq_right (by omega)
 clear hw2 c0 c1 HS hdec hwr
 have hci: ¬c=i:=by omega
 have KB: ∀w',Below Y w w'→Gk w' X a m c i:=fun w' h=>HK.out.next (by rw[hY];exact h)
 have wim:IntKind.i64.wrap (i:Int)=(i:Int):=IntWalk.i64_in _ (by omega)
 have ht1:((m:Int) - (i:Int)).toNat=m - i:=by omega
 have ht2:((c:Int) - (i:Int)).toNat=c - i:=by omega
 go_region_held3 (fun w'=>w'.cell? ⟨X,0,none⟩=some (.slice (some a) m c)∧w'.cell? ⟨X,1,none⟩=some (.int .i64 (i:Int)))
  (first|exact⟨d0,d1⟩|exact⟨(KB _ hb4).bits,(KB _ hb4).at⟩|go_keep)
  ((refine step_copy_splice (by rfl) (.tmp 17) (.tmp 26) 61 61 (by rfl) 4 Tryz.underlying61 Aff _ _ 5 5 (m - i) (c - i) (by rfl) (by rfl) Y 0 [.bool false, .bool false, .bool false, .bool false, .bool false] 182 hbx (BL (B5L b)) hm1.symm (fun _=>⟨rfl,_,rfl,hsrc⟩) (Nat.le_refl 5) (Acq _) Y w (hb2.drew) (Nat.le_refl _) ?_;intro w4 hg4 hb4))
 have hbx4:Bc w4 Y b:=hg4.out
 have hk4:=KB _ hb4
 have e0:=hk4.bits
 have e1:=hk4.at
 have ez:=hk4.fz
 have wi5:IntKind.i64.wrap ((i:Int)+5)=(i:Int)+5:=IntWalk.i64_in _ (by omega)
 obtain⟨f0,f1,f2,f3,f4⟩:=hbx4.cells
 have ez1:=hk4.fz 1
 clear hg4 hbx hb2 hsrc d0 d1 hk2 ez hci ht1 ht2
 go_wp2_with (go_at_call 239;refine(tR b (ch:Int) HOF.out _).mono ?_;rintro e w8 ⟨rfl,hb8⟩)
 go_ret
 have hcast:(i:Int)+5=((i+5:Nat):Int):=by omega
 rw[hcast]at hb8
 have hst:w.grownBy (w4.setCell ⟨X,1,none⟩ (.int .i64 ((i+5:Nat):Int))) (some X):=Ar (Dv (some X) (by rw[hY];exact hb4)) (Bl w4 X 1 _)
 exact⟨rfl,(hk4.set (i+5)).next hb8,Ar hst (Dv _ hb8)⟩
open Go.ChangeShapes Go.WideShapes Go.ChangeAt Go.RowKit
theorem Tx (l:List Bool) (m:Nat) (hm:m=l.length) (hm2:m≤10000) (i:Nat) (X:Nat) (a:Addr) (c:Nat) (w:World) (hK:Gk w X a m c i) (hV:Vs w X l (some a) c) (him:i≤m) (hi:m<i+5):Calls Tryz.prog 220 #[.pointer (some ⟨X,0,none⟩)] w fun e w'=>e= .panicked (Pc 5)∧w.grownBy w' (some X):=by
 have HM:=Lib.hid hm
 have HK:=Lib.hid hK
 have HV:=Lib.hid hV
 clear hm hK hV
 go_enter Tryz.func220, Tryz.ntmps220
 go_wp2_with (go_at_call 219;refine(Zd l m HM.out hm2 i X a c _ HK.out HV.out him hi).mono ?_;rintro e w2 ⟨rfl,hg2⟩)
 exact⟨rfl,rfl,hg2⟩
theorem Ty (l:List Bool) (m:Nat) (hm:m=l.length) (hm2:m≤10000) (i:Nat) (X:Nat) (a:Addr) (c:Nat) (w:World) (hK:Gk w X a m c i) (hV:Vs w X l (some a) c) (hi:i+5≤m) (ch:Nat) (hch:chAt l i=ch) (hev:Bb ch % 2=0):Calls Tryz.prog 220 #[.pointer (some ⟨X,0,none⟩)] w fun e w'=>e= .panicked (Pc 3)∧w.grownBy w' (some X):=by
 have HM:=Lib.hid hm
 have HK:=Lib.hid hK
 have HV:=Lib.hid hV
 have HVE:=Lib.hid (Xe ch (by rw[←hch];exact Ld l i) hev)
 have HCH:=Lib.hid hch
 clear hm hK hV hch hev
 go_enter Tryz.func220, Tryz.ntmps220
 go_wp2_with (first|(go_at_call 219;refine(Ht l m HM.out hm2 i X a c _ HK.out HV.out hi ch HCH.out).mono ?_;rintro e w2 ⟨rfl,hk2,hg2⟩)|(go_at_call 241;refine(Vu (ch:Int) 0 3 HVE.out.1 HVE.out.2 _).mono ?_;rintro e w3 ⟨rfl,hb3⟩)|(go_at_call 180;refine(Eu 3 _).mono ?_;rintro e w4 ⟨rfl,rfl⟩))
 exact⟨rfl,rfl,Ar hg2 (Dv _ hb3)⟩
theorem Ix (l:List Bool) (m:Nat) (hm:m=l.length) (hm2:m≤10000) (i:Nat) (X:Nat) (a:Addr) (c:Nat) (w:World) (hK:Gk w X a m c i) (hV:Vs w X l (some a) c) (hi:i+5≤m) (ch:Nat) (hch:chAt l i=ch) (hev: ¬Bb ch % 2=0) (d:Nat) (hd:ch % 16=d):Calls Tryz.prog 220 #[.pointer (some ⟨X,0,none⟩)] w fun e w'=>e= .returned (.int .i64 (d:Int))∧Gk w' X a m c (i+5)∧w.grownBy w' (some X):=by
 have HM:=Lib.hid hm
 have HK:=Lib.hid hK
 have HV:=Lib.hid hV
 have hve:=fF ch (by rw[←hch];exact Ld l i) hev
 rw[hd]at hve
 have HVE:=Lib.hid hve
 have HCH:=Lib.hid hch
 clear hm hK hV hch hev hd hve
 go_enter Tryz.func220, Tryz.ntmps220
 go_wp2_with (first|(go_at_call 219;refine(Ht l m HM.out hm2 i X a c _ HK.out HV.out hi ch HCH.out).mono ?_;rintro e w2 ⟨rfl,hk2,hg2⟩)|(go_at_call 241;refine(Vu (ch:Int) (d:Int) 0 HVE.out.1 HVE.out.2 _).mono ?_;rintro e w3 ⟨rfl,hb3⟩)|(go_at_call 180;refine(Et 0 _).mono ?_;rintro e w4 ⟨rfl,rfl⟩))
 go_ret
 exact⟨rfl,hk2.next hb3,Ar hg2 (Dv _ hb3)⟩
theorem Do (w:World) (B:Nat):Bs w B [] none 0:=⟨by intro k u hu;simp[U8]at hu,fun _=>rfl,by simp,by omega,by simp⟩
theorem Vs.below {w w':World} {B:Nat} {l:List Bool} {A:Option Addr} {c:Nat} (h:Vs w B l A c) (hb:Below B w w'):Vs w' B l A c:=⟨h.rd.below hb,h.nil,h.len,h.cap⟩
theorem Vs.more {w:World} {B B':Nat} {l:List Bool} {A:Option Addr} {c:Nat} (h:Vs w B l A c) (hB:B≤B'):Vs w B' l A c:=⟨h.rd.more hB,h.nil,h.len,h.cap⟩
theorem Vs.take {w:World} {B:Nat} {l:List Bool} {A:Option Addr} {c:Nat} (h:Vs w B l A c) (k:Nat) (hk:k≤c):Vs w B (l.take k) A c:=by
 refine⟨fun j u hu=>h.rd j u ?_,h.nil,by rw[List.length_take];omega,h.cap⟩
 rw[BL,List.map_take,List.getElem?_take]at hu
 split at hu
 ·exact hu
 ·cases hu
def Sl (l:List Bool):Except Int (List Nat × Nat)→Except Int (List Nat × Nat)
 | .error e=> .error e
 | .ok (out,i)=>if l.length<i+5 then .error 5 else if Bb (chAt l i) % 2=0 then .error 3 else if chAt l i % 16≠xorL (putVals out)then .error 6 else .ok (out,i+5)
def uD (l:List Bool):Except Int (List Nat × Nat):=if chAt l 0≠11 then .error 4 else Sl l (Dw l l.length 5 [])
theorem AcJ {l:List Bool} {out:List Nat} {i:Nat} (h:l.length<i+5):Sl l (.ok (out,i))= .error 5:=by rw[Sl,if_pos h]
theorem AcK {l:List Bool} {out:List Nat} {i:Nat} (h:i+5≤l.length) (h1:Bb (chAt l i) % 2=0):Sl l (.ok (out,i))= .error 3:=by rw[Sl,if_neg (by omega),if_pos h1]
theorem AcL {l:List Bool} {out:List Nat} {i:Nat} (h:i+5≤l.length) (h1: ¬Bb (chAt l i) % 2=0) (h2:chAt l i % 16≠xorL (putVals out)):Sl l (.ok (out,i))= .error 6:=by rw[Sl,if_neg (by omega),if_neg h1,if_pos h2]
theorem AeA {l:List Bool} {out:List Nat} {i:Nat} (h:i+5≤l.length) (h1: ¬Bb (chAt l i) % 2=0) (h2:chAt l i % 16=xorL (putVals out)):Sl l (.ok (out,i))= .ok (out,i+5):=by rw[Sl,if_neg (by omega),if_neg h1,if_neg (by rw[h2];exact fun h=>h rfl)]
theorem zM {w:World} {base n c:Nat} {A:Option Addr} {l:List Int} (h:w.ownsRow base 3 1 (.slice A n c) n (I64 l)):Zs w w.heap.size l A c:=by
 obtain⟨A',c',e,_,hz⟩:=Bo h
 cases e
 exact hz
theorem AeB {w:World} {base n c:Nat} {A:Option Addr} {s:List Nat} (h:w.ownsRow base 5 1 (.slice A n c) n (U8 s)) (hs: ∀x∈s,x<256):Bs w w.heap.size s A c:=by
 obtain⟨A',c',e,hz⟩:=Av h hs
 cases e
 exact hz
def zN:Value→Nat
 | .slice _ n _=>n
 |_=>0
theorem Fu {w w':World} {base X n:Nat} {e:TypeId} {v:Value} {xs:List Value} (h:w.ownsRow base e 1 v n xs) (hX:X<base) (hg:w.grownBy w' (some X)):w'.ownsRow base e 1 v n xs:=by
 refine h.kept hg ?_
 cases hv:v.ownBlock with
 |none=>exact .inl rfl
 |some g=>
  right
  have:=Ak h hv
  intro e
  cases e
  omega
theorem Nr {w w1 w2:World} {row:Option Nat} {X:Nat} (h:w.grownBy w1 (some X)) (hg:w1.grownBy w2 row) (hr: ∀p,row=some p→w.heap.size≤p):w.grownBy w2 (some X):=
 ⟨hg.os.trans h.os,hg.tape.trans h.tape,hg.output.trans h.output,Nat.le_trans h.size hg.size,fun k hk hne=>(hg.block k (Nat.lt_of_lt_of_le hk h.size) (fun e=>by have:=hr k e.symm;omega)).trans (h.block k hk hne)⟩
theorem iF (l:List Bool) (m:Nat) (hm:m=l.length) (hm2:m≤10000) (hm3:15≤m) (X:Nat) (a:Addr) (c:Nat) (w:World) (hK:Gk w X a m c 0) (hV:Vs w X l (some a) c) (R:Except Int (List Nat × Nat)) (hR:uD l=R):Calls Tryz.prog 181 #[.pointer (some ⟨X,0,none⟩)] w fun e w'=>(∃E,R= .error E∧e= .panicked (Pc E)∧w.grownBy w' (some X))∨(∃out i A' c',R= .ok (out,i)∧e= .returned (.slice A' out.length c')∧Aw out=true∧i≤m∧Bs w' w'.heap.size out A' c'∧Gk w' X a m c i∧w.grownBy w' (some X)):=by
 obtain⟨i0,hi,hz0,hz1,hz2⟩:=info_parts Gp
 obtain⟨j0,hj,hy0,hy1,hy2⟩:=info_parts Be
 have HM:=Lib.hid hm
 have HK:=Lib.hid hK
 have HV:=Lib.hid hV
 have HR:=Lib.hid hR
 have hX:=hK.lt
 obtain⟨z,hz⟩: ∃z,chAt l 0=z:=⟨_,rfl⟩
 have HZ:=Lib.hid hz
 clear hm hK hV hR hz
 by_cases h11: ¬z=11
 ·have z1:((z:Int)==11)=false:=by rw[beq_eq_false_iff_ne];omega
  have z2:decide ((z:Int)=11)=false:=decide_eq_false (by omega)
  have hR4:R= .error 4:=by rw[←HR.out,uD,HZ.out,if_pos (by omega)]
  go_enter Tryz.func181, Tryz.ntmps181
  go_wp2
  go_step3
  go_wp2_with (first|(go_at_call 219;refine(Ht l m HM.out hm2 0 X a c _ HK.out HV.out (by omega) z HZ.out).mono ?_;rintro e w2 ⟨rfl,hk2,hg2⟩)|(go_at_call 173;refine(Nn 11 11 (by decide) (by decide) _).mono ?_;rintro e w3 ⟨rfl,hb3⟩)|(go_at_call 180;refine(Eu 4 _).mono ?_;rintro e w4 ⟨rfl,rfl⟩))
  exact⟨rfl, .inl ⟨4,hR4,rfl,Ar hg2 (Dv _ hb3)⟩⟩
 have h11:z=11:=by omega
 subst h11
 obtain⟨S,hS⟩: ∃S,Dw l l.length 5 []=S:=⟨_,rfl⟩
 have HS:=Lib.hid hS
 have HRS:=Lib.hid (show R=Sl l S by rw[←HR.out,uD,HZ.out,if_neg (by decide),hS])
 clear hS HR
 have z1:((11:Int)==11)=true:=by decide
 go_enter Tryz.func181, Tryz.ntmps181
 go_wp2
 go_step3
 go_wp2_with (first|(go_at_call 219;refine(Ht l m HM.out hm2 0 X a c _ HK.out HV.out (by omega) 11 HZ.out).mono ?_;rintro e w2 ⟨rfl,hk2,hg2⟩)|(go_at_call 173;refine(Nn 11 11 (by decide) (by decide) _).mono ?_;rintro e w3 ⟨rfl,hb3⟩)|(go_at_call 180;refine(Et 4 _).mono ?_;rintro e w4 ⟨rfl,rfl⟩))
 have hw4:=Ar hg2 (Dv (some X) hb3)
 have hk3:=hk2.next hb3
 obtain⟨B,hB⟩: ∃B,w.heap.size=B:=⟨_,rfl⟩
 have HBW:=Lib.hid hB
 have hXB:X<B:=by rw[←hB];exact hX
 clear hB
 go_step3
 go_wp2
 go_loopw [3,4] (fun v d wr=> ∃(i:Nat) (out:List Nat) (f:Nat),zN d=out.length∧i=5*(out.length+1)∧i≤m∧wr.ownsRow B 5 1 d out.length (U8 out)∧Aw out=true∧wr.ownsRow B 3 1 v (out.length+1) (I64 (NZ (11::out)))∧l.length+5≤f+i∧Dw l f i out=S∧Gk wr X a m c i∧w.grownBy wr (some X)) (fun _ d _=>m+10 - zN d)
 case atStart=>
  have hsB:B≤w4.heap.size:=by have:=hw4.size;have:=HBW.out;omega
  have hbA:=Aa w4 #[.int .i64 11] 3
  have hbB:=hbA.trans ((Aa (w4.alloc (.cells #[.int .i64 11] 3)) #[] 5).mono hbA.size)
  refine⟨5,[],l.length,rfl,rfl,by omega, ?_,rfl, ?_,by omega,HS.out,hk3.next hbB,Ar hw4 (Dv _ hbB)⟩
  ·rw[show w4.heap.size+1=(w4.alloc (.cells #[.int .i64 11] 3)).heap.size from(World.size_alloc _ _).symm]
   exact World.ownsRow_lit (w4.alloc (.cells #[.int .i64 11] 3)) (size:=1) #[] 0 (Nat.le_trans hsB hbA.size) (by decide) (by rfl)
  ·exact(World.ownsRow_lit w4 (size:=1) #[.int .i64 11] 1 hsB (by decide) (by rfl)).alloc _
 case round=>
  obtain⟨i,out,f,hlen,hi5,him,hob,hdg,hov,hf,hsc,hk,hg⟩:=hrel
  have HOB:=Lib.hid hob
  have HOV:=Lib.hid hov
  have HDG:=Lib.hid hdg
  have HF:=Lib.hid hf
  have HSC:=Lib.hid hsc
  have HKr:=Lib.hid hk
  have HG:=Lib.hid hg
  have HVr:=Lib.hid (HV.out.grown hX hg)
  have hszg:=hg.size
  have HLEN:=Lib.hid hlen
  obtain⟨k,hk⟩: ∃k,out.length=k:=⟨_,rfl⟩
  rw[hk]at hi5 HOV
  have HKL:=Lib.hid hk
  have HI:=Lib.hid hi5
  have hkb:k≤2000:=by omega
  clear hob hov hdg hf hsc hg hlen hk hi5
  by_cases hend:m<i+5
  ·have hS5:S= .error 5:=by rw[←HSC.out];exact kO (by rw[←HM.out];exact hend)
   have hR5:R= .error 5:=by rw[HRS.out,hS5];rfl
   have HR5:=Lib.hid hR5
   clear hS5 hR5
   go_wp2_with (go_at_call 220;refine(Tx l m HM.out hm2 i X a c _ HKr.out HVr.out him hend).mono ?_;rintro e w5 ⟨rfl,hg5⟩)
   exact⟨rfl, .inl ⟨5,HR5.out,rfl,Ar HG.out hg5⟩⟩
  have hie:i+5≤m:=by omega
  have hch32:=Ld l i
  obtain⟨ch,hch⟩: ∃ch,chAt l i=ch:=⟨_,rfl⟩
  rw[hch]at hch32
  have HCH:=Lib.hid hch
  have HIE:=Lib.hid (show i+5≤l.length by rw[←HM.out];exact hie)
  clear hch hend
  by_cases hev:Bb ch % 2=0
  ·have HR5:=Lib.hid (show R= .error 3 by rw[HRS.out, ←HSC.out,kP HF.out HIE.out (by rw[HCH.out];exact hev)];rfl)
   have HEV:=Lib.hid hev
   clear hev
   go_wp2_with (go_at_call 220;refine(Ty l m HM.out hm2 i X a c _ HKr.out HVr.out hie ch HCH.out HEV.out).mono ?_;rintro e w5 ⟨rfl,hg5⟩)
   exact⟨rfl, .inl ⟨3,HR5.out,rfl,Ar HG.out hg5⟩⟩
  have HEV:=Lib.hid hev
  have HEV2:=Lib.hid (show¬Bb (chAt l i) % 2=0 by rw[HCH.out];exact hev)
  obtain⟨d,hd⟩: ∃d,ch % 16=d:=⟨_,rfl⟩
  have hd16:d<16:=by omega
  have HDD:=Lib.hid hd
  have HD:=Lib.hid (show chAt l i % 16=d by rw[HCH.out];exact hd)
  clear hev hd hch32
  have hm1:k+1+1≤maxLen:=by unfold maxLen;omega
  have hm2':(k+1+1)*8≤140737488355328:=by omega
  by_cases h9:d≤9
  ·have s1: ¬((9:Int)<(d:Int)):=by omega
   have s2:((d:Int) !=15)=true:=by rw[bne_iff_ne];omega
   have s3:((d:Int)==15)=false:=by rw[beq_eq_false_iff_ne];omega
   have s4: ¬((d:Int)=15):=by omega
   have hwa:IntKind.u8.wrap (d:Int)=(d:Int):=by simp[IntKind.wrap,IntKind.signed,IntKind.bits];omega
   have hm3':out.length+1≤maxLen:=by rw[HKL.out];unfold maxLen;omega
   have hm4':(out.length+1)*1≤140737488355328:=by rw[HKL.out];omega
   go_wp2_with (first|(go_at_call 220;refine(Ix l m HM.out hm2 i X a c _ HKr.out HVr.out hie ch HCH.out HEV.out d HDD.out).mono ?_;rintro e w5 ⟨rfl,hk5,hg5⟩)|(at_builtin;refine wpList_append_own _ rfl (.tmp 15) (.tmp 17) 105 rfl B 3 i0 (.int .i64 0) 1 8 Tryz.underlying105 hi hz0 hz1 hz2 rfl (by decide) _ (k+1) (I64 (NZ (11::out))) rfl ((Fu HOV.out hXB hg5).alloc _) ⟨_,0,none⟩ 1 1 (I64 [(d:Int)]) rfl rfl (Gq _ _) (Fw _) hm1 hm2' (by have:=hg5.size;have:=HBW.out;simp;omega) ?_))
   intro v8 w8 hown8 hg8 _
   have hsz5:=hg5.size
   have HG5:=Lib.hid (Ar HG.out hg5)
   have HOV8:=Lib.hid (show w8.ownsRow B 3 1 v8 (k+1+1) (I64 (NZ (11::(out++ [d])))) by
    rw[fG,Ba]
    exact hown8)
   have HOB8:=Lib.hid (Jf hg8 ((Fu HOB.out hXB hg5).alloc _) ((Fu HOV.out hXB hg5).alloc _) (by decide))
   have HG8:=Lib.hid (Nr (Ar HG5.out (World.grownBy_alloc _ _ _)) hg8 (fun p hp=>by rw[HBW.out];exact Ak HOV.out hp))
   have HK8:=Lib.hid ((hk5.next (Aa _ _ _)).grown hg8 (fun e=>by have:=Ak HOV.out e.symm;omega))
   clear hown8 hg8 hg5 hk5 HKr HVr HOV HOB HG HG5
   have hsz8:=HG8.out.size
   go_wp2_with (at_builtin;refine wpList_append_own _ rfl (.tmp 26) (.tmp 29) 23 rfl B 5 j0 (.int .u8 0) 1 1 Tryz.underlying23 hj hy0 hy1 hy2 rfl (by decide) _ out.length (U8 out) rfl (HOB8.out.alloc _) ⟨_,0,none⟩ 1 1 (U8 [d]) rfl rfl ?rd (Bd _) hm3' hm4' (by have:=HBW.out;simp;omega) ?_)
   case rd=>
    intro q u hu
    first|exact hu|exact Abf _ d q u hu|(simpa[U8]using hu)|(simpa[U8,hwa]using hu)
   intro v9 w9 hown9 hg9 _
   have HOB9:=Lib.hid (show w9.ownsRow B 5 1 v9 (out++ [d]).length (U8 (out++ [d])) by
    rw[U8,List.map_append,List.length_append]
    exact hown9)
   have HOV9:=Lib.hid (Jf hg9 (HOV8.out.alloc _) (HOB8.out.alloc _) (by decide))
   have HG9:=Lib.hid (Nr (Ar HG8.out (World.grownBy_alloc _ _ _)) hg9 (fun p hp=>by rw[HBW.out];exact Ak HOB8.out hp))
   have HK9:=Lib.hid ((HK8.out.next (Aa _ _ _)).grown hg9 (fun e=>by have:=Ak HOB8.out e.symm;omega))
   have HL9:=Lib.hid (show zN v9=(out++ [d]).length by
    obtain⟨_,_,e,_⟩:=Iq HOB9.out
    rw[e];rfl)
   clear hown9 hg9 HOV8 HOB8 HG8 HK8
   go_wp2
   go_roundw
   case rel=>
    obtain⟨g,hg1,hg2⟩:=bH (out:=out) HF.out HIE.out HEV2.out (by rw[HD.out];omega)
    exact⟨i+5,out++ [d],g,HL9.out,by rw[List.length_append,HKL.out,HI.out];simp;omega,hie,HOB9.out,Mo HDG.out h9,by rw[List.length_append,HKL.out];exact HOV9.out,hg1,by rw[←HSC.out,hg2,HD.out],HK9.out,HG9.out⟩
   case measure=>rw[HL9.out,HLEN.out,List.length_append,HKL.out];have:=HI.out;simp;omega
  by_cases h15: ¬d=15
  ·have s1:(9:Int)<(d:Int):=by omega
   have s2:((d:Int) !=15)=true:=by rw[bne_iff_ne];omega
   have s3:((d:Int)==15)=false:=by rw[beq_eq_false_iff_ne];omega
   have s4: ¬((d:Int)=15):=by omega
   have HR7:=Lib.hid (show R= .error 7 by rw[HRS.out, ←HSC.out,kQ HF.out HIE.out HEV2.out (by rw[HD.out];omega) (by rw[HD.out];exact h15)];rfl)
   go_wp2_with (first|(go_at_call 220;refine(Ix l m HM.out hm2 i X a c _ HKr.out HVr.out hie ch HCH.out HEV.out d HDD.out).mono ?_;rintro e w5 ⟨rfl,hk5,hg5⟩)|(at_builtin;refine wpList_append_own _ rfl (.tmp 15) (.tmp 17) 105 rfl B 3 i0 (.int .i64 0) 1 8 Tryz.underlying105 hi hz0 hz1 hz2 rfl (by decide) _ (k+1) (I64 (NZ (11::out))) rfl ((Fu HOV.out hXB hg5).alloc _) ⟨_,0,none⟩ 1 1 (I64 [(d:Int)]) rfl rfl (Gq _ _) (Fw _) hm1 hm2' (by have:=hg5.size;have:=HBW.out;simp;omega) ?_))
   intro v8 w8 hown8 hg8 _
   have hsz5:=hg5.size
   have HG5:=Lib.hid (Ar HG.out hg5)
   have HOV8:=Lib.hid (show w8.ownsRow B 3 1 v8 (k+1+1) (I64 (NZ (11::(out++ [d])))) by
    rw[fG,Ba]
    exact hown8)
   have HOB8:=Lib.hid (Jf hg8 ((Fu HOB.out hXB hg5).alloc _) ((Fu HOV.out hXB hg5).alloc _) (by decide))
   have HG8:=Lib.hid (Nr (Ar HG5.out (World.grownBy_alloc _ _ _)) hg8 (fun p hp=>by rw[HBW.out];exact Ak HOV.out hp))
   have HK8:=Lib.hid ((hk5.next (Aa _ _ _)).grown hg8 (fun e=>by have:=Ak HOV.out e.symm;omega))
   clear hown8 hg8 hg5 hk5 HKr HVr HOV HOB HG HG5
   go_wp2
   exact⟨rfl, .inl ⟨7,HR7.out,rfl,HG8.out⟩⟩
  have h15:d=15:=by omega
  subst h15
  have hm5:((15:Nat):Int)=15:=rfl
  have HS15:=Lib.hid (show S= .ok (out,i+5) by rw[←HSC.out];exact sP HF.out HIE.out HEV2.out HD.out)
  go_wp2_with (first|(go_at_call 220;refine(Ix l m HM.out hm2 i X a c _ HKr.out HVr.out hie ch HCH.out HEV.out 15 HDD.out).mono ?_;rintro e w5 ⟨rfl,hk5,hg5⟩;rw[hm5])|(at_builtin;refine wpList_append_own _ rfl (.tmp 15) (.tmp 17) 105 rfl B 3 i0 (.int .i64 0) 1 8 Tryz.underlying105 hi hz0 hz1 hz2 rfl (by decide) _ (k+1) (I64 (NZ (11::out))) rfl ((Fu HOV.out hXB hg5).alloc _) ⟨_,0,none⟩ 1 1 (I64 [15]) rfl rfl (Gq _ _) (Fw _) hm1 hm2' (by have:=hg5.size;have:=HBW.out;simp;omega) ?_))
  intro v8 w8 hown8 hg8 _
  have hsz5:=hg5.size
  have HG5:=Lib.hid (Ar HG.out hg5)
  have HOV8:=Lib.hid (show w8.ownsRow B 3 1 v8 (k+1+1) (I64 (NZ (putVals out))) by
   rw[sO,Ba]
   exact hown8)
  have HOB8:=Lib.hid (Jf hg8 ((Fu HOB.out hXB hg5).alloc _) ((Fu HOV.out hXB hg5).alloc _) (by decide))
  have HG8:=Lib.hid (Nr (Ar HG5.out (World.grownBy_alloc _ _ _)) hg8 (fun p hp=>by rw[HBW.out];exact Ak HOV.out hp))
  have HK8:=Lib.hid ((hk5.next (Aa _ _ _)).grown hg8 (fun e=>by have:=Ak HOV.out e.symm;omega))
  clear hown8 hg8 hg5 hk5 HKr HVr HOV HOB HG HG5
  obtain⟨t,ht⟩: ∃t,i+5=t:=⟨_,rfl⟩
  have HRT:=Lib.hid (show R=Sl l (.ok (out,t)) by rw[HRS.out,HS15.out,ht])
  rw[ht]at HK8
  have hmt:t≤m:=by omega
  obtain⟨A8,c8,hv8,hl8,_⟩:=Bo HOV8.out
  subst hv8
  obtain⟨Ao,co,hvo,_⟩:=Av HOB8.out (fun x hx=>by have:=(List.all_eq_true.1 HDG.out) x hx;simp at this;omega)
  subst hvo
  have HLP:=Lib.hid (show k+1+1=(putVals out).length by rw[hl8,Pr])
  have HV8:=Lib.hid (HV.out.grown hX HG8.out)
  clear hl8 ht HCH HIE HEV HEV2 HDD HD HS15 HRS HS HSC hd16
  by_cases hend:m<t+5
  ·have HR5:=Lib.hid (show R= .error 5 by rw[HRT.out];exact AcJ (by rw[←HM.out];exact hend))
   go_wp2_with (go_at_call 220;refine(Tx l m HM.out hm2 t X a c _ HK8.out HV8.out hmt hend).mono ?_;rintro e w9 ⟨rfl,hg9⟩)
   exact⟨rfl, .inl ⟨5,HR5.out,rfl,Ar HG8.out hg9⟩⟩
  have hte:t+5≤m:=by omega
  have hch32:=Ld l t
  obtain⟨c2,hc2⟩: ∃c2,chAt l t=c2:=⟨_,rfl⟩
  rw[hc2]at hch32
  have HC2:=Lib.hid hc2
  have HTE:=Lib.hid (show t+5≤l.length by rw[←HM.out];exact hte)
  clear hc2 hend
  by_cases hev:Bb c2 % 2=0
  ·have HR5:=Lib.hid (show R= .error 3 by rw[HRT.out];exact AcK HTE.out (by rw[HC2.out];exact hev))
   have HEV:=Lib.hid hev
   clear hev
   go_wp2_with (go_at_call 220;refine(Ty l m HM.out hm2 t X a c _ HK8.out HV8.out hte c2 HC2.out HEV.out).mono ?_;rintro e w9 ⟨rfl,hg9⟩)
   exact⟨rfl, .inl ⟨3,HR5.out,rfl,Ar HG8.out hg9⟩⟩
  have HEV3:=Lib.hid hev
  have HEV4:=Lib.hid (show¬Bb (chAt l t) % 2=0 by rw[HC2.out];exact hev)
  obtain⟨d2,hd2⟩: ∃d2,c2 % 16=d2:=⟨_,rfl⟩
  have HD2:=Lib.hid hd2
  have HD3:=Lib.hid (show chAt l t % 16=d2 by rw[HC2.out];exact hd2)
  obtain⟨x,hx⟩: ∃x,xorL (putVals out)=x:=⟨_,rfl⟩
  have HXR:=Lib.hid hx
  clear hev hd2 hch32 hx
  by_cases hdx: ¬d2=x
  ·have s1:((d2:Int)==(x:Int))=false:=by rw[beq_eq_false_iff_ne];omega
   have s2:decide ((d2:Int)=(x:Int))=false:=decide_eq_false (by omega)
   have HR5:=Lib.hid (show R= .error 6 by rw[HRT.out];exact AcL HTE.out HEV4.out (by rw[HD3.out,HXR.out];exact hdx))
   go_wp2_with (first|(go_at_call 220;refine(Ix l m HM.out hm2 t X a c _ HK8.out HV8.out hte c2 HC2.out HEV3.out d2 HD2.out).mono ?_;rintro e w9 ⟨rfl,hk9,hg9⟩)|(go_at_call 123;refine(Qi (putVals out) (Uk HDG.out) (k+1+1) HLP.out A8 c8 x HXR.out _ (zM (Fu HOV8.out hXB hg9))).mono ?_;rintro e w10 ⟨rfl,rfl⟩)|(go_at_call 180;refine(Eu 6 _).mono ?_;rintro e w11 ⟨rfl,rfl⟩))
   exact⟨rfl, .inl ⟨6,HR5.out,rfl,Ar HG8.out hg9⟩⟩
  have hdx2:d2=x:=by omega
  subst hdx2
  have HR5:=Lib.hid (show R= .ok (out,t+5) by rw[HRT.out];exact AeA HTE.out HEV4.out (by rw[HD3.out,HXR.out]))
  go_wp2_with (first|(go_at_call 220;refine(Ix l m HM.out hm2 t X a c _ HK8.out HV8.out hte c2 HC2.out HEV3.out d2 HD2.out).mono ?_;rintro e w9 ⟨rfl,hk9,hg9⟩)|(go_at_call 123;refine(Qi (putVals out) (Uk HDG.out) (k+1+1) HLP.out A8 c8 d2 HXR.out _ (zM (Fu HOV8.out hXB hg9))).mono ?_;rintro e w10 ⟨rfl,rfl⟩)|(go_at_call 180;refine(Et 6 _).mono ?_;rintro e w11 ⟨rfl,rfl⟩))
  try rw[Exit.noGoto_ret]
  go_ret
  exact .inr ⟨out,t+5,Ao,co,HR5.out,rfl,HDG.out,hte,AeB (Fu HOB8.out hXB hg9) (fun x hx=>by have:=(List.all_eq_true.1 HDG.out) x hx;simp at this;omega),hk9,Ar HG8.out hg9⟩
def getD (b:List Nat) (l:List Bool):Except Int (List Nat × Nat)→Except Int (List Nat)
 | .error e=> .error e
 | .ok (out,i)=>if 77<out.length then .error 21 else if packL (l.take i)≠b then .error 14 else .ok out
theorem zO {b:List Nat} (h: ¬(b.length<2∨50<b.length)):Hy b=getD b (Ag b) (uD (Ag b)):=by
 rw[Hy,if_neg h,uD]
 by_cases h1:chAt (Ag b) 0≠11
 ·rw[if_pos h1,if_pos h1];rfl
 ·rw[if_neg h1,if_neg h1]
  cases hs:Dw (Ag b) (Ag b).length 5 []with
  |error e=>rfl
  |ok r=>
   obtain⟨out,i⟩:=r
   show Ey b (Ag b) out i=getD b (Ag b) (Sl (Ag b) (.ok (out,i)))
   rw[Ey,Sl]
   split
   ·rfl
   ·split
    ·rfl
    ·split
     ·rfl
     ·rfl
theorem Iy (D F:Nat) (hDF: ¬D=F) (d0:Value) (e0 E:Int) (tD tF:TypeId) (w:World) (hd:w.heap[D]?=some (.cells #[d0] tD (0,0))) (hf:w.heap[F]?=some (.cells #[.int .i64 e0] tF (0,0))):
  CallsD Tryz.prog 179 #[.pointer (some ⟨D,0,none⟩), .pointer (some ⟨F,0,none⟩)] (.panicking (Pc E)) w fun e u' w'=>
   e= .returned (.tuple #[])∧u'= .panicking [{ v:= .iface 27 (.int .i64 E),recovered:=true }]∧w'.heap[D]?=some (.cells #[.slice none 0 0] tD (0,0))∧w'.heap[F]?=some (.cells #[.int .i64 E] tF (0,0))∧ ∀B,B≤D→B≤F→Below B w w':=by
 have c0:w.cell? ⟨D,0,none⟩=some d0:=cell_of_row w D 0 _ _ _ hd
 have c1:w.cell? ⟨F,0,none⟩=some (.int .i64 e0):=cell_of_row w F 0 _ _ _ hf
 have f0:w.frozen? ⟨D,0,none⟩=false:=frozen_of_row w D 0 _ _ hd
 have f1:w.frozen? ⟨F,0,none⟩=false:=frozen_of_row w F 0 _ _ hf
 refine callsD_of_wpS Tryz.func179 rfl fun c₀ cs hu=> ?_
 unfold Pc at hu
 apply wpS_seq
 apply wpS_region
 simp[wpOpsS,go_sem,recoverD,hu, Tryz.ntmps179,Exit.thenS]
 refine wpS_of_wp ?_
 have hneq: ∀w:World,(binOp BinOp.neq 20 (.iface 27 (.int .i64 E)) .nilIface).run Tryz.prog w= .ok (.bool true) w:=fun _=>by first|rfl|kernel_rfl
 change Code.wp _ _ _ { tmps:= #[.pointer (some ⟨D,0,none⟩), .pointer (some ⟨F,0,none⟩), .iface 27 (.int .i64 E), .iface 27 (.int .i64 E),undef,undef,undef,undef],defers:=[] } w
 go_wp2
 have hta: ∀w:World,(Instr.typeAssert (.iface 27 (.int .i64 E)) 20 27 false).run Tryz.prog w= .ok (.int .i64 E) w:=fun _=>by first|rfl|kernel_rfl
 have hFD: ¬F=D:=fun e=>hDF e.symm
 go_region
 go_wp2
 refine⟨rfl,_,rfl, .tuple #[],by simp[results, Tryz.results179],rfl,rfl, ?_, ?_, ?_⟩
 ·show(World.setCell (World.setCell w _ _) _ _).heap[D]?=_
  rw[heap_setCell_other _ _ _ _ hDF]
  exact heap_setCell_same w D 0 _ _ _ hd
 ·show(World.setCell (World.setCell w _ _) _ _).heap[F]?=_
  exact heap_setCell_same _ F 0 _ _ _ ((heap_setCell_other w _ _ _ hFD).trans hf)
 ·intro B h1 h2
  exact(((Below.refl B w).setCell (p:=⟨D,0,none⟩) h1 _).setCell (p:=⟨F,0,none⟩) h2 _).drew
theorem nL (p q:Addr) (w:World):
  CallsD Tryz.prog 179 #[.pointer (some p), .pointer (some q)] .returning w fun e u' w'=>e= .returned (.tuple #[])∧u'= .returning∧w'=w:=by
 refine callsD_of_wpS Tryz.func179 rfl fun c₀ cs hu=> ?_
 apply wpS_seq
 apply wpS_region
 simp[wpOpsS,go_sem,recoverD,hu, Tryz.ntmps179,Exit.thenS]
 refine wpS_of_wp ?_
 have hneq: ∀w:World,(binOp BinOp.neq 20 .nilIface .nilIface).run Tryz.prog w= .ok (.bool false) w:=fun _=>by first|rfl|kernel_rfl
 change Code.wp _ _ _ { tmps:= #[.pointer (some p), .pointer (some q), .nilIface, .nilIface,undef,undef,undef,undef],defers:=[] } w
 go_wp2
 refine⟨rfl, .returning, ?_, .tuple #[],by simp[results, Tryz.results179],rfl,rfl,rfl⟩
 cases c₀
 simp_all
end Go.Proofs.YtmdbfogjfbbpjaaGreatDoor
