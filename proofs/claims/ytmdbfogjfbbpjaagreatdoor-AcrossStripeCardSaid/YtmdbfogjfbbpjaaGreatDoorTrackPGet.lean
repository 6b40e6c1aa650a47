import Derived.Test.YtmdbfogjfbbpjaaGreatDoorBitsNe
import Derived.Test.YtmdbfogjfbbpjaaGreatDoorRingPFind
import Derived.Test.YtmdbfogjfbbpjaaGreatDoorEqualBytes
import Derived.Test.YtmdbfogjfbbpjaaGreatDoorLayPPut0
import Derived.Test.YtmdbfogjfbbpjaaGreatDoorParityPOnes
import Derived.Test.YtmdbfogjfbbpjaaGreatDoorTrackBackMath
import Derived.BigRegion
import Derived.Test.YtmdbfogjfbbpjaaGreatDoorMem
import Derived.Test.YtmdbfogjfbbpjaaGreatDoorLineMath
import Derived.Laws.EntriesVeiled
set_option maxHeartbeats 1600000
set_option maxRecDepth 100000
set_option linter.unusedVariables false
namespace Go.Proofs.YtmdbfogjfbbpjaaGreatDoor
open Go.ChangeShapes Go.WideShapes Go.ChangeAt Go.RowKit
theorem yY {w:World} {B D:Nat} {A:Option Addr} {xs:List Value} (h:Rd w B A xs) {v:Value} {t:TypeId} (hd:w.heap[D]?=some (.cells #[v] t (0,0))) (hv: ∀u∈xs,u≠v) (y:Value):Rd (w.setCell ⟨D,0,none⟩ y) B A xs:=by
 intro k u hu
 obtain⟨ad,e,lt,hc⟩:=h k u hu
 refine⟨ad,e,lt, ?_⟩
 rw[World.cell?_setCell_other]
 ·exact hc
 ·intro e2
  rw[←e2,cell_of_row w D 0 _ _ _ hd]at hc
  have e3:v=u:=by simpa using hc
  exact hv u (List.mem_of_getElem? hu) e3.symm
theorem Af9 (l:List Bool) (v:Value) (h: ∀x,v≠ .bool x): ∀u∈BL l,u≠v:=by
 intro u hu e
 simp only[BL,List.mem_map]at hu
 obtain⟨x,_,rfl⟩:=hu
 exact h x e.symm
theorem AfA (l:List Nat) (v:Value) (h: ∀x,v≠ .int .u8 x): ∀u∈U8 l,u≠v:=by
 intro u hu e
 simp only[U8,List.mem_map]at hu
 obtain⟨x,_,rfl⟩:=hu
 exact h _ e.symm
theorem Vs.set {w:World} {B D:Nat} {l:List Bool} {A:Option Addr} {c:Nat} (h:Vs w B l A c) {v:Value} {t:TypeId} (hd:w.heap[D]?=some (.cells #[v] t (0,0))) (hv: ∀x,v≠ .bool x) (y:Value):Vs (w.setCell ⟨D,0,none⟩ y) B l A c:=⟨yY h.rd hd (Af9 l v hv) y,h.nil,h.len,h.cap⟩
theorem Bs.set {w:World} {B D:Nat} {s:List Nat} {A:Option Addr} {c:Nat} (h:Bs w B s A c) {v:Value} {t:TypeId} (hd:w.heap[D]?=some (.cells #[v] t (0,0))) (hv: ∀x,v≠ .int .u8 x) (y:Value):Bs (w.setCell ⟨D,0,none⟩ y) B s A c:=⟨yY h.rd hd (AfA s v hv) y,h.nil,h.len,h.cap,h.lt⟩
theorem gX (b:List Nat) (n:Nat) (hn:n=b.length) (hn2:n≤1048576) (E:Int) (hE:Du b=E) (p:List Nat) (hP:Hk b=p) (A:Option Addr) (c:Nat) (w:World) (hA:Bs w w.heap.size b A c):Calls Tryz.prog 132 #[.slice A n c] w fun e w'=> ∃A' c',e= .returned (.tuple #[.slice A' (p.length:Nat) c', .int .i64 E])∧Bs w' w'.heap.size p A' c'∧Below w.heap.size w w':=by
 have hmf: ∀(fn:Fn) (first cap:Array Value) (w:World),(Instr.makeFunc fn first cap).run Tryz.prog w= .ok (.func fn first cap) w:=fun _ _ _ _=>rfl
 have HN:=Lib.hid hn
 have HA:=Lib.hid hA
 have HE:=Lib.hid hE
 have HP:=Lib.hid hP
 have hd1:((w.alloc (.cells #[.slice none 0 0] 23)).alloc (.cells #[.int .i64 0] 27)).heap[w.heap.size]?=some (.cells #[.slice none 0 0] 23 (0,0)):=by
  rw[heap_alloc_old _ _ (by simp)]
  exact heap_alloc_new w _
 have hf1:((w.alloc (.cells #[.slice none 0 0] 23)).alloc (.cells #[.int .i64 0] 27)).heap[w.heap.size+1]?=some (.cells #[.int .i64 0] 27 (0,0)):=by
  rw[show w.heap.size+1=(w.alloc (.cells #[.slice none 0 0] 23)).heap.size from(World.size_alloc _ _).symm]
  exact heap_alloc_new _ _
 have hb1:Below w.heap.size w ((w.alloc (.cells #[.slice none 0 0] 23)).alloc (.cells #[.int .i64 0] 27)):=(Aa w _ _).trans ((Aa _ _ _).mono (Aa w #[.slice none 0 0] 23).size)
 by_cases h0:n<2
 ·have b0:decide ((15:Int)≤(n:Int)*8)=false:=decide_eq_false (by omega)
  have HW:=Lib.hid (Vf (b:=b) (.inl (by omega)))
  have eE:E=14:=HE.out.symm.trans HW.out.1
  have eP:p=[]:=HP.out.symm.trans HW.out.2
  subst eE eP
  clear hn hA hE hP
  go_enter_defers Tryz.func132, Tryz.ntmps132
  go_wp2_with (go_at_call 180;refine(Eu 14 _).mono ?_;rintro e w4 ⟨rfl,rfl⟩)
  refine leaves_cons (f:= 179) (args:= #[.pointer (some ⟨w.heap.size,0,none⟩), .pointer (some ⟨w.heap.size+1,0,none⟩)]) (by simp) (by simp[go_sem]) ?_
  refine(Iy w.heap.size (w.heap.size+1) (by omega) _ 0 14 23 27 _ hd1 hf1).mono ?_
  rintro e u' w'' ⟨rfl,rfl,hD,hF,hB⟩
  have hD0:=cell_of_row w'' w.heap.size 0 _ _ _ hD
  have hF0:=cell_of_row w'' (w.heap.size+1) 0 _ _ _ hF
  show Leaves _ _ _ _ [] .returning _
  exact⟨.tuple #[.slice none 0 0, .int .i64 14],by simp[results, Tryz.results132,go_sem,hD0,hF0],none,0,rfl,Do _ _,hb1.trans (hB _ (Nat.le_refl _) (Nat.le_succ _))⟩
 by_cases h50:50<n
 ·have b0:decide ((15:Int)≤(n:Int)*8)=true:=decide_eq_true (by omega)
  have b1:decide ((n:Int)≤50)=false:=decide_eq_false (by omega)
  have HW:=Lib.hid (Vf (b:=b) (.inr (by omega)))
  have eE:E=14:=HE.out.symm.trans HW.out.1
  have eP:p=[]:=HP.out.symm.trans HW.out.2
  subst eE eP
  clear hn hA hE hP
  go_enter_defers Tryz.func132, Tryz.ntmps132
  go_wp2_with (go_at_call 180;refine(Eu 14 _).mono ?_;rintro e w9 ⟨rfl,rfl⟩)
  refine leaves_cons (f:= 179) (args:= #[.pointer (some ⟨w.heap.size,0,none⟩), .pointer (some ⟨w.heap.size+1,0,none⟩)]) (by simp) (by simp[go_sem]) ?_
  refine(Iy w.heap.size (w.heap.size+1) (by omega) _ 0 14 23 27 _ hd1 hf1).mono ?_
  rintro e u' w'' ⟨rfl,rfl,hD,hF,hB⟩
  have hD0:=cell_of_row w'' w.heap.size 0 _ _ _ hD
  have hF0:=cell_of_row w'' (w.heap.size+1) 0 _ _ _ hF
  show Leaves _ _ _ _ [] .returning _
  exact⟨.tuple #[.slice none 0 0, .int .i64 14],by simp[results, Tryz.results132,go_sem,hD0,hF0],none,0,rfl,Do _ _,hb1.trans (hB _ (Nat.le_refl _) (Nat.le_succ _))⟩
 have b0:decide ((15:Int)≤(n:Int)*8)=true:=decide_eq_true (by omega)
 have b1:decide ((n:Int)≤50)=true:=decide_eq_true (by omega)
 have HNL:=Lib.hid (show¬(b.length<2∨50<b.length) by omega)
 obtain⟨l,hl⟩: ∃l,Ag b=l:=⟨_,rfl⟩
 obtain⟨m,hm⟩: ∃m,8*n=m:=⟨_,rfl⟩
 have HL:=Lib.hid hl
 have HM:=Lib.hid (show m=l.length by rw[←hl,Bz, ←hn,hm])
 have hm16:16≤m:=by omega
 have hm400:m≤400:=by omega
 have HM8:=Lib.hid hm
 obtain⟨R,hR⟩: ∃R,uD l=R:=⟨_,rfl⟩
 have HR:=Lib.hid hR
 have HX:=Lib.hid (show Hy b=getD b l R by rw[zO HNL.out,hl,hR])
 clear hn hA hE hP hl hm hR
 go_enter_defers Tryz.func132, Tryz.ntmps132
 go_wp2_with (first|(go_at_call 180;refine(Et 14 _).mono ?_;rintro e w9 ⟨rfl,rfl⟩)|(go_at_call 38;refine(mV b n HN.out (by omega) A c _ (HA.out.next hb1)).mono ?_;rintro e w2 ⟨A3,c3,rfl,hvs,hb2⟩;rw[HL.out]at hvs;rw[HM8.out];obtain⟨a3,rfl,_,_⟩:=hvs.at (show l[0]?=some (l[0]'(by rw[←HM.out];omega))from List.getElem?_eq_getElem _)))
 have hsz12:w.heap.size+2≤w2.heap.size:=by have:=hb2.size;simp at this;omega
 have hb02:Below w.heap.size w w2:=hb1.trans (hb2.mono hb1.size)
 have hd2:=(hb2.block w.heap.size (by simp;omega)).trans hd1
 have hf2:=(hb2.block (w.heap.size+1) (by simp)).trans hf1
 obtain⟨X,hXe⟩: ∃X,w2.heap.size=X:=⟨_,rfl⟩
 obtain⟨w3,hw3⟩: ∃w3,w2.alloc (.cells #[.slice (some a3) m c3, .int .i64 0] 187)=w3:=⟨_,rfl⟩
 rw[hw3,hXe]
 have hb23:Below w2.heap.size w2 w3:=by rw[←hw3];exact Aa w2 _ _
 have hk3:Gk w3 X a3 m c3 0:=by rw[←hw3, ←hXe];exact heap_alloc_new w2 _
 have hv3:Vs w3 X l (some a3) c3:=by rw[←hXe];exact hvs.below hb23
 have hd3:=(hb23.block w.heap.size (by omega)).trans hd2
 have hf3:=(hb23.block (w.heap.size+1) (by omega)).trans hf2
 have hb03:Below w.heap.size w w3:=hb02.trans (hb23.mono hb02.size)
 have hX3:=hk3.lt
 rw[hXe]at hsz12
 have hmc:m≤c3:=by have:=hvs.len;have:=HM.out;omega
 have hc3:=hvs.cap
 clear hb2 hb23 hd2 hf2 hw3 hXe hvs hb02 hb1 hd1 hf1
 refine(iF l m HM.out (by omega) (by omega) X a3 c3 w3 hk3 hv3 R HR.out).mono ?_
 rintro e w4 (⟨E',hRE,rfl,hg⟩|⟨out,i,A4,c4,hRo,rfl,hdg,him,hbs,hk4,hg⟩)
 ·have hgx:Hy b= .error E':=by rw[HX.out,hRE];rfl
  have eE:E=E':=by rw[←HE.out,Pu,hgx];rfl
  have eP:p=[]:=by rw[←HP.out,Pv,hgx];rfl
  subst eE eP
  clear hgx
  have hd4:=(hg.block w.heap.size (by omega) (by simp;omega)).trans hd3
  have hf4:=(hg.block (w.heap.size+1) (by omega) (by simp;omega)).trans hf3
  have hb04:Below w.heap.size w w4:=hb03.grown hg hb03.size (fun p hp=>by cases hp;omega)
  go_wp2
  refine leaves_cons (f:= 179) (args:= #[.pointer (some ⟨w.heap.size,0,none⟩), .pointer (some ⟨w.heap.size+1,0,none⟩)]) (by simp) (by simp[go_sem]) ?_
  refine(Iy w.heap.size (w.heap.size+1) (by omega) _ 0 E 23 27 _ hd4 hf4).mono ?_
  rintro e u' w'' ⟨rfl,rfl,hD,hF,hB⟩
  have hD0:=cell_of_row w'' w.heap.size 0 _ _ _ hD
  have hF0:=cell_of_row w'' (w.heap.size+1) 0 _ _ _ hF
  show Leaves _ _ _ _ [] .returning _
  exact⟨.tuple #[.slice none 0 0, .int .i64 E],by simp[results, Tryz.results132,go_sem,hD0,hF0],none,0,rfl,Do _ _,hb04.trans ((hB _ (Nat.le_refl _) (Nat.le_succ _)))⟩
 have hd4:=(hg.block w.heap.size (by omega) (by simp;omega)).trans hd3
 have hf4:=(hg.block (w.heap.size+1) (by omega) (by simp;omega)).trans hf3
 have hb04:Below w.heap.size w w4:=hb03.grown hg hb03.size (fun p hp=>by cases hp;omega)
 have cD:=cell_of_row w4 w.heap.size 0 _ _ _ hd4
 have zD:=frozen_of_row w4 w.heap.size 0 _ _ hd4
 have cF:=cell_of_row w4 (w.heap.size+1) 0 _ _ _ hf4
 have zF:=frozen_of_row w4 (w.heap.size+1) 0 _ _ hf4
 have k0:=hk4.bits
 have k1:=hk4.at
 have hX4:=hk4.lt
 have hv4:=hv3.grown hX3 hg
 obtain⟨D,hDe⟩: ∃D,w.heap.size=D:=⟨_,rfl⟩
 obtain⟨k,hk⟩: ∃k,out.length=k:=⟨_,rfl⟩
 have HK:=Lib.hid hk
 have n1: ¬D=X:=by omega
 have n2: ¬X=D:=by omega
 have n3: ¬D+1=X:=by omega
 have n4: ¬X=D+1:=by omega
 have n5: ¬D=D+1:=by omega
 have n6: ¬D+1=D:=by omega
 have hgx:Hy b=getD b l (.ok (out,i)):=by rw[HX.out,hRo]
 rw[hk]
 by_cases h77:77<k
 ·have s1:decide ((k:Int)≤77)=false:=decide_eq_false (by omega)
  have hgx2:Hy b= .error 21:=by rw[hgx,getD,if_pos (by rw[hk];exact h77)]
  have eE:E=21:=by rw[←HE.out,Pu,hgx2];rfl
  have eP:p=[]:=by rw[←HP.out,Pv,hgx2];rfl
  subst eE eP
  clear hgx hgx2
  rw[hDe]at cD zD cF zF hd4 hf4 hb04
  rw[hDe]
  go_wp2_with (go_at_call 180;refine(Eu 21 _).mono ?_;rintro e w9 ⟨rfl,rfl⟩)
  have hd5:=heap_setCell_same w4 D 0 _ _ (.slice A4 k c4) hd4
  have hf5:=(heap_setCell_other w4 ⟨D,0,none⟩ (D+1) (.slice A4 k c4) n6).trans hf4
  refine leaves_cons (f:= 179) (args:= #[.pointer (some ⟨D,0,none⟩), .pointer (some ⟨D+1,0,none⟩)]) (by simp) (by simp[go_sem]) ?_
  refine(Iy D (D+1) (by omega) _ 0 21 23 27 _ hd5 hf5).mono ?_
  rintro e u' w'' ⟨rfl,rfl,hD,hF,hB⟩
  have hD0:=cell_of_row w'' D 0 _ _ _ hD
  have hF0:=cell_of_row w'' (D+1) 0 _ _ _ hF
  show Leaves _ _ _ _ [] .returning _
  exact⟨.tuple #[.slice none 0 0, .int .i64 21],by simp[results, Tryz.results132,go_sem,hD0,hF0],none,0,rfl,Do _ _,(by first|exact((hb04.setCell (p:=⟨D,0,none⟩) (Nat.le_refl _) _).trans (hB _ (Nat.le_refl _) (Nat.le_succ _)))|(rw[hDe];exact((hb04.setCell (p:=⟨D,0,none⟩) (Nat.le_refl _) _).trans (hB _ (Nat.le_refl _) (Nat.le_succ _)))))⟩
 have s1:decide ((k:Int)≤77)=true:=decide_eq_true (by omega)
 obtain⟨w5,hw5⟩: ∃w5,w4.setCell ⟨D,0,none⟩ (.slice A4 k c4)=w5:=⟨_,rfl⟩
 rw[hDe]at cD zD cF zF hd4 hf4 hb04
 rw[hDe]
 have hd5:w5.heap[D]?=some (.cells #[.slice A4 k c4] 23 (0,0)):=by rw[←hw5];exact heap_setCell_same w4 D 0 _ _ (.slice A4 k c4) hd4
 have hf5:w5.heap[D+1]?=some (.cells #[.int .i64 0] 27 (0,0)):=by rw[←hw5];exact(heap_setCell_other w4 ⟨D,0,none⟩ (D+1) (.slice A4 k c4) n6).trans hf4
 have hsz5:w4.heap.size=w5.heap.size:=by rw[←hw5];simp
 have hV5:Vs w5 X l (some a3) c3:=by rw[←hw5];exact hv4.set hd4 (by simp) _
 have hX5:X≤w5.heap.size:=by omega
 have hbs5:Bs w5 w5.heap.size out A4 c4:=by rw[←hsz5, ←hw5];exact hbs.set hd4 (by simp) _
 have hb05':Below D w w5:=by rw[←hw5];exact hb04.setCell (p:=⟨D,0,none⟩) (Nat.le_refl _) _
 have hb05:Below w.heap.size w w5:=by rw[hDe];exact hb05'
 have hs05:=hb05.size
 have hsD:D≤w5.heap.size:=by omega
 have hic:i≤c3:=by omega
 have i0:(0:Int)≤(i:Int):=by omega
 have i1:(i:Int)≤(c3:Int):=by omega
 have HLT:=Lib.hid (show i=(l.take i).length by rw[List.length_take, ←HM.out];omega)
 obtain⟨TT,hTT⟩: ∃TT,packL (l.take i)=TT:=⟨_,rfl⟩
 have HTT:=Lib.hid hTT
 have HTL:=Lib.hid (show(i+7) / 8=TT.length by rw[←hTT,Hq, ←HLT.out])
 have c5D:=cell_of_row w5 D 0 _ _ _ hd5
 have z5D:=frozen_of_row w5 D 0 _ _ hd5
 have c5F:=cell_of_row w5 (D+1) 0 _ _ _ hf5
 have z5F:=frozen_of_row w5 (D+1) 0 _ _ hf5
 have k50:w5.cell? ⟨X,0,none⟩=some (.slice (some a3) m c3):=by
  rw[←hw5,World.cell?_setCell_other]
  ·exact k0
  ·intro e;exact n1 (congrArg Addr.block e)
 have k51:w5.cell? ⟨X,1,none⟩=some (.int .i64 (i:Int)):=by
  rw[←hw5,World.cell?_setCell_other]
  ·exact k1
  ·intro e;exact n1 (congrArg Addr.block e)
 by_cases hTb: ¬TT=b
 ·have hgx2:Hy b= .error 14:=by rw[hgx,getD,if_neg (by rw[hk];exact h77),if_pos (by rw[hTT];exact hTb)]
  have eE:E=14:=by rw[←HE.out,Pu,hgx2];rfl
  have eP:p=[]:=by rw[←HP.out,Pv,hgx2];rfl
  have eT:(b==TT)=false:=by rw[beq_eq_false_iff_ne];exact fun e=>hTb e.symm
  subst eE eP
  clear hgx hgx2 hTT hTb
  go_wp2_with (go_at_call 180;refine(Et 21 _).mono ?_;rintro e w9 ⟨rfl,rfl⟩)
  go_wp2_with (first|(go_at_call 39;refine(Oj (l.take i) i HLT.out (by omega) (some a3) c3 _ ((hV5.take i hic).more hX5)).mono ?_;rintro e w6 ⟨A6,c6,rfl,hb6s,hb6⟩;rw[HTT.out]at hb6s)|(go_at_call 182;refine(dM b TT n ((i+7) / 8) HN.out HTL.out A A6 c c6 _ _ (HA.out.next (hb05.trans (hb6.mono hs05))).rd hb6s.rd (by omega) (by omega)).mono ?_;rintro e w7 ⟨rfl,hb7⟩)|(go_at_call 180;refine(Eu 14 _).mono ?_;rintro e w8 ⟨rfl,rfl⟩))
  have hb57:=hb6.trans (hb7.mono hb6.size)
  have hd7:=(hb57.block D (by omega)).trans hd5
  have hf7:=(hb57.block (D+1) (by omega)).trans hf5
  refine leaves_cons (f:= 179) (args:= #[.pointer (some ⟨D,0,none⟩), .pointer (some ⟨D+1,0,none⟩)]) (by simp) (by simp[go_sem]) ?_
  refine(Iy D (D+1) (by omega) _ 0 14 23 27 _ hd7 hf7).mono ?_
  rintro e u' w'' ⟨rfl,rfl,hD,hF,hB⟩
  have hD0:=cell_of_row w'' D 0 _ _ _ hD
  have hF0:=cell_of_row w'' (D+1) 0 _ _ _ hF
  show Leaves _ _ _ _ [] .returning _
  exact⟨.tuple #[.slice none 0 0, .int .i64 14],by simp[results, Tryz.results132,go_sem,hD0,hF0],none,0,rfl,Do _ _,(by first|exact((hb05'.trans (hb57.mono hsD)).trans (hB _ (Nat.le_refl _) (Nat.le_succ _)))|(rw[hDe];exact((hb05'.trans (hb57.mono hsD)).trans (hB _ (Nat.le_refl _) (Nat.le_succ _)))))⟩
 have hTb2:TT=b:=Decidable.not_not.1 hTb
 have hgx2:Hy b= .ok out:=by rw[hgx,getD,if_neg (by rw[hk];exact h77),if_neg (by rw[hTT];exact hTb)]
 have eE:E=0:=by rw[←HE.out,Pu,hgx2];rfl
 have eP:p=out:=by rw[←HP.out,Pv,hgx2];rfl
 have eT:(b==TT)=true:=by rw[beq_iff_eq];exact hTb2.symm
 subst eE eP
 clear hgx hgx2 hTT hTb hTb2
 go_wp2_with (go_at_call 180;refine(Et 21 _).mono ?_;rintro e w9 ⟨rfl,rfl⟩)
 go_wp2_with (first|(go_at_call 39;refine(Oj (l.take i) i HLT.out (by omega) (some a3) c3 _ ((hV5.take i hic).more hX5)).mono ?_;rintro e w6 ⟨A6,c6,rfl,hb6s,hb6⟩;rw[HTT.out]at hb6s)|(go_at_call 182;refine(dM b TT n ((i+7) / 8) HN.out HTL.out A A6 c c6 _ _ (HA.out.next (hb05.trans (hb6.mono hs05))).rd hb6s.rd (by omega) (by omega)).mono ?_;rintro e w7 ⟨rfl,hb7⟩))
 have hb57:=hb6.trans (hb7.mono hb6.size)
 have hd7:=(hb57.block D (by omega)).trans hd5
 have hf7:=(hb57.block (D+1) (by omega)).trans hf5
 have hbs7:=hbs5.next hb57
 have hb07:=hb05'.trans (hb57.mono hsD)
 have c7D:=cell_of_row w7 D 0 _ _ _ hd7
 have z7D:=frozen_of_row w7 D 0 _ _ hd7
 have c7F:=cell_of_row w7 (D+1) 0 _ _ _ hf7
 have z7F:=frozen_of_row w7 (D+1) 0 _ _ hf7
 clear k50 k51 c5D z5D c5F z5F hd5 hf5 hb57 hb6 hb7
 go_wp2_with (go_at_call 180;refine(Et 14 _).mono ?_;rintro e w8 ⟨rfl,rfl⟩)
 refine leaves_cons (f:= 179) (args:= #[.pointer (some ⟨D,0,none⟩), .pointer (some ⟨D+1,0,none⟩)]) (by simp) (by simp[go_sem]) ?_
 refine(nL _ _ _).mono ?_
 rintro e u' w'' ⟨rfl,rfl,rfl⟩
 show Leaves _ _ _ _ [] .returning _
 have hD9:=heap_setCell_same w8 D 0 _ _ (.slice A4 k c4) hd7
 have hF9:=(heap_setCell_other w8 ⟨D,0,none⟩ (D+1) (.slice A4 k c4) n6).trans hf7
 have hD10:=(heap_setCell_other _ ⟨D+1,0,none⟩ D (.int .i64 0) n5).trans hD9
 have hF10:=heap_setCell_same _ (D+1) 0 _ _ (.int .i64 0) hF9
 have qD:=cell_of_row _ D 0 _ _ _ hD10
 have qF:=cell_of_row _ (D+1) 0 _ _ _ hF10
 have hbs8:=hbs7.set hd7 (by simp) (.slice A4 k c4)
 have hbs9:=hbs8.set hF9 (by simp) (.int .i64 0)
 refine⟨.tuple #[.slice A4 k c4, .int .i64 0], ?_,A4,c4,by rw[HK.out],hbs9.more (by simp), ?_⟩
 ·simp only[Array.setIfInBounds,List.size_toArray,List.length_cons,List.length_nil]at qD qF
  simp[results, Tryz.results132,go_sem,qD,qF]
 ·rw[hDe]
  exact(hb07.setCell (p:=⟨D,0,none⟩) (Nat.le_refl _) _).setCell (p:=⟨D+1,0,none⟩) (Nat.le_succ _) _
theorem gY (l:List K) (n:Nat) (hn:n=l.length) (hn3:n≤9223372036854775807) (id:Int) (A:Option Addr) (c:Nat) (s:List Nat) (m:Nat) (hm:m=s.length) (h4:m≤3999) (B:Option Addr) (d:Nat) (w:World) (hT:Cx w) (hA:Ks w w.heap.size A l) (hB:Bs w w.heap.size s B d) (h0:As l id=0) (T:List Nat) (hTg:tagS (Bn l id).sec s=T):Calls Tryz.prog 69 #[.slice A n c, .int .i64 id, .slice B m d] w fun e w'=> ∃g cap,e= .returned (.tuple #[.slice (some ⟨g,0,none⟩) 10 cap, .int .i64 0])∧Rd w' w'.heap.size (some ⟨g,0,none⟩) (U8 T)∧Below w.heap.size w w':=by
 have h64:=Iw h0
 obtain⟨r,hr⟩: ∃r,r=Bn l id:=⟨_,rfl⟩
 rw[←hr]at h64 hTg
 have HE:=Lib.hid h0.symm
 have HS:=Lib.hid h64
 clear h0 h64
 have HN:=Lib.hid hn
 have HM:=Lib.hid hm
 have HT:=Lib.hid hT
 have HA:=Lib.hid hA
 have HB:=Lib.hid hB
 have HTG:=Lib.hid hTg
 have HR:=Lib.hid hr
 clear hn hm hT hA hB hTg hr
 have HBL:=Lib.hid (Below.refl w.heap.size w)
 go_enter Tryz.func69, Tryz.ntmps69
 go_wp2_with fail
 refine(Ip l n HN.out id A c w HA.out hn3 r 0 HR.out HE.out).mono ?_
 rintro e w1 ⟨S,cc,rfl,hs,hb⟩
 replace HT:=Lib.hid (HT.out.next hb)
 replace HA:=Lib.hid (HA.out.next hb)
 replace HB:=Lib.hid (HB.out.next hb)
 replace HBL:=Lib.hid (HBL.out.trans (hb.mono HBL.out.size))
 have FS:=Lib.hid hs
 clear hb hs
 go_wp2_with fail
 obtain⟨w2,hw,hx,hb⟩:=Ik w1 ⟨r,S,cc⟩ FS.out
 rw[←hw]
 replace HT:=Lib.hid (HT.out.next hb)
 replace HA:=Lib.hid (HA.out.next hb)
 replace HB:=Lib.hid (HB.out.next hb)
 replace FS:=Lib.hid (FS.out.next hb)
 replace HBL:=Lib.hid (HBL.out.trans (hb.mono HBL.out.size))
 have HX:=Lib.hid hx
 clear hx hb hw
 obtain⟨X,hB⟩: ∃B,B=w1.heap.size:=⟨_,rfl⟩
 rw[←hB]at HX⊢
 clear hB
 have k1:=cell_of_row _ _ 1 _ _ _ HX.out.1
 go_wp2_with fail
 refine(Ac5 r.sec s r.sec.length m rfl HM.out S B cc d w2 HT.out FS.out HB.out (by have:=HS.out;omega) h4 T HTG.out).mono ?_
 rintro e w3 ⟨g,cap,rfl,hs,hb⟩
 clear k1
 replace HT:=Lib.hid (HT.out.next hb)
 replace HA:=Lib.hid (HA.out.next hb)
 replace HB:=Lib.hid (HB.out.next hb)
 replace FS:=Lib.hid (FS.out.next hb)
 replace HX:=Lib.hid (HX.out.next hb)
 replace HBL:=Lib.hid (HBL.out.trans (hb.mono HBL.out.size))
 have G:=Lib.hid hs
 clear hb hs
 go_wp2
 go_ret2
 exact⟨g,cap,rfl,G.out,HBL.out⟩
theorem gZ (l:List K) (n:Nat) (hn:n=l.length) (hn3:n≤9223372036854775807) (id:Int) (A:Option Addr) (c:Nat) (s:List Nat) (m:Nat) (hm:m=s.length) (h4:m≤3999) (B:Option Addr) (d:Nat) (w:World) (hT:Cx w) (hA:Ks w w.heap.size A l) (hB:Bs w w.heap.size s B d) (E:Int) (hE:As l id=E) (h0:E≠0):Calls Tryz.prog 69 #[.slice A n c, .int .i64 id, .slice B m d] w fun e w'=>e= .returned (.tuple #[.slice none 0 0, .int .i64 E])∧Below w.heap.size w w':=by
 have s1:(E==0)=false:=by rw[beq_eq_false_iff_ne];exact h0
 have s2:(E !=0)=true:=by rw[bne_iff_ne];exact h0
 obtain⟨r,hr⟩: ∃r,r=Bn l id:=⟨_,rfl⟩
 clear h0
 have HN:=Lib.hid hn
 have HM:=Lib.hid hm
 have HT:=Lib.hid hT
 have HA:=Lib.hid hA
 have HB:=Lib.hid hB
 have HE:=Lib.hid hE.symm
 have HR:=Lib.hid hr
 clear hn hm hT hA hB hr
 clear hE
 have HBL:=Lib.hid (Below.refl w.heap.size w)
 go_enter Tryz.func69, Tryz.ntmps69
 go_wp2_with fail
 refine(Ip l n HN.out id A c w HA.out hn3 r E HR.out HE.out).mono ?_
 rintro e w1 ⟨S,cc,rfl,hs,hb⟩
 replace HT:=Lib.hid (HT.out.next hb)
 replace HA:=Lib.hid (HA.out.next hb)
 replace HB:=Lib.hid (HB.out.next hb)
 replace HBL:=Lib.hid (HBL.out.trans (hb.mono HBL.out.size))
 have FS:=Lib.hid hs
 clear hb hs
 go_wp2_with fail
 obtain⟨w2,hw,hx,hb⟩:=Ik w1 ⟨r,S,cc⟩ FS.out
 rw[←hw]
 replace HT:=Lib.hid (HT.out.next hb)
 replace HA:=Lib.hid (HA.out.next hb)
 replace HB:=Lib.hid (HB.out.next hb)
 replace FS:=Lib.hid (FS.out.next hb)
 replace HBL:=Lib.hid (HBL.out.trans (hb.mono HBL.out.size))
 have HX:=Lib.hid hx
 clear hx hb hw
 obtain⟨X,hB⟩: ∃B,B=w1.heap.size:=⟨_,rfl⟩
 rw[←hB]at HX⊢
 clear hB
 go_wp2
 go_ret2
 exact⟨rfl,HBL.out⟩
theorem iA (l:List K) (n:Nat) (hn:n=l.length) (hn3:n≤9223372036854775807) (A:Option Addr) (c:Nat) (r:Rg) (hin:InR r) (E:Int) (p:List Nat) (hE:Im l r=(E,p)) (w:World) (hT:Cx w) (hA:Ks w w.heap.size A l):Calls Tryz.prog 27 #[.slice A n c, .agg #[.int .i64 r.t.ser, .int .i64 r.t.kind, .int .i64 r.t.frm, .int .i64 r.t.till, .int .i64 r.t.cls, .int .i64 r.t.card, .int .i64 r.t.seat, .int .i64 r.t.day, .int .i64 r.t.days, .int .i64 r.t.uses, .int .i64 r.t.epoch, .int .i64 r.key, .int .i64 r.left, .int .i64 r.inn, .int .i64 r.ver]] w fun e w'=> ∃A' c',e= .returned (.tuple #[.slice A' (p.length:Nat) c', .int .i64 E])∧Bs w' w'.heap.size p A' c'∧Below w.heap.size w w':=by
 obtain⟨b0,h1⟩: ∃b0,isR l=b0:=⟨_,rfl⟩
 have HN:=Lib.hid hn
 have HT:=Lib.hid hT
 have HA:=Lib.hid hA
 have HI:=Lib.hid hin
 have HE:=Lib.hid hE
 have H1:=Lib.hid h1
 clear hn hT hA hin hE h1
 have HBL:=Lib.hid (Below.refl w.heap.size w)
 go_enter Tryz.func27, Tryz.ntmps27
 go_wp2_with fail
 obtain⟨w1,hw,hx,hb⟩:=El w r
 rw[←hw]
 replace HT:=Lib.hid (HT.out.next hb)
 replace HA:=Lib.hid (HA.out.next hb)
 replace HBL:=Lib.hid (HBL.out.trans (hb.mono HBL.out.size))
 have X1:=Lib.hid hx
 clear hx hb hw
 obtain⟨B1,hB⟩: ∃B,B=w.heap.size:=⟨_,rfl⟩
 rw[←hB]at X1⊢
 clear hB
 refine(Ho l n HN.out b0 H1.out A c w1 HA.out hn3).mono ?_
 rintro e w2 ⟨rfl,hb⟩
 replace HT:=Lib.hid (HT.out.next hb)
 replace HA:=Lib.hid (HA.out.next hb)
 replace X1:=Lib.hid (X1.out.next hb)
 replace HBL:=Lib.hid (HBL.out.trans (hb.mono HBL.out.size))
 clear hb
 have hE:=HE.out
 clear HE
 cases b0
 focus
  rw[Im,if_pos H1.out]at hE
  obtain⟨rfl,rfl⟩:=Prod.mk.inj hE
 rotate_left
 focus
  rw[Im,if_neg (by rw[H1.out];decide)]at hE
  obtain⟨G,P,hP⟩: ∃G P,lputX r=(G,P):=⟨_,_,rfl⟩
  rw[hP]at hE
  simp only at hE
  have HP:=Lib.hid hP
  have HE:=Lib.hid hE
  clear hE hP
  obtain⟨c0,c1,c2,c3,c4,c5,c6,c7,c8,c9,c10,c11,c12,c13,c14⟩:=X1.out.cells
  go_wp2_with fail
  refine(AaX r HI.out G P HP.out w2).mono ?_
  rintro e w3 ⟨AP1,cP1,rfl,hs,hb⟩
  clear c0 c1 c2 c3 c4 c5 c6 c7 c8 c9 c10 c11 c12 c13 c14
  replace HT:=Lib.hid (HT.out.next hb)
  replace HA:=Lib.hid (HA.out.next hb)
  replace X1:=Lib.hid (X1.out.next hb)
  replace HBL:=Lib.hid (HBL.out.trans (hb.mono HBL.out.size))
  have P1:=Lib.hid hs
  clear hb hs
  have hE:=HE.out
  clear HE
  by_cases h2:G≠0
  focus
   rw[if_pos h2]at hE
   have s1:(G==0)=false:=by rw[beq_eq_false_iff_ne];exact h2
   have s2:(G !=0)=true:=by rw[bne_iff_ne];exact h2
   obtain⟨rfl,rfl⟩:=Prod.mk.inj hE
   clear h2
  rotate_left
  focus
   obtain rfl:=Decidable.not_not.1 h2
   rw[if_neg h2]at hE
   clear h2
   obtain⟨c0,c1,c2,c3,c4,c5,c6,c7,c8,c9,c10,c11,c12,c13,c14⟩:=X1.out.cells
   obtain⟨F0,hF0⟩: ∃F0,As l r.key=F0:=⟨_,rfl⟩
   rw[hF0]at hE
   by_cases h3:F0≠0
   focus
    rw[if_pos h3]at hE
    have HPL:=Lib.hid (Ny HP.out)
    have HF0:=Lib.hid hF0
    have H3:=Lib.hid h3
    have s1:(F0==0)=false:=by rw[beq_eq_false_iff_ne];exact h3
    have s2:(F0 !=0)=true:=by rw[bne_iff_ne];exact h3
    obtain⟨rfl,rfl⟩:=Prod.mk.inj hE
    clear hF0 h3
    go_wp2_with fail
    refine(gZ l n HN.out hn3 r.key A c P P.length rfl (by have:=HPL.out;omega) AP1 cP1 w3 HT.out HA.out P1.out _ HF0.out H3.out).mono ?_
    rintro e w4 ⟨rfl,hb⟩
    clear c0 c1 c2 c3 c4 c5 c6 c7 c8 c9 c10 c11 c12 c13 c14
    replace HT:=Lib.hid (HT.out.next hb)
    replace HA:=Lib.hid (HA.out.next hb)
    replace X1:=Lib.hid (X1.out.next hb)
    replace P1:=Lib.hid (P1.out.next hb)
    replace HBL:=Lib.hid (HBL.out.trans (hb.mono HBL.out.size))
    clear hb
   rotate_left
   focus
    obtain rfl:=Decidable.not_not.1 h3
    rw[if_neg h3]at hE
    have H3:=Lib.hid hF0
    clear hF0
    have hPL:P.length≤40:=Ny HP.out
    obtain⟨T,hTg⟩: ∃T,tagS (Bn l r.key).sec P=T:=⟨_,rfl⟩
    obtain⟨L,hL⟩: ∃L,P++T=L:=⟨_,rfl⟩
    obtain⟨hX1,hX2⟩:=Prod.mk.inj hE
    rw[Lr,HP.out]at hX1 hX2
    simp only at hX1 hX2
    rw[hTg,hL]at hX1 hX2
    have hTL:T.length=10:=by rw[←hTg];exact Ko _ _
    have hTT: ∀x∈T,x<256:=by rw[←hTg];exact eX _ _
    obtain⟨k,hk⟩: ∃k,k=L.length:=⟨_,rfl⟩
    have hk2:0<k∧k≤50:=by rw[hk, ←hL,List.length_append];omega
    have HPL:=Lib.hid hPL
    have HTG:=Lib.hid hTg
    have HL:=Lib.hid hL
    have HX1:=Lib.hid hX1
    have HX2:=Lib.hid hX2
    have HTL:=Lib.hid hTL
    have HTT:=Lib.hid hTT
    have HK:=Lib.hid hk
    have HK2:=Lib.hid hk2
    clear hE h3 hPL hTg hL hX1 hX2 hTL hTT hk hk2
    go_wp2_with fail
    refine(gY l n HN.out hn3 r.key A c P P.length rfl (by have:=HPL.out;omega) AP1 cP1 w3 HT.out HA.out P1.out H3.out T HTG.out).mono ?_
    rintro e w4 ⟨g,cap,rfl,hs,hb⟩
    clear c0 c1 c2 c3 c4 c5 c6 c7 c8 c9 c10 c11 c12 c13 c14
    replace HT:=Lib.hid (HT.out.next hb)
    replace HA:=Lib.hid (HA.out.next hb)
    replace X1:=Lib.hid (X1.out.next hb)
    replace P1:=Lib.hid (P1.out.next hb)
    replace HBL:=Lib.hid (HBL.out.trans (hb.mono HBL.out.size))
    have G:=Lib.hid hs
    clear hb hs
    go_wp2_with fail
    refine(Uu P T L HL.out P.length 10 k rfl HTL.out.symm HK.out AP1 _ cP1 cap w4 P1.out.rd G.out P1.out.nil (fun h=>by cases h) P1.out.lt HTT.out HK2.out.1 (by have:=HK2.out;omega)).mono ?_
    rintro e w5 ⟨ALL,cLL,rfl,hs,hb⟩
    replace HT:=Lib.hid (HT.out.next hb)
    replace HA:=Lib.hid (HA.out.next hb)
    replace X1:=Lib.hid (X1.out.next hb)
    replace P1:=Lib.hid (P1.out.next hb)
    replace G:=Lib.hid (G.out.next hb)
    replace HBL:=Lib.hid (HBL.out.trans (hb.mono HBL.out.size))
    have LL:=Lib.hid hs
    clear hb hs
    go_wp2_with fail
    refine(Acv L k HK.out (by have:=HK2.out;omega) E HX1.out p HX2.out ALL cLL w5 LL.out).mono ?_
    rintro e w6 ⟨AO,cO,rfl,hs,hb⟩
    replace HT:=Lib.hid (HT.out.next hb)
    replace HA:=Lib.hid (HA.out.next hb)
    replace X1:=Lib.hid (X1.out.next hb)
    replace P1:=Lib.hid (P1.out.next hb)
    replace G:=Lib.hid (G.out.next hb)
    replace LL:=Lib.hid (LL.out.next hb)
    replace HBL:=Lib.hid (HBL.out.trans (hb.mono HBL.out.size))
    have O:=Lib.hid hs
    clear hb hs
    go_wp2
    go_ret2
    exact⟨_,_,rfl,O.out,HBL.out⟩
 all_goals
  go_wp2
  go_ret2
  first|exact⟨none,0,rfl,Do _ _,HBL.out⟩|exact⟨none,0,rfl,Do _ _,HBL.out.trans ((Aa _ _ _).mono HBL.out.size)⟩
theorem Zz (b:List Nat) (n:Nat) (hn:n=b.length) (hn2:n≤1048576) (A:Option Addr) (c:Nat) (w:World) (hA:Bs w w.heap.size b A c):Calls Tryz.prog 16 #[.slice A n c] w fun e w'=> ∃A' c',e= .returned (.slice A' (n:Nat) c')∧Bs w' w'.heap.size (Em b) A' c'∧Below w.heap.size w w':=by
 obtain⟨m,hm⟩: ∃m,8*n=m:=⟨_,rfl⟩
 obtain⟨L,hL⟩: ∃L,Ag b=L:=⟨_,rfl⟩
 obtain⟨h,hh⟩: ∃h,m / 2=h:=⟨_,rfl⟩
 have hu:=Ur b n hn hn2 A c w hA
 have hlen:L.length=m:=by rw[←hL,Bz, ←hn,hm]
 have hpk:packL L.reverse=Em b:=by rw[←hL];rfl
 rw[hm,hL]at hu
 have hpm:(m+7) / 8=n:=by omega
 have hm2:m≤8388608:=by omega
 have h8:m % 2=0:=by omega
 have HU:=Lib.hid hu
 have HL:=Lib.hid hlen
 have HP:=Lib.hid hpk
 have HPM:=Lib.hid hpm
 have HH:=Lib.hid hh
 have H8:=Lib.hid h8
 have eh:(m:Int) / 2=(h:Int):=by omega
 have eh2:(m:Int).tdiv 2=(h:Int):=by rw[Int.tdiv_eq_ediv_of_nonneg (by omega)];exact eh
 clear hn hA hm hL hh hu hlen hpk hpm h8
 go_enter Tryz.func16, Tryz.ntmps16
 go_wp2_with fail
 refine HU.out.mono ?_
 rintro e w1 ⟨rfl,ho,hb⟩
 have HOW:=Lib.hid (show w1.ownsRow w.heap.size 4 1 (.slice (some ⟨w.heap.size,0,none⟩) m m) m (BL (Ok L 0)) by rw[uM];exact ho)
 have HBL:=Lib.hid hb
 clear ho hb
 go_wp2
 go_loopw [14] (fun i wr=> ∃k:Nat,k≤h∧i= .int .i64 k∧wr.ownsRow w.heap.size 4 1 (.slice (some ⟨w.heap.size,0,none⟩) m m) m (BL (Ok L k))∧Below w.heap.size w wr) (fun i _=>h - (intOf i).toNat)
 case atStart=>exact⟨0,Nat.zero_le _,rfl,HOW.out,HBL.out⟩
 case round=>
  obtain⟨k,hk,rfl,hown,hbel⟩:=hrel
  replace HOW:=Lib.hid hown
  replace HBL:=Lib.hid hbel
  clear hown hbel
  by_cases hlt:k<h
  ·obtain⟨q,hq⟩: ∃q:Nat,q=m - 1 - k:=⟨_,rfl⟩
   have hkq:2*k+1<L.length:=by rw[HL.out];have:=HH.out;have:=H8.out;omega
   have hqm:q<m:=by have:=HL.out;omega
   have hkm:k<m:=by have:=HL.out;omega
   have hne: ¬k=q:=by have:=HL.out;omega
   have hne2: ¬q=k:=by omega
   have h1:=Aah L k hkq
   have h2:=uO L k hkq
   have h3:=uP L k hkq
   rw[HL.out, ←hq]at h2 h3
   obtain⟨x,hx⟩: ∃x,L.getD k false=x:=⟨_,rfl⟩
   obtain⟨y,hy⟩: ∃y,L.getD q false=y:=⟨_,rfl⟩
   rw[hx]at h1 h3
   rw[hy]at h2 h3
   have cx:wr.cell? ⟨w.heap.size,k,none⟩=some (.bool x):=by rw[HOW.out.cellAt k (by omega),BL,List.getElem?_map,h1];rfl
   have cy:wr.cell? ⟨w.heap.size,q,none⟩=some (.bool y):=by rw[HOW.out.cellAt q (by omega),BL,List.getElem?_map,h2];rfl
   have fx:=HOW.out.frozenAt k
   have fy:=HOW.out.frozenAt q
   have HST:=Lib.hid (show((wr.setCell ⟨w.heap.size,k,none⟩ (.bool y)).setCell ⟨w.heap.size,q,none⟩ (.bool x)).ownsRow w.heap.size 4 1 (.slice (some ⟨w.heap.size,0,none⟩) m m) m (BL (Ok L (k+1))) by
    have h:=((HOW.out.stored k (.bool y)).1.stored q (.bool x)).1
    have e:((BL (Ok L k)).set k (.bool y)).set q (.bool x)=BL (Ok L (k+1)):=by rw[←h3,BL,BL,List.map_set,List.map_set]
    rw[e]at h
    exact h)
   have HSB:=Lib.hid (show Below w.heap.size w ((wr.setCell ⟨w.heap.size,k,none⟩ (.bool y)).setCell ⟨w.heap.size,q,none⟩ (.bool x))from(HBL.out.setCell (p:=⟨w.heap.size,k,none⟩) (Nat.le_refl _) _).setCell (p:=⟨w.heap.size,q,none⟩) (Nat.le_refl _) _)
   have ezq:(m:Int) - 1 - (k:Int)=(q:Int):=by omega
   have wz:IntKind.i64.wrap ((m:Int) - 1 - (k:Int))=(q:Int):=by rw[ezq];exact IntWalk.i64_in _ (by omega)
   have b0:(0:Int)≤(k:Int):=by omega
   have b1:(k:Int)<(m:Int):=by omega
   have b2:(k:Int)<(h:Int):=by omega
   have b3:(0:Int)≤(q:Int):=by omega
   have b4:(q:Int)<(m:Int):=by omega
   clear h1 h2 h3 hx hy hq hkq hlt
   go_wp2_with fail
   go_region
   all_goals
    go_wp2
    go_roundw
    case rel=>exact⟨k+1,by omega,by go_num,HST.out.drew,HSB.out.drew⟩
    case measure=>simp[intOf];omega
  ·have e:k=h:=by omega
   have hb: ¬((k:Int)<(h:Int)):=by omega
   have ht:Ok L k=L.reverse:=uN L k (by rw[e,HL.out,HH.out])
   rw[ht]at HOW
   clear ht hlt e
   obtain⟨A',c',hv,hvl,hvs⟩:=Iu HOW.out
   clear hvl
   cases hv
   go_wp2_with fail
   refine(Oj L.reverse m (by rw[List.length_reverse,HL.out]) (by omega) _ m wr hvs).mono ?_
   rintro e w2 ⟨AP,cP,rfl,hs,hb2⟩
   rw[HPM.out]
   rw[HP.out]at hs
   have HS:=Lib.hid hs
   have HB2:=Lib.hid (HBL.out.trans (hb2.mono HBL.out.size))
   clear hs hb2 hvs
   go_wp2
   go_ret
   exact⟨_,_,rfl,HS.out,HB2.out⟩
theorem yZ (x:Int) (X:Nat) (w:World) (hx:x≠0) (c0:w.cell? ⟨X,0,none⟩=some (.int .i64 x)):Calls Tryz.prog 133 #[.slice (some ⟨X,0,none⟩) 2 2] w fun e w'=>e= .returned (.int .i64 x)∧w=w':=by
 have s1:(x==0)=false:=by rw[beq_eq_false_iff_ne];exact hx
 have s2:(x !=0)=true:=by rw[bne_iff_ne];exact hx
 have C0:=Lib.hid c0
 clear hx c0
 go_enter Tryz.func133, Tryz.ntmps133
 go_wp2
 go_loopw [8] (fun i wr=>i= .int .i64 0∧w=wr) (fun _ _=>0)
 case atStart=>exact⟨rfl,rfl⟩
 case round=>
  obtain⟨rfl,rfl⟩:=hrel
  have c0:=C0.out
  go_wp2
  go_ret
  exact⟨rfl,rfl⟩
theorem tW (x:Int) (X:Nat) (w:World) (hx:x≠0) (c0:w.cell? ⟨X,0,none⟩=some (.int .i64 0)) (c1:w.cell? ⟨X,1,none⟩=some (.int .i64 x)):Calls Tryz.prog 133 #[.slice (some ⟨X,0,none⟩) 2 2] w fun e w'=>e= .returned (.int .i64 x)∧w=w':=by
 have s1:(x==0)=false:=by rw[beq_eq_false_iff_ne];exact hx
 have s2:(x !=0)=true:=by rw[bne_iff_ne];exact hx
 have C0:=Lib.hid c0
 have C1:=Lib.hid c1
 clear hx c0 c1
 go_enter Tryz.func133, Tryz.ntmps133
 go_wp2
 go_loopw [8] (fun i wr=>(i= .int .i64 0∨i= .int .i64 1)∧w=wr) (fun i _=>(1 - intOf i).toNat)
 case atStart=>exact⟨.inl rfl,rfl⟩
 case round=>
  obtain⟨h,rfl⟩:=hrel
  have c0:=C0.out
  have c1:=C1.out
  rcases h with rfl|rfl
  ·go_wp2
   go_roundw
   case rel=>first|exact⟨.inr rfl,rfl⟩|exact⟨.inr rfl,trivial⟩|simp
   case measure=>simp[intOf]
  ·go_wp2
   go_ret
   exact⟨rfl,rfl⟩
theorem tX (n c C:Nat) (A:Option Addr) (w:World) (hc:w.cell? ⟨C,0,none⟩=some (.slice A n c)):Calls Tryz.prog 130 #[.pointer (some ⟨C,0,none⟩)] w fun e w'=>e= .returned (.slice A n c)∧w=w':=by
 go_enter Tryz.func130, Tryz.ntmps130
 go_wp2
 go_ret
 exact⟨rfl,rfl⟩
theorem iB (b:List Nat) (n:Nat) (hn:n=b.length) (hn2:n≤1048576) (A:Option Addr) (c C:Nat) (w:World) (hA:Bs w w.heap.size b A c) (hc:w.cell? ⟨C,0,none⟩=some (.slice A n c)):Calls Tryz.prog 131 #[.pointer (some ⟨C,0,none⟩)] w fun e w'=> ∃A' c',e= .returned (.slice A' (n:Nat) c')∧Bs w' w'.heap.size (Em b) A' c'∧Below w.heap.size w w':=by
 have hu:=Zz b n hn hn2 A c w hA
 have HU:=Lib.hid hu
 clear hn hA hu
 go_enter Tryz.func131, Tryz.ntmps131
 go_wp2_with fail
 refine HU.out.mono ?_
 rintro e w1 ⟨AU,cU,rfl,hs,hb⟩
 have HS:=Lib.hid hs
 have HB:=Lib.hid hb
 clear hs hb
 go_wp2
 go_ret
 exact⟨_,_,rfl,HS.out,HB.out⟩
theorem Sj (b:List Nat) (n:Nat) (hn:n=b.length) (hn2:n≤1048576) (E:Int) (hE:Gm b=E) (o:Bool) (ho:Jr b=o) (p:List Nat) (hP:readL b=p) (A:Option Addr) (c:Nat) (w:World) (hA:Bs w w.heap.size b A c):Calls Tryz.prog 77 #[.slice A n c] w fun e w'=> ∃A' c',e= .returned (.tuple #[.slice A' (p.length:Nat) c', .bool o, .int .i64 E])∧Bs w' w'.heap.size p A' c'∧Below w.heap.size w w':=by
 have hmf: ∀(fn:Fn) (first cap:Array Value) (w:World),(Instr.makeFunc fn first cap).run Tryz.prog w= .ok (.func fn first cap) w:=fun _ _ _ _=>rfl
 have HN:=Lib.hid hn
 have HA:=Lib.hid hA
 have HE:=Lib.hid hE
 have HO:=Lib.hid ho
 have HP:=Lib.hid hP
 obtain⟨E1,hE1⟩: ∃E1,Du b=E1:=⟨_,rfl⟩
 obtain⟨E2,hE2⟩: ∃E2,Du (Em b)=E2:=⟨_,rfl⟩
 obtain⟨p1,hp1⟩: ∃p1,Hk b=p1:=⟨_,rfl⟩
 obtain⟨p2,hp2⟩: ∃p2,Hk (Em b)=p2:=⟨_,rfl⟩
 have HE1:=Lib.hid hE1
 have HE2:=Lib.hid hE2
 have Hp1:=Lib.hid hp1
 have Hp2:=Lib.hid hp2
 clear hn hA hE ho hP hE1 hE2 hp1 hp2
 go_enter Tryz.func77, Tryz.ntmps77
 go_wp2
 obtain⟨w2,hw2⟩: ∃w2,(w.alloc (.cells #[.slice A n c] 23)).alloc (.cells #[(Value.func (.func 130) #[] #[.pointer (some ⟨w.heap.size,0,none⟩)]),(Value.func (.func 131) #[] #[.pointer (some ⟨w.heap.size,0,none⟩)])] 150)=w2:=⟨_,rfl⟩
 rw[hw2]
 have hb2:Below w.heap.size w w2:=by rw[←hw2];exact(Aa w _ _).trans ((Aa _ _ _).mono (Aa w #[.slice A n c] 23).size)
 have hx1:w2.heap[w.heap.size]?=some (.cells #[.slice A n c] 23 (0,0)):=by
  rw[←hw2,heap_alloc_old _ _ (by simp)]
  exact heap_alloc_new w _
 have hx2:w2.heap[w.heap.size+1]?=some (.cells #[(Value.func (.func 130) #[] #[.pointer (some ⟨w.heap.size,0,none⟩)]),(Value.func (.func 131) #[] #[.pointer (some ⟨w.heap.size,0,none⟩)])] 150 (0,0)):=by
  rw[←hw2,show w.heap.size+1=(w.alloc (.cells #[.slice A n c] 23)).heap.size from(World.size_alloc _ _).symm]
  exact heap_alloc_new _ _
 have HX:=Lib.hid (cell_of_row w2 w.heap.size 0 _ _ _ hx1)
 have HF1:=Lib.hid (cell_of_row w2 (w.heap.size+1) 0 _ _ _ hx2)
 have HF2:=Lib.hid (cell_of_row w2 (w.heap.size+1) 1 _ _ _ hx2)
 have HA2:=Lib.hid (HA.out.next hb2)
 have HB2:=Lib.hid hb2
 have HZ:=Lib.hid (show w.heap.size+1<w2.heap.size from(Array.getElem?_eq_some_iff.1 hx2).1)
 clear hw2 hb2 hx1 hx2
 go_loopw [6,16] (fun f i wr=>((i= .int .i64 0∧f= .int .i64 0)∨(i= .int .i64 1∧f= .int .i64 E1∧E1≠0)∨(i= .int .i64 2∧f= .int .i64 E1∧E1≠0∧E2≠0))∧Below w2.heap.size w2 wr) (fun _ i _=>(2 - intOf i).toNat)
 case atStart=>exact⟨.inl ⟨rfl,rfl⟩,Below.refl _ _⟩
 case round=>
  obtain⟨hc,hbel⟩:=hrel
  have c0:=(hbel.cell (p:=⟨w.heap.size,0,none⟩) (by have:=HZ.out;simp;omega)).trans HX.out
  have c1:=(hbel.cell (p:=⟨w.heap.size+1,0,none⟩) HZ.out).trans HF1.out
  have c2:=(hbel.cell (p:=⟨w.heap.size+1,1,none⟩) HZ.out).trans HF2.out
  have HA3:=Lib.hid (HA2.out.next hbel)
  have HBL:=Lib.hid hbel
  clear hbel
  have HC0:=Lib.hid c0
  rcases hc with⟨rfl,rfl⟩|⟨rfl,rfl,hne⟩|⟨rfl,rfl,hne,hne2⟩
  ·clear c0 c2
   go_wp2_with fail
   refine(tX n c w.heap.size A wr HC0.out).mono ?_
   rintro e w3 ⟨rfl,rfl⟩
   go_wp2_with fail
   refine(gX b n HN.out (by omega) E1 HE1.out p1 Hp1.out A c wr HA3.out).mono ?_
   rintro e w4 ⟨AG,cG,rfl,hs,hb⟩
   have HS:=Lib.hid hs
   have HB4:=Lib.hid hb
   clear hs hb c1
   cases q:(E1==0)
   ·have hne:E1≠0:=by rw[beq_eq_false_iff_ne]at q;exact q
    have HNE:=Lib.hid hne
    clear hne
    go_wp2_with fail
    have cc0:(w4.alloc (.cells #[.int .i64 0, .int .i64 E1] 27)).cell? ⟨w4.heap.size,0,none⟩=some (.int .i64 0):=cell_of_row _ _ 0 _ _ _ (heap_alloc_new w4 _)
    have cc1:(w4.alloc (.cells #[.int .i64 0, .int .i64 E1] 27)).cell? ⟨w4.heap.size,1,none⟩=some (.int .i64 E1):=cell_of_row _ _ 1 _ _ _ (heap_alloc_new w4 _)
    refine(tW E1 w4.heap.size _ HNE.out cc0 cc1).mono ?_
    rintro e w5 ⟨rfl,rfl⟩
    clear cc0 cc1
    have HB5:=Lib.hid (show Below w2.heap.size w2 (w4.alloc (.cells #[.int .i64 0, .int .i64 E1] 27))from HBL.out.trans ((HB4.out.trans ((Aa w4 _ _).mono HB4.out.size)).mono HBL.out.size))
    go_wp2
    go_roundw
    case rel=>exact⟨.inr (.inl ⟨rfl,rfl,HNE.out⟩),HB5.out⟩
    case measure=>simp[intOf]
   ·have hz:E1=0:=by rw[beq_iff_eq]at q;exact q
    subst hz
    obtain⟨h1,h2,h3⟩:=Le HE1.out
    have eE:E=0:=HE.out.symm.trans h1
    have eO:o=false:=HO.out.symm.trans h2
    have eP:p=p1:=HP.out.symm.trans (h3.trans Hp1.out)
    subst eE eO eP
    clear h1 h2 h3 q
    have HBE:=Lib.hid (show Below w.heap.size w w4 from HB2.out.trans ((HBL.out.trans (HB4.out.mono HBL.out.size)).mono HB2.out.size))
    go_wp2
    go_ret3
    exact⟨_,_,rfl,HS.out,HBE.out⟩
  ·clear c0 c1
   have HNE:=Lib.hid hne
   clear hne
   go_wp2_with fail
   refine(iB b n HN.out (by omega) A c w.heap.size wr HA3.out HC0.out).mono ?_
   rintro e w3 ⟨AT,cT,rfl,hs,hb⟩
   have HT:=Lib.hid hs
   have HB3:=Lib.hid hb
   clear hs hb c2
   go_wp2_with fail
   refine(gX (Em b) n (by rw[Qq];exact HN.out) (by omega) E2 HE2.out p2 Hp2.out AT cT w3 HT.out).mono ?_
   rintro e w4 ⟨AG,cG,rfl,hs,hb⟩
   have HS:=Lib.hid hs
   have HB4:=Lib.hid (HB3.out.trans (hb.mono HB3.out.size))
   clear hs hb
   cases q:(E2==0)
   ·have hne:E2≠0:=by rw[beq_eq_false_iff_ne]at q;exact q
    have HNE2:=Lib.hid hne
    clear hne
    go_wp2_with fail
    have cc0:(w4.alloc (.cells #[.int .i64 E1, .int .i64 E2] 27)).cell? ⟨w4.heap.size,0,none⟩=some (.int .i64 E1):=cell_of_row _ _ 0 _ _ _ (heap_alloc_new w4 _)
    refine(yZ E1 w4.heap.size _ HNE.out cc0).mono ?_
    rintro e w5 ⟨rfl,rfl⟩
    clear cc0
    have HB5:=Lib.hid (show Below w2.heap.size w2 (w4.alloc (.cells #[.int .i64 E1, .int .i64 E2] 27))from HBL.out.trans ((HB4.out.trans ((Aa w4 _ _).mono HB4.out.size)).mono HBL.out.size))
    go_wp2
    go_roundw
    case rel=>exact⟨.inr (.inr ⟨rfl,rfl,HNE.out,HNE2.out⟩),HB5.out⟩
    case measure=>simp[intOf]
   ·have hz:E2=0:=by rw[beq_iff_eq]at q;exact q
    subst hz
    obtain⟨h1,h2,h3⟩:=Mp (by rw[HE1.out];exact HNE.out) HE2.out
    have eE:E=0:=HE.out.symm.trans h1
    have eO:o=true:=HO.out.symm.trans h2
    have eP:p=p2:=HP.out.symm.trans (h3.trans Hp2.out)
    subst eE eO eP
    clear h1 h2 h3 q
    have HBE:=Lib.hid (show Below w.heap.size w w4 from HB2.out.trans ((HBL.out.trans (HB4.out.mono HBL.out.size)).mono HB2.out.size))
    go_wp2
    go_ret3
    exact⟨_,_,rfl,HS.out,HBE.out⟩
  ·clear c0 c1 c2
   obtain⟨h1,h2,h3⟩:=Sr (by rw[HE1.out];exact hne) (by rw[HE2.out];exact hne2)
   have eE:E=E1:=HE.out.symm.trans (h1.trans HE1.out)
   have eO:o=false:=HO.out.symm.trans h2
   have eP:p=[]:=HP.out.symm.trans h3
   subst eE eO eP
   clear h1 h2 h3 hne hne2
   have HBE:=Lib.hid (show Below w.heap.size w wr from HB2.out.trans (HBL.out.mono HB2.out.size))
   go_wp2
   go_ret3
   exact⟨none,0,rfl,⟨by intro k u hu;simp[U8]at hu,fun _=>rfl,by simp,by omega,by simp⟩,HBE.out⟩
theorem Qk {ops:Array Oper} {rest:List Oper} {k1 k2:Nat} {t0:TypeId} {pos:String} {aft:Array Edge} {a:Act} {w:World} {Q:Exit→Act→World→Prop} {b:Nat} {r0:Rg} {cells:Array Value} (hX:Am w b r0)
  (h: ∀w',Hid (w'=w.setRow b cells)→wpList Tryz.prog ops Q rest (a.put none undef) w') (hx:a.eval (.tmp k1)= .pointer (some ⟨b,0,none⟩):=by rfl) (hy:a.eval (.tmp k2)= .agg cells:=by rfl) (hs:cells.size=15:=by rfl)
  (h1:cells.all (·.oneCell')=true:=by exact Bh _ _ _ _ _ _ _ _ _ _ _ _ _ _ _):wpList Tryz.prog ops Q (⟨none, .store 39 (.tmp k1) (.tmp k2),t0,pos,aft,none⟩::rest) a w:=
 Ad (o:=⟨none, .store 39 (.tmp k1) (.tmp k2),t0,pos,aft,none⟩) rfl 39 (.tmp k1) (.tmp k2) rfl b cells hx hy 39 _ hX (by rw[Ai,hs]) (by rw[hs];rfl) h1 h
theorem At {w w' w'':World} {row:Option Nat} (h:w.grownBy w' row) (h':w'.grownBy w'' row):w.grownBy w'' row:=⟨h'.os.trans h.os,h'.tape.trans h.tape,h'.output.trans h.output,Nat.le_trans h.size h'.size,fun k hk hne=>(h'.block k (Nat.lt_of_lt_of_le hk h.size) hne).trans (h.block k hk hne)⟩
theorem Dy {w w':World} (row:Option Nat) (h:Below w.heap.size w w'):w.grownBy w' row:=⟨h.os,h.tape,h.output,h.size,fun k hk _=>h.block k hk⟩
theorem Aq {w w':World} {B X:Nat} (h:w.grownBy w' (some X)) (hB:B≤X) (hs:B≤w.heap.size):Below B w w':=⟨h.os,h.tape,h.output,h.size,fun k hk=>h.block k (by omega) (by simp;omega)⟩
end Go.Proofs.YtmdbfogjfbbpjaaGreatDoor
