import Derived.Test.YtcnglbliidjnfaaGreatDoorShaRefSum
import Derived.Test.YtcnglbliidjnfaaGreatDoorBarConst
import Derived.Test.YtcnglbliidjnfaaGreatDoorShaPSum
import Derived.Test.YtcnglbliidjnfaaGreatDoorMem
import Derived.Test.YtcnglbliidjnfaaGreatDoorRingFind
import Derived.Test.YtcnglbliidjnfaaGreatDoorFieldsMath
import Derived.OpenShut
import Derived.SizedLaws
import Derived.RangeFuncNested
import Derived.RangeFuncBound
import Derived.RangeFuncLeaves
import Derived.RangeFuncBox
import Derived.Shelf.Abstract
import Derived.WalkKit
import Derived.OwnWalkIn
import Derived.TacticsInMore
import Derived.LoopNIn
import Derived.LoopIn
import Derived.Maps.OwnIn
import Derived.Maps.AppendAt
import Derived.Maps.Views
import Derived.Test.YtcnglbliidjnfaaGreatDoorMath
section
namespace Go.Proofs.YtcnglbliidjnfaaGreatDoor
set_option maxRecDepth 100000
set_option linter.unusedVariables false
open Go.ChangeShapes Go.WideShapes Go.ChangeAt Go.RowKit
def IsArr (t n:Nat) (F:Array Value):Prop:=(Tryz.prog.info? t).map (·.size)=some F.size∧n=F.size∧F.all (·.oneCell')=true
theorem isArr32 {F:Array Value} {l:List Nat} (h:F=(U8 l).toArray) (hl:l.length=32):IsArr 42 32 F:=by
 have hs:F.size=32:=by rw[h];simp[U8,hl]
 exact⟨by rw[hs];exact info32,hs.symm,by rw[h];exact all_one8 _⟩
theorem isArr64 {F:Array Value} {l:List Nat} (h:F=(U8 l).toArray) (hl:l.length=64):IsArr 112 64 F:=by
 have hs:F.size=64:=by rw[h];simp[U8,hl]
 exact⟨by rw[hs];exact info64,hs.symm,by rw[h];exact all_one8 _⟩
theorem rd_row {w:World} {g:Nat} {F:Array Value} {l:List Nat} {t:TypeId} (h:w.heap[g]?=some (.cells F t (0,0))) (hF:F=(U8 l).toArray):Rd w w.heap.size (some ⟨g,0,none⟩) (U8 l):=by
 intro k u hu
 refine⟨_,rfl,(Array.getElem?_eq_some_iff.1 h).1, ?_⟩
 rw[at_add,cell_of_row w _ k _ _ (0,0) h,hF]
 simpa using hu
theorem masked_arr (K:List Nat) (m:Nat) (X FM:Array Value) (w:World) (hX:X=(U8 K).toArray) (hFM:FM=(U8 (maskN K m)).toArray) (hK: ∀x∈K,x<256) (hl:K.length=64) (hm:m<256):
  Calls Tryz.prog 92 #[.agg X, .int .u8 m] w fun e w'=>e= .returned (.agg FM)∧Below w.heap.size w w':=by
 subst hX hFM
 exact masked_any K m w hK hl hm
theorem concat_rd (ps:List Part) (L:List Nat) (hL:L=cflat ps) (g m c:Nat) (w:World) (hm:ps.length=m) (hg:g<w.heap.size) (hcell: ∀i p,ps[i]?=some p→w.cell? ⟨g,i,none⟩=some p.val) (hok: ∀p∈ps,p.ok w) (hm2:m≤1000)
  (h0:0<L.length) (hn:L.length≤140737488355328):
  Calls Tryz.prog 28 #[.slice (some ⟨g,0,none⟩) m c] w fun e w'=> ∃A cap,e= .returned (.slice A L.length cap)∧Rd w' w'.heap.size A (U8 L)∧(A=none→cap=0)∧Below w.heap.size w w':=by
 subst hL
 refine(concat_any ps g m c w hm hg hcell hok hm2 h0 hn).mono ?_
 rintro e w' ⟨v,rfl,hown,hb⟩
 obtain⟨A,cap,rfl,hr⟩:=own_shape hown
 refine⟨A,cap,rfl,hr, ?_,hb⟩
 rintro rfl
 rcases hown.2 with⟨h,_⟩|⟨g',cap',cur,h,_⟩
 ·simp at h;exact h.2
 ·simp at h
set_option maxRecDepth 100000 in
set_option maxHeartbeats 800000 in
theorem side_any (K l:List Nat) (m n:Nat) (hn:n=l.length) (A:Option Addr) (c Bk:Nat) (w:World) (hT:Tabs w) (hk:w.heap[Bk]?=some (.cells (U8 K).toArray 112 (0,0))) (hA:Rd w w.heap.size A (U8 l)) (hnil:A=none→c=0)
  (hl:K.length=64) (hK: ∀x∈K,x<256) (hb: ∀x∈l,x<256) (hm:m<256) (h4:n≤4000) (F:Array Value) (hF:F=(U8 (digestN (maskN K m++l))).toArray):
  Calls Tryz.prog 91 #[.int .u8 m, .slice A n c, .pointer (some ⟨Bk,0,none⟩)] w fun e w'=>e= .returned (.agg F)∧Below w.heap.size w w':=by
 obtain⟨X,hX⟩: ∃X:Array Value,X=(U8 K).toArray:=⟨_,rfl⟩
 obtain⟨FM,hFM⟩: ∃FM:Array Value,FM=(U8 (maskN K m)).toArray:=⟨_,rfl⟩
 rw[←hX]at hk
 have hsX:X.size=64:=by rw[hX];simp[U8,hl]
 have hiX:(Tryz.prog.info? 112).map (·.size)=some X.size:=by rw[hsX];exact info64
 have hsM:FM.size=64:=by rw[hFM];simp[U8,length_maskN,hl]
 have hiM:(Tryz.prog.info? 112).map (·.size)=some FM.size:=by rw[hsM];exact info64
 have hoM:FM.all (·.oneCell')=true:=by rw[hFM];exact all_one8 _
 have hsF:F.size=32:=by rw[hF];simp[U8,length_dig]
 have hiF:(Tryz.prog.info? 42).map (·.size)=some F.size:=by rw[hsF];exact info32
 have hoF:F.all (·.oneCell')=true:=by rw[hF];exact all_one8 _
 have hkl:Bk<w.heap.size:=(Array.getElem?_eq_some_iff.1 hk).1
 have HN:=Lib.hid hn
 have HT:=Lib.hid hT
 have HKC:=Lib.hid hk
 have HA:=Lib.hid hA
 have HNIL:=Lib.hid hnil
 have HL:=Lib.hid hl
 have HK:=Lib.hid hK
 have HB:=Lib.hid hb
 have HF:=Lib.hid hF
 have HX:=Lib.hid hX
 have HFM:=Lib.hid hFM
 have HIX:=Lib.hid hiX
 have HSM:=Lib.hid hsM
 have HIM:=Lib.hid hiM
 have HOM:=Lib.hid hoM
 have HSF:=Lib.hid hsF
 have HIF:=Lib.hid hiF
 have HOF:=Lib.hid hoF
 clear hn hT hk hA hnil hl hK hb hF hX hFM hsX hiX hsM hiM hoM hsF hiF hoF
 go_enter Tryz.func91, Tryz.ntmps91
 go_wp2_with ((with_reducible refine at_load 7 ?_);refine wpList_load_row (o:=⟨some 7, .load 112 (.tmp 2),_,_,_,_⟩) rfl 112 (.tmp 2) rfl Bk rfl 112 X (0,0) _ (((below_lit w _ _).block Bk hkl).trans HKC.out) Tryz.underlying112 rfl HIX.out ?_)
 refine(masked_arr K m X FM _ HX.out HFM.out HK.out HL.out hm).mono ?_
 rintro e w1 ⟨rfl,hb1⟩
 have hr1:w1.heap[w.heap.size]?=some (.cells b32 42 (0,0)):=(hb1.block _ (by simp)).trans (heap_alloc_new w _)
 have hbw:=below_after _ _ hb1
 have hs1:w.heap.size+1≤w1.heap.size:=by have:=hb1.size;simpa using this
 have HR1:=Lib.hid hr1
 have HBW:=Lib.hid hbw
 clear hr1 hbw hb1
 go_wp2_with ((with_reducible refine at_store 6 ?_);refine wpList_store_named (o:=⟨none, .store 112 (.tmp 6) (.tmp 9),_,_,_,_⟩) rfl 112 (.tmp 6) (.tmp 9) rfl w1.heap.size FM rfl rfl 112 b64 (heap_alloc_new w1 _) HIM.out HSM.out.symm HOM.out ?_;intro w2 hw2)
 obtain⟨hs2,hr2,hb2⟩:=row_made hw2.out
 have hrd2:Rd w2 w2.heap.size (some ⟨w1.heap.size,0,none⟩) (U8 (maskN K m)):=by
  intro k u hu
  refine⟨_,rfl,by show w1.heap.size<_;omega, ?_⟩
  rw[at_add,cell_of_row w2 _ k _ _ (0,0) hr2,HFM.out]
  simpa using hu
 have hb02:Below w.heap.size w w2:=HBW.out.trans (hb2.mono (by omega))
 have hA2:=HA.out.next hb02
 have HR2:=Lib.hid ((hb2.block w.heap.size (by omega)).trans HR1.out)
 have HT2:=Lib.hid (HT.out.next hb02)
 have HB2:=Lib.hid hb02
 obtain⟨L,hL⟩: ∃L,L=maskN K m++l:=⟨_,rfl⟩
 have hLl:L.length=64+n:=by rw[hL,List.length_append,length_maskN,HL.out,HN.out]
 have hLb: ∀x∈L,x<256:=by
  rw[hL];intro x hx
  rcases List.mem_append.1 hx with h|h
  ·exact maskN_lt K m HK.out hm x h
  ·exact HB.out x h
 have hfl:L=cflat [⟨some ⟨w1.heap.size,0,none⟩,maskN K m,64⟩,⟨A,l,c⟩]:=by rw[hL];simp[cflat]
 have hml:(maskN K m).length=64:=by rw[length_maskN,HL.out]
 have HLB:=Lib.hid hLb
 have HLL:=Lib.hid hLl
 refine(concat_rd [⟨some ⟨w1.heap.size,0,none⟩,maskN K m,64⟩,⟨A,l,c⟩] L hfl w2.heap.size 2 2 _ rfl (by simp) (parts_lit (by simp[Part.val,hml];exact HN.out)) ?_ (by omega) (by omega) (by omega)).mono ?_
 ·intro p hp
  refine Part.ok_alloc ?_ _
  simp only[List.mem_cons,List.not_mem_nil,or_false]at hp
  rcases hp with rfl|rfl
  ·exact⟨hrd2,fun h=>by cases h⟩
  ·exact⟨hA2,HNIL.out⟩
 ·rw[←hL]at HF
  clear hfl hml hLb hL hrd2 hr2 hw2 hb02 hA2 hb2
  rintro e w3 ⟨A3,c3,rfl,hr3,hn3,hb3⟩
  have hb03:Below w.heap.size w w3:=(HB2.out.alloc HB2.out.size _).trans (hb3.mono (by have:=HB2.out.size;simp;omega))
  have HR3:=Lib.hid hr3
  have HN3:=Lib.hid hn3
  have HT3:=Lib.hid (HT.out.next hb03)
  have HRES3:=Lib.hid ((hb3.block w.heap.size (by simp;omega)).trans ((Below.heap_alloc w2 _ w.heap.size (by omega)).trans HR2.out))
  have HB3:=Lib.hid hb03
  have hs3:w2.heap.size+1≤w3.heap.size:=by have:=hb3.size;simpa using this
  rw[hLl]
  clear hr3 hn3 hb03 hb3 hLl
  go_wp2_with fail
  refine(sum_arr L F HF (64+n) HLL.out.symm A3 c3 w3 HT3.out HR3.out HN3.out HLB.out (by omega)).mono ?_
  rintro e w4 ⟨rfl,hb4⟩
  have HRES4:=Lib.hid ((hb4.block w.heap.size (by omega)).trans HRES3.out)
  have HB4:=Lib.hid (HB3.out.trans (hb4.mono (by omega)))
  clear hb4
  go_wp2_with ((with_reducible refine at_store 5 ?_);refine wpList_store_named (o:=⟨none, .store 42 (.tmp 5) (.tmp 14),_,_,_,_⟩) rfl 42 (.tmp 5) (.tmp 14) rfl w.heap.size F rfl rfl 42 b32 HRES4.out HIF.out HSF.out.symm HOF.out ?_;intro w5 hw5)
  have hr5:w5.heap[w.heap.size]?=some (.cells F 42 (0,0)):=by rw[hw5.out];exact setRow_heap _ _ _ _ _ _ HRES4.out
  refine bodyPost_ret (results_cell_row Tryz.results91 _ w5 w.heap.size 42 _ (0,0) _ rfl hr5 Tryz.underlying42 rfl HIF.out) rfl ⟨rfl, ?_⟩
  exact HB4.out.trans (below_row hw5.out (Nat.le_refl _))
set_option maxRecDepth 100000 in
set_option maxHeartbeats 800000 in
theorem mactag_any (s b:List Nat) (n m:Nat) (hn:n=s.length) (hm:m=b.length) (A A':Option Addr) (c c':Nat) (w:World) (hT:Tabs w) (hA:Rd w w.heap.size A (U8 s)) (hA':Rd w w.heap.size A' (U8 b)) (hnil:A=none→c=0) (hnil':A'=none→c'=0)
  (hs: ∀x∈s,x<256) (hb: ∀x∈b,x<256) (h5:n≤5000) (h4:m≤4000) (F:Array Value) (hF:F=(U8 (tagN s b)).toArray):
  Calls Tryz.prog 49 #[.slice A n c, .slice A' m c'] w fun e w'=>e= .returned (.agg F)∧Below w.heap.size w w':=by
 obtain⟨K,hK⟩: ∃K,K=blockM s:=⟨_,rfl⟩
 obtain⟨X,hX⟩: ∃X:Array Value,X=(U8 K).toArray:=⟨_,rfl⟩
 obtain⟨D,hD⟩: ∃D,D=digestN (maskN K 54++b):=⟨_,rfl⟩
 obtain⟨FD,hFD⟩: ∃FD:Array Value,FD=(U8 D).toArray:=⟨_,rfl⟩
 have hKl:K.length=64:=by rw[hK,length_blockM]
 have hKb: ∀x∈K,x<256:=by rw[hK];exact blockM_lt s hs
 have hDl:D.length=32:=by rw[hD,length_dig]
 have hDb: ∀x∈D,x<256:=by rw[hD];exact dig_lt _
 have hF':F=(U8 (digestN (maskN K 92++D))).toArray:=by rw[hF,hD,hK];rfl
 have hX':X=(U8 (blockM s)).toArray:=by rw[hX,hK]
 have hFD':FD=(U8 (digestN (maskN K 54++b))).toArray:=by rw[hFD,hD]
 have HN:=Lib.hid hn
 have HM:=Lib.hid hm
 have HT:=Lib.hid hT
 have HA:=Lib.hid hA
 have HA':=Lib.hid hA'
 have HNIL:=Lib.hid hnil
 have HNIL':=Lib.hid hnil'
 have HS:=Lib.hid hs
 have HB:=Lib.hid hb
 have HX:=Lib.hid hX
 have HX':=Lib.hid hX'
 have HFD:=Lib.hid hFD
 have HFD':=Lib.hid hFD'
 have HF:=Lib.hid hF'
 have HKL:=Lib.hid hKl
 have HKB:=Lib.hid hKb
 have HDL:=Lib.hid hDl
 have HDB:=Lib.hid hDb
 have HIX:=Lib.hid (isArr64 hX hKl)
 have HID:=Lib.hid (isArr32 hFD hDl)
 have HIF:=Lib.hid (isArr32 hF (length_dig _))
 clear hn hm hT hA hA' hnil hnil' hs hb hX hX' hFD hFD' hF hF' hK hD hKl hKb hDl hDb
 go_enter Tryz.func49, Tryz.ntmps49
 go_wp2_with fail
 refine(macblock_any s n HN.out A c _ (HT.out.next (below_lit w _ _)) (HA.out.next (below_lit w _ _)) HS.out HNIL.out h5 X HX'.out).mono ?_
 rintro e w1 ⟨rfl,hb1⟩
 have hr1:w1.heap[w.heap.size]?=some (.cells b32 42 (0,0)):=(hb1.block _ (by simp)).trans (heap_alloc_new w _)
 have hbw:=below_after _ _ hb1
 have hs1:w.heap.size+1≤w1.heap.size:=by have:=hb1.size;simpa using this
 have HR1:=Lib.hid hr1
 have HBW:=Lib.hid hbw
 clear hr1 hbw hb1
 go_wp2_with ((with_reducible refine at_store 5 ?_);refine wpList_store_named (o:=⟨none, .store 112 (.tmp 5) (.tmp 9),_,_,_,_⟩) rfl 112 (.tmp 5) (.tmp 9) rfl w1.heap.size X rfl rfl 112 b64 (heap_alloc_new w1 _) HIX.out.1 HIX.out.2.1 HIX.out.2.2 ?_;intro w2 hw2)
 obtain⟨hs2,hr2,hb2⟩:=row_made hw2.out
 have hb02:Below w.heap.size w w2:=HBW.out.trans (hb2.mono (by omega))
 have HK2:Hid (w2.heap[w1.heap.size]?=some (.cells (U8 K).toArray 112 (0,0))):=Lib.hid (HX.out▸hr2)
 have HR2:=Lib.hid ((hb2.block w.heap.size (by omega)).trans HR1.out)
 have HB2:=Lib.hid hb02
 clear hr2 hw2 hb2 hb02
 refine(side_any K b 54 m HM.out A' c' w1.heap.size w2 (HT.out.next HB2.out) HK2.out (HA'.out.next HB2.out) HNIL'.out HKL.out HKB.out HB.out (by omega) h4 FD HFD'.out).mono ?_
 rintro e w3 ⟨rfl,hb3⟩
 have hs3:=hb3.size
 have HK3:=Lib.hid ((hb3.block w1.heap.size (by omega)).trans HK2.out)
 have HR3:=Lib.hid ((hb3.block w.heap.size (by omega)).trans HR2.out)
 have HB3:=Lib.hid (HB2.out.trans (hb3.mono (by omega)))
 clear hb3
 go_wp2_with ((with_reducible refine at_store 7 ?_);refine wpList_store_named (o:=⟨none, .store 42 (.tmp 7) (.tmp 13),_,_,_,_⟩) rfl 42 (.tmp 7) (.tmp 13) rfl w3.heap.size FD rfl rfl 42 b32 (heap_alloc_new w3 _) HID.out.1 HID.out.2.1 HID.out.2.2 ?_;intro w4 hw4)
 obtain⟨hs4,hr4,hb4⟩:=row_made hw4.out
 have HRD4:=Lib.hid (rd_row hr4 HFD.out)
 have HK4:=Lib.hid ((hb4.block w1.heap.size (by omega)).trans HK3.out)
 have HR4:=Lib.hid ((hb4.block w.heap.size (by omega)).trans HR3.out)
 have HB4:=Lib.hid (HB3.out.trans (hb4.mono (by omega)))
 clear hr4 hw4 hb4
 refine(side_any K D 92 32 HDL.out.symm (some ⟨w3.heap.size,0,none⟩) 32 w1.heap.size w4 (HT.out.next HB4.out) HK4.out HRD4.out (fun h=>by cases h) HKL.out HKB.out HDB.out (by omega) (by omega) F HF.out).mono ?_
 rintro e w5 ⟨rfl,hb5⟩
 have HR5:=Lib.hid ((hb5.block w.heap.size (by omega)).trans HR4.out)
 have HB5:=Lib.hid (HB4.out.trans (hb5.mono (by omega)))
 clear hb5
 go_wp2_with ((with_reducible refine at_store 4 ?_);refine wpList_store_named (o:=⟨none, .store 42 (.tmp 4) (.tmp 16),_,_,_,_⟩) rfl 42 (.tmp 4) (.tmp 16) rfl w.heap.size F rfl rfl 42 b32 HR5.out HIF.out.1 HIF.out.2.1 HIF.out.2.2 ?_;intro w6 hw6)
 have hr6:w6.heap[w.heap.size]?=some (.cells F 42 (0,0)):=by rw[hw6.out];exact setRow_heap _ _ _ _ _ _ HR5.out
 refine bodyPost_ret (results_cell_row Tryz.results49 _ w6 w.heap.size 42 _ (0,0) _ rfl hr6 Tryz.underlying42 rfl HIF.out.1) rfl ⟨rfl, ?_⟩
 exact HB5.out.trans (below_row hw6.out (Nat.le_refl _))
end Go.Proofs.YtcnglbliidjnfaaGreatDoor
end
section
namespace Go.Proofs.YtcnglbliidjnfaaGreatDoor
set_option maxRecDepth 100000
set_option linter.unusedVariables false
open Go.ChangeShapes Go.WideShapes Go.ChangeAt Go.RowKit
set_option maxHeartbeats 1600000 in
theorem btag_any (s l:List Nat) (n m:Nat) (hn:n=s.length) (hm:m=l.length) (A B:Option Addr) (c d:Nat) (w:World) (hT:Tabs w) (hA:Bs w w.heap.size s A c) (hB:Bs w w.heap.size l B d) (h5:n≤5000) (h4:m≤3999) (F:Array Value) (hF:F=(U8 (tagB s l)).toArray):
  Calls Tryz.prog 19 #[.slice A n c, .slice B m d] w fun e w'=>e= .returned (.agg F)∧Below w.heap.size w w':=by
 obtain⟨L,hL⟩: ∃L,66::l=L:=⟨_,rfl⟩
 obtain⟨k,hk⟩: ∃k,k=m+1:=⟨_,rfl⟩
 have HL1:=Lib.hid (show [66]++l=L by rw[←hL];rfl)
 have HLK:=Lib.hid (show k=L.length by rw[←hL,hk,hm];rfl)
 have HLB:=Lib.hid (show∀x∈L,x<256 by rw[←hL];intro x hx;rcases List.mem_cons.1 hx with rfl|h;decide;exact hB.lt x h)
 have HFV:=Lib.hid (show F=(U8 (tagN s L)).toArray by rw[hF,tagB,hL])
 have HIF:=Lib.hid (isArr32 (l:=tagB s l) hF (tagB_len _ _))
 have HN:=Lib.hid hn
 have HM:=Lib.hid hm
 have HT:=Lib.hid hT
 have HA:=Lib.hid hA
 have HB:=Lib.hid hB
 have HK:=Lib.hid hk
 have hk4:k≤4000:=by omega
 clear hL hF hn hm hT hA hB hk
 go_enter Tryz.func19, Tryz.ntmps19
 go_wp2_with fail
 obtain⟨w0,hw0⟩: ∃w0,w.alloc (.cells #[.int .u8 0, .int .u8 0, .int .u8 0, .int .u8 0, .int .u8 0, .int .u8 0, .int .u8 0, .int .u8 0, .int .u8 0, .int .u8 0, .int .u8 0, .int .u8 0, .int .u8 0, .int .u8 0, .int .u8 0, .int .u8 0, .int .u8 0, .int .u8 0, .int .u8 0, .int .u8 0, .int .u8 0, .int .u8 0, .int .u8 0, .int .u8 0, .int .u8 0, .int .u8 0, .int .u8 0, .int .u8 0, .int .u8 0, .int .u8 0, .int .u8 0, .int .u8 0] 42)=w0:=⟨_,rfl⟩
 obtain⟨w1,hw1⟩: ∃w1,w0.alloc (.cells #[.int .u8 66] 5)=w1:=⟨_,rfl⟩
 have hs0:w.heap.size+1=w0.heap.size:=by rw[←hw0];simp
 have hs1:w0.heap.size+1=w1.heap.size:=by rw[←hw1];simp
 rw[hw0,hs0,hw1,hs1]
 have h66:Rd w1 w1.heap.size (some ⟨w0.heap.size,0,none⟩) (U8 [66]):=by rw[←hw1];exact rd_lit w0 #[.int .u8 66] 5
 have hb0:Below w.heap.size w w0:=by rw[←hw0];exact below_lit w _ _
 have hb01:Below w.heap.size w w1:=by rw[←hw1];exact hb0.trans ((below_lit w0 _ _).mono hb0.size)
 have HX0:=Lib.hid (show w1.heap[w.heap.size]?=some (.cells b32 42 (0,0)) by rw[←hw1,heap_alloc_old _ _ (by omega), ←hw0];exact heap_alloc_new w _)
 have HB01:=Lib.hid hb01
 have HB1:=Lib.hid (HB.out.next hb01)
 clear hs1 hw1 hb01
 refine(concat2 [66] l L HL1.out 1 m k rfl HM.out HLK.out _ B 1 d w1 h66 HB1.out.rd (fun h=>by cases h) HB1.out.nil (by decide) HB1.out.lt (by have:=HK.out;omega) (by omega)).mono ?_
 rintro e w2 ⟨AL,cL,rfl,hs2,hb2⟩
 have HS2:=Lib.hid hs2
 have HB2:=Lib.hid (HB01.out.trans (hb2.mono HB01.out.size))
 have HX2:=Lib.hid ((hb2.block w.heap.size (Array.getElem?_eq_some_iff.1 HX0.out).1).trans HX0.out)
 clear hs2 hb2 h66
 go_wp2_with fail
 refine(mactag_any s L n k HN.out HLK.out A AL c cL w2 (HT.out.next HB2.out) (HA.out.next HB2.out).rd HS2.out.rd HA.out.nil HS2.out.nil HA.out.lt HLB.out h5 hk4 F HFV.out).mono ?_
 rintro e w3 ⟨rfl,hb3⟩
 have HX3:=Lib.hid ((hb3.block w.heap.size (Array.getElem?_eq_some_iff.1 HX2.out).1).trans HX2.out)
 have HB3:=Lib.hid (HB2.out.trans (hb3.mono HB2.out.size))
 clear hb3
 go_wp2_with ((with_reducible refine at_store 4 ?_);refine wpList_store_named (o:=⟨none, .store 42 (.tmp 4) (.tmp 10),_,_,_,_⟩) rfl 42 (.tmp 4) (.tmp 10) rfl w.heap.size F rfl rfl 42 b32 HX3.out HIF.out.1 HIF.out.2.1 HIF.out.2.2 ?_;intro w6 hw6)
 have hr6:w6.heap[w.heap.size]?=some (.cells F 42 (0,0)):=by rw[hw6.out];exact setRow_heap _ _ _ _ _ _ HX3.out
 refine bodyPost_ret (results_cell_row Tryz.results19 _ w6 w.heap.size 42 _ (0,0) _ rfl hr6 Tryz.underlying42 rfl HIF.out.1) rfl ⟨rfl, ?_⟩
 exact HB3.out.trans (below_row hw6.out (Nat.le_refl _))
end Go.Proofs.YtcnglbliidjnfaaGreatDoor
end
section
namespace Go.Proofs.YtcnglbliidjnfaaGreatDoor
set_option linter.unusedVariables false
open Go.ChangeShapes Go.WideShapes Go.ChangeAt Go.RowKit
def bigR (l:List K):Bool:=decide (200<l.length)||l.any fun k=>decide (200<k.sec.length)
theorem bigR_long (l:List K) (h:200<l.length):bigR l=true:=by simp[bigR,h]
set_option maxRecDepth 20000 in
theorem refbig_any (l:List K) (n:Nat) (hn:n=l.length) (A:Option Addr) (c B:Nat) (w:World) (hA:Ks w B A l) (h1:n≤9223372036854775807):
  Calls Tryz.prog 10 #[.slice A n c] w fun e w'=>e= .returned (.bool (bigR l))∧Below w.heap.size w w':=by
 have HN:=Lib.hid hn
 clear hn
 go_enter Tryz.func10, Tryz.ntmps10
 go_wp2
 go_loopw [3] (fun i wr=> ∃k d:Nat,k≤n∧i= .int .i64 k∧wr=w.drewN d∧(0<k→n≤200)∧ ∀j,j<k→(l.getD j K0).sec.length≤200) (fun i _=>n - (intOf i).toNat)
 case atStart=>exact⟨0,0,Nat.zero_le _,rfl,rfl,by omega,by omega⟩
 case round=>
  obtain⟨k,d,hk,rfl,rfl,h200,hall⟩:=hrel
  by_cases hlt:k<n∧n≤200
  ·obtain⟨hlt,hle⟩:=hlt
   obtain⟨ad,S,cc,rfl,had,hk4⟩:=hA k (by rw[←HN.out];exact hlt)
   have hc1:=hk4.c1
   have hcap:=hk4.bs.len
   have hcap2:=hk4.bs.cap
   have b1:(0:Int)≤(k:Int):=by omega
   have b2:(k:Int)<(n:Int):=by omega
   have b3:(n:Int)≤200:=by omega
   have HH:=Lib.hid hall
   clear hall
   by_cases hb:200<(l.getD k K0).sec.length
   ·have HB:bigR l=true:=by
     simp only[bigR,Bool.or_eq_true,List.any_eq_true,decide_eq_true_eq]
     have hkl:k<l.length:=by rw[←HN.out];exact hlt
     refine .inr ⟨l.getD k K0, ?_,hb⟩
     rw[List.getD_eq_getElem?_getD,List.getElem?_eq_getElem hkl]
     exact List.getElem_mem hkl
    have HBR:=Lib.hid HB
    have hk1:=hk4.c1
    clear HB hk4 hA hc1
    generalize l.getD k K0=x at*
    have b4:(200:Int)<(x.sec.length:Int):=by omega
    go_wp2
    go_ret
    exact⟨by rw[HBR.out];rfl,below_drewN (Below.refl _ _) _⟩
   ·have hstep: ∀j,j<k+1→(l.getD j K0).sec.length≤200:=by
     intro j hj
     rcases Nat.lt_or_ge j k with h|h
     ·exact HH.out j h
     ·have e:j=k:=by omega
      subst e;omega
    have HST:=Lib.hid hstep
    clear hstep hk4 hA
    generalize l.getD k K0=x at*
    have b4: ¬((200:Int)<(x.sec.length:Int)):=by omega
    go_wp2
    go_roundw
    case rel=>exact⟨k+1,d,by omega,by go_num,rfl,fun _=>hle,HST.out⟩
    case measure=>simp[intOf];omega
  ·have HH:=Lib.hid hall
   clear hall
   rcases(show k=n∨(k<n∧200<n) by omega)with e|⟨e,e2⟩
   ·subst e
    by_cases h0:200<k
    ·have HB:=Lib.hid (bigR_long l (by rw[←HN.out];exact h0))
     have b4:(200:Int)<(k:Int):=by omega
     clear hlt
     go_wp2
     go_ret
     exact⟨by rw[HB.out];rfl,below_drewN (Below.refl _ _) _⟩
    ·have HB:bigR l=false:=by
      simp only[bigR,Bool.or_eq_false_iff,decide_eq_false_iff_not,List.any_eq_false,decide_eq_true_eq]
      refine⟨by rw[←HN.out];exact h0,fun x hx=> ?_⟩
      obtain⟨j,hj,rfl⟩:=List.getElem_of_mem hx
      have:=HH.out j (by rw[HN.out];exact hj)
      rw[List.getD_eq_getElem?_getD,List.getElem?_eq_getElem hj]at this
      simpa using this
     have HBR:=Lib.hid HB
     have b4: ¬((200:Int)<(k:Int)):=by omega
     clear HB hlt
     go_wp2
     go_ret
     exact⟨by rw[HBR.out];rfl,below_drewN (Below.refl _ _) _⟩
   ·have HB:=Lib.hid (bigR_long l (by rw[←HN.out];exact e2))
    have b4:(200:Int)<(n:Int):=by omega
    have b5:(k:Int)<(n:Int):=by omega
    clear hlt
    go_wp2
    go_ret
    exact⟨by rw[HB.out];rfl,below_drewN (Below.refl _ _) _⟩
end Go.Proofs.YtcnglbliidjnfaaGreatDoor
end
section
namespace Go.Proofs.YtcnglbliidjnfaaGreatDoor
set_option linter.unusedVariables false
open Go.ChangeShapes Go.WideShapes Go.ChangeAt Go.RowKit
def Sl (A:Option Addr) (n c:Nat):Prop:=n≤c∧c≤9223372036854775807∧(A=none→c=0)
def Box (w:World) (b:Nat) (q:KV):Prop:=w.heap[b]?=some (.cells #[.int .i64 q.k.id, .slice q.S q.k.sec.length q.c, .int .i64 q.k.frm, .int .i64 q.k.til] 48 (0,0))∧b<w.heap.size∧Bs w w.heap.size q.k.sec q.S q.c
theorem Box.next {w w':World} {b:Nat} {q:KV} (h:Box w b q) (hb:Below w.heap.size w w'):Box w' b q:=⟨(hb.block _ h.2.1).trans h.1,Nat.lt_of_lt_of_le h.2.1 hb.size,h.2.2.next hb⟩
theorem heap_new2 (w:World) (o o':Obj):((w.alloc o).alloc o').heap[w.heap.size+1]?=some o':=by
 have:=heap_alloc_new (w.alloc o) o'
 simpa using this
theorem ks_lit (w:World) (L:List KV) (cs:Array Value) (n:Nat) (hc:cs.toList=flatK L) (hn:L.length=n) (hn2:n≤1000) (hs: ∀q∈L,Bs w w.heap.size q.k.sec q.S q.c):
  Ks (w.alloc (.cells cs 48)) (w.alloc (.cells cs 48)).heap.size (some ⟨w.heap.size,0,none⟩) (L.map (·.k)):=by
 have hsz:cs.size=n*4:=by
  have:=congrArg List.length hc
  rw[length_flatK,hn]at this
  simpa using this
 have hown:=World.ownsRow_lit (e:= 48) (base:=w.heap.size) (size:=4) w cs n (Nat.le_refl _) (by unfold maxLen;omega) hsz
 rw[hc]at hown
 exact ks_of_own hown (fun q hq=>(hs q hq).next (below_lit w _ _))
end Go.Proofs.YtcnglbliidjnfaaGreatDoor
end
section
namespace Go.Proofs.YtcnglbliidjnfaaGreatDoor
set_option linter.unusedVariables false
open Go.ChangeShapes Go.WideShapes Go.ChangeAt Go.RowKit
set_option maxRecDepth 20000 in
theorem pright_any (id f t:Int) (n:Nat) (A:Option Addr) (c:Nat) (w:World) (hn:n≤9223372036854775807):
  Calls Tryz.prog 57 #[.agg #[.int .i64 id, .slice A n c, .int .i64 f, .int .i64 t]] w fun e w'=>e= .returned (.bool (rightN id n f t))∧Below w.heap.size w w':=by
 go_enter Tryz.func57, Tryz.ntmps57
 go_wp2
 all_goals
  go_ret
  refine⟨congrArg Ending.returned (congrArg Value.bool ?_),(Below.refl _ _).alloc (Nat.le_refl _) _⟩
  rw[Bool.eq_iff_iff]
  simp[rightN]
  try omega
end Go.Proofs.YtcnglbliidjnfaaGreatDoor
end
section
namespace Go.Proofs.YtcnglbliidjnfaaGreatDoor
set_option linter.unusedVariables false
open Go.ChangeShapes Go.WideShapes Go.ChangeAt Go.RowKit
theorem infoInt:(Tryz.prog.info? 3).map (fun i=>(i.zero,i.size,i.bytes))=some (some (.int .i64 0),1,8):=by kernel_rfl
def I64 (l:List Int):List Value:=l.map fun x:Int=>Value.int .i64 x
theorem I64_append (a b:List Int):I64 (a++b)=I64 a++I64 b:=by simp[I64]
theorem I64_at {l:List Int} {k:Nat} {x:Int} (h:l[k]?=some x):(I64 l)[k]?=some (.int .i64 x):=by simp[I64,h]
structure Zs (w:World) (B:Nat) (l:List Int) (A:Option Addr) (c:Nat):Prop where
 rd:Rd w B A (I64 l)
 nil:A=none→c=0
 len:l.length≤c
 cap:c≤9223372036854775807
theorem Zs.next {w w':World} {l:List Int} {A:Option Addr} {c:Nat} (h:Zs w w.heap.size l A c) (hb:Below w.heap.size w w'):Zs w' w'.heap.size l A c:=⟨h.rd.next hb,h.nil,h.len,h.cap⟩
theorem Zs.drew {w:World} {l:List Int} {A:Option Addr} {c:Nat} (h:Zs w w.heap.size l A c) (q:Nat):Zs (w.drewN q) (w.drewN q).heap.size l A c:=h.next (below_drewN (Below.refl _ _) q)
theorem zs_of_own {w:World} {base n:Nat} {v:Value} {l:List Int} (h:w.ownsRow base 3 1 v n (I64 l)): ∃A c,v= .slice A n c∧n=l.length∧Zs w w.heap.size l A c:=by
 have hn:l.length=n:=by have:=h.1;simpa[I64]using this
 rcases h.2 with⟨rfl,h0⟩|⟨g,cap,cur,rfl,_,_,h2,h3,_⟩
 ·subst h0
  have:l=[]:=List.eq_nil_of_length_eq_zero hn
  subst this
  exact⟨none,0,rfl,rfl,⟨by intro k u hu;simp[I64]at hu,fun _=>rfl,by simp,by omega⟩⟩
 ·unfold maxLen at h3
  exact⟨_,cap,rfl,hn.symm,⟨Rd.of_own h,by simp,by omega,h3⟩⟩
theorem Zs.at {w:World} {B:Nat} {l:List Int} {A:Option Addr} {c k:Nat} {x:Int} (h:Zs w B l A c) (hx:l[k]?=some x): ∃ad,A=some ad∧ad.block<B∧w.cell? (ad.add k)=some (.int .i64 x):=h.rd k _ (I64_at hx)
theorem zs_lit (w:World) (cs:Array Value) (l:List Int) (n:Nat) (h:cs.toList=I64 l) (hn:n=l.length) (h1:n≤1000):Zs (w.alloc (.cells cs 3)) (w.alloc (.cells cs 3)).heap.size l (some ⟨w.heap.size,0,none⟩) n:=
 ⟨by rw[←h];exact rd_lit w cs _,by simp,by omega,by omega⟩
section
variable {H:Type} {enc:TypeId × Value→H} {P:Program}
end
end Go.Proofs.YtcnglbliidjnfaaGreatDoor
end
section
namespace Go.Proofs.YtcnglbliidjnfaaGreatDoor
set_option linter.unusedVariables false
open Go.ChangeShapes Go.WideShapes Go.ChangeAt Go.RowKit
theorem valB_take (l:List Nat) (k:Nat) (h:k<l.length):valB (l.take (k+1))=valB (l.take k)*256+l[k]:=by
 rw[List.take_succ_eq_append_getElem h,valB_snoc]
theorem valB_take_lt (l:List Nat) (hl: ∀x∈l,x<256) (k:Nat) (h:k<8):valB (l.take k)<72057594037927936:=by
 have h1:=valB_lt (l.take k) (fun x hx=>hl x (List.mem_of_mem_take hx))
 have h2:256^(l.take k).length≤256^7:=Nat.pow_le_pow_right (by omega) (by simp;omega)
 omega
theorem valB_lt63 (l:List Nat) (hl: ∀x∈l,x<256) (h8:l.length≤8) (h0:l.length=8→l.getD 0 0<128):valB l<9223372036854775808:=by
 rcases l with _|⟨x,l⟩
 ·simp[valB]
 ·have h1:=valB_lt l (fun y hy=>hl y (by simp[hy]))
  have h2:=hl x (by simp)
  rw[valB_cons]
  simp at h8 h0
  by_cases e:l.length=7
  ·have:=h0 e
   rw[e]at h1⊢
   omega
  ·have h3:256^l.length≤256^6:=Nat.pow_le_pow_right (by omega) (by omega)
   have h4:x*256^l.length≤255*256^6:=Nat.mul_le_mul (by omega) h3
   omega
theorem or_byte64 (a b:Nat) (ha:a<72057594037927936) (hb:b<256):bits .or .u64 ((a:Int)*256) (b:Int)=((a*256+b:Nat):Int):=by
 have e:(a:Int)*256=((a*256:Nat):Int):=by omega
 rw[e,u64_or_nat _ _ (by omega) (by omega)]
 have h:=Nat.two_pow_add_eq_or_of_lt (i:=8) (b:=b) (by omega) a
 simp only[Nat.reducePow]at h
 rw[Nat.mul_comm, ←h,Nat.mul_comm]
theorem valB_step_lt (l:List Nat) (hl: ∀x∈l,x<256) (k:Nat) (h:k<l.length) (h8:l.length≤8) (h63:valB l<9223372036854775808):valB (l.take k)*256+l[k]≤9223372036854775807:=by
 rw[←valB_take l k h]
 by_cases e:k+1<8
 ·have:=valB_take_lt l hl (k+1) e
  omega
 ·rw[List.take_of_length_le (by omega)];omega
set_option maxRecDepth 20000 in
theorem refget_ok (l:List Nat) (A:Option Addr) (c B:Nat) (w:World) (hA:Rd w B A (U8 l)) (hb: ∀x∈l,x<256) (h8:l.length≤8) (h0:l.length=8→l.getD 0 0<128):
  Calls Tryz.prog 111 #[.slice A l.length c] w fun e w'=>e= .returned (.tuple #[.int .i64 (valB l:Nat), .int .i64 0])∧w=w':=by
 have h63:=valB_lt63 l hb h8 h0
 obtain⟨n,hn⟩: ∃n,n=l.length:=⟨_,rfl⟩
 have hn8:n≤8:=by omega
 have HB:=Lib.hid hb
 have hcase:n<8∨8≤n∧ ∃(ad:Addr) (x:Nat),A=some ad∧w.cell? ad=some (.int .u8 (x:Int))∧(x:Int)<128:=by
  by_cases e8:n<8
  ·exact .inl e8
  ·obtain⟨ad,rfl,_,hc⟩:=hA 0 _ (U8_at l 0 (by omega))
   have e0:l.getD 0 0=l[0]:=by rw[List.getD_eq_getElem?_getD,List.getElem?_eq_getElem (by omega)];rfl
   have:=h0 (by omega)
   rw[add_zero']at hc
   exact .inr ⟨by omega,ad,_,rfl,hc,by omega⟩
 rw[←hn]
 have HN:=Lib.hid hn
 have H63:=Lib.hid h63
 clear hn h0 hb h8 h63
 rcases hcase with h|⟨h,ad0,x0,rfl,hc0,hx0⟩
 all_goals
  go_enter Tryz.func111, Tryz.ntmps111
  go_wp2
  go_loop [4,5] (fun t i=> ∃k:Nat,k≤n∧i= .int .i64 k∧t= .int .i64 (valB (l.take k):Nat)) (fun _ i=>n - (intOf i).toNat)
  case atStart=>exact⟨0,Nat.zero_le _,rfl,rfl⟩
  case round=>
   obtain⟨k,hk,rfl,rfl⟩:=hrel
   by_cases hlt:k<n
   ·have hkl:k<l.length:=by rw[←HN.out];exact hlt
    obtain⟨ad,hsome,_,hc⟩:=hA k _ (U8_at l k hkl)
    cases hsome
    have hv:=valB_take_lt l HB.out k (by omega)
    have hs:=valB_take l k hkl
    have hv2:=valB_step_lt l HB.out k hkl (by rw[←HN.out];exact hn8) H63.out
    have hx:=HB.out _ (List.getElem_mem hkl)
    generalize l[k]=x at*
    generalize valB (l.take k)=y at*
    have HS:=Lib.hid hs
    clear hA hkl hs
    go_wp2
    go_round
    case rel=>exact⟨k+1,by omega,by go_num,by rw[HS.out];go_num⟩
    case measure=>simp[intOf];omega
   ·have e:l.take k=l:=List.take_of_length_le (by rw[←HN.out];omega)
    rw[e]
    clear e
    have h63:=H63.out
    go_wp2
    go_ret2
    exact⟨rfl,rfl⟩
end Go.Proofs.YtcnglbliidjnfaaGreatDoor
end
section
namespace Go.Proofs.YtcnglbliidjnfaaGreatDoor
set_option linter.unusedVariables false
open Go.ChangeShapes Go.WideShapes Go.ChangeAt Go.RowKit Go.Shelf
attribute [local go_sem] Oper.semAt_some
theorem pisn_any (s:Int) (b:Bool) (hb:isN s=b) (w:World):Calls Tryz.prog 155 #[.int .i64 s] w fun e w'=>e= .returned (.bool b)∧w'=w:=by
 have HB:=Lib.hid hb
 clear hb
 cases h0:decide (0≤s)<;>cases h1:decide (s≤39)
 all_goals
  have H0:=Lib.hid h0
  have H1:=Lib.hid h1
  go_enter Tryz.func155, Tryz.ntmps155
  go_wp2
  go_ret
  refine⟨congrArg Ending.returned (congrArg Value.bool ?_),rfl⟩
  rw[←HB.out,isN,H0.out,H1.out]
  rfl
def KpAB (BA BB:Nat) (W W':World):Prop:= ∀k v,(k=BA∨k=BB)→W.cell? ⟨k,0,none⟩=some v→W'.cell? ⟨k,0,none⟩=some v
theorem KpAB.refl (BA BB:Nat) (W:World):KpAB BA BB W W:=fun _ _ _ h=>h
theorem KpAB.trans {BA BB:Nat} {X Y Z:World} (h:KpAB BA BB X Y) (g:KpAB BA BB Y Z):KpAB BA BB X Z:=fun k v hk hv=>g k v hk (h k v hk hv)
theorem KpAB.below {BA BB n₀:Nat} {W W':World} (hA:BA<n₀) (hB:BB<n₀) (h:Below n₀ W W'):KpAB BA BB W W':=fun k v hk hv=>(h.cell (p:=⟨k,0,none⟩) (by show k<n₀;rcases hk with rfl|rfl<;>omega)).trans hv
theorem KpAB.put {BA BB:Nat} (W:World) (l:Nat) (o o':Obj) (hl:W.heap[l]?=some o) (ho:o.isCells=false):KpAB BA BB W (W.putObj l o'):=fun k v _ hv=>cell_kept hv (grownBy_putObj' W l o') (fun r e=>by cases e;exact⟨o,hl,ho⟩)
end Go.Proofs.YtcnglbliidjnfaaGreatDoor
end
