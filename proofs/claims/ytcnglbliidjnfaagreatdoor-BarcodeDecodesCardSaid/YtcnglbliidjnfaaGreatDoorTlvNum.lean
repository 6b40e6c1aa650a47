import Derived.Test.YtcnglbliidjnfaaGreatDoorMem
import Derived.Test.YtcnglbliidjnfaaGreatDoorRgBox
import Derived.Test.YtcnglbliidjnfaaGreatDoorShaPBlock
import Derived.Test.YtcnglbliidjnfaaGreatDoorMath
import Derived.IntWalk
import Derived.OwnWalk
import Derived.Test.YtcnglbliidjnfaaGreatDoorRingLast
import Derived.Laws.EntriesVeiled
import Derived.Test.YtcnglbliidjnfaaGreatDoorMacTag
section
namespace Go.Proofs.YtcnglbliidjnfaaGreatDoor
set_option linter.unusedVariables false
open Go.ChangeShapes Go.WideShapes Go.ChangeAt Go.RowKit
theorem psize_any (N s:Nat) (hs:sizeN N=s) (h:N<9223372036854775808) (w:World):Calls Tryz.prog 126 #[.int .i64 N] w fun e w'=>e= .returned (.int .i64 (s:Int))∧w=w':=by
 have hs8:=(sizeN_spec h).1
 have HS:=Lib.hid hs
 clear hs
 go_enter Tryz.func126, Tryz.ntmps126
 go_wp2
 go_loop [0,3] (fun m i=> ∃k:Nat,k≤8∧m= .int .i64 (N / 256^k:Nat)∧i= .int .i64 k∧ ∀j,j<k→256^j≤N) (fun m _=>(intOf m).toNat)
 case atStart=>exact⟨0,by omega,by simp,rfl,by omega⟩
 case round=>
  obtain⟨k,hk,rfl,rfl,hall⟩:=hrel
  have HH:=Lib.hid hall
  clear hall
  by_cases h0:0<N / 256^k
  ·have hge:256^k≤N:=by
    rcases Nat.lt_or_ge N (256^k)with h1|h1
    ·rw[Nat.div_eq_of_lt h1]at h0;omega
    ·exact h1
   have hk7:k≤7:=by
    rcases Nat.lt_or_ge k 8 with h1|h1
    ·omega
    ·have:256^8≤256^k:=Nat.pow_le_pow_right (by omega) h1
     omega
   have HST:=Lib.hid (show∀j,j<k+1→256^j≤N from by
    intro j hj
    rcases Nat.lt_or_ge j k with h|h
    ·exact HH.out j h
    ·have e:j=k:=by omega
     subst e;exact hge)
   have HNX:=Lib.hid (show N / 256^(k+1)=N / 256^k / 256 by rw[Nat.pow_succ,Nat.div_div_eq_div_mul])
   have hy:N / 256^k<9223372036854775808:=Nat.lt_of_le_of_lt (Nat.div_le_self _ _) h
   clear hge
   generalize N / 256^k=y at*
   have b1:(0:Int)<(y:Int):=by omega
   go_wp2
   go_round
   case rel=>exact⟨k+1,by omega,by rw[HNX.out];go_num,by go_num,HST.out⟩
   case measure=>simp[intOf];omega
  ·have e:s=k:=by
    rw[←HS.out]
    refine sizeN_eq h ?_ HH.out
    rcases Nat.lt_or_ge N (256^k)with h1|h1
    ·exact h1
    ·exact absurd (Nat.div_pos h1 (Nat.pow_pos (by omega))) h0
   subst e
   have e0:N / 256^s=0:=Nat.eq_zero_of_le_zero (Nat.le_of_not_lt h0)
   rw[e0]
   clear h0 e0
   go_wp2
   go_ret
   exact⟨rfl,rfl⟩
set_option maxRecDepth 100000 in
set_option maxHeartbeats 800000 in
theorem pnumber_own (N:Nat) (hN:N<9223372036854775808) (p:List Nat) (hp:numB N=p) (w:World):
  Calls Tryz.prog 101 #[.int .i64 N] w fun e w'=> ∃v,e= .returned (.tuple #[v, .int .i64 (0:Int)])∧w'.ownsRow w.heap.size 5 1 v p.length (U8 p)∧Below w.heap.size w w':=by
 obtain⟨h8,hlt,_⟩:=sizeN_spec hN
 obtain⟨s,hs⟩: ∃s,sizeN N=s:=⟨_,rfl⟩
 have hl:p.length=s:=by rw[←hp,numB_len,hs]
 have hq:putB N s=p:=by rw[←hp,numB,hs]
 rw[hs]at h8 hlt
 have HS:=Lib.hid hs
 have HL:=Lib.hid hl
 have HQ:=Lib.hid hq
 have HLT:=Lib.hid hlt
 clear hs hp hl hq hlt
 go_enter Tryz.func101, Tryz.ntmps101
 go_wp2_with fail
 refine(psize_any N s HS.out hN w).mono ?_
 rintro e w1 ⟨rfl,rfl⟩
 go_wp2_with fail
 refine(put_ok N s w hN h8 HLT.out).mono ?_
 rintro e w1 ⟨g,cap,rfl,hown,hb⟩
 rw[HQ.out]at hown
 have HO:=Lib.hid hown
 have HB:=Lib.hid hb
 clear hown hb
 go_wp2_with fail
 go_ret2
 exact⟨_,rfl,by rw[HL.out];exact HO.out,HB.out⟩
theorem u8_byte (r:Nat) (h:r<256):IntKind.u8.wrap (r:Int)=(r:Int):=by simp[IntKind.wrap,IntKind.signed,IntKind.bits];omega
set_option maxRecDepth 100000 in
set_option maxHeartbeats 800000 in
theorem refnumber_own (N:Nat) (hN:N<9223372036854775808) (p:List Nat) (hp:numB N=p) (w:World):
  Calls Tryz.prog 77 #[.int .i64 N] w fun e w'=> ∃v,e= .returned (.tuple #[v, .int .i64 (0:Int)])∧w'.ownsRow w.heap.size 5 1 v p.length (U8 p)∧Below w.heap.size w w':=by
 obtain⟨i0,hi,hz0,hz1,hz2⟩:=info_parts infoU8
 have HP:=Lib.hid (show∀k,sizeN N=k→putB N k=numB N from fun k h=>by rw[numB,h])
 have HL:=Lib.hid (numB_len N)
 rw[hp]at HP HL
 clear hp
 have hge0:(0:Int)≤(N:Int):=by omega
 go_enter Tryz.func77, Tryz.ntmps77
 go_wp2
 go_loopw [0,4] (fun m v wr=> ∃k:Nat,k≤8∧m= .int .i64 (N / 256^k:Nat)∧wr.ownsRow w.heap.size 5 1 v k (U8 (putB N k))∧Below w.heap.size w wr∧ ∀j,j<k→256^j≤N) (fun m _ _=>(intOf m).toNat)
 case atStart=>exact⟨0,by omega,by simp,World.ownsRow_lit w #[] 0 (Nat.le_refl _) (by decide) rfl,(Below.refl _ _).alloc (Nat.le_refl _) _,by omega⟩
 case round=>
  obtain⟨k,hk,rfl,hown,hbel,hall⟩:=hrel
  have HH:=Lib.hid hall
  have HOW:=Lib.hid hown
  have HBL:=Lib.hid hbel
  clear hall hown hbel
  by_cases h0:0<N / 256^k
  ·have hge:256^k≤N:=by
    rcases Nat.lt_or_ge N (256^k)with h1|h1
    ·rw[Nat.div_eq_of_lt h1]at h0;omega
    ·exact h1
   have hk7:k≤7:=by
    rcases Nat.lt_or_ge k 8 with h1|h1
    ·omega
    ·have:256^8≤256^k:=Nat.pow_le_pow_right (by omega) h1
     omega
   have HST:=Lib.hid (show∀j,j<k+1→256^j≤N from by
    intro j hj
    rcases Nat.lt_or_ge j k with h|h
    ·exact HH.out j h
    ·have e:j=k:=by omega
     subst e;exact hge)
   have HNX:=Lib.hid (show N / 256^(k+1)=N / 256^k / 256 by rw[Nat.pow_succ,Nat.div_div_eq_div_mul])
   have HPX:=Lib.hid (show putB N (k+1)=N / 256^k % 256::putB N k from rfl)
   have HUL:=Lib.hid (show(U8 (putB N k)).length=k by simp[U8,length_putB])
   have hy:N / 256^k<9223372036854775808:=Nat.lt_of_le_of_lt (Nat.div_le_self _ _) hN
   clear hge
   generalize N / 256^k=y at*
   obtain⟨r,hr⟩: ∃r,r=y % 256:=⟨_,rfl⟩
   obtain⟨q,hq⟩: ∃q,q=y / 256:=⟨_,rfl⟩
   rw[←hr]at HPX
   rw[←hq]at HNX
   have t1:(y:Int).tmod 256=(r:Int):=by rw[Int.tmod_eq_emod_of_nonneg (by omega)];omega
   have t2:(y:Int).tdiv 256=(q:Int):=by rw[Int.tdiv_eq_ediv_of_nonneg (by omega)];omega
   have w1:IntKind.i64.wrap (r:Int)=(r:Int):=IntWalk.i64_in _ (by omega)
   have w2:IntKind.i64.wrap (q:Int)=(q:Int):=IntWalk.i64_in _ (by omega)
   have w3:IntKind.u8.wrap (r:Int)=(r:Int):=u8_byte r (by omega)
   have hqy:q<y:=by omega
   have b1:(0:Int)<(y:Int):=by omega
   have hx1:1+k≤maxLen:=by unfold maxLen;omega
   have hsz:=HBL.out.size
   obtain⟨A0,c0,rfl,hrd⟩:=own_shape HOW.out
   have hnil:A0=none→c0=0:=by
    intro e
    subst e
    rcases HOW.out.2 with⟨h,_⟩|⟨g,cap,cur,h,_⟩
    ·cases h;rfl
    ·cases h
   have HRD:=Lib.hid (hrd.alloc (Nat.le_refl _) (.cells #[.int .u8 (r:Int)] 5))
   have HOL:=Lib.hid (show(wr.alloc (.cells #[.int .u8 (r:Int)] 5)).ownsRow w.heap.size 5 1 (.slice (some ⟨wr.heap.size,0,none⟩) 1 1) 1 (U8 [r])from World.ownsRow_lit wr #[.int .u8 (r:Int)] 1 hsz (by decide) rfl)
   have hsz2:w.heap.size≤(wr.alloc (.cells #[.int .u8 (r:Int)] 5)).heap.size:=Nat.le_trans hsz (below_lit wr _ _).size
   clear hr hq hrd
   go_wp2_with (at_builtin;refine wpList_append_rd _ rfl _ _ 30 rfl w.heap.size 5 i0 (.int .u8 0) 1 Tryz.underlying30 hi hz0 hz1 hz2 rfl _ 1 (U8 [r]) rfl HOL.out wr.heap.size A0 k c0 (U8 (putB N k)) rfl HRD.out HUL.out hnil (U8_one _) hx1 (by omega) hsz2 ?_;intro v' w' hown' hg')
   have HO2:=Lib.hid (show w'.ownsRow w.heap.size 5 1 v' (k+1) (U8 (putB N (k+1))) by rw[HPX.out,Nat.add_comm k 1];exact hown')
   have HB2:=Lib.hid (show Below w.heap.size w w' from(HBL.out.trans ((below_lit wr _ _).mono hsz)).grown hg' hsz2 (fun p hp=>own_ge HOL.out hp))
   clear hown' hg'
   go_wp2
   go_roundw
   case rel=>exact⟨k+1,by omega,by rw[HNX.out],HO2.out,HB2.out,HST.out⟩
   case measure=>simp[intOf];omega
  ·have e:sizeN N=k:=by
    refine sizeN_eq hN ?_ HH.out
    rcases Nat.lt_or_ge N (256^k)with h1|h1
    ·exact h1
    ·exact absurd (Nat.div_pos h1 (Nat.pow_pos (by omega))) h0
   have e0:N / 256^k=0:=Nat.eq_zero_of_le_zero (Nat.le_of_not_lt h0)
   rw[e0]
   have hl:p.length=k:=by rw[HL.out,e]
   have hown:=HOW.out
   rw[HP.out k e]at hown
   have HO:=Lib.hid hown
   have HLL:=Lib.hid hl
   clear h0 e0 e hl hown
   go_wp2
   go_ret2
   exact⟨_,rfl,by rw[HLL.out];exact HO.out,HBL.out⟩
set_option maxRecDepth 100000 in
theorem tpvalue_any (b:List Nat) (n:Nat) (hn:n=b.length) (v E:Nat) (hv:valT b=(v,E)) (A:Option Addr) (c:Nat) (w:World) (hA:Bs w w.heap.size b A c):
  Calls Tryz.prog 104 #[.slice A n c] w fun e w'=>e= .returned (.tuple #[.int .i64 (v:Int), .int .i64 (E:Int)])∧w=w':=by
 have h63:n≤9223372036854775807:=by have h1:=hA.len;have h2:=hA.cap;omega
 by_cases h0:n=0
 ·rw[valT_bad (.inl (by omega))]at hv
  cases hv
  subst h0
  clear hn hA
  go_enter Tryz.func104, Tryz.ntmps104
  go_wp2
  go_ret2
  exact⟨rfl,rfl⟩
 ·have b0:((n:Int)==0)=false:=by rw[beq_eq_false_iff_ne];omega
  have b0':(n==0)=false:=by rw[beq_eq_false_iff_ne];omega
  have b1:(0:Int)<(n:Int):=by omega
  have b1': ¬(n:Int)<1:=by omega
  by_cases h7:7<n
  ·rw[valT_bad (.inr (.inl (by omega)))]at hv
   cases hv
   have b7:(7:Int)<(n:Int):=by omega
   clear hn hA
   go_enter Tryz.func104, Tryz.ntmps104
   go_wp2
   go_ret2
   exact⟨rfl,rfl⟩
  ·have b7: ¬(7:Int)<(n:Int):=by omega
   obtain⟨ad,rfl,_,hc⟩:=hA.rd 0 _ (U8_at b 0 (by omega))
   rw[add_zero']at hc
   have e0:b.getD 0 0=b[0]'(by omega):=by rw[List.getD_eq_getElem?_getD,List.getElem?_eq_getElem (by omega)];rfl
   obtain⟨x,hx⟩: ∃x,x=b[0]'(by omega):=⟨_,rfl⟩
   rw[←hx]at hc e0
   clear hx
   have HN:=Lib.hid hn
   have HA:=Lib.hid hA
   have HV:=Lib.hid hv
   have HE:=Lib.hid e0
   clear hn hA hv e0
   by_cases hx0:x=0
   ·subst hx0
    have hv:=HV.out
    rw[valT_bad (.inr (.inr HE.out))]at hv
    cases hv
    go_enter Tryz.func104, Tryz.ntmps104
    go_wp2
    go_ret2
    exact⟨rfl,rfl⟩
   ·have x1:((x:Int)==0)=false:=by rw[beq_eq_false_iff_ne];omega
    have x2:(x==0)=false:=by rw[beq_eq_false_iff_ne];omega
    have hv:=HV.out
    rw[valT_ok (by rw[←HN.out];omega) (by rw[←HN.out];omega) (by rw[HE.out];exact hx0)]at hv
    obtain⟨hv1,rfl⟩:=Prod.mk.inj hv
    have HV1:=Lib.hid hv1
    have hg:=get_ok b (some ad) c w.heap.size w HA.out.rd HA.out.lt (by rw[←HN.out];omega) (fun h=>by have:=HN.out;omega)
    rw[←HN.out]at hg
    have HG:=Lib.hid hg
    clear hv hv1 hg hx0
    go_enter Tryz.func104, Tryz.ntmps104
    go_wp2_with fail
    refine HG.out.mono ?_
    rintro e w1 ⟨rfl,rfl⟩
    rw[HV1.out]
    go_wp2
    go_ret2
    exact⟨rfl,rfl⟩
set_option maxRecDepth 100000 in
theorem trefvalue_any (b:List Nat) (n:Nat) (hn:n=b.length) (v E:Nat) (hv:valT b=(v,E)) (A:Option Addr) (c:Nat) (w:World) (hA:Bs w w.heap.size b A c):
  Calls Tryz.prog 89 #[.slice A n c] w fun e w'=>e= .returned (.tuple #[.int .i64 (v:Int), .int .i64 (E:Int)])∧w=w':=by
 have h63:n≤9223372036854775807:=by have h1:=hA.len;have h2:=hA.cap;omega
 by_cases h0:n=0
 ·rw[valT_bad (.inl (by omega))]at hv
  cases hv
  subst h0
  clear hn hA
  go_enter Tryz.func89, Tryz.ntmps89
  go_wp2
  go_ret2
  exact⟨rfl,rfl⟩
 ·have b0:((n:Int)==0)=false:=by rw[beq_eq_false_iff_ne];omega
  have b0':(n==0)=false:=by rw[beq_eq_false_iff_ne];omega
  have b1:(0:Int)<(n:Int):=by omega
  have b1': ¬(n:Int)<1:=by omega
  by_cases h7:7<n
  ·rw[valT_bad (.inr (.inl (by omega)))]at hv
   cases hv
   have b7:(7:Int)<(n:Int):=by omega
   clear hn hA
   go_enter Tryz.func89, Tryz.ntmps89
   go_wp2
   go_ret2
   exact⟨rfl,rfl⟩
  ·have b7: ¬(7:Int)<(n:Int):=by omega
   obtain⟨ad,rfl,_,hc⟩:=hA.rd 0 _ (U8_at b 0 (by omega))
   rw[add_zero']at hc
   have e0:b.getD 0 0=b[0]'(by omega):=by rw[List.getD_eq_getElem?_getD,List.getElem?_eq_getElem (by omega)];rfl
   obtain⟨x,hx⟩: ∃x,x=b[0]'(by omega):=⟨_,rfl⟩
   rw[←hx]at hc e0
   clear hx
   have HN:=Lib.hid hn
   have HA:=Lib.hid hA
   have HV:=Lib.hid hv
   have HE:=Lib.hid e0
   clear hn hA hv e0
   by_cases hx0:x=0
   ·subst hx0
    have hv:=HV.out
    rw[valT_bad (.inr (.inr HE.out))]at hv
    cases hv
    go_enter Tryz.func89, Tryz.ntmps89
    go_wp2
    go_ret2
    exact⟨rfl,rfl⟩
   ·have x1:((x:Int)==0)=false:=by rw[beq_eq_false_iff_ne];omega
    have x2:(x==0)=false:=by rw[beq_eq_false_iff_ne];omega
    have hv:=HV.out
    rw[valT_ok (by rw[←HN.out];omega) (by rw[←HN.out];omega) (by rw[HE.out];exact hx0)]at hv
    obtain⟨hv1,rfl⟩:=Prod.mk.inj hv
    have HV1:=Lib.hid hv1
    have hg:=refget_ok b (some ad) c w.heap.size w HA.out.rd HA.out.lt (by rw[←HN.out];omega) (fun h=>by have:=HN.out;omega)
    rw[←HN.out]at hg
    have HG:=Lib.hid hg
    clear hv hv1 hg hx0
    go_enter Tryz.func89, Tryz.ntmps89
    go_wp2_with fail
    refine HG.out.mono ?_
    rintro e w1 ⟨rfl,rfl⟩
    rw[HV1.out]
    go_wp2
    go_ret2
    exact⟨rfl,rfl⟩
end Go.Proofs.YtcnglbliidjnfaaGreatDoor
end
section
namespace Go.Proofs.YtcnglbliidjnfaaGreatDoor
set_option linter.unusedVariables false
open Go.ChangeShapes Go.WideShapes Go.ChangeAt Go.RowKit
set_option maxRecDepth 100000 in
set_option maxHeartbeats 1600000 in
theorem pfldof_any (r:Rg) (X:Nat) (ts:List Nat) (n:Nat) (hn:n=ts.length) (hn13:n≤13) (hts: ∀t∈ts,1≤t∧t≤13∧0≤(numL r).getD (t - 1) 0∧(numL r).getD (t - 1) 0<9223372036854775808) (A:Option Addr) (c:Nat) (w:World) (hX:FBox w X (rgL r)) (hA:Zs w w.heap.size (zI ts) A c):
  Calls Tryz.prog 68 #[.slice A n c, .func (.func 66) #[.pointer (some ⟨X,0,none⟩)] #[]] w fun e w'=> ∃A' c',e= .returned (.tuple #[.slice A' n c', .int .i64 0])∧Ts w' w'.heap.size (fldT (numL r) ts) A' c'∧Below w.heap.size w w':=by
 obtain⟨i0,hi,hz0,hz1,hz2⟩:=info_parts infoField3
 have HX:=Lib.hid hX
 have HN:=Lib.hid hn
 have HT:=Lib.hid hts
 have HA:=Lib.hid hA
 clear hX hn hts hA
 go_enter Tryz.func68, Tryz.ntmps68
 go_wp2_with (at_make;refine wpList_make_own _ rfl _ _ 52 rfl w.heap.size 77 i0 _ 2 Tryz.underlying52 hi hz0 hz1 _ _ _ n rfl rfl rfl ?b2 ?b3 ?b4 ?_)
 case b2=>rw[hz2];omega
 case b3=>unfold maxLen;omega
 case b4=>exact Nat.le_refl _
 intro w2 hown hgr
 have HO0:=Lib.hid hown
 have HB2:=Lib.hid (show Below w.heap.size w w2 from(Below.refl _ _).grown hgr (Nat.le_refl _) (fun j hj=>by cases hj))
 clear hown hgr
 go_wp2
 go_loopw [6,16] (fun v i wr=> ∃(k:Nat) (M:List TV),k≤n∧i= .int .i64 k∧M.map (·.f)=fldT (numL r) (ts.take k)∧wr.ownsRow w.heap.size 77 2 v k (flatV M)∧(∀q∈M,TyB wr q.S∧Bs wr wr.heap.size q.f.val q.S q.c)∧Below w.heap.size w wr) (fun _ i _=>n - (intOf i).toNat)
 case atStart=>exact⟨0,[],Nat.zero_le _,rfl,rfl,HO0.out,by simp,HB2.out⟩
 case round=>
  obtain⟨k,M,hk,rfl,hmap,hown,hvals,hbel⟩:=hrel
  have HMP:=Lib.hid hmap
  have HO:=Lib.hid hown
  have HV:=Lib.hid hvals
  have HBL:=Lib.hid hbel
  have hsz:=hbel.size
  clear hmap hown hvals hbel
  by_cases hlt:k<n
  ·obtain⟨t,ht⟩: ∃t,ts[k]?=some t:=⟨_,List.getElem?_eq_getElem (by rw[←HN.out];exact hlt)⟩
   obtain⟨ad,rfl,had,hc⟩:=(HA.out.next HBL.out).at (zI_at ht)
   obtain⟨t1,t2,t3,t4⟩:=HT.out t (List.mem_of_getElem? ht)
   have hcx:=(HX.out.next HBL.out).cell (pos_at r t1 t2)
   have hsn:=fldT_snoc (numL r) ts k t ht
   rw[←HMP.out]at hsn
   obtain⟨x,hx⟩: ∃x,x=(numL r).getD (t - 1) 0:=⟨_,rfl⟩
   rw[←hx]at hcx t3 t4 hsn
   obtain⟨o,ho⟩: ∃o,o=posN t:=⟨_,rfl⟩
   rw[←ho]at hcx
   have HX0:=Lib.hid t3
   obtain⟨p,hp⟩: ∃p,p=numB x.toNat:=⟨_,rfl⟩
   rw[←hp]at hsn
   have HSN:=Lib.hid hsn
   obtain⟨N,hN⟩: ∃N:Nat,x=(N:Int):=⟨x.toNat,by have:=HX0.out;omega⟩
   subst hN
   rw[Int.toNat_natCast]at hp
   have HP:=Lib.hid hp.symm
   have HPO:=Lib.hid ho.symm
   have HTT:=Lib.hid (And.intro t1 t2)
   have b1:(0:Int)≤(k:Int):=by omega
   have b2:(k:Int)<(n:Int):=by omega
   clear ht hx hp hsn t1 t2 t3 ho
   go_wp2_with fail
   refine(pnum_any X t HTT.out.1 HTT.out.2 wr).mono ?_
   rintro e w1 ⟨rfl,rfl⟩
   rw[HPO.out]
   go_wp2_with fail
   refine(pnumber_own N (by omega) p HP.out wr).mono ?_
   rintro e w1 ⟨vv,rfl,hwn,hb⟩
   obtain⟨S,cs,rfl,hbs⟩:=bs_of_own hwn (by rw[←HP.out];exact numB_lt N)
   have HTY:=Lib.hid (tyb_of_own hwn)
   clear hwn
   have HBS:=Lib.hid hbs
   have HB1:=Lib.hid hb
   have HO1:=Lib.hid (own_below HO.out hb)
   have hs1:w.heap.size≤w1.heap.size:=Nat.le_trans hsz hb.size
   have HV1:=Lib.hid (fun q hq=>And.intro ((HV.out q hq).1.next hb) ((HV.out q hq).2.next hb))
   have HBL1:=Lib.hid (HBL.out.trans (hb.mono hsz))
   clear hbs hb
   go_wp2_with (at_builtin;refine wpList_append_field rfl (.tmp 32) (.tmp 36) rfl w1 w.heap.size k u6 M ⟨⟨(t:Int),p⟩,S,cs⟩ rfl HO1.out w1.heap.size rfl rfl (by omega) hs1 ?_;intro v3 w3 hown3 hg3)
   have hge: ∀g,u6.ownBlock=some g→w.heap.size≤g:=fun g hg=>own_ge HO1.out hg
   have hb3:Below w.heap.size w w3:=HBL1.out.grown hg3 hs1 hge
   have HB3:=Lib.hid hb3
   have HO3:=Lib.hid hown3
   have HV3:=Lib.hid (show∀q∈M++ [(⟨⟨(t:Int),p⟩,S,cs⟩:TV)],TyB w3 q.S∧Bs w3 w3.heap.size q.f.val q.S q.c from fun q hq=>by
    rcases List.mem_append.1 hq with h|h
    ·exact bs_grown (HV1.out q h).1 (HV1.out q h).2 HO1.out hg3
    ·rw[List.mem_singleton]at h
     subst h
     exact bs_grown HTY.out HBS.out HO1.out hg3)
   clear hown3 hg3 hge hb3 HO1 HV1
   go_wp2
   go_roundw
   case rel=>exact⟨k+1,M++ [⟨⟨(t:Int),p⟩,S,cs⟩],by omega,by go_num,by rw[List.map_append];exact HSN.out.symm,HO3.out,HV3.out,HB3.out⟩
   case measure=>simp[intOf];omega
  ·have e:k=n:=by omega
   have e2:ts.take k=ts:=List.take_of_length_le (by rw[←HN.out];omega)
   have hmp:=HMP.out
   rw[e2]at hmp
   obtain⟨A2,c2,e3,hts⟩:=ts_of_own HO.out (fun q hq=>(HV.out q hq).2)
   rw[hmp]at hts
   have HTS:=Lib.hid hts
   subst e
   clear e2 hmp hts hlt
   subst e3
   go_wp2
   go_ret2
   exact⟨A2,c2,rfl,HTS.out,HBL.out⟩
end Go.Proofs.YtcnglbliidjnfaaGreatDoor
end
section
namespace Go.Proofs.YtcnglbliidjnfaaGreatDoor
set_option linter.unusedVariables false
open Go.ChangeShapes Go.WideShapes Go.ChangeAt Go.RowKit
theorem ptellsu_any (r:Rg) (X:Nat) (b:Bool) (hb:(r.t.kind==4)=b) (w:World) (hX:FBox w X (rgL r)):Calls Tryz.prog 64 #[.pointer (some ⟨X,0,none⟩)] w fun e w'=>e= .returned (.bool b)∧w=w':=by
 have hc:=hX.cells.2.1
 clear hX
 cases b with
 |false=>
  go_enter Tryz.func64, Tryz.ntmps64
  go_wp2
  go_ret
  exact⟨rfl,rfl⟩
 |true=>
  go_enter Tryz.func64, Tryz.ntmps64
  go_wp2
  go_ret
  exact⟨rfl,rfl⟩
def settleX (r:Rg):Bool × Rg:=if r.t.kind=4 then(true,r)else if r.t.uses=0 then(true,{ r with t:= { r.t with uses:=ownF r.t.kind } })else(false,r)
set_option maxRecDepth 100000 in
set_option maxHeartbeats 800000 in
theorem psettle_any (r:Rg) (X:Nat) (b:Bool) (r':Rg) (hb:settleX r=(b,r')) (w:World) (hX:FBox w X (rgL r)):Calls Tryz.prog 81 #[.pointer (some ⟨X,0,none⟩)] w fun e w'=>e= .returned (.bool b)∧FBox w' X (rgL r')∧w.grownBy w' (some X):=by
 have HX:=Lib.hid hX
 have hXw:=hX.lt
 have hc:=hX.cells.2.1
 have hcu:=hX.cells.2.2.2.2.2.2.2.2.2.1
 have hfu:=hX.frozen 9
 clear hX
 by_cases hk:r.t.kind=4
 ·rw[settleX,if_pos hk]at hb
  obtain⟨rfl,rfl⟩:=Prod.mk.inj hb
  have HK:=Lib.hid (show(r.t.kind==4)=true by rw[beq_iff_eq];exact hk)
  clear hb hk
  go_enter Tryz.func81, Tryz.ntmps81
  go_wp2_with fail
  refine(ptellsu_any r X true HK.out w HX.out).mono ?_
  rintro e w1 ⟨rfl,rfl⟩
  go_wp2
  go_ret
  exact⟨rfl,HX.out,World.grownBy.refl _ _⟩
 ·rw[settleX,if_neg hk]at hb
  have HK:=Lib.hid (show(r.t.kind==4)=false by rw[beq_eq_false_iff_ne];exact hk)
  clear hk
  by_cases hu:r.t.uses=0
  ·rw[if_pos hu]at hb
   obtain⟨rfl,rfl⟩:=Prod.mk.inj hb
   have q0:(r.t.uses !=0)=false:=by rw[hu];rfl
   obtain⟨u,hu2⟩: ∃u,ownF r.t.kind=u:=⟨_,rfl⟩
   have HU:=Lib.hid hu2
   clear hb hu hu2
   go_enter Tryz.func81, Tryz.ntmps81
   go_wp2_with fail
   refine(ptellsu_any r X false HK.out w HX.out).mono ?_
   rintro e w1 ⟨rfl,rfl⟩
   go_wp2_with fail
   refine(pownf_any r.t.kind u HU.out w).mono ?_
   rintro e w1 ⟨rfl,rfl⟩
   go_wp2
   go_ret
   rw[HU.out]
   exact⟨rfl,HX.out.set 9 u,grown_cell w X 9 (.int .i64 u)⟩
  ·rw[if_neg hu]at hb
   obtain⟨rfl,rfl⟩:=Prod.mk.inj hb
   have q0:(r.t.uses !=0)=true:=by rw[bne_iff_ne];exact hu
   clear hb hu
   go_enter Tryz.func81, Tryz.ntmps81
   go_wp2_with fail
   refine(ptellsu_any r X false HK.out w HX.out).mono ?_
   rintro e w1 ⟨rfl,rfl⟩
   go_wp2
   go_ret
   exact⟨rfl,HX.out,World.grownBy.refl _ _⟩
end Go.Proofs.YtcnglbliidjnfaaGreatDoor
end
section
namespace Go.Proofs.YtcnglbliidjnfaaGreatDoor
set_option linter.unusedVariables false
open Go.ChangeShapes Go.WideShapes Go.ChangeAt Go.RowKit
theorem fbox_new (w:World) (l:List Int) (cs:Array Value) (h:cs.toList=l.map fun x=>Value.int .i64 x):FBox (w.alloc (.cells cs 94)) w.heap.size l:=by
 have e:cs=(l.map fun x=>Value.int .i64 x).toArray:=by rw[←h]
 rw[e]
 exact heap_alloc_new w _
theorem num_at {a:List Int} (h: ∀x∈a,0≤x∧x≤1099511627776) (i:Nat):0≤a.getD i 0∧a.getD i 0≤1099511627776:=by
 rw[List.getD_eq_getElem?_getD]
 cases hx:a[i]? with
 |none=>exact⟨by simp,by simp⟩
 |some x=>exact h x (List.mem_of_getElem? hx)
theorem fill_pos: ∀(l:List Tf) (a:List Int),(∀x∈a,0≤x)→ ∀x∈(fdFill a l).2,0≤x
 |[],a,h=>h
 |f::l,a,h=>by
  rw[fdFill]
  split
  ·exact h
  ·split
   ·exact h
   ·split
    ·exact h
    ·refine fill_pos l _ fun x hx=> ?_
     rcases List.mem_or_eq_of_mem_set hx with hx|rfl
     ·exact h x hx
     ·omega
theorem verX_no {a:List Int} (h:(decide (1≤(rdL a).ver)&&decide ((rdL a).ver≤3))=false):verX a=false:=by
 have h':(decide (1≤a.getD 0 0)&&decide (a.getD 0 0≤3))=false:=h
 rw[verX, ←Bool.and_assoc,h',Bool.false_and]
theorem verX_fit {a:List Int} (h:fitX (rdL a).ver (tagsF 1 a)=false):verX a=false:=by
 have h':fitX (a.getD 0 0) (tagsF 1 a)=false:=h
 rw[verX,h',Bool.and_false,Bool.and_false]
theorem verX_ok {a:List Int} (h:(decide (1≤(rdL a).ver)&&decide ((rdL a).ver≤3))=true) (h2:fitX (rdL a).ver (tagsF 1 a)=true):verX a=true:=by
 have h':(decide (1≤a.getD 0 0)&&decide (a.getD 0 0≤3))=true:=h
 have h2':fitX (a.getD 0 0) (tagsF 1 a)=true:=h2
 rw[verX, ←Bool.and_assoc,h',h2'];rfl
def ownR (r:Rg):Rg:=if r.t.kind=4 then r else { r with t:= { r.t with uses:=ownF r.t.kind } }
theorem ownF_tmod {k:Int} (h1:1≤k) (h2:k≤4) (h4:k≠4):ownF k=k.tmod 3:=by
 rcases(show k=1∨k=2∨k=3 by omega)with rfl|rfl|rfl<;>rfl
theorem ownR_eq {r:Rg} (h1:1≤r.t.kind) (h2:r.t.kind≤4):ownR r=setU r:=by
 unfold ownR setU
 by_cases h4:r.t.kind=4
 ·rw[if_pos h4,if_pos h4]
 ·rw[if_neg h4,if_neg h4,ownF_tmod h1 h2 h4]
theorem ownR_kind (r:Rg):(ownR r).t.kind=r.t.kind:=by unfold ownR;split<;>rfl
theorem ownR_key (r:Rg):(ownR r).key=r.key:=by unfold ownR;split<;>rfl
theorem ownR_ok (r:Rg):okT (ownR r).t=okT (setU r).t:=by
 by_cases h:1≤r.t.kind∧r.t.kind≤4
 ·rw[ownR_eq h.1 h.2]
 ·have e1:okT (ownR r).t=false:=by
   cases h1:okT (ownR r).t with
   |false=>rfl
   |true=>
    have:=(numsB_iff _).1 ((okT_iff _).1 h1).1
    rw[ownR_kind]at this
    omega
  have e2:okT (setU r).t=false:=by
   cases h1:okT (setU r).t with
   |false=>rfl
   |true=>
    have:=(numsB_iff _).1 ((okT_iff _).1 h1).1
    rw[set_kind]at this
    omega
  rw[e1,e2]
theorem ownR_set {r:Rg} (h:okT (ownR r).t=true):ownR r=setU r:=by
 have:=(numsB_iff _).1 ((okT_iff _).1 h).1
 rw[ownR_kind]at this
 exact ownR_eq this.2.2.1 this.2.2.2.1
theorem settle_ok {r:Rg} (h:r.t.kind=4∨r.t.uses=0):settleX r=(true,ownR r):=by
 unfold settleX ownR
 by_cases h4:r.t.kind=4
 ·rw[if_pos h4,if_pos h4]
 ·rw[if_neg h4,if_neg h4,if_pos (by omega)]
theorem settle_no {r:Rg} (h: ¬(r.t.kind=4∨r.t.uses=0)):settleX r=(false,r):=by
 unfold settleX
 rw[if_neg (by omega),if_neg (by omega)]
theorem right_no {r:Rg} (h: ¬(r.t.kind=4∨r.t.uses=0)):rightF r=false:=by
 cases hr:rightF r with
 |false=>rfl
 |true=>simp[rightF]at hr;exact absurd hr.1 h
theorem right_key {r:Rg} (h:99<r.key):rightF r=false:=by
 cases hr:rightF r with
 |false=>rfl
 |true=>simp[rightF]at hr;omega
theorem right_ok {r:Rg} (h:okT (ownR r).t=false):rightF r=false:=by
 rw[ownR_ok]at h
 rw[rightF,h,Bool.and_false,Bool.and_false]
theorem right_yes {r:Rg} (h:r.t.kind=4∨r.t.uses=0) (h1:r.key≤99) (h2:okT (ownR r).t=true):rightF r=true:=by
 rw[ownR_ok]at h2
 simp[rightF]
 exact⟨h,h1,h2⟩
end Go.Proofs.YtcnglbliidjnfaaGreatDoor
end
section
namespace Go.Proofs.YtcnglbliidjnfaaGreatDoor
set_option linter.unusedVariables false
open Go.ChangeShapes Go.WideShapes Go.ChangeAt Go.RowKit
def WBox (w:World) (b:Nat) (t:Tk):Prop:=w.heap[b]?=some (.cells #[.int .i64 t.ser, .int .i64 t.kind, .int .i64 t.frm, .int .i64 t.till, .int .i64 t.cls, .int .i64 t.card, .int .i64 t.seat, .int .i64 t.day, .int .i64 t.days, .int .i64 t.uses, .int .i64 t.epoch] 150 (0,0))
theorem WBox.lt {w:World} {b:Nat} {t:Tk} (h:WBox w b t):b<w.heap.size:=(Array.getElem?_eq_some_iff.1 h).1
theorem WBox.next {w w':World} {b:Nat} {t:Tk} (h:WBox w b t) (hb:Below w.heap.size w w'):WBox w' b t:=(hb.block _ h.lt).trans h
theorem WBox.cells {w:World} {b:Nat} {t:Tk} (h:WBox w b t):w.cell? ⟨b,0,none⟩=some (.int .i64 t.ser)∧w.cell? ⟨b,1,none⟩=some (.int .i64 t.kind)∧w.cell? ⟨b,2,none⟩=some (.int .i64 t.frm)∧w.cell? ⟨b,3,none⟩=some (.int .i64 t.till)∧w.cell? ⟨b,4,none⟩=some (.int .i64 t.cls)∧w.cell? ⟨b,5,none⟩=some (.int .i64 t.card)∧w.cell? ⟨b,6,none⟩=some (.int .i64 t.seat)∧w.cell? ⟨b,7,none⟩=some (.int .i64 t.day)∧w.cell? ⟨b,8,none⟩=some (.int .i64 t.days)∧w.cell? ⟨b,9,none⟩=some (.int .i64 t.uses)∧w.cell? ⟨b,10,none⟩=some (.int .i64 t.epoch):=
 ⟨by rw[cell_of_row w b 0 _ _ (0,0) h];rfl,by rw[cell_of_row w b 1 _ _ (0,0) h];rfl,by rw[cell_of_row w b 2 _ _ (0,0) h];rfl,by rw[cell_of_row w b 3 _ _ (0,0) h];rfl,by rw[cell_of_row w b 4 _ _ (0,0) h];rfl,by rw[cell_of_row w b 5 _ _ (0,0) h];rfl,by rw[cell_of_row w b 6 _ _ (0,0) h];rfl,by rw[cell_of_row w b 7 _ _ (0,0) h];rfl,by rw[cell_of_row w b 8 _ _ (0,0) h];rfl,by rw[cell_of_row w b 9 _ _ (0,0) h];rfl,by rw[cell_of_row w b 10 _ _ (0,0) h];rfl⟩
theorem WBox.frozen {w:World} {b:Nat} {t:Tk} (h:WBox w b t) (j:Nat):w.frozen? ⟨b,j,none⟩=false:=frozen_of_row w b j _ _ h
theorem WBox.new (w:World) (t:Tk):WBox (w.alloc (.cells #[.int .i64 t.ser, .int .i64 t.kind, .int .i64 t.frm, .int .i64 t.till, .int .i64 t.cls, .int .i64 t.card, .int .i64 t.seat, .int .i64 t.day, .int .i64 t.days, .int .i64 t.uses, .int .i64 t.epoch] 150)) w.heap.size t:=heap_alloc_new w _
end Go.Proofs.YtcnglbliidjnfaaGreatDoor
end
section
namespace Go.Proofs.YtcnglbliidjnfaaGreatDoor
set_option linter.unusedVariables false
open Go.ChangeShapes Go.WideShapes Go.ChangeAt Go.RowKit
set_option maxRecDepth 20000 in
set_option maxHeartbeats 1600000 in
theorem pkind_1 (t:Tk) (hk:t.kind=1) (w:World):Calls Tryz.prog 122 #[.agg #[.int .i64 t.ser, .int .i64 t.kind, .int .i64 t.frm, .int .i64 t.till, .int .i64 t.cls, .int .i64 t.card, .int .i64 t.seat, .int .i64 t.day, .int .i64 t.days, .int .i64 t.uses, .int .i64 t.epoch]] w fun e w'=>e= .returned (.tuple #[.agg #[.int .i64 1, .int .i64 1, .func (.func 140) #[.agg #[.int .i64 t.ser, .int .i64 t.kind, .int .i64 t.frm, .int .i64 t.till, .int .i64 t.cls, .int .i64 t.card, .int .i64 t.seat, .int .i64 t.day, .int .i64 t.days, .int .i64 t.uses, .int .i64 t.epoch]] #[], .func (.func 141) #[.agg #[.int .i64 t.ser, .int .i64 t.kind, .int .i64 t.frm, .int .i64 t.till, .int .i64 t.cls, .int .i64 t.card, .int .i64 t.seat, .int .i64 t.day, .int .i64 t.days, .int .i64 t.uses, .int .i64 t.epoch]] #[], .func (.func 142) #[.agg #[.int .i64 t.ser, .int .i64 t.kind, .int .i64 t.frm, .int .i64 t.till, .int .i64 t.cls, .int .i64 t.card, .int .i64 t.seat, .int .i64 t.day, .int .i64 t.days, .int .i64 t.uses, .int .i64 t.epoch]] #[]], .bool true])∧Below w.heap.size w w':=by
 have q1:(t.kind==1)=true:=by rw[beq_iff_eq];omega
 clear hk
 go_enter Tryz.func122, Tryz.ntmps122
 go_wp2
 exact bodyPost_ret (v:= .tuple #[.agg #[.int .i64 1, .int .i64 1, .func (.func 140) #[.agg #[.int .i64 t.ser, .int .i64 t.kind, .int .i64 t.frm, .int .i64 t.till, .int .i64 t.cls, .int .i64 t.card, .int .i64 t.seat, .int .i64 t.day, .int .i64 t.days, .int .i64 t.uses, .int .i64 t.epoch]] #[], .func (.func 141) #[.agg #[.int .i64 t.ser, .int .i64 t.kind, .int .i64 t.frm, .int .i64 t.till, .int .i64 t.cls, .int .i64 t.card, .int .i64 t.seat, .int .i64 t.day, .int .i64 t.days, .int .i64 t.uses, .int .i64 t.epoch]] #[], .func (.func 142) #[.agg #[.int .i64 t.ser, .int .i64 t.kind, .int .i64 t.frm, .int .i64 t.till, .int .i64 t.cls, .int .i64 t.card, .int .i64 t.seat, .int .i64 t.day, .int .i64 t.days, .int .i64 t.uses, .int .i64 t.epoch]] #[]], .bool true]) (by simp[results, Tryz.results122,go_sem]) rfl ⟨rfl,((Below.refl _ _).alloc (Nat.le_refl _) _).alloc (by simp) _⟩
set_option maxRecDepth 20000 in
set_option maxHeartbeats 1600000 in
theorem pkind_2 (t:Tk) (hk:t.kind=2) (w:World):Calls Tryz.prog 122 #[.agg #[.int .i64 t.ser, .int .i64 t.kind, .int .i64 t.frm, .int .i64 t.till, .int .i64 t.cls, .int .i64 t.card, .int .i64 t.seat, .int .i64 t.day, .int .i64 t.days, .int .i64 t.uses, .int .i64 t.epoch]] w fun e w'=>e= .returned (.tuple #[.agg #[.int .i64 2, .int .i64 2, .func (.func 140) #[.agg #[.int .i64 t.ser, .int .i64 t.kind, .int .i64 t.frm, .int .i64 t.till, .int .i64 t.cls, .int .i64 t.card, .int .i64 t.seat, .int .i64 t.day, .int .i64 t.days, .int .i64 t.uses, .int .i64 t.epoch]] #[], .func (.func 141) #[.agg #[.int .i64 t.ser, .int .i64 t.kind, .int .i64 t.frm, .int .i64 t.till, .int .i64 t.cls, .int .i64 t.card, .int .i64 t.seat, .int .i64 t.day, .int .i64 t.days, .int .i64 t.uses, .int .i64 t.epoch]] #[], .func (.func 143) #[.agg #[.int .i64 t.ser, .int .i64 t.kind, .int .i64 t.frm, .int .i64 t.till, .int .i64 t.cls, .int .i64 t.card, .int .i64 t.seat, .int .i64 t.day, .int .i64 t.days, .int .i64 t.uses, .int .i64 t.epoch]] #[]], .bool true])∧Below w.heap.size w w':=by
 have q1:(t.kind==1)=false:=by rw[beq_eq_false_iff_ne];omega
 have q2:(t.kind==2)=true:=by rw[beq_iff_eq];omega
 clear hk
 go_enter Tryz.func122, Tryz.ntmps122
 go_wp2
 exact bodyPost_ret (v:= .tuple #[.agg #[.int .i64 2, .int .i64 2, .func (.func 140) #[.agg #[.int .i64 t.ser, .int .i64 t.kind, .int .i64 t.frm, .int .i64 t.till, .int .i64 t.cls, .int .i64 t.card, .int .i64 t.seat, .int .i64 t.day, .int .i64 t.days, .int .i64 t.uses, .int .i64 t.epoch]] #[], .func (.func 141) #[.agg #[.int .i64 t.ser, .int .i64 t.kind, .int .i64 t.frm, .int .i64 t.till, .int .i64 t.cls, .int .i64 t.card, .int .i64 t.seat, .int .i64 t.day, .int .i64 t.days, .int .i64 t.uses, .int .i64 t.epoch]] #[], .func (.func 143) #[.agg #[.int .i64 t.ser, .int .i64 t.kind, .int .i64 t.frm, .int .i64 t.till, .int .i64 t.cls, .int .i64 t.card, .int .i64 t.seat, .int .i64 t.day, .int .i64 t.days, .int .i64 t.uses, .int .i64 t.epoch]] #[]], .bool true]) (by simp[results, Tryz.results122,go_sem]) rfl ⟨rfl,((Below.refl _ _).alloc (Nat.le_refl _) _).alloc (by simp) _⟩
set_option maxRecDepth 20000 in
set_option maxHeartbeats 1600000 in
theorem pkind_3 (t:Tk) (hk:t.kind=3) (w:World):Calls Tryz.prog 122 #[.agg #[.int .i64 t.ser, .int .i64 t.kind, .int .i64 t.frm, .int .i64 t.till, .int .i64 t.cls, .int .i64 t.card, .int .i64 t.seat, .int .i64 t.day, .int .i64 t.days, .int .i64 t.uses, .int .i64 t.epoch]] w fun e w'=>e= .returned (.tuple #[.agg #[.int .i64 0, .int .i64 0, .func (.func 144) #[.agg #[.int .i64 t.ser, .int .i64 t.kind, .int .i64 t.frm, .int .i64 t.till, .int .i64 t.cls, .int .i64 t.card, .int .i64 t.seat, .int .i64 t.day, .int .i64 t.days, .int .i64 t.uses, .int .i64 t.epoch]] #[], .func (.func 145) #[.agg #[.int .i64 t.ser, .int .i64 t.kind, .int .i64 t.frm, .int .i64 t.till, .int .i64 t.cls, .int .i64 t.card, .int .i64 t.seat, .int .i64 t.day, .int .i64 t.days, .int .i64 t.uses, .int .i64 t.epoch]] #[], .func (.func 146) #[.agg #[.int .i64 t.ser, .int .i64 t.kind, .int .i64 t.frm, .int .i64 t.till, .int .i64 t.cls, .int .i64 t.card, .int .i64 t.seat, .int .i64 t.day, .int .i64 t.days, .int .i64 t.uses, .int .i64 t.epoch]] #[]], .bool true])∧Below w.heap.size w w':=by
 have q1:(t.kind==1)=false:=by rw[beq_eq_false_iff_ne];omega
 have q2:(t.kind==2)=false:=by rw[beq_eq_false_iff_ne];omega
 have q3:(t.kind==3)=true:=by rw[beq_iff_eq];omega
 clear hk
 go_enter Tryz.func122, Tryz.ntmps122
 go_wp2
 exact bodyPost_ret (v:= .tuple #[.agg #[.int .i64 0, .int .i64 0, .func (.func 144) #[.agg #[.int .i64 t.ser, .int .i64 t.kind, .int .i64 t.frm, .int .i64 t.till, .int .i64 t.cls, .int .i64 t.card, .int .i64 t.seat, .int .i64 t.day, .int .i64 t.days, .int .i64 t.uses, .int .i64 t.epoch]] #[], .func (.func 145) #[.agg #[.int .i64 t.ser, .int .i64 t.kind, .int .i64 t.frm, .int .i64 t.till, .int .i64 t.cls, .int .i64 t.card, .int .i64 t.seat, .int .i64 t.day, .int .i64 t.days, .int .i64 t.uses, .int .i64 t.epoch]] #[], .func (.func 146) #[.agg #[.int .i64 t.ser, .int .i64 t.kind, .int .i64 t.frm, .int .i64 t.till, .int .i64 t.cls, .int .i64 t.card, .int .i64 t.seat, .int .i64 t.day, .int .i64 t.days, .int .i64 t.uses, .int .i64 t.epoch]] #[]], .bool true]) (by simp[results, Tryz.results122,go_sem]) rfl ⟨rfl,((Below.refl _ _).alloc (Nat.le_refl _) _).alloc (by simp) _⟩
set_option maxRecDepth 20000 in
set_option maxHeartbeats 1600000 in
theorem pkind_4 (t:Tk) (hk:t.kind=4) (w:World):Calls Tryz.prog 122 #[.agg #[.int .i64 t.ser, .int .i64 t.kind, .int .i64 t.frm, .int .i64 t.till, .int .i64 t.cls, .int .i64 t.card, .int .i64 t.seat, .int .i64 t.day, .int .i64 t.days, .int .i64 t.uses, .int .i64 t.epoch]] w fun e w'=>e= .returned (.tuple #[.agg #[.int .i64 2, .int .i64 20, .func (.func 140) #[.agg #[.int .i64 t.ser, .int .i64 t.kind, .int .i64 t.frm, .int .i64 t.till, .int .i64 t.cls, .int .i64 t.card, .int .i64 t.seat, .int .i64 t.day, .int .i64 t.days, .int .i64 t.uses, .int .i64 t.epoch]] #[], .func (.func 141) #[.agg #[.int .i64 t.ser, .int .i64 t.kind, .int .i64 t.frm, .int .i64 t.till, .int .i64 t.cls, .int .i64 t.card, .int .i64 t.seat, .int .i64 t.day, .int .i64 t.days, .int .i64 t.uses, .int .i64 t.epoch]] #[], .func (.func 147) #[.agg #[.int .i64 t.ser, .int .i64 t.kind, .int .i64 t.frm, .int .i64 t.till, .int .i64 t.cls, .int .i64 t.card, .int .i64 t.seat, .int .i64 t.day, .int .i64 t.days, .int .i64 t.uses, .int .i64 t.epoch]] #[]], .bool true])∧Below w.heap.size w w':=by
 have q1:(t.kind==1)=false:=by rw[beq_eq_false_iff_ne];omega
 have q2:(t.kind==2)=false:=by rw[beq_eq_false_iff_ne];omega
 have q3:(t.kind==3)=false:=by rw[beq_eq_false_iff_ne];omega
 have q4:(t.kind==4)=true:=by rw[beq_iff_eq];omega
 clear hk
 go_enter Tryz.func122, Tryz.ntmps122
 go_wp2
 exact bodyPost_ret (v:= .tuple #[.agg #[.int .i64 2, .int .i64 20, .func (.func 140) #[.agg #[.int .i64 t.ser, .int .i64 t.kind, .int .i64 t.frm, .int .i64 t.till, .int .i64 t.cls, .int .i64 t.card, .int .i64 t.seat, .int .i64 t.day, .int .i64 t.days, .int .i64 t.uses, .int .i64 t.epoch]] #[], .func (.func 141) #[.agg #[.int .i64 t.ser, .int .i64 t.kind, .int .i64 t.frm, .int .i64 t.till, .int .i64 t.cls, .int .i64 t.card, .int .i64 t.seat, .int .i64 t.day, .int .i64 t.days, .int .i64 t.uses, .int .i64 t.epoch]] #[], .func (.func 147) #[.agg #[.int .i64 t.ser, .int .i64 t.kind, .int .i64 t.frm, .int .i64 t.till, .int .i64 t.cls, .int .i64 t.card, .int .i64 t.seat, .int .i64 t.day, .int .i64 t.days, .int .i64 t.uses, .int .i64 t.epoch]] #[]], .bool true]) (by simp[results, Tryz.results122,go_sem]) rfl ⟨rfl,((Below.refl _ _).alloc (Nat.le_refl _) _).alloc (by simp) _⟩
set_option maxRecDepth 20000 in
set_option maxHeartbeats 1600000 in
theorem pkind_0 (t:Tk) (hk:t.kind<1∨4<t.kind) (w:World):Calls Tryz.prog 122 #[.agg #[.int .i64 t.ser, .int .i64 t.kind, .int .i64 t.frm, .int .i64 t.till, .int .i64 t.cls, .int .i64 t.card, .int .i64 t.seat, .int .i64 t.day, .int .i64 t.days, .int .i64 t.uses, .int .i64 t.epoch]] w fun e w'=>e= .returned (.tuple #[.agg #[.int .i64 0, .int .i64 0, .nilFunc, .nilFunc, .nilFunc], .bool false])∧Below w.heap.size w w':=by
 have q1:(t.kind==1)=false:=by rw[beq_eq_false_iff_ne];omega
 have q2:(t.kind==2)=false:=by rw[beq_eq_false_iff_ne];omega
 have q3:(t.kind==3)=false:=by rw[beq_eq_false_iff_ne];omega
 have q4:(t.kind==4)=false:=by rw[beq_eq_false_iff_ne];omega
 clear hk
 go_enter Tryz.func122, Tryz.ntmps122
 go_wp2
 exact bodyPost_ret (v:= .tuple #[.agg #[.int .i64 0, .int .i64 0, .nilFunc, .nilFunc, .nilFunc], .bool false]) (by simp[results, Tryz.results122,go_sem]) rfl ⟨rfl,((Below.refl _ _).alloc (Nat.le_refl _) _).alloc (by simp) _⟩
end Go.Proofs.YtcnglbliidjnfaaGreatDoor
end
section
namespace Go.Proofs.YtcnglbliidjnfaaGreatDoor
set_option linter.unusedVariables false
set_option linter.unusedSimpArgs false
open Go.ChangeShapes Go.WideShapes Go.ChangeAt Go.RowKit
end Go.Proofs.YtcnglbliidjnfaaGreatDoor
end
section
namespace Go.Proofs.YtcnglbliidjnfaaGreatDoor
set_option linter.unusedVariables false
set_option linter.unusedSimpArgs false
open Go.ChangeShapes Go.WideShapes Go.ChangeAt Go.RowKit Go.Shelf
attribute [local go_sem] Oper.semAt_some
end Go.Proofs.YtcnglbliidjnfaaGreatDoor
end
section
namespace Go.Proofs.YtcnglbliidjnfaaGreatDoor
set_option linter.unusedVariables false
set_option linter.unusedSimpArgs false
open Go.ChangeShapes Go.WideShapes Go.ChangeAt Go.RowKit Go.Shelf
attribute [local go_sem] Oper.semAt_some
end Go.Proofs.YtcnglbliidjnfaaGreatDoor
end
