import Derived.Test.YtcnglbliidjnfaaGreatDoorFortyRefPut
import Derived.Test.YtcnglbliidjnfaaGreatDoorFortyPGet
import Derived.Test.YtcnglbliidjnfaaGreatDoorRgBox
import Derived.IntWalk
import Derived.Test.YtcnglbliidjnfaaGreatDoorShaPSum
import Derived.Test.YtcnglbliidjnfaaGreatDoorBarPVer0
import Derived.Test.YtcnglbliidjnfaaGreatDoorBarPEnc
import Derived.BigRegion
import Derived.Test.YtcnglbliidjnfaaGreatDoorTlvNum
section
namespace Go.Proofs.YtcnglbliidjnfaaGreatDoor
set_option linter.unusedVariables false
set_option linter.unusedSimpArgs false
open Go.ChangeShapes Go.WideShapes Go.ChangeAt Go.RowKit
theorem goodG_range {l:List Nat} {k:Nat} (h:goodG l (List.range k)) (hk:(getG (grp l 3 k)).1=0):goodG l (List.range (k+1)):=by rw[List.range_succ];exact goodG_snoc h hk
theorem outG_range (l:List Nat) (k:Nat):outG l (List.range (k+1))=outG l (List.range k)++(getG (grp l 3 k)).2:=by rw[List.range_succ];exact outG_snoc l _ k
theorem grp_at {l:List Nat} {sz k j x:Nat} (hj:j<sz) (h:l[sz*k+j]?=some x):(grp l sz k)[j]?=some x:=by
 rw[grp,List.getElem?_take_of_lt hj,List.getElem?_drop];exact h
set_option maxRecDepth 100000 in
set_option maxHeartbeats 2000000 in
theorem refget_in (l:List Nat) (n:Nat) (hn:n=l.length) (hn4:n≤4000) (hn3:n % 3≠1) (E:Nat) (p:List Nat) (hp:fgetR l=(E,p)) (m:Nat) (hm: ∀k,k<m↔3*k<n) (A:Option Addr) (c:Nat) (w:World) (hA:Bs w w.heap.size l A c):
  Calls Tryz.prog 88 #[.slice A n c] w fun e w'=> ∃A' c',e= .returned (.tuple #[.slice A' (p.length:Nat) c', .int .i64 (E:Int)])∧Bs w' w'.heap.size p A' c'∧Below w.heap.size w w':=by
 obtain⟨i0,hi,hz0,hz1,hz2⟩:=info_parts infoU8
 have HN:=Lib.hid hn
 have HP:=Lib.hid hp
 have HM:=Lib.hid hm
 have HA:=Lib.hid hA
 have HN3:=Lib.hid hn3
 obtain⟨r,hr⟩: ∃r,r=n % 3:=⟨_,rfl⟩
 have t1:(n:Int).tmod 3=(r:Int):=by rw[Int.tmod_eq_emod_of_nonneg (by omega)];omega
 have hr1:((r:Int)==1)=false:=by rw[beq_eq_false_iff_ne];omega
 have w1':IntKind.i64.wrap (r:Int)=(r:Int):=IntWalk.i64_in _ (by omega)
 have hmn:3*m≤n+2:=by
  rcases Nat.eq_zero_or_pos m with h|h
  ·omega
  ·have:=(hm (m - 1)).1 (by omega);omega
 have hmn2:n≤3*m:=by
  rcases Nat.lt_or_ge (3*m) n with h|h
  ·have:=(hm m).2 h;omega
  ·exact h
 clear hn hp hA hr hn3 hm
 go_enter Tryz.func88, Tryz.ntmps88
 go_wp2
 go_loopw [4,5,6,7,8,9] (fun v i _ _ _ _ wr=> ∃(k:Nat) (o:List Nat),k≤m∧i= .int .i64 ((3*k:Nat):Int)∧o=outG l (List.range k)∧o.length≤2*k∧goodG l (List.range k)∧wr.ownsRow w.heap.size 5 1 v o.length (U8 o)∧Below w.heap.size w wr) (fun _ i _ _ _ _ _=>n+3 - (intOf i).toNat)
 case atStart=>exact⟨0,[],by omega,rfl,rfl,by simp,fun k hk=>by simp at hk,World.ownsRow_lit w #[] 0 (Nat.le_refl _) (by decide) rfl,(Below.refl _ _).alloc (Nat.le_refl _) _⟩
 case round=>
  obtain⟨k,o,hk,rfl,ho,hol,hgood,hown,hbel⟩:=hrel
  obtain⟨f,hf⟩: ∃f,f=3*k:=⟨_,rfl⟩
  rw[←hf]
  have HO:=Lib.hid ho
  have HOW:=Lib.hid hown
  have HBL:=Lib.hid hbel
  have HF:=Lib.hid hf
  have HG:=Lib.hid hgood
  clear ho hown hbel hgood
  have hge: ∀g,u4.ownBlock=some g→w.heap.size≤g:=fun g hg=>own_ge HOW.out hg
  have HGE:=Lib.hid hge
  obtain⟨j,hj⟩: ∃j,j=o.length:=⟨_,rfl⟩
  rw[←hj]at HOW hol
  have HJ:=Lib.hid hj
  have hbs:=HBL.out.size
  clear hj hge
  by_cases hlt:f<n
  ·have b0:(0:Int)≤(f:Int):=by omega
   have b1:(f:Int)<(n:Int):=by omega
   have wf3:IntKind.i64.wrap ((f:Int)+3)=(f:Int)+3:=IntWalk.i64_in _ (by omega)
   have hgl:=grp_len l 3 k (by rw[←HN.out, ←hf];exact hlt)
   rw[←HN.out, ←hf]at hgl
   obtain⟨g,hgg⟩: ∃g,g=grp l 3 k:=⟨_,rfl⟩
   rw[←hgg]at hgl
   obtain⟨d,hd⟩: ∃d,d=g.length:=⟨_,rfl⟩
   have hd23:d=2∨d=3:=by
    have h3:=HN3.out
    rw[hd,hgl,eOf]
    split<;>omega
   have hdn:f+d≤n:=by rw[hd,hgl,eOf];split<;>omega
   have hdm:d=3∨f+d=n:=by rw[hd,hgl,eOf];split<;>omega
   have hgp:=getG_prog g (by rw[←hd];exact hd23)
   rw[←hd]at hgp
   have hgat: ∀j,j<d→ ∃x,g[j]?=some x∧l[f+j]?=some x:=fun j hj=>by
    have h1:f+j<l.length:=by rw[←HN.out];omega
    refine⟨l[f+j], ?_,List.getElem?_eq_getElem h1⟩
    rw[hgg]
    exact grp_at (by omega) (by rw[←hf];exact List.getElem?_eq_getElem h1)
   have HGAT:=Lib.hid hgat
   have HGP:=Lib.hid hgp
   have HD:=Lib.hid hd
   have HGG:=Lib.hid hgg
   have hns:=nS_lt g (by omega)
   clear hgl hgp hgat hgg hd hf
   have hbad: ∀e,getG g=(e,[])→e≠0→E=e∧p=[]:=fun e he h0=>by
    have h3:3*k<l.length:=by rw[←HN.out];have:=HF.out;omega
    have h4:=getR_stop l k (by rw[←HN.out];exact HN3.out) h3 HG.out (by rw[←HGG.out,he];exact h0)
    rw[←HGG.out,he,HP.out]at h4
    exact⟨(Prod.mk.inj h4).1,(Prod.mk.inj h4).2⟩
   have hgo: ∀b,getG g=(0,b)→goodG l (List.range (k+1))∧outG l (List.range (k+1))=o++b:=fun b hb=>
    ⟨goodG_range HG.out (by rw[←HGG.out,hb]),by rw[outG_range, ←HGG.out,hb,HO.out]⟩
   have HBAD:=Lib.hid hbad
   have HGO:=Lib.hid hgo
   clear hbad hgo
   go_wp2
   go_loop [6,7,8,9] (fun t b q _=> ∃i:Nat,i≤d∧t= .int .i64 (nS (g.take i):Nat)∧b= .int .i64 (45^i:Nat)∧q= .int .i64 ((f+i:Nat):Int)∧okL (g.take i)=true) (fun _ _ q _=>f+3 - (intOf q).toNat)
   case atStart=>exact⟨0,by omega,rfl,rfl,rfl,rfl⟩
   case round=>
    obtain⟨i,hid,rfl,rfl,rfl,hok⟩:=hrel
    have HOK:=Lib.hid hok
    obtain⟨q,hq⟩: ∃q,q=f+i:=⟨_,rfl⟩
    rw[←hq]
    have HQ:=Lib.hid hq
    clear hok hq
    by_cases hlt2:i<d
    ·obtain⟨x,hgx,hlx⟩:=HGAT.out i hlt2
     rw[←HQ.out]at hlx
     have hx2:x<256:=HA.out.lt x (List.mem_of_getElem? hlx)
     obtain⟨ad,rfl,hb0,hc⟩:=(HA.out.below HBL.out).rd q (.int .u8 (x:Int)) (by rw[U8,List.getElem?_map,hlx];rfl)
     have hqq:=HQ.out
     have c0:(0:Int)≤(q:Int):=by omega
     have c1:(q:Int)<(f:Int)+3:=by omega
     have c2:(q:Int)<(n:Int):=by omega
     have hl:=nS_lt (g.take i) (by rw[List.length_take, ←HD.out];omega)
     have hl2:=nS_lt (g.take (i+1)) (by rw[List.length_take, ←HD.out];omega)
     have hst:nS (g.take (i+1))=nS (g.take i)+45^i*vl x:=by rw[take_snoc' hgx,nS_snoc,List.length_take,Nat.min_eq_left (by rw[←HD.out];omega)]
     have hp45:45^i≤2025:=Nat.le_trans (Nat.pow_le_pow_right (by omega) (show i≤2 by omega)) (by decide)
     have hp2:45^(i+1)=45^i*45:=Nat.pow_succ 45 i
     have hokn:okL (g.take (i+1))=fokS x:=by rw[take_snoc' hgx,okL_snoc,HOK.out,Bool.true_and]
     have HOKN:=Lib.hid hokn
     have HP2:=Lib.hid hp2
     rw[hst]at hl2
     have HST:=Lib.hid hst
     have HGX:=Lib.hid hgx
     clear hgx hlx hst hp2 hokn hqq
     generalize nS (g.take i)=a at*
     generalize 45^i=pw at*
     cases hs:fokS x with
     |true=>
      have hsi:sgI x=((vl x:Nat):Int):=by rw[sgI,hs];rfl
      have hsg:=refsign_any x hx2 _ hsi wr
      have HSG:=Lib.hid hsg
      have hvl:=okS_lt hs
      have HS:=Lib.hid hs
      clear hs hsi hsg
      generalize vl x=y at*
      obtain⟨z,hz⟩: ∃z,z=pw*y:=⟨_,rfl⟩
      rw[←hz]at HST hl2
      have hpm:(pw:Int)*(y:Int)=(z:Int):=by rw[hz];push_cast;rfl
      have v1:IntKind.i64.wrap (z:Int)=(z:Int):=IntWalk.i64_in _ (by omega)
      have v2:IntKind.i64.wrap ((a:Int)+(z:Int))=(a:Int)+(z:Int):=IntWalk.i64_in _ (by omega)
      have v3:IntKind.i64.wrap ((pw:Int)*45)=(pw:Int)*45:=IntWalk.i64_in _ (by omega)
      have v4:IntKind.i64.wrap ((q:Int)+1)=(q:Int)+1:=IntWalk.i64_in _ (by omega)
      have v5: ¬((y:Int)<0):=by omega
      clear hz
      go_wp2_with (go_at_call 110;refine HSG.out.mono ?_;rintro e w1 ⟨rfl,rfl⟩)
      go_round
      case rel=>exact⟨i+1,by omega,by rw[HST.out];go_num,by rw[HP2.out];go_num,by have:=HQ.out;exact congrArg (Value.int .i64) (by omega),by rw[HOKN.out];exact HS.out⟩
      case measure=>simp[intOf];omega
     |false=>
      have hsi:sgI x= -1:=by rw[sgI,hs];rfl
      have hsg:=refsign_any x hx2 _ hsi wr
      have HSG:=Lib.hid hsg
      obtain⟨rfl,rfl⟩:=HBAD.out 7 (by rw[HGP.out,if_pos (okL_bad HGX.out hs)]) (by omega)
      clear hs hsi hsg HST HP2 HOKN HOK HGX
      go_wp2_with (go_at_call 110;refine HSG.out.mono ?_;rintro e w1 ⟨rfl,rfl⟩)
      go_ret2
      exact⟨none,0,rfl,⟨by intro j u hu;simp[U8]at hu,fun _=>rfl,by simp,by omega,by simp⟩,HBL.out⟩
    ·obtain rfl:i=d:=by omega
     have etk:g.take i=g:=List.take_of_length_le (by rw[←HD.out];omega)
     have hok2:=HOK.out
     rw[etk]at hok2⊢
     have hge:getG g=if nS g / 256^(i - 1)≠0 then(23,[])else(0,bysH (nS g) (i - 1)):=by rw[HGP.out,hok2,if_neg (by simp)]
     have HGE2:=Lib.hid hge
     have hqq:=HQ.out
     have wf2:IntKind.i64.wrap ((f:Int)+2)=(f:Int)+2:=IntWalk.i64_in _ (by omega)
     have hj4:j≤8000:=by omega
     clear etk hok2 hge HOK HGP
     generalize nS g=y at*
     generalize 45^i=pw at*
     rcases hd23 with rfl|rfl
     ·obtain rfl:q=n:=by omega
      have c1:(q:Int)<(f:Int)+3:=by omega
      have c2: ¬((q:Int)<(q:Int)):=by omega
      have c3: ¬((f:Int)+2<(q:Int)):=by omega
      clear hqq
      by_cases hov:255<y
      ·have hov2:(255:Int)<(y:Int):=by omega
       obtain⟨rfl,rfl⟩:=HBAD.out 23 (by rw[HGE2.out,if_pos (by simp only[Nat.add_one_sub_one,Nat.reduceSub,Nat.pow_one];omega)]) (by omega)
       clear HGE2 HBAD HGO
       go_wp2
       go_ret2
       exact⟨none,0,rfl,⟨by intro j u hu;simp[U8]at hu,fun _=>rfl,by simp,by omega,by simp⟩,HBL.out⟩
      ·have hov2: ¬((255:Int)<(y:Int)):=by omega
       have hgz:getG g=(0,[y]):=by
        rw[HGE2.out,if_neg (by simp only[Nat.add_one_sub_one,Nat.reduceSub,Nat.pow_one];omega)]
        simp only[Nat.add_one_sub_one,Nat.reduceSub,bysH,Nat.pow_zero,Nat.div_one]
        rw[Nat.mod_eq_of_lt (by omega)]
       have hgo:=HGO.out _ hgz
       have HGZ:=Lib.hid hgo
       have v1:IntKind.u8.wrap (y:Int)=(y:Int):=u8_small y (by omega)
       have v6:IntKind.i64.wrap ((f:Int)+3)=(f:Int)+3:=IntWalk.i64_in _ (by omega)
       have hm1:j+1≤maxLen:=by unfold maxLen;omega
       have hm2:(j+1)*1≤140737488355328:=by omega
       clear hgo hgz HGE2 HBAD HGO
       go_wp2_with (at_builtin;refine wpList_append_own _ rfl (.tmp 66) (.tmp 69) 30 rfl w.heap.size 5 i0 (.int .u8 0) 1 1 Tryz.underlying30 hi hz0 hz1 hz2 rfl (by decide) _ j (U8 o) rfl (HOW.out.alloc _) ⟨_,0,none⟩ 1 1 [.int .u8 (y:Int)] rfl rfl (cell_one_new _ _ _) (U8_one [y]) hm1 hm2 (by simp;omega) ?_)
       intro v8 w8 hown8 hg8 _
       have HO8:=Lib.hid (show w8.ownsRow w.heap.size 5 1 v8 (o++ [y]).length (U8 (o++ [y])) by
        rw[u8_app,List.length_append, ←HJ.out]
        exact hown8)
       have HB8:=Lib.hid ((HBL.out.alloc HBL.out.size _).grown hg8 (by simp;omega) HGE.out)
       clear hown8 hg8
       go_wp2
       go_roundw
       case rel=>exact⟨k+1,o++ [y],by have:=HF.out;have:=HQ.out;omega,by have:=HF.out;exact congrArg (Value.int .i64) (by omega),HGZ.out.2.symm,by rw[List.length_append, ←HJ.out];simp only[List.length_cons,List.length_nil];omega,HGZ.out.1,HO8.out,HB8.out⟩
       case measure=>simp[intOf];omega
     ·have c1: ¬((q:Int)<(f:Int)+3):=by omega
      have c3:(f:Int)+2<(n:Int):=by omega
      clear hqq
      by_cases hov:65535<y
      ·have hov2:(65535:Int)<(y:Int):=by omega
       obtain⟨rfl,rfl⟩:=HBAD.out 23 (by rw[HGE2.out,if_pos (by simp only[Nat.add_one_sub_one,Nat.reduceSub,Nat.reducePow];omega)]) (by omega)
       clear HGE2 HBAD HGO
       go_wp2
       go_ret2
       exact⟨none,0,rfl,⟨by intro j u hu;simp[U8]at hu,fun _=>rfl,by simp,by omega,by simp⟩,HBL.out⟩
      ·have hov2: ¬((65535:Int)<(y:Int)):=by omega
       obtain⟨q1,hq1⟩: ∃q1,q1=y / 256:=⟨_,rfl⟩
       obtain⟨r1,hr1'⟩: ∃r1,r1=y % 256:=⟨_,rfl⟩
       have hgz:getG g=(0,[q1,r1]):=by
        rw[HGE2.out,if_neg (by simp only[Nat.add_one_sub_one,Nat.reduceSub,Nat.reducePow];omega)]
        simp only[Nat.add_one_sub_one,Nat.reduceSub,bysH,Nat.pow_zero,Nat.div_one,Nat.pow_one]
        rw[←hq1, ←hr1',Nat.mod_eq_of_lt (by omega)]
       have hgo:=HGO.out _ hgz
       have HGZ:=Lib.hid hgo
       have t2:(y:Int).tdiv 256=(q1:Int):=by rw[Int.tdiv_eq_ediv_of_nonneg (by omega)];omega
       have t3:(y:Int).tmod 256=(r1:Int):=by rw[Int.tmod_eq_emod_of_nonneg (by omega)];omega
       have v1:IntKind.u8.wrap (q1:Int)=(q1:Int):=u8_small q1 (by omega)
       have v2:IntKind.u8.wrap (r1:Int)=(r1:Int):=u8_small r1 (by omega)
       have v3:IntKind.i64.wrap (q1:Int)=(q1:Int):=IntWalk.i64_in _ (by omega)
       have v4:IntKind.i64.wrap (r1:Int)=(r1:Int):=IntWalk.i64_in _ (by omega)
       have v6:IntKind.i64.wrap ((f:Int)+3)=(f:Int)+3:=IntWalk.i64_in _ (by omega)
       have hm1:j+2≤maxLen:=by unfold maxLen;omega
       have hm2:(j+2)*1≤140737488355328:=by omega
       clear hgo hgz HGE2 HBAD HGO hq1 hr1'
       go_wp2_with (at_builtin;refine wpList_append_own _ rfl (.tmp 55) (.tmp 62) 30 rfl w.heap.size 5 i0 (.int .u8 0) 1 1 Tryz.underlying30 hi hz0 hz1 hz2 rfl (by decide) _ j (U8 o) rfl (HOW.out.alloc _) ⟨_,0,none⟩ 2 2 [.int .u8 (q1:Int), .int .u8 (r1:Int)] rfl rfl (World.news_of_block (cs:= #[.int .u8 (q1:Int), .int .u8 (r1:Int)]) (t:= 5) (fr:=(0,0)) (heap_alloc_new wr _)) (U8_one [q1,r1]) hm1 hm2 (by simp;omega) ?_)
       intro v8 w8 hown8 hg8 _
       have HO8:=Lib.hid (show w8.ownsRow w.heap.size 5 1 v8 (o++ [q1,r1]).length (U8 (o++ [q1,r1])) by
        rw[u8_app,List.length_append, ←HJ.out]
        exact hown8)
       have HB8:=Lib.hid ((HBL.out.alloc HBL.out.size _).grown hg8 (by simp;omega) HGE.out)
       clear hown8 hg8
       go_wp2
       go_roundw
       case rel=>exact⟨k+1,o++ [q1,r1],by have:=HF.out;omega,by have:=HF.out;exact congrArg (Value.int .i64) (by omega),HGZ.out.2.symm,by rw[List.length_append, ←HJ.out];simp only[List.length_cons,List.length_nil];omega,HGZ.out.1,HO8.out,HB8.out⟩
       case measure=>simp[intOf];omega
  ·have b1: ¬((f:Int)<(n:Int)):=by omega
   obtain rfl:k=m:=by have h1:=(HM.out k);have:=HF.out;omega
   have hval:=getR_all l k (by rw[←HN.out];exact HN3.out) (by rw[←HN.out];exact HM.out) HG.out
   rw[←HO.out]at hval
   obtain⟨rfl,rfl⟩:E=0∧p=o:=by have:=HP.out;rw[hval]at this;exact⟨(Prod.mk.inj this).1.symm,(Prod.mk.inj this).2.symm⟩
   have hplt: ∀x∈p,x<256:=by
    have h9:fgetX l=(0,p):=by unfold fgetX;rw[if_neg (by rw[←HN.out];exact HN3.out)];exact HP.out
    exact getX_lt h9
   obtain⟨A2,c2,rfl,hbs2⟩:=bs_of_own HOW.out hplt
   have HBS:=Lib.hid hbs2
   clear hbs2 hplt hval HGE
   go_wp2
   go_ret2
   exact⟨A2,c2,by rw[HJ.out];rfl,HBS.out,HBL.out⟩
theorem refget_len (n:Nat) (hn:n % 3=1) (h63:n≤9223372036854775807) (A:Option Addr) (c:Nat) (w:World):
  Calls Tryz.prog 88 #[.slice A n c] w fun e w'=>e= .returned (.tuple #[.slice none 0 0, .int .i64 14])∧w=w':=by
 have t1:(n:Int).tmod 3=1:=by rw[Int.tmod_eq_emod_of_nonneg (by omega)];omega
 go_enter Tryz.func88, Tryz.ntmps88
 go_wp2
 go_ret2
 exact⟨rfl,rfl⟩
theorem refget_forty (l:List Nat) (n:Nat) (hn:n=l.length) (hn4:n≤4000) (E:Nat) (p:List Nat) (hp:fgetX l=(E,p)) (A:Option Addr) (c:Nat) (w:World) (hA:Bs w w.heap.size l A c):
  Calls Tryz.prog 88 #[.slice A n c] w fun e w'=> ∃A' c',e= .returned (.tuple #[.slice A' (p.length:Nat) c', .int .i64 (E:Int)])∧Bs w' w'.heap.size p A' c'∧Below w.heap.size w w':=by
 unfold fgetX at hp
 by_cases h3:n % 3=1
 ·rw[if_pos (by rw[←hn];exact h3)]at hp
  obtain⟨rfl,rfl⟩:=Prod.mk.inj hp
  refine(refget_len n h3 (by omega) A c w).mono ?_
  rintro e w1 ⟨rfl,rfl⟩
  exact⟨none,0,rfl,⟨by intro j u hu;simp[U8]at hu,fun _=>rfl,by simp,by omega,by simp⟩,Below.refl _ _⟩
 ·rw[if_neg (by rw[←hn];exact h3)]at hp
  exact refget_in l n hn hn4 h3 E p hp ((n+2) / 3) (fun k=>by omega) A c w hA
end Go.Proofs.YtcnglbliidjnfaaGreatDoor
end
section
namespace Go.Proofs.YtcnglbliidjnfaaGreatDoor
set_option linter.unusedVariables false
open Go.ChangeShapes Go.WideShapes Go.ChangeAt Go.RowKit
theorem bs_part {w:World} {B i y c:Nat} {b:List Nat} {ad:Addr} (h:Bs w B b (some ad) c) (hb:ad.block<B) (hi:i+y≤b.length):Bs w B ((b.drop i).take y) (some (ad.add i)) (c - i):=by
 have hl:=h.len
 have hc:=h.cap
 refine⟨fun k u hu=> ?_,by simp,by rw[List.length_take,List.length_drop];omega,by omega,fun x hx=>h.lt x (List.mem_of_mem_drop (List.mem_of_mem_take hx))⟩
 have hk:k<y:=by
  have:=(List.getElem?_eq_some_iff.1 hu).1
  simp[U8]at this;omega
 obtain⟨ad',e,hlt,hcl⟩:=h.rd (i+k) u (by
  simp only[U8,List.map_take,List.map_drop]at hu⊢
  rwa[List.getElem?_take_of_lt hk,List.getElem?_drop]at hu)
 cases e
 exact⟨_,rfl,by rw[add_block];exact hlt,by rw[Addr.add_add];exact hcl⟩
theorem drop_two {b:List Nat} {i:Nat} (h:i+2≤b.length): ∃x y,b[i]?=some x∧b[i+1]?=some y∧b.drop i=x::y::b.drop (i+2):=by
 refine⟨b[i],b[i+1],List.getElem?_eq_getElem (by omega),List.getElem?_eq_getElem (by omega), ?_⟩
 rw[List.drop_eq_getElem_cons (by omega),List.drop_eq_getElem_cons (i:=i+1) (by omega)]
theorem u8_get {b:List Nat} {i x:Nat} (h:b[i]?=some x):(U8 b)[i]?=some (.int .u8 (x:Int)):=by rw[U8,List.getElem?_map,h];rfl
set_option maxRecDepth 100000 in
set_option maxHeartbeats 1600000 in
theorem refget_tlv (b:List Nat) (n:Nat) (hn:n=b.length) (hn6:n≤1000000) (E:Nat) (L:List Tf) (hg:gotT b=(E,L)) (A:Option Addr) (c:Nat) (w:World) (hA:Bs w w.heap.size b A c):
  Calls Tryz.prog 45 #[.slice A n c] w fun e w'=> ∃A' c',e= .returned (.tuple #[.slice A' (L.length:Nat) c', .int .i64 (E:Int)])∧Ts w' w'.heap.size L A' c'∧Below w.heap.size w w':=by
 have hmc:n≤c:=by have:=hA.len;omega
 have hcc:=hA.cap
 have HN:=Lib.hid hn
 have HG:=Lib.hid hg
 have HA:=Lib.hid hA
 clear hn hg hA
 go_enter Tryz.func45, Tryz.ntmps45
 go_wp2
 go_loopw [4,5,6] (fun v la iv wr=> ∃(k a i:Nat) (M:List TV),iv= .int .i64 i∧la= .int .i64 a∧i≤n∧n - i≤k∧preT (M.map (·.f)) (getT k a (b.drop i))=(E,L)∧wr.ownsRow w.heap.size 77 2 v M.length (flatV M)∧(∀q∈M,Bs wr w.heap.size q.f.val q.S q.c)∧Below w.heap.size w wr∧M.length≤i) (fun _ _ iv _=>n - (intOf iv).toNat)
 case atStart=>exact⟨n,0,0,[],rfl,rfl,Nat.zero_le _,by omega,by rw[show List.map (·.f) ([]:List TV)=[]from rfl,preT_nil,HN.out];exact HG.out,World.ownsRow_lit w #[] 0 (Nat.le_refl _) (by decide) rfl,by simp,below_lit w _ _,by simp⟩
 case round=>
  obtain⟨k,a,i,M,rfl,rfl,hin,hk,hpre,hown,hvals,hbel,hlen⟩:=hrel
  have hsz:=hbel.size
  have HPRE:=Lib.hid hpre
  have HOW:=Lib.hid hown
  have HV:=Lib.hid hvals
  have HBL:=Lib.hid hbel
  have HKK:=Lib.hid hk
  clear hpre hown hvals hbel hk HG
  have i0:(0:Int)≤(i:Int):=by omega
  by_cases hlt:i<n
  ·have b2:(i:Int)<(n:Int):=by omega
   obtain⟨i2,hi2⟩: ∃i2,i2=i+2:=⟨_,rfl⟩
   have wi2:IntKind.i64.wrap ((i:Int)+2)=(i2:Int):=by rw[IntWalk.i64_in _ (by omega)];omega
   by_cases q0:n<i2
   ·have q0':(n:Int)<(i2:Int):=by omega
    have hone: ∃x,b.drop i=[x]:=by
     obtain⟨x,hx⟩:=List.length_eq_one_iff.1 (show(b.drop i).length=1 by rw[List.length_drop, ←HN.out];omega)
     exact⟨x,hx⟩
    obtain⟨x,hx⟩:=hone
    have hpre:=HPRE.out
    rw[hx,getT_one (by have:=HKK.out;omega),preT_bad _ (by decide)]at hpre
    cases hpre
    clear HPRE HKK hx hi2
    go_wp2
    go_ret2
    exact⟨none,0,rfl,Ts.empty _ _,HBL.out⟩
   have q0': ¬(n:Int)<(i2:Int):=by omega
   obtain⟨x,y,hx,hy,hd⟩:=drop_two (b:=b) (i:=i) (by rw[←HN.out];omega)
   obtain⟨ad,rfl,hab,hcx⟩:=HA.out.rd i _ (u8_get hx)
   obtain⟨ad',e,_,hcy⟩:=HA.out.rd (i+1) _ (u8_get hy)
   cases e
   have hx2:=HA.out.lt x (List.mem_of_getElem? hx)
   have hy2:=HA.out.lt y (List.mem_of_getElem? hy)
   obtain⟨i1,hi1⟩: ∃i1,i1=i+1:=⟨_,rfl⟩
   have wi1:IntKind.i64.wrap ((i:Int)+1)=(i1:Int):=by rw[IntWalk.i64_in _ (by omega)];omega
   rw[←hi1]at hcy
   rw[←hi2]at hd
   have c0:=(HBL.out.cell (p:=ad.add i) (by rw[add_block];exact hab)).trans hcx
   have c1:=(HBL.out.cell (p:=ad.add i1) (by rw[add_block];exact hab)).trans hcy
   have wx:IntKind.i64.wrap (x:Int)=(x:Int):=IntWalk.i64_in _ (by omega)
   have wy:IntKind.i64.wrap (y:Int)=(y:Int):=IntWalk.i64_in _ (by omega)
   obtain⟨q,hq⟩: ∃q,q=i2+y:=⟨_,rfl⟩
   have wq:IntKind.i64.wrap ((i2:Int)+(y:Int))=(q:Int):=by rw[IntWalk.i64_in _ (by omega)];omega
   have p1:(0:Int)≤(i1:Int):=by omega
   have p2:(i1:Int)<(n:Int):=by omega
   have HD:=Lib.hid hd
   have hkk:1≤k:=by have:=HKK.out;omega
   have HI2:=Lib.hid hi2
   have HQ:=Lib.hid hq
   have p3:(0:Int)≤(i2:Int):=by omega
   have p4:(i2:Int)≤(q:Int):=by omega
   have p5:i2≤q:=by omega
   clear hx hy hcx hcy hd hi1 hi2 hq
   by_cases q1:x≤a
   ·have q1':(x:Int)≤(a:Int):=by omega
    have hpre:=HPRE.out
    rw[HD.out,getT_order hkk q1,preT_bad _ (by decide)]at hpre
    cases hpre
    clear HPRE HKK
    go_wp2
    go_ret2
    exact⟨none,0,rfl,Ts.empty _ _,HBL.out⟩
   have q1': ¬(x:Int)≤(a:Int):=by omega
   by_cases q2:n<q
   ·have q2':(n:Int)<(q:Int):=by omega
    have hpre:=HPRE.out
    rw[HD.out,getT_over hkk (by omega) (by rw[List.length_drop, ←HN.out];have:=HQ.out;omega),preT_bad _ (by decide)]at hpre
    cases hpre
    clear HPRE HKK
    go_wp2
    go_ret2
    exact⟨none,0,rfl,Ts.empty _ _,HBL.out⟩
   have q2': ¬(n:Int)<(q:Int):=by omega
   have p6:(q:Int)≤(n:Int):=by omega
   have p7:(q:Int)≤(c:Int):=by omega
   have p8:q≤c:=by omega
   have p9:(i2:Int)≤(c:Int):=by omega
   obtain⟨j,rfl⟩: ∃j,k=j+1:=⟨k - 1,by omega⟩
   have hyr:y≤(b.drop i2).length:=by rw[List.length_drop, ←HN.out];have:=HQ.out;omega
   obtain⟨f,hf⟩: ∃f:Tf,f=⟨x,(b.drop i2).take y⟩:=⟨_,rfl⟩
   have hpre:=HPRE.out
   rw[HD.out,getT_step (by omega) hyr, ←hf,List.drop_drop, ←HQ.out]at hpre
   have hsl:q - i2=f.val.length:=by rw[hf];simp only;rw[List.length_take,Nat.min_eq_left hyr,HQ.out];omega
   have HSL:=Lib.hid hsl
   have HF:=Lib.hid (show(x:Int)=f.tag by rw[hf])
   have HFV:=Lib.hid (show f.val=(b.drop i2).take y by rw[hf])
   replace HPRE:=Lib.hid hpre
   have HJ:=Lib.hid (show n - q≤j by have:=HKK.out;have:=HQ.out;have:=HI2.out;omega)
   have HLEN:=Lib.hid (show M.length+1≤q by have:=HQ.out;have:=HI2.out;omega)
   have hM6:M.length≤1000000:=by omega
   have hiq:i<q:=by have:=HI2.out;omega
   have HYQ:=Lib.hid (show i2+y≤b.length by rw[←HN.out];have:=HQ.out;omega)
   clear hpre hsl hf hyr HD
   by_cases q3:c=i2
   ·have hfv:f.val=[]:=List.eq_nil_of_length_eq_zero (by rw[←HSL.out];omega)
    have HFN:=Lib.hid hfv
    clear hfv
    subst q3
    have HCS:=Lib.hid (show(#[.int .i64 (x:Int), .slice (some ad) 0 0]:Array Value)=(⟨f,some ad,0⟩:TV).cells.toArray by rw[HF.out,TV.cells,HFN.out];rfl)
    have HBV:=Lib.hid (show Bs w w.heap.size f.val (some ad) 0 by rw[HFN.out];exact bs_none _ _ _)
    go_wp2_with (at_builtin;refine wpList_append_field_by rfl (.tmp 43) (.tmp 54) rfl wr w.heap.size M.length u4 M ⟨f,some ad,0⟩ (#[.int .i64 (x:Int), .slice (some ad) 0 0]) HCS.out rfl HOW.out wr.heap.size rfl rfl hM6 hsz ?_;intro v3 w3 hown3 hg3)
    have hge: ∀g,u4.ownBlock=some g→w.heap.size≤g:=fun g hg=>own_ge HOW.out hg
    have hb3:Below w.heap.size wr w3:=((Below.refl _ wr).mono hsz).grown hg3 hsz hge
    have HO3:=Lib.hid hown3
    have HBE:=Lib.hid (HBL.out.trans hb3)
    have HV3:=Lib.hid (show∀g∈M++ [(⟨f,some ad,0⟩:TV)],Bs w3 w.heap.size g.f.val g.S g.c from fun g hg=>by
     rcases List.mem_append.1 hg with h|h
     ·exact(HV.out g h).below hb3
     ·rw[List.mem_singleton]at h
      subst h
      exact HBV.out.below HBE.out)
    clear hown3 hg3 hge hb3
    go_wp2
    go_roundw
    case rel=>exact⟨j,x,q,M++ [⟨f,some ad,0⟩],rfl,rfl,by omega,HJ.out,by rw[List.map_append];exact HPRE.out,by rw[List.length_append];exact HO3.out,HV3.out,HBE.out,by rw[List.length_append];exact HLEN.out⟩
    case measure=>simp only[intOf];omega
   ·have HCS:=Lib.hid (show(#[.int .i64 (x:Int), .slice (some (ad.add i2)) (q - i2) (c - i2)]:Array Value)=(⟨f,some (ad.add i2),(c - i2)⟩:TV).cells.toArray by rw[HSL.out,HF.out];rfl)
    have HBV:=Lib.hid (show Bs w w.heap.size f.val (some (ad.add i2)) (c - i2) by rw[HFV.out];exact bs_part HA.out hab HYQ.out)
    go_wp2_with (at_builtin;refine wpList_append_field_by rfl (.tmp 43) (.tmp 54) rfl wr w.heap.size M.length u4 M ⟨f,some (ad.add i2),(c - i2)⟩ (#[.int .i64 (x:Int), .slice (some (ad.add i2)) (q - i2) (c - i2)]) HCS.out rfl HOW.out wr.heap.size rfl rfl hM6 hsz ?_;intro v3 w3 hown3 hg3)
    have hge: ∀g,u4.ownBlock=some g→w.heap.size≤g:=fun g hg=>own_ge HOW.out hg
    have hb3:Below w.heap.size wr w3:=((Below.refl _ wr).mono hsz).grown hg3 hsz hge
    have HO3:=Lib.hid hown3
    have HBE:=Lib.hid (HBL.out.trans hb3)
    have HV3:=Lib.hid (show∀g∈M++ [(⟨f,some (ad.add i2),(c - i2)⟩:TV)],Bs w3 w.heap.size g.f.val g.S g.c from fun g hg=>by
     rcases List.mem_append.1 hg with h|h
     ·exact(HV.out g h).below hb3
     ·rw[List.mem_singleton]at h
      subst h
      exact HBV.out.below HBE.out)
    clear hown3 hg3 hge hb3
    go_wp2
    go_roundw
    case rel=>exact⟨j,x,q,M++ [⟨f,some (ad.add i2),(c - i2)⟩],rfl,rfl,by omega,HJ.out,by rw[List.map_append];exact HPRE.out,by rw[List.length_append];exact HO3.out,HV3.out,HBE.out,by rw[List.length_append];exact HLEN.out⟩
    case measure=>simp only[intOf];omega
  ·obtain rfl:i=n:=by omega
   have hpre:=HPRE.out
   rw[List.drop_eq_nil_of_le (by rw[HN.out];omega),getT_end,preT_end]at hpre
   cases hpre
   obtain⟨A2,c2,e2,hts⟩:=ts_of_own HOW.out (fun q hq=>(HV.out q hq).more hsz)
   have HTS:=Lib.hid hts
   clear HPRE HOW hts
   subst e2
   go_wp2
   go_ret2
   exact⟨A2,c2,by rw[List.length_map];rfl,HTS.out,HBL.out⟩
end Go.Proofs.YtcnglbliidjnfaaGreatDoor
end
section
namespace Go.Proofs.YtcnglbliidjnfaaGreatDoor
set_option linter.unusedVariables false
open Go.ChangeShapes Go.WideShapes Go.ChangeAt Go.RowKit
set_option maxRecDepth 100000 in
set_option maxHeartbeats 1600000 in
theorem rbody_no (s:List Nat) (m:Nat) (hm:m=s.length) (hm4:m≤4000) (B:Option Addr) (d:Nat) (w:World) (hB:Bs w w.heap.size s B d) (E:Nat) (P:List Nat) (hE:fgetX s=(E,P)) (h0:E≠0):Calls Tryz.prog 44 #[.slice B m d] w fun e w'=>e= .returned (.tuple #[.slice none 0 0, .slice none 0 0, .int .i64 (E:Int)])∧Below w.heap.size w w':=by
 have s1:((E:Int)==0)=false:=by rw[beq_eq_false_iff_ne];omega
 have s2:((E:Int) !=0)=true:=by rw[bne_iff_ne];omega
 have s3:(E==0)=false:=by rw[beq_eq_false_iff_ne];exact h0
 have s4:(E !=0)=true:=by rw[bne_iff_ne];exact h0
 have HE:=Lib.hid hE
 clear hE h0
 have HM:=Lib.hid hm
 have HB:=Lib.hid hB
 clear hm hB
 go_enter Tryz.func44, Tryz.ntmps44
 go_wp2_with fail
 refine(refget_forty s m HM.out hm4 E P HE.out B d w HB.out).mono ?_
 rintro e w1 ⟨A1,c1,rfl,hs,hb⟩
 have HBL:=Lib.hid hb
 clear hs hb
 go_wp2
 go_ret3
 exact⟨rfl,HBL.out⟩
set_option maxRecDepth 100000 in
set_option maxHeartbeats 1600000 in
theorem rbody_short (s:List Nat) (m:Nat) (hm:m=s.length) (hm4:m≤4000) (B:Option Addr) (d:Nat) (w:World) (hB:Bs w w.heap.size s B d) (P:List Nat) (hE:fgetX s=(0,P)) (h0:P.length<32):Calls Tryz.prog 44 #[.slice B m d] w fun e w'=>e= .returned (.tuple #[.slice none 0 0, .slice none 0 0, .int .i64 14])∧Below w.heap.size w w':=by
 obtain⟨k,hk⟩: ∃k,P.length=k:=⟨_,rfl⟩
 rw[hk]at h0
 have wz:IntKind.i64.wrap ((k:Int) - 32)=(k:Int) - 32:=IntWalk.i64_in _ (by omega)
 have q1:(k:Int) - 32<0:=by omega
 have q2:decide ((k:Int) - 32<0)=true:=decide_eq_true q1
 have q3:(k:Int)<32:=by omega
 have HK:=Lib.hid hk
 have HE:=Lib.hid hE
 clear hE h0 hk
 have HM:=Lib.hid hm
 have HB:=Lib.hid hB
 clear hm hB
 go_enter Tryz.func44, Tryz.ntmps44
 go_wp2_with fail
 refine(refget_forty s m HM.out hm4 0 P HE.out B d w HB.out).mono ?_
 rintro e w1 ⟨A1,c1,rfl,hs,hb⟩
 have HBL:=Lib.hid hb
 clear hs hb
 rw[HK.out]
 go_wp2
 go_ret3
 exact⟨rfl,HBL.out⟩
set_option maxRecDepth 100000 in
set_option maxHeartbeats 1600000 in
theorem rbody_ok (s:List Nat) (m:Nat) (hm:m=s.length) (hm4:m≤4000) (B:Option Addr) (d:Nat) (w:World) (hB:Bs w w.heap.size s B d) (P:List Nat) (hE:fgetX s=(0,P)) (j:Nat) (hj:P.length=j+32):Calls Tryz.prog 44 #[.slice B m d] w fun e w'=> ∃A1 c1 A2 c2,e= .returned (.tuple #[.slice A1 j c1, .slice A2 32 c2, .int .i64 0])∧Bs w' w'.heap.size (restB P) A1 c1∧Bs w' w'.heap.size (sealB P) A2 c2∧Below w.heap.size w w':=by
 obtain⟨k,hk⟩: ∃k,P.length=k:=⟨_,rfl⟩
 have e32:P.length - 32=j:=by omega
 rw[hk]at hj
 have HK:=Lib.hid hk
 have HE:=Lib.hid hE
 have HJ:=Lib.hid hj
 have H32:=Lib.hid e32
 clear hE hj hk e32
 have HM:=Lib.hid hm
 have HB:=Lib.hid hB
 clear hm hB
 go_enter Tryz.func44, Tryz.ntmps44
 go_wp2_with fail
 refine(refget_forty s m HM.out hm4 0 P HE.out B d w HB.out).mono ?_
 rintro e w1 ⟨A1,c1,rfl,hs,hb⟩
 have HBL:=Lib.hid hb
 have hcap:=hs.cap
 have hlen:=hs.len
 rw[HK.out]at hlen
 obtain⟨a,rfl⟩: ∃a,A1=some a:=by
  rcases A1 with _|a
  ·have h1:=hs.nil rfl
   have h2:=HJ.out
   omega
  ·exact⟨a,rfl⟩
 obtain⟨hs1,hs2⟩:=Bs.split hs j (by have:=HJ.out;have:=HK.out;omega)
 have HS1:=Lib.hid (show Bs w1 w1.heap.size (restB P) (some a) c1 by rw[restB,H32.out];exact hs1)
 have HS2:=Lib.hid (show Bs w1 w1.heap.size (sealB P) (some (a.add j)) (c1 - j) by rw[sealB,H32.out];exact hs2)
 have wz:IntKind.i64.wrap ((k:Int) - 32)=(j:Int):=by
  rw[show(k:Int) - 32=(j:Int) by have:=HJ.out;omega]
  exact IntWalk.i64_in _ (by have:=HJ.out;omega)
 have mc:j≤c1:=by have:=HJ.out;omega
 have mk:j≤k:=by have:=HJ.out;omega
 have nc: ¬c1=j:=by have:=HJ.out;omega
 have m0:(0:Int)≤(j:Int):=by omega
 have m1: ¬((j:Int)<0):=by omega
 have mci:(j:Int)≤(c1:Int):=by omega
 have mki:(j:Int)≤(k:Int):=by omega
 clear hs hb hs1 hs2 hcap hlen
 rw[HK.out]
 go_wp2
 go_region
 all_goals
  go_wp2
  have hd:Below w1.heap.size w1 w1.drew:=below_drewN (Below.refl _ _) 1
  rw[show k - j=32 by have:=HJ.out;omega]
  go_ret3
  exact⟨_,_,_,_,rfl,HS1.out.next hd,HS2.out.next hd,below_drewN HBL.out 1⟩
end Go.Proofs.YtcnglbliidjnfaaGreatDoor
end
section
namespace Go.Proofs.YtcnglbliidjnfaaGreatDoor
set_option linter.unusedVariables false
open Go.ChangeShapes Go.WideShapes Go.ChangeAt Go.RowKit
def NBox (w:World) (X:Nat) (l:List Int):Prop:=w.heap[X]?=some (.cells ((l.map fun x=>Value.int .i64 x).toArray) 3 (0,0))
theorem NBox.lt {w:World} {X:Nat} {l:List Int} (h:NBox w X l):X<w.heap.size:=(Array.getElem?_eq_some_iff.1 h).1
theorem NBox.alloc {w:World} {X:Nat} {l:List Int} (h:NBox w X l) (o:Obj):NBox (w.alloc o) X l:=(heap_alloc_old w o h.lt).trans h
theorem NBox.next {w w':World} {X:Nat} {l:List Int} (h:NBox w X l) (hb:Below w.heap.size w w'):NBox w' X l:=(hb.block _ h.lt).trans h
theorem NBox.set {w:World} {X:Nat} {l:List Int} (h:NBox w X l) (o:Nat) (x:Int):NBox (w.setCell ⟨X,o,none⟩ (.int .i64 x)) X (l.set o x):=by
 have:=heap_setCell_same w X o _ _ (.int .i64 x) h
 rw[NBox,this]
 simp[List.map_set]
theorem NBox.cell {w:World} {X o:Nat} {l:List Int} {x:Int} (h:NBox w X l) (ho:l[o]?=some x):w.cell? ⟨X,o,none⟩=some (.int .i64 x):=by
 rw[cell_of_row w X o _ _ (0,0) h]
 simp[ho]
theorem NBox.frozen {w:World} {X:Nat} {l:List Int} (h:NBox w X l) (o:Nat):w.frozen? ⟨X,o,none⟩=false:=frozen_of_row w X o _ _ h
theorem NBox.cells {w:World} {b:Nat} {r:Rg} (h:NBox w b (numL r)):w.cell? ⟨b,0,none⟩=some (.int .i64 r.ver)∧w.cell? ⟨b,1,none⟩=some (.int .i64 r.key)∧w.cell? ⟨b,2,none⟩=some (.int .i64 r.t.kind)∧w.cell? ⟨b,3,none⟩=some (.int .i64 r.t.ser)∧w.cell? ⟨b,4,none⟩=some (.int .i64 r.t.frm)∧w.cell? ⟨b,5,none⟩=some (.int .i64 r.t.till)∧w.cell? ⟨b,6,none⟩=some (.int .i64 r.t.cls)∧w.cell? ⟨b,7,none⟩=some (.int .i64 r.t.card)∧w.cell? ⟨b,8,none⟩=some (.int .i64 r.t.seat)∧w.cell? ⟨b,9,none⟩=some (.int .i64 r.t.day)∧w.cell? ⟨b,10,none⟩=some (.int .i64 r.t.days)∧w.cell? ⟨b,11,none⟩=some (.int .i64 r.t.uses)∧w.cell? ⟨b,12,none⟩=some (.int .i64 r.t.epoch):=
 ⟨h.cell rfl,h.cell rfl,h.cell rfl,h.cell rfl,h.cell rfl,h.cell rfl,h.cell rfl,h.cell rfl,h.cell rfl,h.cell rfl,h.cell rfl,h.cell rfl,h.cell rfl⟩
theorem nbox_new (w:World) (l:List Int) (cs:Array Value) (h:cs.toList=l.map fun x=>Value.int .i64 x):NBox (w.alloc (.cells cs 3)) w.heap.size l:=by
 have e:cs=(l.map fun x=>Value.int .i64 x).toArray:=by rw[←h]
 rw[e]
 exact heap_alloc_new w _
end Go.Proofs.YtcnglbliidjnfaaGreatDoor
end
