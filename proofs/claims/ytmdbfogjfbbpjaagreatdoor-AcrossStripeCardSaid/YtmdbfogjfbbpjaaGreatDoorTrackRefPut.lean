import Derived.Test.YtmdbfogjfbbpjaaGreatDoorLayPPut0
import Derived.Test.YtmdbfogjfbbpjaaGreatDoorBcdRefPut
import Derived.Test.YtmdbfogjfbbpjaaGreatDoorMacRefBlock
import Derived.Test.YtmdbfogjfbbpjaaGreatDoorTrackPGet
import Derived.Test.YtmdbfogjfbbpjaaGreatDoorRingPFind
import Derived.Test.YtmdbfogjfbbpjaaGreatDoorEqualBytes
import Derived.Test.YtmdbfogjfbbpjaaGreatDoorBarMath
import Derived.Test.YtmdbfogjfbbpjaaGreatDoorStripePDec
import Derived.Test.YtmdbfogjfbbpjaaGreatDoorBarRefTag
import Derived.Test.YtmdbfogjfbbpjaaGreatDoorFortyPGet
import Derived.IntWalk
import Derived.BigRegion
import Derived.Test.YtmdbfogjfbbpjaaGreatDoorFieldsPSmall
set_option maxHeartbeats 2000000
set_option maxRecDepth 100000
set_option linter.unusedVariables false
section
namespace Go.Proofs.YtmdbfogjfbbpjaaGreatDoor
open Go.ChangeShapes Go.WideShapes Go.ChangeAt Go.RowKit
theorem fA (d:List Nat) (n:Nat) (hn:n=d.length) (hn2:n≤1000) (E:Int) (hE:Gl d=E) (p:List Nat) (hP:putL d=p) (A:Option Addr) (c:Nat) (w:World) (hA:Bs w w.heap.size d A c):Calls Tryz.prog 75 #[.slice A n c] w fun e w'=> ∃A' c',e= .returned (.tuple #[.slice A' (p.length:Nat) c', .int .i64 E])∧Bs w' w'.heap.size p A' c'∧Below w.heap.size w w':=by
 obtain⟨i0,hi,hz0,hz1,hz2⟩:=info_parts Gp
 have HN:=Lib.hid hn
 have HA:=Lib.hid hA
 have HE:=Lib.hid hE
 have HP:=Lib.hid hP
 have hn3:n≤9223372036854775807:=by omega
 by_cases h77:77<n
 ·have e21:E=21:=by rw[←hE,Gl,if_pos (by rw[←hn];exact h77)]
  have hp:p=[]:=by rw[←hP,putL,if_neg (by rw[hE,e21];decide)]
  subst e21 hp
  have b0:(77:Int)<(n:Int):=by omega
  clear hn hA hE hP
  go_enter Tryz.func75, Tryz.ntmps75
  go_wp2
  go_ret2
  exact⟨none,0,rfl,⟨by intro k u hu;simp[U8]at hu,fun _=>rfl,by simp,by omega,by simp⟩,Below.refl _ _⟩
 have b77: ¬((77:Int)<(n:Int)):=by omega
 clear hn hA hE hP
 go_enter Tryz.func75, Tryz.ntmps75
 go_wp2
 go_loopw [4,5] (fun v i wr=> ∃k:Nat,k≤n∧i= .int .i64 k∧wr.ownsRow w.heap.size 3 1 v (k+1) (I64 (NZ (11::d.take k)))∧Aw (d.take k)=true∧Below w.heap.size w wr) (fun _ i _=>n - (intOf i).toNat)
 case atStart=>exact⟨0,by omega,rfl,World.ownsRow_lit w #[.int .i64 11] 1 (Nat.le_refl _) (by decide) rfl,rfl,Aa w _ _⟩
 case round=>
  obtain⟨k,hk,rfl,hown,hdg,hbel⟩:=hrel
  have HOW:=Lib.hid hown
  have HBL:=Lib.hid hbel
  have HDG:=Lib.hid hdg
  clear hown hbel hdg
  by_cases hlt:k<n
  ·have hkl:k<d.length:=by rw[←HN.out];exact hlt
   obtain⟨x,hx⟩: ∃x,d[k]?=some x:=⟨_,List.getElem?_eq_getElem hkl⟩
   have hx256:x<256:=HA.out.lt x (List.mem_of_getElem? hx)
   have hU:(U8 d)[k]?=some (.int .u8 (x:Int)):=by simp[U8,hx]
   obtain⟨ad,rfl,hadl,hc0⟩:=HA.out.rd k _ hU
   have hc:wr.cell? (ad.add k)=some (.int .u8 (x:Int)):=(HBL.out.cell (by rw[add_block];exact hadl)).trans hc0
   have HX:=Lib.hid hx
   have b0:(0:Int)≤(k:Int):=by omega
   have b1:(k:Int)<(n:Int):=by omega
   clear hx hkl hU hadl hc0
   by_cases hx9:x≤9
   ·have b2: ¬((9:Int)<(x:Int)):=by omega
    have wx:IntKind.i64.wrap (x:Int)=(x:Int):=IntWalk.i64_in _ (by omega)
    have HST:=Lib.hid (sN HX.out)
    have HD2:=Lib.hid (show Aw (d.take (k+1))=true by rw[Uj HX.out,HDG.out,decide_eq_true hx9];rfl)
    have hm1:k+1+1≤maxLen:=by unfold maxLen;omega
    have hm2:(k+1+1)*8≤140737488355328:=by omega
    have hsz:=HBL.out.size
    go_wp2_with (at_builtin;refine wpList_append_own _ rfl (.tmp 23) (.tmp 29) 105 rfl w.heap.size 3 i0 (.int .i64 0) 1 8 Tryz.underlying105 hi hz0 hz1 hz2 rfl (by decide) _ (k+1) (I64 (NZ (11::d.take k))) rfl (HOW.out.alloc _) ⟨_,0,none⟩ 1 1 (I64 [(x:Int)]) rfl rfl (Gq _ _) (Fw _) hm1 hm2 (by simp;omega) ?_)
    intro v8 w8 hown8 hg8 _
    have HO8:=Lib.hid (show w8.ownsRow w.heap.size 3 1 v8 (k+1+1) (I64 (NZ (11::d.take (k+1)))) by
     rw[HST.out,Ba]
     exact hown8)
    have HB8:=Lib.hid ((HBL.out.alloc HBL.out.size _).grown hg8 (by simp;omega) (fun p hp=>Ak HOW.out hp))
    clear hown8 hg8 HOW HBL hc
    go_wp2
    go_roundw
    case rel=>exact⟨k+1,by omega,by go_num,HO8.out,HD2.out,HB8.out⟩
    case measure=>simp[intOf];omega
   ·have b2:(9:Int)<(x:Int):=by omega
    have hbad:=Xd HX.out hx9
    have e7:E=7:=by rw[←HE.out,Gl,if_neg (by rw[←HN.out];exact h77),if_neg (by rw[hbad];decide)]
    have hp:p=[]:=by rw[←HP.out,putL,if_neg (by rw[HE.out,e7];decide)]
    subst e7 hp
    clear hbad hlt
    go_wp2
    go_ret2
    exact⟨none,0,rfl,⟨by intro k u hu;simp[U8]at hu,fun _=>rfl,by simp,by omega,by simp⟩,HBL.out⟩
  ·have e:k=n:=by omega
   have hb: ¬((k:Int)<(n:Int)):=by omega
   have ht:d.take k=d:=by rw[e,HN.out,List.take_length]
   rw[ht]at HOW HDG
   have e0:E=0:=by rw[←HE.out,Gl,if_neg (by rw[←HN.out];exact h77),if_pos HDG.out]
   have hE0:Gl d=0:=HE.out.trans e0
   have hp:p=packL (Ap (trackV d)):=by rw[←HP.out,putL,if_pos hE0]
   have hpl:(packL (Ap (trackV d))).length=(5*(n+3)+7) / 8:=by rw[Hq,Fy,Lc, ←HN.out]
   subst e0 e hp
   have HPL:=Lib.hid hpl
   have HP1:=Lib.hid (sO d)
   have HP2:=Lib.hid (Aex d)
   obtain⟨x,hx⟩: ∃x,xorL (putVals d)=x:=⟨_,rfl⟩
   have HX:=Lib.hid hx
   rw[hx]at HP2
   have hm1:k+1+1≤maxLen:=by unfold maxLen;omega
   have hm2:(k+1+1)*8≤140737488355328:=by omega
   have hm3:k+2+1≤maxLen:=by unfold maxLen;omega
   have hm4:(k+2+1)*8≤140737488355328:=by omega
   have hsz:=HBL.out.size
   clear ht hlt hx hpl hE0 HP
   go_wp2_with (at_builtin;refine wpList_append_own _ rfl (.tmp 31) (.tmp 32) 105 rfl w.heap.size 3 i0 (.int .i64 0) 1 8 Tryz.underlying105 hi hz0 hz1 hz2 rfl (by decide) _ (k+1) (I64 (NZ (11::d))) rfl (HOW.out.alloc _) ⟨_,0,none⟩ 1 1 (I64 [15]) rfl rfl (Gq _ _) (Fw _) hm1 hm2 (by simp;omega) ?_)
   intro v8 w8 hown8 hg8 _
   have HO8:=Lib.hid (show w8.ownsRow w.heap.size 3 1 v8 (k+2) (I64 (NZ (putVals d))) by
    rw[HP1.out,Ba]
    exact hown8)
   have HB8:=Lib.hid ((HBL.out.alloc HBL.out.size _).grown hg8 (by simp;omega) (fun p hp=>Ak HOW.out hp))
   clear hown8 hg8 HOW HBL
   obtain⟨A8,c8,hv8,hl8,hz8⟩:=Bo HO8.out
   subst hv8
   have HZ8:=Lib.hid hz8
   have HL8:=Lib.hid (show k+2=(putVals d).length by rw[hl8,Pr])
   clear hz8 hl8
   have hsz8:=HB8.out.size
   have hsz8':=HZ8.out.len
   go_wp2_with (first|(go_at_call 127;refine(Je _ _ (show k+2=(NZ (putVals d)).length by rw[Pr];exact HL8.out) _ _ (x:Int) 0 (by rw[(fE (Uk HDG.out)).1,HX.out]) (fE (Uk HDG.out)).2 _ HZ8.out).mono ?_;rintro e w10 ⟨rfl,rfl⟩)|(at_builtin;refine wpList_append_own _ rfl (.tmp 39) (.tmp 41) 105 rfl w.heap.size 3 i0 (.int .i64 0) 1 8 Tryz.underlying105 hi hz0 hz1 hz2 rfl (by decide) _ (k+2) (I64 (NZ (putVals d))) rfl (HO8.out.alloc _) ⟨_,0,none⟩ 1 1 (I64 [(x:Int)]) rfl rfl (Gq _ _) (Fw _) hm3 hm4 (by simp;omega) ?_))
   intro v9 w9 hown9 hg9 _
   have HO9:=Lib.hid (show w9.ownsRow w.heap.size 3 1 v9 (k+3) (I64 (NZ (trackV d))) by
    rw[HP2.out,Ba]
    exact hown9)
   have HB9:=Lib.hid ((HB8.out.alloc HB8.out.size _).grown hg9 (by simp;omega) (fun p hp=>Ak HO8.out hp))
   clear hown9 hg9 HO8 HB8 HZ8
   obtain⟨A9,c9,hv9,hl9,hz9⟩:=Bo HO9.out
   subst hv9
   have HZ9:=Lib.hid hz9
   have HL9:=Lib.hid (show k+3=(trackV d).length by rw[hl9,Pr])
   have HC9:=Lib.hid (show 5*(k+3)=(Ap (trackV d)).length by rw[Fy, ←HL9.out])
   clear hz9 hl9
   have hb5:5*(k+3)≤5000:=by omega
   have hk3:k+3≤2000:=by omega
   go_wp2_with (first|(go_at_call 129;refine(fS (trackV d) (Aew HDG.out) (k+3) HL9.out hk3 A9 c9 _ HZ9.out).mono ?_;rintro e w11 ⟨A11,c11,rfl,hvs,hb11⟩;replace HB9:=Lib.hid (HB9.out.trans (hb11.mono HB9.out.size));clear hb11)|(go_at_call 128;refine(Kb (Ap (trackV d)) (5*(k+3)) HC9.out (by omega) A11 c11 _ hvs).mono ?_;rintro e w12 ⟨A12,c12,rfl,hbs,hb12⟩))
   go_ret2
   exact⟨_,_,by rw[HPL.out];rfl,hbs,HB9.out.trans (hb12.mono HB9.out.size)⟩
theorem pF (a b:List Nat):U8 a++U8 b=U8 (a++b):=by simp[U8]
theorem AaO (l:List K) (n:Nat) (hn:n=l.length) (hn3:n≤9223372036854775807) (A:Option Addr) (c:Nat) (r:Rg) (hin:InR r) (E:Int) (p:List Nat) (hE:Im l r=(E,p)) (w:World) (hA:Ks w w.heap.size A l):Calls Tryz.prog 30 #[.slice A n c, .agg #[.int .i64 r.t.ser, .int .i64 r.t.kind, .int .i64 r.t.frm, .int .i64 r.t.till, .int .i64 r.t.cls, .int .i64 r.t.card, .int .i64 r.t.seat, .int .i64 r.t.day, .int .i64 r.t.days, .int .i64 r.t.uses, .int .i64 r.t.epoch, .int .i64 r.key, .int .i64 r.left, .int .i64 r.inn, .int .i64 r.ver]] w fun e w'=> ∃A' c',e= .returned (.tuple #[.slice A' (p.length:Nat) c', .int .i64 E])∧Bs w' w'.heap.size p A' c'∧Below w.heap.size w w':=by
 obtain⟨b0,h1⟩: ∃b0,isR l=b0:=⟨_,rfl⟩
 have HN:=Lib.hid hn
 have HA:=Lib.hid hA
 have HI:=Lib.hid hin
 have HE:=Lib.hid hE
 have H1:=Lib.hid h1
 clear hn hA hin hE h1
 have HBL:=Lib.hid (Below.refl w.heap.size w)
 go_enter Tryz.func30, Tryz.ntmps30
 go_wp2_with fail
 obtain⟨w1,hw,hx,hb⟩:=El w r
 rw[←hw]
 replace HA:=Lib.hid (HA.out.next hb)
 replace HBL:=Lib.hid (HBL.out.trans (hb.mono HBL.out.size))
 have X1:=Lib.hid hx
 clear hx hb hw
 obtain⟨B1,hB⟩: ∃B,B=w.heap.size:=⟨_,rfl⟩
 rw[←hB]at X1⊢
 clear hB
 refine(Gd l n HN.out b0 H1.out A c w1 HA.out hn3).mono ?_
 rintro e w2 ⟨rfl,hb⟩
 replace HA:=Lib.hid (HA.out.next hb)
 replace X1:=Lib.hid (X1.out.next hb)
 replace HBL:=Lib.hid (HBL.out.trans (hb.mono HBL.out.size))
 clear hb
 have hE:=HE.out
 clear HE
 cases b0
 focus
  rw[Im,if_pos H1.out]at hE
  obtain⟨rfl,rfl⟩:=Prod.mk.inj hE
 rotate_left
 focus
  rw[Im,if_neg (by rw[H1.out];decide)]at hE
  obtain⟨G,P,hP⟩: ∃G P,lputX r=(G,P):=⟨_,_,rfl⟩
  rw[hP]at hE
  simp only at hE
  have HP:=Lib.hid hP
  have HE:=Lib.hid hE
  clear hE hP
  obtain⟨c0,c1,c2,c3,c4,c5,c6,c7,c8,c9,c10,c11,c12,c13,c14⟩:=X1.out.cells
  go_wp2_with fail
  refine(xK r HI.out G P HP.out w2).mono ?_
  rintro e w3 ⟨AP1,cP1,rfl,hs,hb⟩
  clear c0 c1 c2 c3 c4 c5 c6 c7 c8 c9 c10 c11 c12 c13 c14
  replace HA:=Lib.hid (HA.out.next hb)
  replace X1:=Lib.hid (X1.out.next hb)
  replace HBL:=Lib.hid (HBL.out.trans (hb.mono HBL.out.size))
  have P1:=Lib.hid hs
  clear hb hs
  have hE:=HE.out
  clear HE
  by_cases h2:G≠0
  focus
   rw[if_pos h2]at hE
   have s1:(G==0)=false:=by rw[beq_eq_false_iff_ne];exact h2
   have s2:(G !=0)=true:=by rw[bne_iff_ne];exact h2
   obtain⟨rfl,rfl⟩:=Prod.mk.inj hE
   clear h2
  rotate_left
  focus
   obtain rfl:=Decidable.not_not.1 h2
   rw[if_neg h2]at hE
   clear h2
   obtain⟨q,hq⟩: ∃q,q=Bn l r.key:=⟨_,rfl⟩
   obtain⟨F0,hF0⟩: ∃F0,F0=As l r.key:=⟨_,rfl⟩
   rw[←hF0]at hE
   have HQ:=Lib.hid hq
   have HF0:=Lib.hid hF0
   have HE:=Lib.hid hE
   clear hE hq hF0
   obtain⟨c0,c1,c2,c3,c4,c5,c6,c7,c8,c9,c10,c11,c12,c13,c14⟩:=X1.out.cells
   go_wp2_with fail
   refine(Ju l n HN.out r.key A c w3 HA.out hn3 q F0 HQ.out HF0.out).mono ?_
   rintro e w4 ⟨S,cc,rfl,hs,hb⟩
   clear c0 c1 c2 c3 c4 c5 c6 c7 c8 c9 c10 c11 c12 c13 c14
   replace HA:=Lib.hid (HA.out.next hb)
   replace X1:=Lib.hid (X1.out.next hb)
   replace P1:=Lib.hid (P1.out.next hb)
   replace HBL:=Lib.hid (HBL.out.trans (hb.mono HBL.out.size))
   have FS:=Lib.hid hs
   clear hb hs
   have hE:=HE.out
   clear HE
   by_cases h3:F0≠0
   focus
    rw[if_pos h3]at hE
    have s1:(F0==0)=false:=by rw[beq_eq_false_iff_ne];exact h3
    have s2:(F0 !=0)=true:=by rw[bne_iff_ne];exact h3
    obtain⟨rfl,rfl⟩:=Prod.mk.inj hE
    clear h3
   rotate_left
   focus
    obtain rfl:=Decidable.not_not.1 h3
    rw[if_neg h3]at hE
    have hPL:P.length≤40:=Ny HP.out
    obtain⟨T,hTg⟩: ∃T,tagS (Bn l r.key).sec P=T:=⟨_,rfl⟩
    obtain⟨L,hL⟩: ∃L,P++T=L:=⟨_,rfl⟩
    obtain⟨hX1,hX2⟩:=Prod.mk.inj hE
    rw[Lr,HP.out]at hX1 hX2
    simp only at hX1 hX2
    rw[hTg,hL]at hX1 hX2
    have hTL:T.length=10:=by rw[←hTg];exact Ko _ _
    have hTT: ∀x∈T,x<256:=by rw[←hTg];exact eX _ _
    have HLT:=Lib.hid (show∀x∈L,x<256 by rw[←hL];intro x hx;exact(List.mem_append.1 hx).elim (AdV HP.out x) (hTT x))
    obtain⟨k,hk⟩: ∃k,k=L.length:=⟨_,rfl⟩
    have hk2:0<k∧k≤50:=by rw[hk, ←hL,List.length_append];omega
    have HPL:=Lib.hid hPL
    have HTG:=Lib.hid hTg
    have HL:=Lib.hid hL
    have HX1:=Lib.hid hX1
    have HX2:=Lib.hid hX2
    have HTL:=Lib.hid hTL
    have HTT:=Lib.hid hTT
    have HK:=Lib.hid hk
    have HK2:=Lib.hid hk2
    have H64:=Lib.hid (Iw HF0.out.symm)
    obtain⟨i0,hi,hz0,hz1,hz2⟩:=info_parts Be
    have h64:0+P.length≤maxLen:=by unfold maxLen;omega
    have h68:0+P.length+10≤maxLen:=by unfold maxLen;omega
    have h65:P.length≤40:=hPL
    clear hE h3 hTg hL hX1 hX2 hTL hTT hk hk2
    go_wp2_with (at_builtin;go_loud (obtain⟨w50,hw⟩: ∃w50,w50=w4.alloc (.cells #[.int .i64 q.id, .slice S q.sec.length cc, .int .i64 q.frm, .int .i64 q.til] 44):=⟨_,rfl⟩;have hs5:w4.heap.size+1=w50.heap.size:=(by rw[hw];simp);rw[←hw,hs5];have HX:=Lib.hid (show Box w50 w4.heap.size ⟨q,S,cc⟩ by rw[hw];exact(rV w4 ⟨q,S,cc⟩ FS.out).1);have hb0:Below w4.heap.size w4 w50:=(by rw[hw];exact Aa w4 _ _);replace HA:=Lib.hid (HA.out.next hb0);replace X1:=Lib.hid (X1.out.next hb0);replace P1:=Lib.hid (P1.out.next hb0);replace FS:=Lib.hid (FS.out.next hb0);replace HBL:=Lib.hid (HBL.out.trans (hb0.mono HBL.out.size));clear hw hs5 hb0;have HB0:=Lib.hid (Aa w50 #[] 5);have HOWN:=Lib.hid (show(w50.alloc (.cells #[] 5)).ownsRow w50.heap.size 5 1 (.slice (some ⟨w50.heap.size,0,none⟩) 0 0) 0 []from World.ownsRow_lit w50 #[] 0 (Nat.le_refl _) (by decide) rfl);have HPW:=Lib.hid (P1.out.next HB0.out);have hbs:=HB0.out.size;refine Af _ rfl (.tmp 35) (.tmp 36) 23 rfl w50.heap.size 5 i0 (.int .u8 0) 1 Tryz.underlying23 hi hz0 hz1 hz2 rfl (.slice (some ⟨w50.heap.size,0,none⟩) 0 0) 0 [] rfl HOWN.out _ AP1 P.length cP1 (U8 P) rfl HPW.out.rd (by simp[U8]) HPW.out.nil (Bd P) h64 (by omega) hbs ?_;intro v6 w60 hown6 hg6;have hb:Below w50.heap.size w50 w60:=HB0.out.grown hg6 HB0.out.size (fun p hp=>by cases hp;exact Nat.le_refl _);replace HA:=Lib.hid (HA.out.next hb);replace X1:=Lib.hid (X1.out.next hb);replace P1:=Lib.hid (P1.out.next hb);replace FS:=Lib.hid (FS.out.next hb);replace HX:=Lib.hid (HX.out.next hb);have HBK:=Lib.hid (show w.heap.size≤w50.heap.size∧w50.heap.size≤w60.heap.size from⟨HBL.out.size,hb.size⟩);replace HBL:=Lib.hid (HBL.out.trans (hb.mono HBL.out.size));have HO6:=Lib.hid hown6;clear hown6 hg6 hb HB0 HOWN HPW hbs;have k1:=cell_of_row _ _ 1 _ _ _ HX.out.1))
    refine(mY q.sec P q.sec.length P.length rfl rfl S AP1 cc cP1 w60 FS.out P1.out (by have:=H64.out;rw[←HQ.out]at this;omega) (by omega) T (by rw[HQ.out];exact HTG.out)).mono ?_
    rintro e w70 ⟨g,cap,rfl,hs,hb⟩
    clear k1
    have HO7:=Lib.hid (Aj HO6.out hb)
    replace HBK:=Lib.hid (show w.heap.size≤w50.heap.size∧w50.heap.size≤w70.heap.size from⟨HBK.out.1,Nat.le_trans HBK.out.2 hb.size⟩)
    replace HA:=Lib.hid (HA.out.next hb)
    replace X1:=Lib.hid (X1.out.next hb)
    replace P1:=Lib.hid (P1.out.next hb)
    replace FS:=Lib.hid (FS.out.next hb)
    replace HX:=Lib.hid (HX.out.next hb)
    replace HBL:=Lib.hid (HBL.out.trans (hb.mono HBL.out.size))
    have G:=Lib.hid hs
    clear hb hs HO6
    have H66:=Lib.hid (fun p (hp:v6.ownBlock=some p)=>Ak HO7.out hp)
    go_wp2_with (at_builtin;go_loud (refine Af _ rfl (.tmp 39) (.tmp 43) 23 rfl w50.heap.size 5 i0 (.int .u8 0) 1 Tryz.underlying23 hi hz0 hz1 hz2 rfl v6 (0+P.length) ([]++U8 P) rfl HO7.out _ _ 10 cap (U8 T) rfl G.out (by simp[U8,HTL.out]) (fun h=>by cases h) (Bd T) h68 (by omega) HBK.out.2 ?_;intro v8 w80 hown8 hg8;have HB8:=Lib.hid (HBL.out.grown hg8 HBL.out.size (fun p hp=>Nat.le_trans HBK.out.1 (H66.out p hp)));rw[List.nil_append,pF,HL.out]at hown8;obtain⟨AL,cL,rfl,hs8⟩:=Av hown8 HLT.out;have HS8:=Lib.hid hs8;clear hown8 hg8 hs8))
    refine(fA L (P.length+10) (by rw[←HL.out,List.length_append,HTL.out]) (by omega) E HX1.out p HX2.out AL cL w80 HS8.out).mono ?_
    rintro e w90 ⟨AO,cO,rfl,hs,hb⟩
    have HS9:=Lib.hid hs
    have HB9:=Lib.hid (HB8.out.trans (hb.mono HB8.out.size))
    clear hs hb
    go_wp2
    go_ret2
    exact⟨_,_,rfl,HS9.out,HB9.out⟩
 all_goals
  go_wp2
  go_ret2
  first|exact⟨none,0,rfl,Do _ _,HBL.out⟩|exact⟨none,0,rfl,Do _ _,HBL.out.trans ((Aa _ _ _).mono HBL.out.size)⟩

end Go.Proofs.YtmdbfogjfbbpjaaGreatDoor
end
section
namespace Go.Proofs.YtmdbfogjfbbpjaaGreatDoor
set_option linter.unusedSimpArgs false
open Go.ChangeShapes Go.WideShapes Go.ChangeAt Go.RowKit
theorem kI {l:List Nat} {k:Nat} (h:Ii l (List.range k)) (hk:(Ck (grp l 3 k)).1=0):Ii l (List.range (k+1)):=by rw[List.range_succ];exact Yl h hk
theorem pG (l:List Nat) (k:Nat):outG l (List.range (k+1))=outG l (List.range k)++(Ck (grp l 3 k)).2:=by rw[List.range_succ];exact dC l _ k
theorem Afe {l:List Nat} {sz k j x:Nat} (hj:j<sz) (h:l[sz*k+j]?=some x):(grp l sz k)[j]?=some x:=by
 rw[grp,List.getElem?_take_of_lt hj,List.getElem?_drop];exact h
theorem vX (l:List Nat) (n:Nat) (hn:n=l.length) (hn4:n≤4000) (hn3:n % 3≠1) (E:Nat) (p:List Nat) (hp:Cv l=(E,p)) (m:Nat) (hm: ∀k,k<m↔3*k<n) (A:Option Addr) (c:Nat) (w:World) (hA:Bs w w.heap.size l A c):
  Calls Tryz.prog 124 #[.slice A n c] w fun e w'=> ∃A' c',e= .returned (.tuple #[.slice A' (p.length:Nat) c', .int .i64 (E:Int)])∧Bs w' w'.heap.size p A' c'∧Below w.heap.size w w':=by
 obtain⟨i0,hi,hz0,hz1,hz2⟩:=info_parts Be
 have HN:=Lib.hid hn
 have HP:=Lib.hid hp
 have HM:=Lib.hid hm
 have HA:=Lib.hid hA
 have HN3:=Lib.hid hn3
 obtain⟨r,hr⟩: ∃r,r=n % 3:=⟨_,rfl⟩
 have t1:(n:Int).tmod 3=(r:Int):=by rw[Int.tmod_eq_emod_of_nonneg (by omega)];omega
 have hr1:((r:Int)==1)=false:=by rw[beq_eq_false_iff_ne];omega
 have w1':IntKind.i64.wrap (r:Int)=(r:Int):=IntWalk.i64_in _ (by omega)
 have hmn:3*m≤n+2:=by
  rcases Nat.eq_zero_or_pos m with h|h
  ·omega
  ·have:=(hm (m - 1)).1 (by omega);omega
 have hmn2:n≤3*m:=by
  rcases Nat.lt_or_ge (3*m) n with h|h
  ·have:=(hm m).2 h;omega
  ·exact h
 clear hn hp hA hr hn3 hm
 go_enter Tryz.func124, Tryz.ntmps124
 go_wp2
 go_loopw [4,5,6,7,8,9] (fun v i _ _ _ _ wr=> ∃(k:Nat) (o:List Nat),k≤m∧i= .int .i64 ((3*k:Nat):Int)∧o=outG l (List.range k)∧o.length≤2*k∧Ii l (List.range k)∧wr.ownsRow w.heap.size 5 1 v o.length (U8 o)∧Below w.heap.size w wr) (fun _ i _ _ _ _ _=>n+3 - (intOf i).toNat)
 case atStart=>exact⟨0,[],by omega,rfl,rfl,by simp,fun k hk=>by simp at hk,World.ownsRow_lit w #[] 0 (Nat.le_refl _) (by decide) rfl,(Below.refl _ _).alloc (Nat.le_refl _) _⟩
 case round=>
  obtain⟨k,o,hk,rfl,ho,hol,hgood,hown,hbel⟩:=hrel
  obtain⟨f,hf⟩: ∃f,f=3*k:=⟨_,rfl⟩
  rw[←hf]
  have HO:=Lib.hid ho
  have HOW:=Lib.hid hown
  have HBL:=Lib.hid hbel
  have HF:=Lib.hid hf
  have HG:=Lib.hid hgood
  clear ho hown hbel hgood
  have hge: ∀g,u4.ownBlock=some g→w.heap.size≤g:=fun g hg=>Ak HOW.out hg
  have HGE:=Lib.hid hge
  obtain⟨j,hj⟩: ∃j,j=o.length:=⟨_,rfl⟩
  rw[←hj]at HOW hol
  have HJ:=Lib.hid hj
  have hbs:=HBL.out.size
  clear hj hge
  by_cases hlt:f<n
  ·have b0:(0:Int)≤(f:Int):=by omega
   have b1:(f:Int)<(n:Int):=by omega
   have wf3:IntKind.i64.wrap ((f:Int)+3)=(f:Int)+3:=IntWalk.i64_in _ (by omega)
   have hgl:=gH l 3 k (by rw[←HN.out, ←hf];exact hlt)
   rw[←HN.out, ←hf]at hgl
   obtain⟨g,hgg⟩: ∃g,g=grp l 3 k:=⟨_,rfl⟩
   rw[←hgg]at hgl
   obtain⟨d,hd⟩: ∃d,d=g.length:=⟨_,rfl⟩
   have hd23:d=2∨d=3:=by
    have h3:=HN3.out
    rw[hd,hgl,eOf]
    split<;>omega
   have hdn:f+d≤n:=by rw[hd,hgl,eOf];split<;>omega
   have hdm:d=3∨f+d=n:=by rw[hd,hgl,eOf];split<;>omega
   have hgp:=dB g (by rw[←hd];exact hd23)
   rw[←hd]at hgp
   have hgat: ∀j,j<d→ ∃x,g[j]?=some x∧l[f+j]?=some x:=fun j hj=>by
    have h1:f+j<l.length:=by rw[←HN.out];omega
    refine⟨l[f+j], ?_,List.getElem?_eq_getElem h1⟩
    rw[hgg]
    exact Afe (by omega) (by rw[←hf];exact List.getElem?_eq_getElem h1)
   have HGAT:=Lib.hid hgat
   have HGP:=Lib.hid hgp
   have HD:=Lib.hid hd
   have HGG:=Lib.hid hgg
   have hns:=cZ g (by omega)
   clear hgl hgp hgat hgg hd hf
   have hbad: ∀e,Ck g=(e,[])→e≠0→E=e∧p=[]:=fun e he h0=>by
    have h3:3*k<l.length:=by rw[←HN.out];have:=HF.out;omega
    have h4:=Tq l k (by rw[←HN.out];exact HN3.out) h3 HG.out (by rw[←HGG.out,he];exact h0)
    rw[←HGG.out,he,HP.out]at h4
    exact⟨(Prod.mk.inj h4).1,(Prod.mk.inj h4).2⟩
   have hgo: ∀b,Ck g=(0,b)→Ii l (List.range (k+1))∧outG l (List.range (k+1))=o++b:=fun b hb=>
    ⟨kI HG.out (by rw[←HGG.out,hb]),by rw[pG, ←HGG.out,hb,HO.out]⟩
   have HBAD:=Lib.hid hbad
   have HGO:=Lib.hid hgo
   clear hbad hgo
   go_wp2
   go_loop [6,7,8,9] (fun t b q _=> ∃i:Nat,i≤d∧t= .int .i64 (nS (g.take i):Nat)∧b= .int .i64 (45^i:Nat)∧q= .int .i64 ((f+i:Nat):Int)∧okL (g.take i)=true) (fun _ _ q _=>f+3 - (intOf q).toNat)
   case atStart=>exact⟨0,by omega,rfl,rfl,rfl,rfl⟩
   case round=>
    obtain⟨i,hid,rfl,rfl,rfl,hok⟩:=hrel
    have HOK:=Lib.hid hok
    obtain⟨q,hq⟩: ∃q,q=f+i:=⟨_,rfl⟩
    rw[←hq]
    have HQ:=Lib.hid hq
    clear hok hq
    by_cases hlt2:i<d
    ·obtain⟨x,hgx,hlx⟩:=HGAT.out i hlt2
     rw[←HQ.out]at hlx
     have hx2:x<256:=HA.out.lt x (List.mem_of_getElem? hlx)
     obtain⟨ad,rfl,hb0,hc⟩:=(HA.out.below HBL.out).rd q (.int .u8 (x:Int)) (by rw[U8,List.getElem?_map,hlx];rfl)
     have hqq:=HQ.out
     have c0:(0:Int)≤(q:Int):=by omega
     have c1:(q:Int)<(f:Int)+3:=by omega
     have c2:(q:Int)<(n:Int):=by omega
     have hl:=cZ (g.take i) (by rw[List.length_take, ←HD.out];omega)
     have hl2:=cZ (g.take (i+1)) (by rw[List.length_take, ←HD.out];omega)
     have hst:nS (g.take (i+1))=nS (g.take i)+45^i*vl x:=by rw[Fg hgx,gG,List.length_take,Nat.min_eq_left (by rw[←HD.out];omega)]
     have hp45:45^i≤2025:=Nat.le_trans (Nat.pow_le_pow_right (by omega) (show i≤2 by omega)) (by decide)
     have hp2:45^(i+1)=45^i*45:=Nat.pow_succ 45 i
     have hokn:okL (g.take (i+1))=Ee x:=by rw[Fg hgx,mJ,HOK.out,Bool.true_and]
     have HOKN:=Lib.hid hokn
     have HP2:=Lib.hid hp2
     rw[hst]at hl2
     have HST:=Lib.hid hst
     have HGX:=Lib.hid hgx
     clear hgx hlx hst hp2 hokn hqq
     generalize nS (g.take i)=a at*
     generalize 45^i=pw at*
     cases hs:Ee x with
     |true=>
      have hsi:sgI x=((vl x:Nat):Int):=by rw[sgI,hs];rfl
      have hsg:=Uh x hx2 _ hsi wr
      have HSG:=Lib.hid hsg
      have hvl:=Mu hs
      have HS:=Lib.hid hs
      clear hs hsi hsg
      generalize vl x=y at*
      obtain⟨z,hz⟩: ∃z,z=pw*y:=⟨_,rfl⟩
      rw[←hz]at HST hl2
      have hpm:(pw:Int)*(y:Int)=(z:Int):=by rw[hz];push_cast;rfl
      have v1:IntKind.i64.wrap (z:Int)=(z:Int):=IntWalk.i64_in _ (by omega)
      have v2:IntKind.i64.wrap ((a:Int)+(z:Int))=(a:Int)+(z:Int):=IntWalk.i64_in _ (by omega)
      have v3:IntKind.i64.wrap ((pw:Int)*45)=(pw:Int)*45:=IntWalk.i64_in _ (by omega)
      have v4:IntKind.i64.wrap ((q:Int)+1)=(q:Int)+1:=IntWalk.i64_in _ (by omega)
      have v5: ¬((y:Int)<0):=by omega
      clear hz
      go_wp2_with (go_at_call 175;refine HSG.out.mono ?_;rintro e w1 ⟨rfl,rfl⟩)
      go_round
      case rel=>exact⟨i+1,by omega,by rw[HST.out];go_num,by rw[HP2.out];go_num,by have:=HQ.out;exact congrArg (Value.int .i64) (by omega),by rw[HOKN.out];exact HS.out⟩
      case measure=>simp[intOf];omega
     |false=>
      have hsi:sgI x= -1:=by rw[sgI,hs];rfl
      have hsg:=Uh x hx2 _ hsi wr
      have HSG:=Lib.hid hsg
      obtain⟨rfl,rfl⟩:=HBAD.out 7 (by rw[HGP.out,if_pos (tL HGX.out hs)]) (by omega)
      clear hs hsi hsg HST HP2 HOKN HOK HGX
      go_wp2_with (go_at_call 175;refine HSG.out.mono ?_;rintro e w1 ⟨rfl,rfl⟩)
      go_ret2
      exact⟨none,0,rfl,⟨by intro j u hu;simp[U8]at hu,fun _=>rfl,by simp,by omega,by simp⟩,HBL.out⟩
    ·obtain rfl:i=d:=by omega
     have etk:g.take i=g:=List.take_of_length_le (by rw[←HD.out];omega)
     have hok2:=HOK.out
     rw[etk]at hok2⊢
     have hge:Ck g=if nS g / 256^(i - 1)≠0 then(23,[])else(0,bysH (nS g) (i - 1)):=by rw[HGP.out,hok2,if_neg (by simp)]
     have HGE2:=Lib.hid hge
     have hqq:=HQ.out
     have wf2:IntKind.i64.wrap ((f:Int)+2)=(f:Int)+2:=IntWalk.i64_in _ (by omega)
     have hj4:j≤8000:=by omega
     clear etk hok2 hge HOK HGP
     generalize nS g=y at*
     generalize 45^i=pw at*
     rcases hd23 with rfl|rfl
     ·obtain rfl:q=n:=by omega
      have c1:(q:Int)<(f:Int)+3:=by omega
      have c2: ¬((q:Int)<(q:Int)):=by omega
      have c3: ¬((f:Int)+2<(q:Int)):=by omega
      clear hqq
      by_cases hov:255<y
      ·have hov2:(255:Int)<(y:Int):=by omega
       obtain⟨rfl,rfl⟩:=HBAD.out 23 (by rw[HGE2.out,if_pos (by simp only[Nat.add_one_sub_one,Nat.reduceSub,Nat.pow_one];omega)]) (by omega)
       clear HGE2 HBAD HGO
       go_wp2
       go_ret2
       exact⟨none,0,rfl,⟨by intro j u hu;simp[U8]at hu,fun _=>rfl,by simp,by omega,by simp⟩,HBL.out⟩
      ·have hov2: ¬((255:Int)<(y:Int)):=by omega
       have hgz:Ck g=(0,[y]):=by
        rw[HGE2.out,if_neg (by simp only[Nat.add_one_sub_one,Nat.reduceSub,Nat.pow_one];omega)]
        simp only[Nat.add_one_sub_one,Nat.reduceSub,bysH,Nat.pow_zero,Nat.div_one]
        rw[Nat.mod_eq_of_lt (by omega)]
       have hgo:=HGO.out _ hgz
       have HGZ:=Lib.hid hgo
       have v1:IntKind.u8.wrap (y:Int)=(y:Int):=Se y (by omega)
       have v6:IntKind.i64.wrap ((f:Int)+3)=(f:Int)+3:=IntWalk.i64_in _ (by omega)
       have hm1:j+1≤maxLen:=by unfold maxLen;omega
       have hm2:(j+1)*1≤140737488355328:=by omega
       clear hgo hgz HGE2 HBAD HGO
       go_wp2_with (at_builtin;refine wpList_append_own _ rfl (.tmp 66) (.tmp 69) 23 rfl w.heap.size 5 i0 (.int .u8 0) 1 1 Tryz.underlying23 hi hz0 hz1 hz2 rfl (by decide) _ j (U8 o) rfl (HOW.out.alloc _) ⟨_,0,none⟩ 1 1 [.int .u8 (y:Int)] rfl rfl (cell_one_new _ _ _) (Bd [y]) hm1 hm2 (by simp;omega) ?_)
       intro v8 w8 hown8 hg8 _
       have HO8:=Lib.hid (show w8.ownsRow w.heap.size 5 1 v8 (o++ [y]).length (U8 (o++ [y])) by
        rw[Nh,List.length_append, ←HJ.out]
        exact hown8)
       have HB8:=Lib.hid ((HBL.out.alloc HBL.out.size _).grown hg8 (by simp;omega) HGE.out)
       clear hown8 hg8
       go_wp2
       go_roundw
       case rel=>exact⟨k+1,o++ [y],by have:=HF.out;have:=HQ.out;omega,by have:=HF.out;exact congrArg (Value.int .i64) (by omega),HGZ.out.2.symm,by rw[List.length_append, ←HJ.out];simp only[List.length_cons,List.length_nil];omega,HGZ.out.1,HO8.out,HB8.out⟩
       case measure=>simp[intOf];omega
     ·have c1: ¬((q:Int)<(f:Int)+3):=by omega
      have c3:(f:Int)+2<(n:Int):=by omega
      clear hqq
      by_cases hov:65535<y
      ·have hov2:(65535:Int)<(y:Int):=by omega
       obtain⟨rfl,rfl⟩:=HBAD.out 23 (by rw[HGE2.out,if_pos (by simp only[Nat.add_one_sub_one,Nat.reduceSub,Nat.reducePow];omega)]) (by omega)
       clear HGE2 HBAD HGO
       go_wp2
       go_ret2
       exact⟨none,0,rfl,⟨by intro j u hu;simp[U8]at hu,fun _=>rfl,by simp,by omega,by simp⟩,HBL.out⟩
      ·have hov2: ¬((65535:Int)<(y:Int)):=by omega
       obtain⟨q1,hq1⟩: ∃q1,q1=y / 256:=⟨_,rfl⟩
       obtain⟨r1,hr1'⟩: ∃r1,r1=y % 256:=⟨_,rfl⟩
       have hgz:Ck g=(0,[q1,r1]):=by
        rw[HGE2.out,if_neg (by simp only[Nat.add_one_sub_one,Nat.reduceSub,Nat.reducePow];omega)]
        simp only[Nat.add_one_sub_one,Nat.reduceSub,bysH,Nat.pow_zero,Nat.div_one,Nat.pow_one]
        rw[←hq1, ←hr1',Nat.mod_eq_of_lt (by omega)]
       have hgo:=HGO.out _ hgz
       have HGZ:=Lib.hid hgo
       have t2:(y:Int).tdiv 256=(q1:Int):=by rw[Int.tdiv_eq_ediv_of_nonneg (by omega)];omega
       have t3:(y:Int).tmod 256=(r1:Int):=by rw[Int.tmod_eq_emod_of_nonneg (by omega)];omega
       have v1:IntKind.u8.wrap (q1:Int)=(q1:Int):=Se q1 (by omega)
       have v2:IntKind.u8.wrap (r1:Int)=(r1:Int):=Se r1 (by omega)
       have v3:IntKind.i64.wrap (q1:Int)=(q1:Int):=IntWalk.i64_in _ (by omega)
       have v4:IntKind.i64.wrap (r1:Int)=(r1:Int):=IntWalk.i64_in _ (by omega)
       have v6:IntKind.i64.wrap ((f:Int)+3)=(f:Int)+3:=IntWalk.i64_in _ (by omega)
       have hm1:j+2≤maxLen:=by unfold maxLen;omega
       have hm2:(j+2)*1≤140737488355328:=by omega
       clear hgo hgz HGE2 HBAD HGO hq1 hr1'
       go_wp2_with (at_builtin;refine wpList_append_own _ rfl (.tmp 55) (.tmp 62) 23 rfl w.heap.size 5 i0 (.int .u8 0) 1 1 Tryz.underlying23 hi hz0 hz1 hz2 rfl (by decide) _ j (U8 o) rfl (HOW.out.alloc _) ⟨_,0,none⟩ 2 2 [.int .u8 (q1:Int), .int .u8 (r1:Int)] rfl rfl (World.news_of_block (cs:= #[.int .u8 (q1:Int), .int .u8 (r1:Int)]) (t:= 5) (fr:=(0,0)) (heap_alloc_new wr _)) (Bd [q1,r1]) hm1 hm2 (by simp;omega) ?_)
       intro v8 w8 hown8 hg8 _
       have HO8:=Lib.hid (show w8.ownsRow w.heap.size 5 1 v8 (o++ [q1,r1]).length (U8 (o++ [q1,r1])) by
        rw[Nh,List.length_append, ←HJ.out]
        exact hown8)
       have HB8:=Lib.hid ((HBL.out.alloc HBL.out.size _).grown hg8 (by simp;omega) HGE.out)
       clear hown8 hg8
       go_wp2
       go_roundw
       case rel=>exact⟨k+1,o++ [q1,r1],by have:=HF.out;omega,by have:=HF.out;exact congrArg (Value.int .i64) (by omega),HGZ.out.2.symm,by rw[List.length_append, ←HJ.out];simp only[List.length_cons,List.length_nil];omega,HGZ.out.1,HO8.out,HB8.out⟩
       case measure=>simp[intOf];omega
  ·have b1: ¬((f:Int)<(n:Int)):=by omega
   obtain rfl:k=m:=by have h1:=(HM.out k);have:=HF.out;omega
   have hval:=Yn l k (by rw[←HN.out];exact HN3.out) (by rw[←HN.out];exact HM.out) HG.out
   rw[←HO.out]at hval
   obtain⟨rfl,rfl⟩:E=0∧p=o:=by have:=HP.out;rw[hval]at this;exact⟨(Prod.mk.inj this).1.symm,(Prod.mk.inj this).2.symm⟩
   have hplt: ∀x∈p,x<256:=by
    have h9:fgetX l=(0,p):=by unfold fgetX;rw[if_neg (by rw[←HN.out];exact HN3.out)];exact HP.out
    exact sE h9
   obtain⟨A2,c2,rfl,hbs2⟩:=Av HOW.out hplt
   have HBS:=Lib.hid hbs2
   clear hbs2 hplt hval HGE
   go_wp2
   go_ret2
   exact⟨A2,c2,by rw[HJ.out];rfl,HBS.out,HBL.out⟩
theorem pH (n:Nat) (hn:n % 3=1) (h63:n≤9223372036854775807) (A:Option Addr) (c:Nat) (w:World):
  Calls Tryz.prog 124 #[.slice A n c] w fun e w'=>e= .returned (.tuple #[.slice none 0 0, .int .i64 14])∧w=w':=by
 have t1:(n:Int).tmod 3=1:=by rw[Int.tmod_eq_emod_of_nonneg (by omega)];omega
 go_enter Tryz.func124, Tryz.ntmps124
 go_wp2
 go_ret2
 exact⟨rfl,rfl⟩
theorem Ls (l:List Nat) (n:Nat) (hn:n=l.length) (hn4:n≤4000) (E:Nat) (p:List Nat) (hp:fgetX l=(E,p)) (A:Option Addr) (c:Nat) (w:World) (hA:Bs w w.heap.size l A c):
  Calls Tryz.prog 124 #[.slice A n c] w fun e w'=> ∃A' c',e= .returned (.tuple #[.slice A' (p.length:Nat) c', .int .i64 (E:Int)])∧Bs w' w'.heap.size p A' c'∧Below w.heap.size w w':=by
 unfold fgetX at hp
 by_cases h3:n % 3=1
 ·rw[if_pos (by rw[←hn];exact h3)]at hp
  obtain⟨rfl,rfl⟩:=Prod.mk.inj hp
  refine(pH n h3 (by omega) A c w).mono ?_
  rintro e w1 ⟨rfl,rfl⟩
  exact⟨none,0,rfl,⟨by intro j u hu;simp[U8]at hu,fun _=>rfl,by simp,by omega,by simp⟩,Below.refl _ _⟩
 ·rw[if_neg (by rw[←hn];exact h3)]at hp
  exact vX l n hn hn4 h3 E p hp ((n+2) / 3) (fun k=>by omega) A c w hA
end Go.Proofs.YtmdbfogjfbbpjaaGreatDoor
end
section
namespace Go.Proofs.YtmdbfogjfbbpjaaGreatDoor
open Go.ChangeShapes Go.WideShapes Go.ChangeAt Go.RowKit
theorem Ad2 {w:World} {B i y c:Nat} {b:List Nat} {ad:Addr} (h:Bs w B b (some ad) c) (hb:ad.block<B) (hi:i+y≤b.length):Bs w B ((b.drop i).take y) (some (ad.add i)) (c - i):=by
 have hl:=h.len
 have hc:=h.cap
 refine⟨fun k u hu=> ?_,by simp,by rw[List.length_take,List.length_drop];omega,by omega,fun x hx=>h.lt x (List.mem_of_mem_drop (List.mem_of_mem_take hx))⟩
 have hk:k<y:=by
  have:=(List.getElem?_eq_some_iff.1 hu).1
  simp[U8]at this;omega
 obtain⟨ad',e,hlt,hcl⟩:=h.rd (i+k) u (by
  simp only[U8,List.map_take,List.map_drop]at hu⊢
  rwa[List.getElem?_take_of_lt hk,List.getElem?_drop]at hu)
 cases e
 exact⟨_,rfl,by rw[add_block];exact hlt,by rw[Addr.add_add];exact hcl⟩
theorem AaP {b:List Nat} {i:Nat} (h:i+2≤b.length): ∃x y,b[i]?=some x∧b[i+1]?=some y∧b.drop i=x::y::b.drop (i+2):=by
 refine⟨b[i],b[i+1],List.getElem?_eq_getElem (by omega),List.getElem?_eq_getElem (by omega), ?_⟩
 rw[List.drop_eq_getElem_cons (by omega),List.drop_eq_getElem_cons (i:=i+1) (by omega)]
theorem AaQ {b:List Nat} {i x:Nat} (h:b[i]?=some x):(U8 b)[i]?=some (.int .u8 (x:Int)):=by rw[U8,List.getElem?_map,h];rfl
theorem pI (b:List Nat) (n:Nat) (hn:n=b.length) (hn6:n≤1000000) (E:Nat) (L:List Tf) (hg:gotT b=(E,L)) (A:Option Addr) (c:Nat) (w:World) (hA:Bs w w.heap.size b A c):
  Calls Tryz.prog 72 #[.slice A n c] w fun e w'=> ∃A' c',e= .returned (.tuple #[.slice A' (L.length:Nat) c', .int .i64 (E:Int)])∧Ts w' w'.heap.size L A' c'∧Below w.heap.size w w':=by
 have hmc:n≤c:=by have:=hA.len;omega
 have hcc:=hA.cap
 have HN:=Lib.hid hn
 have HG:=Lib.hid hg
 have HA:=Lib.hid hA
 clear hn hg hA
 go_enter Tryz.func72, Tryz.ntmps72
 go_wp2
 go_loopw [4,5,6] (fun v la iv wr=> ∃(k a i:Nat) (M:List TV),iv= .int .i64 i∧la= .int .i64 a∧i≤n∧n - i≤k∧Wh (M.map (·.f)) (Gj k a (b.drop i))=(E,L)∧wr.ownsRow w.heap.size 121 2 v M.length (Es M)∧(∀q∈M,Bs wr w.heap.size q.f.val q.S q.c)∧Below w.heap.size w wr∧M.length≤i) (fun _ _ iv _=>n - (intOf iv).toNat)
 case atStart=>exact⟨n,0,0,[],rfl,rfl,Nat.zero_le _,by omega,by rw[show List.map (·.f) ([]:List TV)=[]from rfl,jA,HN.out];exact HG.out,World.ownsRow_lit w #[] 0 (Nat.le_refl _) (by decide) rfl,by simp,Aa w _ _,by simp⟩
 case round=>
  obtain⟨k,a,i,M,rfl,rfl,hin,hk,hpre,hown,hvals,hbel,hlen⟩:=hrel
  have hsz:=hbel.size
  have HPRE:=Lib.hid hpre
  have HOW:=Lib.hid hown
  have HV:=Lib.hid hvals
  have HBL:=Lib.hid hbel
  have HKK:=Lib.hid hk
  clear hpre hown hvals hbel hk HG
  have i0:(0:Int)≤(i:Int):=by omega
  by_cases hlt:i<n
  ·have b2:(i:Int)<(n:Int):=by omega
   obtain⟨i2,hi2⟩: ∃i2,i2=i+2:=⟨_,rfl⟩
   have wi2:IntKind.i64.wrap ((i:Int)+2)=(i2:Int):=by rw[IntWalk.i64_in _ (by omega)];omega
   by_cases q0:n<i2
   ·have q0':(n:Int)<(i2:Int):=by omega
    have hone: ∃x,b.drop i=[x]:=by
     obtain⟨x,hx⟩:=List.length_eq_one_iff.1 (show(b.drop i).length=1 by rw[List.length_drop, ←HN.out];omega)
     exact⟨x,hx⟩
    obtain⟨x,hx⟩:=hone
    have hpre:=HPRE.out
    rw[hx,jB (by have:=HKK.out;omega),Ki _ (by decide)]at hpre
    cases hpre
    clear HPRE HKK hx hi2
    go_wp2
    go_ret2
    exact⟨none,0,rfl,Ts.empty _ _,HBL.out⟩
   have q0': ¬(n:Int)<(i2:Int):=by omega
   obtain⟨x,y,hx,hy,hd⟩:=AaP (b:=b) (i:=i) (by rw[←HN.out];omega)
   obtain⟨ad,rfl,hab,hcx⟩:=HA.out.rd i _ (AaQ hx)
   obtain⟨ad',e,_,hcy⟩:=HA.out.rd (i+1) _ (AaQ hy)
   cases e
   have hx2:=HA.out.lt x (List.mem_of_getElem? hx)
   have hy2:=HA.out.lt y (List.mem_of_getElem? hy)
   obtain⟨i1,hi1⟩: ∃i1,i1=i+1:=⟨_,rfl⟩
   have wi1:IntKind.i64.wrap ((i:Int)+1)=(i1:Int):=by rw[IntWalk.i64_in _ (by omega)];omega
   rw[←hi1]at hcy
   rw[←hi2]at hd
   have c0:=(HBL.out.cell (p:=ad.add i) (by rw[add_block];exact hab)).trans hcx
   have c1:=(HBL.out.cell (p:=ad.add i1) (by rw[add_block];exact hab)).trans hcy
   have wx:IntKind.i64.wrap (x:Int)=(x:Int):=IntWalk.i64_in _ (by omega)
   have wy:IntKind.i64.wrap (y:Int)=(y:Int):=IntWalk.i64_in _ (by omega)
   obtain⟨q,hq⟩: ∃q,q=i2+y:=⟨_,rfl⟩
   have wq:IntKind.i64.wrap ((i2:Int)+(y:Int))=(q:Int):=by rw[IntWalk.i64_in _ (by omega)];omega
   have p1:(0:Int)≤(i1:Int):=by omega
   have p2:(i1:Int)<(n:Int):=by omega
   have HD:=Lib.hid hd
   have hkk:1≤k:=by have:=HKK.out;omega
   have HI2:=Lib.hid hi2
   have HQ:=Lib.hid hq
   have p3:(0:Int)≤(i2:Int):=by omega
   have p4:(i2:Int)≤(q:Int):=by omega
   have p5:i2≤q:=by omega
   clear hx hy hcx hcy hd hi1 hi2 hq
   by_cases q1:x≤a
   ·have q1':(x:Int)≤(a:Int):=by omega
    have hpre:=HPRE.out
    rw[HD.out,Wj hkk q1,Ki _ (by decide)]at hpre
    cases hpre
    clear HPRE HKK
    go_wp2
    go_ret2
    exact⟨none,0,rfl,Ts.empty _ _,HBL.out⟩
   have q1': ¬(x:Int)≤(a:Int):=by omega
   by_cases q2:n<q
   ·have q2':(n:Int)<(q:Int):=by omega
    have hpre:=HPRE.out
    rw[HD.out,aH hkk (by omega) (by rw[List.length_drop, ←HN.out];have:=HQ.out;omega),Ki _ (by decide)]at hpre
    cases hpre
    clear HPRE HKK
    go_wp2
    go_ret2
    exact⟨none,0,rfl,Ts.empty _ _,HBL.out⟩
   have q2': ¬(n:Int)<(q:Int):=by omega
   have p6:(q:Int)≤(n:Int):=by omega
   have p7:(q:Int)≤(c:Int):=by omega
   have p8:q≤c:=by omega
   have p9:(i2:Int)≤(c:Int):=by omega
   obtain⟨j,rfl⟩: ∃j,k=j+1:=⟨k - 1,by omega⟩
   have hyr:y≤(b.drop i2).length:=by rw[List.length_drop, ←HN.out];have:=HQ.out;omega
   obtain⟨f,hf⟩: ∃f:Tf,f=⟨x,(b.drop i2).take y⟩:=⟨_,rfl⟩
   have hpre:=HPRE.out
   rw[HD.out,aI (by omega) hyr, ←hf,List.drop_drop, ←HQ.out]at hpre
   have hsl:q - i2=f.val.length:=by rw[hf];simp only;rw[List.length_take,Nat.min_eq_left hyr,HQ.out];omega
   have HSL:=Lib.hid hsl
   have HF:=Lib.hid (show(x:Int)=f.tag by rw[hf])
   have HFV:=Lib.hid (show f.val=(b.drop i2).take y by rw[hf])
   replace HPRE:=Lib.hid hpre
   have HJ:=Lib.hid (show n - q≤j by have:=HKK.out;have:=HQ.out;have:=HI2.out;omega)
   have HLEN:=Lib.hid (show M.length+1≤q by have:=HQ.out;have:=HI2.out;omega)
   have hM6:M.length≤1000000:=by omega
   have hiq:i<q:=by have:=HI2.out;omega
   have HYQ:=Lib.hid (show i2+y≤b.length by rw[←HN.out];have:=HQ.out;omega)
   clear hpre hsl hf hyr HD
   by_cases q3:c=i2
   ·have hfv:f.val=[]:=List.eq_nil_of_length_eq_zero (by rw[←HSL.out];omega)
    have HFN:=Lib.hid hfv
    clear hfv
    subst q3
    have HCS:=Lib.hid (show(#[.int .i64 (x:Int), .slice (some ad) 0 0]:Array Value)=(⟨f,some ad,0⟩:TV).cells.toArray by rw[HF.out,TV.cells,HFN.out];rfl)
    have HBV:=Lib.hid (show Bs w w.heap.size f.val (some ad) 0 by rw[HFN.out];exact Sd _ _ _)
    go_wp2_with (at_builtin;refine Ed rfl (.tmp 43) (.tmp 54) rfl wr w.heap.size M.length u4 M ⟨f,some ad,0⟩ (#[.int .i64 (x:Int), .slice (some ad) 0 0]) HCS.out rfl HOW.out wr.heap.size rfl rfl hM6 hsz ?_;intro v3 w3 hown3 hg3)
    have hge: ∀g,u4.ownBlock=some g→w.heap.size≤g:=fun g hg=>Ak HOW.out hg
    have hb3:Below w.heap.size wr w3:=((Below.refl _ wr).mono hsz).grown hg3 hsz hge
    have HO3:=Lib.hid hown3
    have HBE:=Lib.hid (HBL.out.trans hb3)
    have HV3:=Lib.hid (show∀g∈M++ [(⟨f,some ad,0⟩:TV)],Bs w3 w.heap.size g.f.val g.S g.c from fun g hg=>by
     rcases List.mem_append.1 hg with h|h
     ·exact(HV.out g h).below hb3
     ·rw[List.mem_singleton]at h
      subst h
      exact HBV.out.below HBE.out)
    clear hown3 hg3 hge hb3
    go_wp2
    go_roundw
    case rel=>exact⟨j,x,q,M++ [⟨f,some ad,0⟩],rfl,rfl,by omega,HJ.out,by rw[List.map_append];exact HPRE.out,by rw[List.length_append];exact HO3.out,HV3.out,HBE.out,by rw[List.length_append];exact HLEN.out⟩
    case measure=>simp only[intOf];omega
   ·have HCS:=Lib.hid (show(#[.int .i64 (x:Int), .slice (some (ad.add i2)) (q - i2) (c - i2)]:Array Value)=(⟨f,some (ad.add i2),(c - i2)⟩:TV).cells.toArray by rw[HSL.out,HF.out];rfl)
    have HBV:=Lib.hid (show Bs w w.heap.size f.val (some (ad.add i2)) (c - i2) by rw[HFV.out];exact Ad2 HA.out hab HYQ.out)
    go_wp2_with (at_builtin;refine Ed rfl (.tmp 43) (.tmp 54) rfl wr w.heap.size M.length u4 M ⟨f,some (ad.add i2),(c - i2)⟩ (#[.int .i64 (x:Int), .slice (some (ad.add i2)) (q - i2) (c - i2)]) HCS.out rfl HOW.out wr.heap.size rfl rfl hM6 hsz ?_;intro v3 w3 hown3 hg3)
    have hge: ∀g,u4.ownBlock=some g→w.heap.size≤g:=fun g hg=>Ak HOW.out hg
    have hb3:Below w.heap.size wr w3:=((Below.refl _ wr).mono hsz).grown hg3 hsz hge
    have HO3:=Lib.hid hown3
    have HBE:=Lib.hid (HBL.out.trans hb3)
    have HV3:=Lib.hid (show∀g∈M++ [(⟨f,some (ad.add i2),(c - i2)⟩:TV)],Bs w3 w.heap.size g.f.val g.S g.c from fun g hg=>by
     rcases List.mem_append.1 hg with h|h
     ·exact(HV.out g h).below hb3
     ·rw[List.mem_singleton]at h
      subst h
      exact HBV.out.below HBE.out)
    clear hown3 hg3 hge hb3
    go_wp2
    go_roundw
    case rel=>exact⟨j,x,q,M++ [⟨f,some (ad.add i2),(c - i2)⟩],rfl,rfl,by omega,HJ.out,by rw[List.map_append];exact HPRE.out,by rw[List.length_append];exact HO3.out,HV3.out,HBE.out,by rw[List.length_append];exact HLEN.out⟩
    case measure=>simp only[intOf];omega
  ·obtain rfl:i=n:=by omega
   have hpre:=HPRE.out
   rw[List.drop_eq_nil_of_le (by rw[HN.out];omega),Wi,jC]at hpre
   cases hpre
   obtain⟨A2,c2,e2,hts⟩:=Og HOW.out (fun q hq=>(HV.out q hq).more hsz)
   have HTS:=Lib.hid hts
   clear HPRE HOW hts
   subst e2
   go_wp2
   go_ret2
   exact⟨A2,c2,by rw[List.length_map];rfl,HTS.out,HBL.out⟩
theorem AaR (s:List Nat) (m:Nat) (hm:m=s.length) (hm4:m≤4000) (B:Option Addr) (d:Nat) (w:World) (hB:Bs w w.heap.size s B d) (E:Nat) (P:List Nat) (hE:fgetX s=(E,P)) (h0:E≠0):Calls Tryz.prog 71 #[.slice B m d] w fun e w'=>e= .returned (.tuple #[.slice none 0 0, .slice none 0 0, .int .i64 (E:Int)])∧Below w.heap.size w w':=by
 have s1:((E:Int)==0)=false:=by rw[beq_eq_false_iff_ne];omega
 have s2:((E:Int) !=0)=true:=by rw[bne_iff_ne];omega
 have s3:(E==0)=false:=by rw[beq_eq_false_iff_ne];exact h0
 have s4:(E !=0)=true:=by rw[bne_iff_ne];exact h0
 have HE:=Lib.hid hE
 clear hE h0
 have HM:=Lib.hid hm
 have HB:=Lib.hid hB
 clear hm hB
 go_enter Tryz.func71, Tryz.ntmps71
 go_wp2_with fail
 refine(Ls s m HM.out hm4 E P HE.out B d w HB.out).mono ?_
 rintro e w1 ⟨A1,c1,rfl,hs,hb⟩
 have HBL:=Lib.hid hb
 clear hs hb
 go_wp2
 go_ret3
 exact⟨rfl,HBL.out⟩
theorem kJ (s:List Nat) (m:Nat) (hm:m=s.length) (hm4:m≤4000) (B:Option Addr) (d:Nat) (w:World) (hB:Bs w w.heap.size s B d) (P:List Nat) (hE:fgetX s=(0,P)) (h0:P.length<32):Calls Tryz.prog 71 #[.slice B m d] w fun e w'=>e= .returned (.tuple #[.slice none 0 0, .slice none 0 0, .int .i64 14])∧Below w.heap.size w w':=by
 obtain⟨k,hk⟩: ∃k,P.length=k:=⟨_,rfl⟩
 rw[hk]at h0
 have wz:IntKind.i64.wrap ((k:Int) - 32)=(k:Int) - 32:=IntWalk.i64_in _ (by omega)
 have q1:(k:Int) - 32<0:=by omega
 have q2:decide ((k:Int) - 32<0)=true:=decide_eq_true q1
 have q3:(k:Int)<32:=by omega
 have HK:=Lib.hid hk
 have HE:=Lib.hid hE
 clear hE h0 hk
 have HM:=Lib.hid hm
 have HB:=Lib.hid hB
 clear hm hB
 go_enter Tryz.func71, Tryz.ntmps71
 go_wp2_with fail
 refine(Ls s m HM.out hm4 0 P HE.out B d w HB.out).mono ?_
 rintro e w1 ⟨A1,c1,rfl,hs,hb⟩
 have HBL:=Lib.hid hb
 clear hs hb
 rw[HK.out]
 go_wp2
 go_ret3
 exact⟨rfl,HBL.out⟩
theorem AaS (s:List Nat) (m:Nat) (hm:m=s.length) (hm4:m≤4000) (B:Option Addr) (d:Nat) (w:World) (hB:Bs w w.heap.size s B d) (P:List Nat) (hE:fgetX s=(0,P)) (j:Nat) (hj:P.length=j+32):Calls Tryz.prog 71 #[.slice B m d] w fun e w'=> ∃A1 c1 A2 c2,e= .returned (.tuple #[.slice A1 j c1, .slice A2 32 c2, .int .i64 0])∧Bs w' w'.heap.size (restB P) A1 c1∧Bs w' w'.heap.size (Eg P) A2 c2∧Below w.heap.size w w':=by
 obtain⟨k,hk⟩: ∃k,P.length=k:=⟨_,rfl⟩
 have e32:P.length - 32=j:=by omega
 rw[hk]at hj
 have HK:=Lib.hid hk
 have HE:=Lib.hid hE
 have HJ:=Lib.hid hj
 have H32:=Lib.hid e32
 clear hE hj hk e32
 have HM:=Lib.hid hm
 have HB:=Lib.hid hB
 clear hm hB
 go_enter Tryz.func71, Tryz.ntmps71
 go_wp2_with fail
 refine(Ls s m HM.out hm4 0 P HE.out B d w HB.out).mono ?_
 rintro e w1 ⟨A1,c1,rfl,hs,hb⟩
 have HBL:=Lib.hid hb
 have hcap:=hs.cap
 have hlen:=hs.len
 rw[HK.out]at hlen
 obtain⟨a,rfl⟩: ∃a,A1=some a:=by
  rcases A1 with _|a
  ·have h1:=hs.nil rfl
   have h2:=HJ.out
   omega
  ·exact⟨a,rfl⟩
 obtain⟨hs1,hs2⟩:=Bs.split hs j (by have:=HJ.out;have:=HK.out;omega)
 have HS1:=Lib.hid (show Bs w1 w1.heap.size (restB P) (some a) c1 by rw[restB,H32.out];exact hs1)
 have HS2:=Lib.hid (show Bs w1 w1.heap.size (Eg P) (some (a.add j)) (c1 - j) by rw[Eg,H32.out];exact hs2)
 have wz:IntKind.i64.wrap ((k:Int) - 32)=(j:Int):=by
  rw[show(k:Int) - 32=(j:Int) by have:=HJ.out;omega]
  exact IntWalk.i64_in _ (by have:=HJ.out;omega)
 have mc:j≤c1:=by have:=HJ.out;omega
 have mk:j≤k:=by have:=HJ.out;omega
 have nc: ¬c1=j:=by have:=HJ.out;omega
 have m0:(0:Int)≤(j:Int):=by omega
 have m1: ¬((j:Int)<0):=by omega
 have mci:(j:Int)≤(c1:Int):=by omega
 have mki:(j:Int)≤(k:Int):=by omega
 clear hs hb hs1 hs2 hcap hlen
 rw[HK.out]
 go_wp2
 go_region
 all_goals
  go_wp2
  have hd:Below w1.heap.size w1 w1.drew:=Ae (Below.refl _ _) 1
  rw[show k - j=32 by have:=HJ.out;omega]
  go_ret3
  exact⟨_,_,_,_,rfl,HS1.out.next hd,HS2.out.next hd,Ae HBL.out 1⟩
def Ef (w:World) (X:Nat) (l:List Int):Prop:=w.heap[X]?=some (.cells ((l.map fun x=>Value.int .i64 x).toArray) 3 (0,0))
theorem Ef.lt {w:World} {X:Nat} {l:List Int} (h:Ef w X l):X<w.heap.size:=(Array.getElem?_eq_some_iff.1 h).1
theorem Ef.alloc {w:World} {X:Nat} {l:List Int} (h:Ef w X l) (o:Obj):Ef (w.alloc o) X l:=(heap_alloc_old w o h.lt).trans h
theorem Ef.next {w w':World} {X:Nat} {l:List Int} (h:Ef w X l) (hb:Below w.heap.size w w'):Ef w' X l:=(hb.block _ h.lt).trans h
theorem Ef.set {w:World} {X:Nat} {l:List Int} (h:Ef w X l) (o:Nat) (x:Int):Ef (w.setCell ⟨X,o,none⟩ (.int .i64 x)) X (l.set o x):=by
 have:=heap_setCell_same w X o _ _ (.int .i64 x) h
 rw[Ef,this]
 simp[List.map_set]
theorem Ef.cell {w:World} {X o:Nat} {l:List Int} {x:Int} (h:Ef w X l) (ho:l[o]?=some x):w.cell? ⟨X,o,none⟩=some (.int .i64 x):=by
 rw[cell_of_row w X o _ _ (0,0) h]
 simp[ho]
theorem Ef.frozen {w:World} {X:Nat} {l:List Int} (h:Ef w X l) (o:Nat):w.frozen? ⟨X,o,none⟩=false:=frozen_of_row w X o _ _ h
theorem Ef.cells {w:World} {b:Nat} {r:Rg} (h:Ef w b (numL r)):w.cell? ⟨b,0,none⟩=some (.int .i64 r.ver)∧w.cell? ⟨b,1,none⟩=some (.int .i64 r.key)∧w.cell? ⟨b,2,none⟩=some (.int .i64 r.t.kind)∧w.cell? ⟨b,3,none⟩=some (.int .i64 r.t.ser)∧w.cell? ⟨b,4,none⟩=some (.int .i64 r.t.frm)∧w.cell? ⟨b,5,none⟩=some (.int .i64 r.t.till)∧w.cell? ⟨b,6,none⟩=some (.int .i64 r.t.cls)∧w.cell? ⟨b,7,none⟩=some (.int .i64 r.t.card)∧w.cell? ⟨b,8,none⟩=some (.int .i64 r.t.seat)∧w.cell? ⟨b,9,none⟩=some (.int .i64 r.t.day)∧w.cell? ⟨b,10,none⟩=some (.int .i64 r.t.days)∧w.cell? ⟨b,11,none⟩=some (.int .i64 r.t.uses)∧w.cell? ⟨b,12,none⟩=some (.int .i64 r.t.epoch):=
 ⟨h.cell rfl,h.cell rfl,h.cell rfl,h.cell rfl,h.cell rfl,h.cell rfl,h.cell rfl,h.cell rfl,h.cell rfl,h.cell rfl,h.cell rfl,h.cell rfl,h.cell rfl⟩
theorem Kp (w:World) (l:List Int) (cs:Array Value) (h:cs.toList=l.map fun x=>Value.int .i64 x):Ef (w.alloc (.cells cs 3)) w.heap.size l:=by
 have e:cs=(l.map fun x=>Value.int .i64 x).toArray:=by rw[←h]
 rw[e]
 exact heap_alloc_new w _
end Go.Proofs.YtmdbfogjfbbpjaaGreatDoor
end
