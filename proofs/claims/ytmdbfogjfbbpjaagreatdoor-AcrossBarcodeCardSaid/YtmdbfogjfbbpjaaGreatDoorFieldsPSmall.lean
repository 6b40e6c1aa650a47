import Derived.Test.YtmdbfogjfbbpjaaGreatDoorTlvPPut
import Derived.Test.YtmdbfogjfbbpjaaGreatDoorStripePDec
import Derived.Test.YtmdbfogjfbbpjaaGreatDoorFortyPMap
import Derived.OwnWalk
import Derived.Test.YtmdbfogjfbbpjaaGreatDoorTicketPRightK
import Derived.Laws.EntriesVeiled
set_option maxHeartbeats 1600000
set_option maxRecDepth 100000
set_option linter.unusedVariables false
namespace Go.Proofs.YtmdbfogjfbbpjaaGreatDoor
open Go.ChangeShapes Go.WideShapes Go.ChangeAt Go.RowKit
theorem Gc (n a b:Int) (v:Bool) (hv:(decide (a≤n)&&decide (n≤b))=v) (w:World):Calls Tryz.prog 140 #[.int .i64 n, .int .i64 a, .int .i64 b] w fun e w'=>e= .returned (.bool v)∧w=w':=by
 have HB:=Lib.hid hv
 clear hv
 cases h0:decide (a≤n)<;>cases h1:decide (n≤b)
 all_goals
  have H0:=Lib.hid h0
  have H1:=Lib.hid h1
  go_enter Tryz.func140, Tryz.ntmps140
  go_wp2
  go_ret
  refine⟨congrArg Ending.returned (congrArg Value.bool ?_),rfl⟩
  rw[←HB.out,H0.out,H1.out]
  rfl
theorem iG (n:Int) (v:Bool) (hv:(decide (0≤n)&&decide (n≤99))=v) (w:World):Calls Tryz.prog 88 #[.int .i64 n] w fun e w'=>e= .returned (.bool v)∧w=w':=by
 have HB:=Lib.hid hv
 clear hv
 go_enter Tryz.func88, Tryz.ntmps88
 go_wp2_with fail
 refine(Gc n 0 99 v HB.out w).mono ?_
 rintro e w1 ⟨rfl,rfl⟩
 go_wp2
 go_ret
 exact⟨rfl,rfl⟩
theorem La (n:Int) (v:Bool) (hv:(decide (1≤n)&&decide (n≤3))=v) (w:World):Calls Tryz.prog 84 #[.int .i64 n] w fun e w'=>e= .returned (.bool v)∧w=w':=by
 have HB:=Lib.hid hv
 clear hv
 go_enter Tryz.func84, Tryz.ntmps84
 go_wp2_with fail
 refine(Gc n 1 3 v HB.out w).mono ?_
 rintro e w1 ⟨rfl,rfl⟩
 go_wp2
 go_ret
 exact⟨rfl,rfl⟩
theorem nM {t:Int} (h:(decide (1≤t)&&decide (t≤13))=false):Bj t=0:=by
 rw[Bj,if_pos]
 simp at h
 omega
theorem uE {t:Int} (h:(decide (1≤t)&&decide (t≤13))=true): ¬(t<1∨13<t):=by
 simp at h
 omega
theorem aC (t v:Int) (b:Bool) (hv:Bj t=v) (hb:okN t=b) (w:World):Calls Tryz.prog 141 #[.int .i64 t] w fun e w'=>e= .returned (.tuple #[.int .i64 v, .bool b])∧w=w':=by
 have HB:=Lib.hid hb
 have h0:(decide (1≤t)&&decide (t≤13))=b:=hb
 clear hb
 cases b with
 |false=>
  rw[nM h0]at hv
  subst hv
  have H0:=Lib.hid h0
  clear h0
  go_enter Tryz.func141, Tryz.ntmps141
  go_wp2_with fail
  refine(Gc t 1 13 false H0.out w).mono ?_
  rintro e w1 ⟨rfl,rfl⟩
  go_wp2
  go_ret2
  exact⟨rfl,rfl⟩
 |true=>
  have hin:=uE h0
  have H0:=Lib.hid h0
  clear h0
  rw[Bj,if_neg hin]at hv
  clear hin
  by_cases h8:t=8
  ·rw[if_pos h8]at hv
   subst hv h8
   go_enter Tryz.func141, Tryz.ntmps141
   go_wp2_with fail
   refine(Gc 8 1 13 true H0.out w).mono ?_
   rintro e w1 ⟨rfl,rfl⟩
   go_wp2
   go_ret2
   exact⟨rfl,rfl⟩
  ·rw[if_neg h8]at hv
   have q8:(t==8)=false:=by rw[beq_eq_false_iff_ne];exact h8
   by_cases h9:t=9
   ·rw[if_pos h9]at hv
    subst hv h9
    clear h8 q8
    go_enter Tryz.func141, Tryz.ntmps141
    go_wp2_with fail
    refine(Gc 9 1 13 true H0.out w).mono ?_
    rintro e w1 ⟨rfl,rfl⟩
    go_wp2
    go_ret2
    exact⟨rfl,rfl⟩
   ·rw[if_neg h9]at hv
    have q9:(t==9)=false:=by rw[beq_eq_false_iff_ne];exact h9
    subst hv
    clear h8 h9
    go_enter Tryz.func141, Tryz.ntmps141
    go_wp2_with fail
    refine(Gc t 1 13 true H0.out w).mono ?_
    rintro e w1 ⟨rfl,rfl⟩
    go_wp2
    go_ret2
    exact⟨rfl,rfl⟩
theorem iH (t v:Int) (b:Bool) (hv:Bj t=v) (hb:okN t=b) (w:World):Calls Tryz.prog 115 #[.int .i64 t] w fun e w'=>e= .returned (.tuple #[.int .i64 v, .bool b])∧w=w':=by
 by_cases h1:t<1
 ·rw[Bj,if_pos (.inl h1)]at hv
  obtain rfl:b=false:=by rw[←hb,okN];simp;omega
  subst hv
  clear hb
  go_enter Tryz.func115, Tryz.ntmps115
  go_wp2
  go_ret2
  exact⟨rfl,rfl⟩
 ·by_cases h2:13<t
  ·rw[Bj,if_pos (.inr h2)]at hv
   obtain rfl:b=false:=by rw[←hb,okN];simp;omega
   subst hv
   clear hb
   go_enter Tryz.func115, Tryz.ntmps115
   go_wp2
   go_ret2
   exact⟨rfl,rfl⟩
  ·rw[Bj,if_neg (by omega)]at hv
   obtain rfl:b=true:=by rw[←hb,okN];simp;omega
   clear hb
   by_cases h8:t=8
   ·rw[if_pos h8]at hv
    subst hv h8
    clear h1 h2
    go_enter Tryz.func115, Tryz.ntmps115
    go_wp2
    go_ret2
    exact⟨rfl,rfl⟩
   ·rw[if_neg h8]at hv
    have q8:(t==8)=false:=by rw[beq_eq_false_iff_ne];exact h8
    by_cases h9:t=9
    ·rw[if_pos h9]at hv
     subst hv h9
     clear h1 h2 h8 q8
     go_enter Tryz.func115, Tryz.ntmps115
     go_wp2
     go_ret2
     exact⟨rfl,rfl⟩
    ·rw[if_neg h9]at hv
     have q9:(t==9)=false:=by rw[beq_eq_false_iff_ne];exact h9
     subst hv
     clear h8 h9
     go_enter Tryz.func115, Tryz.ntmps115
     go_wp2
     go_ret2
     exact⟨rfl,rfl⟩
theorem Qm (X t:Nat) (h1:1≤t) (h2:t≤13) (w:World):Calls Tryz.prog 83 #[.pointer (some ⟨X,0,none⟩), .int .i64 (t:Int)] w fun e w'=>e= .returned (.pointer (some ⟨X,wM t,none⟩))∧w=w':=by
 rcases Te h1 h2 with rfl|rfl|rfl|rfl|rfl|rfl|rfl|rfl|rfl|rfl|rfl|rfl|rfl
 all_goals
  clear h1 h2
  go_enter Tryz.func83, Tryz.ntmps83
  go_wp2
  go_ret
  exact⟨rfl,rfl⟩
theorem uF (X:Nat) (t:Int) (h:13<t) (w:World):Calls Tryz.prog 83 #[.pointer (some ⟨X,0,none⟩), .int .i64 t] w fun e w'=>e= .returned (.pointer none)∧w=w':=by
 have q1:(t==1)=false:=by rw[beq_eq_false_iff_ne];omega
 have q2:(t==2)=false:=by rw[beq_eq_false_iff_ne];omega
 have q3:(t==3)=false:=by rw[beq_eq_false_iff_ne];omega
 have q4:(t==4)=false:=by rw[beq_eq_false_iff_ne];omega
 have q5:(t==5)=false:=by rw[beq_eq_false_iff_ne];omega
 have q6:(t==6)=false:=by rw[beq_eq_false_iff_ne];omega
 have q7:(t==7)=false:=by rw[beq_eq_false_iff_ne];omega
 have q8:(t==8)=false:=by rw[beq_eq_false_iff_ne];omega
 have q9:(t==9)=false:=by rw[beq_eq_false_iff_ne];omega
 have q10:(t==10)=false:=by rw[beq_eq_false_iff_ne];omega
 have q11:(t==11)=false:=by rw[beq_eq_false_iff_ne];omega
 have q12:(t==12)=false:=by rw[beq_eq_false_iff_ne];omega
 have q13:(t==13)=false:=by rw[beq_eq_false_iff_ne];omega
 clear h
 go_enter Tryz.func83, Tryz.ntmps83
 go_wp2
 go_ret
 exact⟨rfl,rfl⟩
def iI (k:Int):Int:=if k=1 then 1 else if k=2 then 2 else 0
theorem uG (k u:Int) (hu:iI k=u) (w:World):Calls Tryz.prog 142 #[.int .i64 k] w fun e w'=>e= .returned (.int .i64 u)∧w=w':=by
 by_cases h1:k=1
 ·obtain rfl:u=1:=by rw[←hu,iI,if_pos h1]
  have q1:(k==1)=true:=by rw[beq_iff_eq];exact h1
  clear hu h1
  go_enter Tryz.func142, Tryz.ntmps142
  go_wp2
  go_ret
  exact⟨rfl,rfl⟩
 have q1:(k==1)=false:=by rw[beq_eq_false_iff_ne];exact h1
 by_cases h2:k=2
 ·obtain rfl:u=2:=by rw[←hu,iI,if_neg h1,if_pos h2]
  have q2:(k==2)=true:=by rw[beq_iff_eq];exact h2
  clear hu h1 h2
  go_enter Tryz.func142, Tryz.ntmps142
  go_wp2
  go_ret
  exact⟨rfl,rfl⟩
 have q2:(k==2)=false:=by rw[beq_eq_false_iff_ne];exact h2
 obtain rfl:u=0:=by rw[←hu,iI,if_neg h1,if_neg h2]
 clear hu h1 h2
 go_enter Tryz.func142, Tryz.ntmps142
 go_wp2
 go_ret
 exact⟨rfl,rfl⟩
def zI (ts:List Nat):List Int:=ts.map fun t:Nat=>(t:Int)
theorem AeC (ts:List Nat):(zI ts).length=ts.length:=by simp[zI]
theorem Aen {ts:List Nat} {k t:Nat} (h:ts[k]?=some t):(zI ts)[k]?=some (t:Int):=by simp[zI,h]
theorem AcO (ts:List Nat) (t:Nat):zI (ts++ [t])=zI ts++ [(t:Int)]:=by simp[zI]
theorem zS (x:Int): ∀u∈([.int .i64 x]:List Value),u.oneCell'=true:=by
 intro u hu
 simp only[List.mem_singleton]at hu
 subst hu;rfl
theorem zT (w:World) (x:Int): ∀j u,([.int .i64 x]:List Value)[j]?=some u→(w.alloc (.cells #[.int .i64 x] 3)).cell? ((⟨w.heap.size,0,none⟩:Addr).add j)=some u:=by
 intro j u hu
 rw[Bu,cell_of_row (w.alloc (.cells #[.int .i64 x] 3)) w.heap.size j _ _ (0,0) (heap_alloc_new w _)]
 simpa using hu
theorem aD (r:Rg) (X:Nat) (n:Nat) (hn:n=(tagsF 1 (numL r)).length) (w:World) (hX:Gu w X (rgL r)):Calls Tryz.prog 86 #[.func (.func 83) #[.pointer (some ⟨X,0,none⟩)] #[]] w fun e w'=> ∃A c,e= .returned (.slice A n c)∧Zs w' w'.heap.size (zI (tagsF 1 (numL r))) A c∧Below w.heap.size w w':=by
 obtain⟨i0,hi,hz0,hz1,hz2⟩:=info_parts Gp
 have HX:=Lib.hid hX
 have HN:=Lib.hid hn
 clear hX hn
 go_enter Tryz.func86, Tryz.ntmps86
 go_wp2
 go_loopw [3,4] (fun v i wr=> ∃(t m:Nat),1≤t∧t≤14∧i= .int .i64 (t:Int)∧m=(tagsF 1 ((numL r).take (t - 1))).length∧m≤13∧wr.ownsRow w.heap.size 3 1 v m (I64 (zI (tagsF 1 ((numL r).take (t - 1)))))∧Below w.heap.size w wr) (fun _ i _=>14 - (intOf i).toNat)
 case atStart=>exact⟨1,0,by omega,by omega,rfl,rfl,by omega,⟨rfl, .inl ⟨rfl,rfl⟩⟩,Below.refl _ _⟩
 case round=>
  obtain⟨t,m,h1,h2,rfl,hm,hm13,hown,hbel⟩:=hrel
  have HM:=Lib.hid hm
  have HO:=Lib.hid hown
  have HBL:=Lib.hid hbel
  have hsz:=hbel.size
  clear hm hown hbel
  by_cases hlt:t≤13
  ·have hc:=(HX.out.next HBL.out).cell (pR r h1 hlt)
   have HS:=Lib.hid (Wp (numL r) (t - 1) (by rw[Dq];omega))
   rw[show t - 1+1=t by omega]at HS
   obtain⟨x,hx⟩: ∃x,x=(numL r).getD (t - 1) 0:=⟨_,rfl⟩
   rw[←hx]at hc HS
   obtain⟨p,hp⟩: ∃p,p=wM t:=⟨_,rfl⟩
   have b1:(t:Int)≤13:=by omega
   by_cases h0:x=0
   ·have HS2:=HS.out
    rw[if_pos h0,List.append_nil]at HS2
    have HST:=Lib.hid HS2
    have q0:(x !=0)=false:=by rw[h0];rfl
    clear HS HS2 hx h0
    rw[←hp]at hc
    go_wp2_with fail
    refine(Qm X t h1 hlt wr).mono ?_
    rintro e w1 ⟨rfl,rfl⟩
    rw[←hp]
    clear hp
    go_wp2
    go_roundw
    case rel=>exact⟨t+1,m,by omega,by omega,by go_num,by rw[HM.out,Nat.add_sub_cancel,HST.out],hm13,by rw[Nat.add_sub_cancel,HST.out];exact HO.out,HBL.out⟩
    case measure=>simp[intOf];omega
   ·have HS2:=HS.out
    rw[if_neg h0]at HS2
    have HST:=Lib.hid HS2
    have q0:(x !=0)=true:=by rw[bne_iff_ne];exact h0
    have hml:=Nv ((numL r).take (t - 1)) 1
    rw[List.length_take,Dq]at hml
    have hm12:m≤12:=by have:=HM.out;omega
    clear HS HS2 hx h0 hml
    rw[←hp]at hc
    go_wp2_with fail
    refine(Qm X t h1 hlt wr).mono ?_
    rintro e w1 ⟨rfl,rfl⟩
    rw[←hp]
    clear hp
    go_wp2_with (at_builtin;refine wpList_append_own _ rfl (.tmp 15) (.tmp 17) 105 rfl w.heap.size 3 i0 (.int .i64 0) 1 8 Tryz.underlying105 hi hz0 hz1 hz2 rfl (by decide) _ m _ rfl (HO.out.alloc _) ⟨wr.heap.size,0,none⟩ 1 1 [.int .i64 (t:Int)] rfl rfl (zT wr _) (zS _) (by unfold maxLen;omega) (by omega) (by simp;omega) ?_;intro v' w3 hown' hgrow _)
    have hbel2:Below w.heap.size w w3:=(HBL.out.alloc HBL.out.size _).grown hgrow (by simp;omega) (fun j hj=>Ak HO.out hj)
    have HO2:Hid (w3.ownsRow w.heap.size 3 1 v' (m+1) (I64 (zI (tagsF 1 ((numL r).take t))))):=Lib.hid (by rw[HST.out,AcO,Ba];exact hown')
    clear hown' hgrow
    go_wp2
    go_roundw
    case rel=>exact⟨t+1,m+1,by omega,by omega,by go_num,by rw[Nat.add_sub_cancel,HST.out,List.length_append, ←HM.out];rfl,by omega,by rw[Nat.add_sub_cancel];exact HO2.out,hbel2⟩
    case measure=>simp[intOf];omega
  ·have e1:t=14:=by omega
   subst e1
   have hmn:m=n:=by rw[HM.out,HN.out];rfl
   have ho:=HO.out
   rw[show(numL r).take (14 - 1)=numL r from rfl]at ho
   obtain⟨A2,c2,rfl,_,hzs⟩:=Bo ho
   have HZ:=Lib.hid hzs
   subst hmn
   clear ho hzs hlt
   go_wp2
   go_ret
   exact⟨A2,c2,rfl,HZ.out,HBL.out⟩
theorem rM {v:Int} {ts:List Nat} {k t:Nat} (h:ts[k]?=some t) (ht:v<Bj t):He v ts=false:=by
 rw[He,List.all_eq_false]
 exact⟨t,List.mem_of_getElem? h,by simp;omega⟩
theorem zU {v:Int} {ts:List Nat} (h: ∀j t:Nat,ts[j]?=some t→Bj (t:Int)≤v):He v ts=true:=by
 rw[He,List.all_eq_true]
 intro t ht
 obtain⟨j,hj⟩:=List.mem_iff_getElem?.1 ht
 exact decide_eq_true (h j t hj)
theorem Vw (v:Int) (ts:List Nat) (n:Nat) (hn:n=ts.length) (hts: ∀t∈ts,1≤t∧t≤13) (b:Bool) (hb:He v ts=b) (A:Option Addr) (c:Nat) (w:World) (hA:Zs w w.heap.size (zI ts) A c):Calls Tryz.prog 85 #[.int .i64 v, .slice A n c] w fun e w'=>e= .returned (.bool b)∧w=w':=by
 have h63:n≤9223372036854775807:=by have h1:=hA.len;have h2:=hA.cap;rw[AeC]at h1;omega
 have HN:=Lib.hid hn
 have HT:=Lib.hid hts
 have HB:=Lib.hid hb
 have HA:=Lib.hid hA
 clear hn hts hb hA
 go_enter Tryz.func85, Tryz.ntmps85
 go_wp2
 go_loop [11] (fun i=> ∃k:Nat,k≤n∧i= .int .i64 k∧ ∀j t:Nat,j<k→ts[j]?=some t→Bj (t:Int)≤v) (fun i=>n - (intOf i).toNat)
 case atStart=>exact⟨0,Nat.zero_le _,rfl,by omega⟩
 case round=>
  obtain⟨k,hk,rfl,hall⟩:=hrel
  have HH:=Lib.hid hall
  clear hall
  by_cases hlt:k<n
  ·obtain⟨t,ht⟩: ∃t,ts[k]?=some t:=⟨_,List.getElem?_eq_getElem (by rw[←HN.out];exact hlt)⟩
   obtain⟨ad,rfl,had,hc⟩:=HA.out.at (Aen ht)
   obtain⟨t1,t2⟩:=HT.out t (List.mem_of_getElem? ht)
   have HK:=Lib.hid (show okN (t:Int)=true by rw[okN,decide_eq_true (by omega:(1:Int)≤t),decide_eq_true (by omega:(t:Int)≤13)];rfl)
   obtain⟨m,hm⟩: ∃m,Bj (t:Int)=m:=⟨_,rfl⟩
   have HM:=Lib.hid hm
   have HTT:=Lib.hid ht
   have b1:(0:Int)≤(k:Int):=by omega
   have b2:(k:Int)<(n:Int):=by omega
   clear ht hm t1 t2
   by_cases hv:v<m
   ·have HBR:=Lib.hid (HB.out.symm.trans (rM HTT.out (by rw[HM.out];exact hv)))
    go_wp2_with fail
    refine(aC t m true HM.out HK.out w).mono ?_
    rintro e w1 ⟨rfl,rfl⟩
    go_wp2
    go_ret
    exact⟨by rw[HBR.out];rfl,rfl⟩
   ·have HST:=Lib.hid (show∀j t:Nat,j<k+1→ts[j]?=some t→Bj (t:Int)≤v from by
     intro j t hj ht
     rcases Nat.lt_or_ge j k with h|h
     ·exact HH.out j t h ht
     ·have e:j=k:=by omega
      subst e
      rw[HTT.out]at ht
      cases ht
      have:=HM.out
      omega)
    go_wp2_with fail
    refine(aC t m true HM.out HK.out w).mono ?_
    rintro e w1 ⟨rfl,rfl⟩
    go_wp2
    go_round
    case rel=>exact⟨k+1,by omega,by go_num,HST.out⟩
    case measure=>simp[intOf];omega
  ·have e:k=n:=by omega
   subst e
   have HBR:=Lib.hid (HB.out.symm.trans (zU (fun j t ht=>HH.out j t (by rw[HN.out];exact(List.getElem?_eq_some_iff.1 ht).1) ht)))
   clear hlt
   go_wp2
   go_ret
   exact⟨by rw[HBR.out];rfl,rfl⟩
def TyB (w:World) (S:Option Addr):Prop:= ∀ad,S=some ad→ ∃cs fz,w.heap[ad.block]?=some (.cells cs 5 fz)
theorem TyB.next {w w':World} {S:Option Addr} (h:TyB w S) (hb:Below w.heap.size w w'):TyB w' S:=fun ad e=>by
 obtain⟨cs,fz,h1⟩:=h ad e
 exact⟨cs,fz,(hb.block _ (Array.getElem?_eq_some_iff.1 h1).1).trans h1⟩
theorem Vx {w:World} {base n m:Nat} {xs:List Value} {A:Option Addr} {c:Nat} (h:w.ownsRow base 5 1 (.slice A m c) n xs):TyB w A:=by
 intro ad e
 subst e
 rcases h.2 with⟨h1,_⟩|⟨g,cap,cur,h1,_,hg,_⟩
 ·cases h1
 ·cases h1
  exact⟨cur,_,hg⟩
theorem zV {w:World} {S:Option Addr} {base n:Nat} {v:Value} {xs:List Value} (h:TyB w S) (hown:w.ownsRow base 121 2 v n xs) {ad:Addr} (e:S=some ad):some ad.block≠v.ownBlock:=by
 intro hb
 obtain⟨cs,fz,h1⟩:=h ad e
 rcases hown.2 with⟨rfl,_⟩|⟨g,cap,cur,rfl,_,hg,_⟩
 ·cases hb
 ·simp only[Value.ownBlock,Option.some.injEq]at hb
  rw[hb,hg]at h1
  cases h1
theorem Qn {w w':World} {s:List Nat} {S:Option Addr} {c base n:Nat} {v:Value} {xs:List Value} (h:TyB w S) (hbs:Bs w w.heap.size s S c) (hown:w.ownsRow base 121 2 v n xs) (hg:w.grownBy w' v.ownBlock):TyB w' S∧Bs w' w'.heap.size s S c:=by
 refine⟨fun ad e=> ?_,fun k u hu=> ?_,hbs.nil,hbs.len,hbs.cap,hbs.lt⟩
 ·obtain⟨cs,fz,h1⟩:=h ad e
  exact⟨cs,fz,(hg.block _ (Array.getElem?_eq_some_iff.1 h1).1 (zV h hown e)).trans h1⟩
 ·obtain⟨ad,e,hlt,hc⟩:=hbs.rd k u hu
  exact⟨ad,e,Nat.lt_of_lt_of_le hlt hg.size,hg.cell hc (by rw[add_block];exact zV h hown e)⟩
theorem nN (r:Rg) (X:Nat) (ts:List Nat) (n:Nat) (hn:n=ts.length) (hn13:n≤13) (hts: ∀t∈ts,1≤t∧t≤13∧0≤(numL r).getD (t - 1) 0∧(numL r).getD (t - 1) 0<9223372036854775808) (A:Option Addr) (c:Nat) (w:World) (hX:Gu w X (rgL r)) (hA:Zs w w.heap.size (zI ts) A c):
  Calls Tryz.prog 98 #[.slice A n c, .func (.func 83) #[.pointer (some ⟨X,0,none⟩)] #[]] w fun e w'=> ∃A' c',e= .returned (.tuple #[.slice A' n c', .int .i64 0])∧Ts w' w'.heap.size (jP (numL r) ts) A' c'∧Below w.heap.size w w':=by
 obtain⟨i0,hi,hz0,hz1,hz2⟩:=info_parts Yq
 have HX:=Lib.hid hX
 have HN:=Lib.hid hn
 have HT:=Lib.hid hts
 have HA:=Lib.hid hA
 clear hX hn hts hA
 go_enter Tryz.func98, Tryz.ntmps98
 go_wp2_with (at_make;refine wpList_make_own _ rfl _ _ 64 rfl w.heap.size 121 i0 _ 2 Tryz.underlying64 hi hz0 hz1 _ _ _ n rfl rfl rfl ?b2 ?b3 ?b4 ?_)
 case b2=>rw[hz2];omega
 case b3=>unfold maxLen;omega
 case b4=>exact Nat.le_refl _
 intro w2 hown hgr
 have HO0:=Lib.hid hown
 have HB2:=Lib.hid (show Below w.heap.size w w2 from(Below.refl _ _).grown hgr (Nat.le_refl _) (fun j hj=>by cases hj))
 clear hown hgr
 go_wp2
 go_loopw [6,16] (fun v i wr=> ∃(k:Nat) (M:List TV),k≤n∧i= .int .i64 k∧M.map (·.f)=jP (numL r) (ts.take k)∧wr.ownsRow w.heap.size 121 2 v k (Es M)∧(∀q∈M,TyB wr q.S∧Bs wr wr.heap.size q.f.val q.S q.c)∧Below w.heap.size w wr) (fun _ i _=>n - (intOf i).toNat)
 case atStart=>exact⟨0,[],Nat.zero_le _,rfl,rfl,HO0.out,by simp,HB2.out⟩
 case round=>
  obtain⟨k,M,hk,rfl,hmap,hown,hvals,hbel⟩:=hrel
  have HMP:=Lib.hid hmap
  have HO:=Lib.hid hown
  have HV:=Lib.hid hvals
  have HBL:=Lib.hid hbel
  have hsz:=hbel.size
  clear hmap hown hvals hbel
  by_cases hlt:k<n
  ·obtain⟨t,ht⟩: ∃t,ts[k]?=some t:=⟨_,List.getElem?_eq_getElem (by rw[←HN.out];exact hlt)⟩
   obtain⟨ad,rfl,had,hc⟩:=(HA.out.next HBL.out).at (Aen ht)
   obtain⟨t1,t2,t3,t4⟩:=HT.out t (List.mem_of_getElem? ht)
   have hcx:=(HX.out.next HBL.out).cell (pR r t1 t2)
   have hsn:=vI (numL r) ts k t ht
   rw[←HMP.out]at hsn
   obtain⟨x,hx⟩: ∃x,x=(numL r).getD (t - 1) 0:=⟨_,rfl⟩
   rw[←hx]at hcx t3 t4 hsn
   obtain⟨o,ho⟩: ∃o,o=wM t:=⟨_,rfl⟩
   rw[←ho]at hcx
   have HX0:=Lib.hid t3
   obtain⟨p,hp⟩: ∃p,p=numB x.toNat:=⟨_,rfl⟩
   rw[←hp]at hsn
   have HSN:=Lib.hid hsn
   obtain⟨N,hN⟩: ∃N:Nat,x=(N:Int):=⟨x.toNat,by have:=HX0.out;omega⟩
   subst hN
   rw[Int.toNat_natCast]at hp
   have HP:=Lib.hid hp.symm
   have HPO:=Lib.hid ho.symm
   have HTT:=Lib.hid (And.intro t1 t2)
   have b1:(0:Int)≤(k:Int):=by omega
   have b2:(k:Int)<(n:Int):=by omega
   clear ht hx hp hsn t1 t2 t3 ho
   go_wp2_with fail
   refine(Qm X t HTT.out.1 HTT.out.2 wr).mono ?_
   rintro e w1 ⟨rfl,rfl⟩
   rw[HPO.out]
   go_wp2_with fail
   refine(mK N (by omega) p HP.out wr).mono ?_
   rintro e w1 ⟨vv,rfl,hwn,hb⟩
   obtain⟨S,cs,rfl,hbs⟩:=Av hwn (by rw[←HP.out];exact dX N)
   have HTY:=Lib.hid (Vx hwn)
   clear hwn
   have HBS:=Lib.hid hbs
   have HB1:=Lib.hid hb
   have HO1:=Lib.hid (Aj HO.out hb)
   have hs1:w.heap.size≤w1.heap.size:=Nat.le_trans hsz hb.size
   have HV1:=Lib.hid (fun q hq=>And.intro ((HV.out q hq).1.next hb) ((HV.out q hq).2.next hb))
   have HBL1:=Lib.hid (HBL.out.trans (hb.mono hsz))
   clear hbs hb
   go_wp2_with (at_builtin;refine Fq rfl (.tmp 32) (.tmp 36) rfl w1 w.heap.size k u6 M ⟨⟨(t:Int),p⟩,S,cs⟩ rfl HO1.out w1.heap.size rfl rfl (by omega) hs1 ?_;intro v3 w3 hown3 hg3)
   have hge: ∀g,u6.ownBlock=some g→w.heap.size≤g:=fun g hg=>Ak HO1.out hg
   have hb3:Below w.heap.size w w3:=HBL1.out.grown hg3 hs1 hge
   have HB3:=Lib.hid hb3
   have HO3:=Lib.hid hown3
   have HV3:=Lib.hid (show∀q∈M++ [(⟨⟨(t:Int),p⟩,S,cs⟩:TV)],TyB w3 q.S∧Bs w3 w3.heap.size q.f.val q.S q.c from fun q hq=>by
    rcases List.mem_append.1 hq with h|h
    ·exact Qn (HV1.out q h).1 (HV1.out q h).2 HO1.out hg3
    ·rw[List.mem_singleton]at h
     subst h
     exact Qn HTY.out HBS.out HO1.out hg3)
   clear hown3 hg3 hge hb3 HO1 HV1
   go_wp2
   go_roundw
   case rel=>exact⟨k+1,M++ [⟨⟨(t:Int),p⟩,S,cs⟩],by omega,by go_num,by rw[List.map_append];exact HSN.out.symm,HO3.out,HV3.out,HB3.out⟩
   case measure=>simp[intOf];omega
  ·have e:k=n:=by omega
   have e2:ts.take k=ts:=List.take_of_length_le (by rw[←HN.out];omega)
   have hmp:=HMP.out
   rw[e2]at hmp
   obtain⟨A2,c2,e3,hts⟩:=Og HO.out (fun q hq=>(HV.out q hq).2)
   rw[hmp]at hts
   have HTS:=Lib.hid hts
   subst e
   clear e2 hmp hts hlt
   subst e3
   go_wp2
   go_ret2
   exact⟨A2,c2,rfl,HTS.out,HBL.out⟩
theorem Jo (r:Rg) (X:Nat) (b:Bool) (hb:(r.t.kind==4)=b) (w:World) (hX:Gu w X (rgL r)):Calls Tryz.prog 97 #[.pointer (some ⟨X,0,none⟩)] w fun e w'=>e= .returned (.bool b)∧w=w':=by
 have hc:=hX.cells.2.1
 clear hX
 cases b with
 |false=>
  go_enter Tryz.func97, Tryz.ntmps97
  go_wp2
  go_ret
  exact⟨rfl,rfl⟩
 |true=>
  go_enter Tryz.func97, Tryz.ntmps97
  go_wp2
  go_ret
  exact⟨rfl,rfl⟩
def Jp (r:Rg):Bool × Rg:=if r.t.kind=4 then(true,r)else if r.t.uses=0 then(true,{ r with t:= { r.t with uses:=iI r.t.kind } })else(false,r)
theorem iJ (r:Rg) (X:Nat) (b:Bool) (r':Rg) (hb:Jp r=(b,r')) (w:World) (hX:Gu w X (rgL r)):Calls Tryz.prog 87 #[.pointer (some ⟨X,0,none⟩)] w fun e w'=>e= .returned (.bool b)∧Gu w' X (rgL r')∧w.grownBy w' (some X):=by
 have HX:=Lib.hid hX
 have hXw:=hX.lt
 have hc:=hX.cells.2.1
 have hcu:=hX.cells.2.2.2.2.2.2.2.2.2.1
 have hfu:=hX.frozen 9
 clear hX
 by_cases hk:r.t.kind=4
 ·rw[Jp,if_pos hk]at hb
  obtain⟨rfl,rfl⟩:=Prod.mk.inj hb
  have HK:=Lib.hid (show(r.t.kind==4)=true by rw[beq_iff_eq];exact hk)
  clear hb hk
  go_enter Tryz.func87, Tryz.ntmps87
  go_wp2_with fail
  refine(Jo r X true HK.out w HX.out).mono ?_
  rintro e w1 ⟨rfl,rfl⟩
  go_wp2
  go_ret
  exact⟨rfl,HX.out,World.grownBy.refl _ _⟩
 ·rw[Jp,if_neg hk]at hb
  have HK:=Lib.hid (show(r.t.kind==4)=false by rw[beq_eq_false_iff_ne];exact hk)
  clear hk
  by_cases hu:r.t.uses=0
  ·rw[if_pos hu]at hb
   obtain⟨rfl,rfl⟩:=Prod.mk.inj hb
   have q0:(r.t.uses !=0)=false:=by rw[hu];rfl
   obtain⟨u,hu2⟩: ∃u,iI r.t.kind=u:=⟨_,rfl⟩
   have HU:=Lib.hid hu2
   clear hb hu hu2
   go_enter Tryz.func87, Tryz.ntmps87
   go_wp2_with fail
   refine(Jo r X false HK.out w HX.out).mono ?_
   rintro e w1 ⟨rfl,rfl⟩
   go_wp2_with fail
   refine(uG r.t.kind u HU.out w).mono ?_
   rintro e w1 ⟨rfl,rfl⟩
   go_wp2
   go_ret
   rw[HU.out]
   exact⟨rfl,HX.out.set 9 u,Bl w X 9 (.int .i64 u)⟩
  ·rw[if_neg hu]at hb
   obtain⟨rfl,rfl⟩:=Prod.mk.inj hb
   have q0:(r.t.uses !=0)=true:=by rw[bne_iff_ne];exact hu
   clear hb hu
   go_enter Tryz.func87, Tryz.ntmps87
   go_wp2_with fail
   refine(Jo r X false HK.out w HX.out).mono ?_
   rintro e w1 ⟨rfl,rfl⟩
   go_wp2
   go_ret
   exact⟨rfl,HX.out,World.grownBy.refl _ _⟩
theorem Vy (w:World) (l:List Int) (cs:Array Value) (h:cs.toList=l.map fun x=>Value.int .i64 x):Gu (w.alloc (.cells cs 100)) w.heap.size l:=by
 have e:cs=(l.map fun x=>Value.int .i64 x).toArray:=by rw[←h]
 rw[e]
 exact heap_alloc_new w _
theorem AeD {a:List Int} (h: ∀x∈a,0≤x∧x≤1099511627776) (i:Nat):0≤a.getD i 0∧a.getD i 0≤1099511627776:=by
 rw[List.getD_eq_getElem?_getD]
 cases hx:a[i]? with
 |none=>exact⟨by simp,by simp⟩
 |some x=>exact h x (List.mem_of_getElem? hx)
theorem Hx: ∀(l:List Tf) (a:List Int),(∀x∈a,0≤x)→ ∀x∈(fdFill a l).2,0≤x
 |[],a,h=>h
 |f::l,a,h=>by
  rw[fdFill]
  split
  ·exact h
  ·split
   ·exact h
   ·split
    ·exact h
    ·refine Hx l _ fun x hx=> ?_
     rcases List.mem_or_eq_of_mem_set hx with hx|rfl
     ·exact h x hx
     ·omega
theorem AcP {a:List Int} (h:(decide (1≤(rdL a).ver)&&decide ((rdL a).ver≤3))=false):Jm a=false:=by
 have h':(decide (1≤a.getD 0 0)&&decide (a.getD 0 0≤3))=false:=h
 rw[Jm, ←Bool.and_assoc,h',Bool.false_and]
theorem zW {a:List Int} (h:He (rdL a).ver (tagsF 1 a)=false):Jm a=false:=by
 have h':He (a.getD 0 0) (tagsF 1 a)=false:=h
 rw[Jm,h',Bool.and_false,Bool.and_false]
theorem AcQ {a:List Int} (h:(decide (1≤(rdL a).ver)&&decide ((rdL a).ver≤3))=true) (h2:He (rdL a).ver (tagsF 1 a)=true):Jm a=true:=by
 have h':(decide (1≤a.getD 0 0)&&decide (a.getD 0 0≤3))=true:=h
 have h2':He (a.getD 0 0) (tagsF 1 a)=true:=h2
 rw[Jm, ←Bool.and_assoc,h',h2'];rfl
def Pe (r:Rg):Rg:=if r.t.kind=4 then r else { r with t:= { r.t with uses:=iI r.t.kind } }
theorem uH {k:Int} (h1:1≤k) (h2:k≤4) (h4:k≠4):iI k=k.tmod 3:=by
 rcases(show k=1∨k=2∨k=3 by omega)with rfl|rfl|rfl<;>rfl
theorem rN {r:Rg} (h1:1≤r.t.kind) (h2:r.t.kind≤4):Pe r=Fh r:=by
 unfold Pe Fh
 by_cases h4:r.t.kind=4
 ·rw[if_pos h4,if_pos h4]
 ·rw[if_neg h4,if_neg h4,uH h1 h2 h4]
theorem aE (r:Rg):(Pe r).t.kind=r.t.kind:=by unfold Pe;split<;>rfl
theorem zY (r:Rg):(Pe r).key=r.key:=by unfold Pe;split<;>rfl
theorem Uw (r:Rg):okT (Pe r).t=okT (Fh r).t:=by
 by_cases h:1≤r.t.kind∧r.t.kind≤4
 ·rw[rN h.1 h.2]
 ·have e1:okT (Pe r).t=false:=by
   cases h1:okT (Pe r).t with
   |false=>rfl
   |true=>
    have:=(Dc _).1 ((Dm _).1 h1).1
    rw[aE]at this
    omega
  have e2:okT (Fh r).t=false:=by
   cases h1:okT (Fh r).t with
   |false=>rfl
   |true=>
    have:=(Dc _).1 ((Dm _).1 h1).1
    rw[Kn]at this
    omega
  rw[e1,e2]
theorem zZ {r:Rg} (h:okT (Pe r).t=true):Pe r=Fh r:=by
 have:=(Dc _).1 ((Dm _).1 h).1
 rw[aE]at this
 exact rN this.2.2.1 this.2.2.2.1
theorem uI {r:Rg} (h:r.t.kind=4∨r.t.uses=0):Jp r=(true,Pe r):=by
 unfold Jp Pe
 by_cases h4:r.t.kind=4
 ·rw[if_pos h4,if_pos h4]
 ·rw[if_neg h4,if_neg h4,if_pos (by omega)]
theorem uJ {r:Rg} (h: ¬(r.t.kind=4∨r.t.uses=0)):Jp r=(false,r):=by
 unfold Jp
 rw[if_neg (by omega),if_neg (by omega)]
theorem iK {r:Rg} (h: ¬(r.t.kind=4∨r.t.uses=0)):Dp r=false:=by
 cases hr:Dp r with
 |false=>rfl
 |true=>simp[Dp]at hr;exact absurd hr.1 h
theorem Ns {r:Rg} (h:99<r.key):Dp r=false:=by
 cases hr:Dp r with
 |false=>rfl
 |true=>simp[Dp]at hr;omega
theorem iL {r:Rg} (h:okT (Pe r).t=false):Dp r=false:=by
 rw[Uw]at h
 rw[Dp,h,Bool.and_false,Bool.and_false]
theorem aF {r:Rg} (h:r.t.kind=4∨r.t.uses=0) (h1:r.key≤99) (h2:okT (Pe r).t=true):Dp r=true:=by
 rw[Uw]at h2
 simp[Dp]
 exact⟨h,h1,h2⟩
theorem Aaa (r:Rg) (E:Nat) (p:List Tf) (hE:Ci r=(E,p)) (w:World):Calls Tryz.prog 54 #[.agg #[.int .i64 r.t.ser, .int .i64 r.t.kind, .int .i64 r.t.frm, .int .i64 r.t.till, .int .i64 r.t.cls, .int .i64 r.t.card, .int .i64 r.t.seat, .int .i64 r.t.day, .int .i64 r.t.days, .int .i64 r.t.uses, .int .i64 r.t.epoch, .int .i64 r.key, .int .i64 r.left, .int .i64 r.inn, .int .i64 r.ver]] w fun e w'=> ∃A c,e= .returned (.tuple #[.slice A (p.length:Nat) c, .int .i64 (E:Int)])∧Ts w' w'.heap.size p A c∧Below w.heap.size w w':=by
 have hmf: ∀(fn:Fn) (first cap:Array Value) (w:World),(Instr.makeFunc fn first cap).run Tryz.prog w= .ok (.func fn first cap) w:=fun _ _ _ _=>rfl
 obtain⟨b1,h1⟩: ∃b1,okT r.t=b1:=⟨_,rfl⟩
 obtain⟨b2,h2⟩: ∃b2,(decide (0≤r.key)&&decide (r.key≤99))=b2:=⟨_,rfl⟩
 obtain⟨b3,h3⟩: ∃b3,(decide (1≤r.ver)&&decide (r.ver≤3))=b3:=⟨_,rfl⟩
 have ha:Om r=(b1&&b2&&(r.left==0)&&(r.inn==0)&&b3):=by
  rw[←h1, ←h2, ←h3,Bool.eq_iff_iff,Ez]
  simp
  constructor<;>(intro h;simp_all)
 have HE:=Lib.hid hE
 have HA:=Lib.hid ha
 have H1:=Lib.hid h1
 have H2:=Lib.hid h2
 have H3:=Lib.hid h3
 clear hE ha h1 h2 h3
 obtain⟨w0,hw0⟩: ∃w0,w0=w.alloc (.cells #[.int .i64 r.t.ser, .int .i64 r.t.kind, .int .i64 r.t.frm, .int .i64 r.t.till, .int .i64 r.t.cls, .int .i64 r.t.card, .int .i64 r.t.seat, .int .i64 r.t.day, .int .i64 r.t.days, .int .i64 r.t.uses, .int .i64 r.t.epoch, .int .i64 r.key, .int .i64 r.left, .int .i64 r.inn, .int .i64 r.ver] 39):=⟨_,rfl⟩
 have HX:Hid (Am w0 w.heap.size r):=Lib.hid (by rw[hw0];exact Am.new w r)
 have HBL:Hid (Below w.heap.size w w0):=Lib.hid (by rw[hw0];exact Aa w _ _)
 have HW:=Lib.hid hw0
 clear hw0
 go_enter Tryz.func54, Tryz.ntmps54
 go_wp2_with fail
 rw[←HW.out]
 obtain⟨e0,e1,e2,e3,e4,e5,e6,e7,e8,e9,e10,e11,e12,e13,e14⟩:=HX.out.cells
 refine(Kr r.t b1 H1.out _).mono ?_
 rintro e w1 ⟨rfl,hb⟩
 clear e0 e1 e2 e3 e4 e5 e6 e7 e8 e9 e10 e11 e12 e13 e14
 have HX1:=Lib.hid (HX.out.next hb)
 have HBL1:=Lib.hid (HBL.out.trans (hb.mono HBL.out.size))
 clear hb
 obtain⟨c0,c1,c2,c3,c4,c5,c6,c7,c8,c9,c10,c11,c12,c13,c14⟩:=HX1.out.cells
 cases b1
 rotate_left
 go_wp2_with fail
 refine(iG r.key b2 H2.out _).mono ?_
 rintro e w2 ⟨rfl,rfl⟩
 cases b2
 rotate_left
 cases q3:(r.left==0)
 rotate_left
 cases q4:(r.inn==0)
 rotate_left
 go_wp2_with fail
 refine(La r.ver b3 H3.out _).mono ?_
 rintro e w2 ⟨rfl,rfl⟩
 cases b3
 rotate_left
 focus
  have ha:Om r=true:=by rw[HA.out,q3,q4];rfl
  have HIN:=Lib.hid (eF ha)
  obtain⟨q,hq⟩: ∃q,q=cutU r:=⟨_,rfl⟩
  obtain⟨f,hf⟩: ∃f,He r.ver (tagsF 1 (numL q))=f:=⟨_,rfl⟩
  have hE:=HE.out
  have hqv:q.ver=r.ver:=by rw[hq,eG]
  rw[←hqv]at hf
  have HQ:=Lib.hid (show Ci r=(if f=true then(0,fldF 1 (numL q))else(18,[])) by
   cases f
   ·rw[Sv ha (by rw[←hq, ←hqv];exact hf)];rfl
   ·rw[Qx ha (by rw[←hq, ←hqv];exact hf), ←hq];rfl)
  rw[HQ.out]at hE
  replace HE:=Lib.hid hE
  rw[←hq]at HIN
  obtain⟨n,hn⟩: ∃n,n=(tagsF 1 (numL q)).length:=⟨_,rfl⟩
  have HN:=Lib.hid hn
  have HF:=Lib.hid hf
  have hn13:n≤13:=by rw[hn];exact Nat.le_trans (Nv _ _) (by rw[Dq];omega)
  have HTS:=Lib.hid (show∀t∈tagsF 1 (numL q),1≤t∧t≤13 from fun t ht=>by have:=Su _ _ _ ht;rw[Dq]at this;omega)
  have HTX:=Lib.hid (show∀t∈tagsF 1 (numL q),1≤t∧t≤13∧0≤(numL q).getD (t - 1) 0∧(numL q).getD (t - 1) 0<9223372036854775808 from fun t ht=>by have h1:=HTS.out t ht;have h2:=AeD HIN.out (t - 1);omega)
  have HLN:=Lib.hid (show(fldF 1 (numL q)).length=n by rw[Wq];exact hn.symm)
  have HC:=Lib.hid hq
  clear ha hf hq hqv hn hE
  go_wp2_with fail
  refine(Jo r w1.heap.size _ rfl _ (heap_alloc_new w1 _)).mono ?_
  rintro e w2 ⟨rfl,rfl⟩
  cases hk:(r.t.kind==4)
  all_goals
   have HK:=Lib.hid hk
   clear hk
   go_wp2_with fail
   first|(have HC2:=Lib.hid (show q=r by rw[HC.out,cutU,if_pos (beq_iff_eq.1 HK.out)]);obtain⟨cs,hcs⟩: ∃cs,cs=(List.map (fun x=>Value.int .i64 x) (rgL r)).toArray:=⟨_,rfl⟩;have HF0:=Lib.hid (Vy w1 (rgL q) cs (by rw[hcs,HC2.out])))|(have HC2:=Lib.hid (show q= { r with t:= { r.t with uses:=0 } } by rw[HC.out,cutU,if_neg (beq_eq_false_iff_ne.1 HK.out)]);obtain⟨cs,hcs⟩: ∃cs,cs=((List.map (fun x=>Value.int .i64 x) (rgL r)).set 9 (.int .i64 0)).toArray:=⟨_,rfl⟩;have HF0:=Lib.hid (Vy w1 (rgL q) cs (by rw[hcs,HC2.out];rfl)))
   have HB3:=Lib.hid (Aa w1 cs 100)
   have hs3:=HB3.out.size
   rw[hcs]at HF0 HB3 hs3
   clear hcs
   refine(aD q w1.heap.size n HN.out _ HF0.out).mono ?_
   rintro e w4 ⟨A4,k4,rfl,hz,hb⟩
   have HZ:=Lib.hid hz
   have HFB:=Lib.hid (HF0.out.next hb)
   have HBL4:=Lib.hid (HBL1.out.trans ((HB3.out.trans (hb.mono hs3)).mono HBL1.out.size))
   clear hb hz HF0 HB3 hs3 c0 c1 c2 c3 c4 c5 c6 c7 c8 c9 c10 c11 c12 c13 c14
   obtain⟨d0,d1,d2,d3,d4,d5,d6,d7,d8,d9,d10,d11,d12,d13,d14⟩:=HFB.out.cells
   go_wp2_with fail
   refine(Vw q.ver _ n HN.out HTS.out f HF.out A4 k4 w4 HZ.out).mono ?_
   rintro e w5 ⟨rfl,rfl⟩
   have hE:=HE.out
   cases f
   ·obtain⟨rfl,rfl⟩:=Prod.mk.inj hE
    go_wp2
    go_ret2
    exact⟨none,0,rfl,Ts.empty _ _,HBL4.out⟩
   ·obtain⟨rfl,rfl⟩:=Prod.mk.inj hE
    go_wp2_with fail
    refine(nN q w1.heap.size _ n HN.out hn13 HTX.out A4 k4 w4 HFB.out HZ.out).mono ?_
    rintro e w6 ⟨A6,k6,rfl,ht,hb⟩
    rw[Aa3]at ht
    have HT:=Lib.hid ht
    have HBE:=Lib.hid (HBL4.out.trans (hb.mono HBL4.out.size))
    clear ht hb d0 d1 d2 d3 d4 d5 d6 d7 d8 d9 d10 d11 d12 d13 d14
    go_wp2
    go_ret2
    exact⟨A6,k6,by rw[HLN.out];rfl,HT.out,HBE.out⟩
 all_goals
  have ha:=HA.out
  (try rw[q3]at ha);(try rw[q4]at ha)
  have hE:=HE.out
  rw[Nw (by rw[ha];simp)]at hE
  obtain⟨rfl,rfl⟩:=Prod.mk.inj hE
  clear ha
  go_wp2
  go_ret2
  exact⟨none,0,rfl,Ts.empty _ _,HBL1.out⟩
theorem Ew {a:List Int} {l:List Tf} {k:Nat} (h:k<l.length) (q:128≤(l.getD k TF0).tag):fdFill a (l.drop k)=(16,a):=by
 have e:l.drop k=l.getD k TF0::l.drop (k+1):=by rw[List.getD_eq_getElem?_getD,List.getElem?_eq_getElem h,Option.getD_some,List.getElem_cons_drop]
 rw[e,fdFill,if_pos q]
theorem Cq {a:List Int} {l:List Tf} {k:Nat} (h:k<l.length) (q: ¬128≤(l.getD k TF0).tag) (q2:13<(l.getD k TF0).tag):fdFill a (l.drop k)=(15,a):=by
 have e:l.drop k=l.getD k TF0::l.drop (k+1):=by rw[List.getD_eq_getElem?_getD,List.getElem?_eq_getElem h,Option.getD_some,List.getElem_cons_drop]
 rw[e,fdFill,if_neg q,if_pos q2]
theorem Dz {a:List Int} {l:List Tf} {k:Nat} (h:k<l.length) (q2: ¬13<(l.getD k TF0).tag) {v E:Nat} (hv:Ib (l.getD k TF0).val=(v,E)) (hE:E≠0):fdFill a (l.drop k)=(E,a):=by
 have e:l.drop k=l.getD k TF0::l.drop (k+1):=by rw[List.getD_eq_getElem?_getD,List.getElem?_eq_getElem h,Option.getD_some,List.getElem_cons_drop]
 rw[e,fdFill,if_neg (by omega),if_neg q2,hv,if_pos hE]
theorem Ex {a:List Int} {l:List Tf} {k:Nat} (h:k<l.length) (q2: ¬13<(l.getD k TF0).tag) {v:Nat} (hv:Ib (l.getD k TF0).val=(v,0)):fdFill a (l.drop k)=fdFill (a.set ((l.getD k TF0).tag.toNat - 1) (v:Nat)) (l.drop (k+1)):=by
 have e:l.drop k=l.getD k TF0::l.drop (k+1):=by rw[List.getD_eq_getElem?_getD,List.getElem?_eq_getElem h,Option.getD_some,List.getElem_cons_drop]
 rw[e,fdFill,if_neg (by omega),if_neg q2,hv,if_neg (by simp)]
theorem Pf: ∀(l:List Tf) (a:List Int),(fdFill a l).2.length=a.length
 |[],a=>rfl
 |f::l,a=>by
  rw[fdFill]
  split
  ·rfl
  ·split
   ·rfl
   ·split
    ·rfl
    ·rw[Pf l,List.length_set]
theorem Lb {l:List Tf} (h:isT 0 l=true) {k:Nat} (hk:k<l.length):0<(l.getD k TF0).tag:=by
 have hm:l.getD k TF0∈l:=by
  rw[List.getD_eq_getElem?_getD,List.getElem?_eq_getElem hk]
  exact List.getElem_mem _
 exact((Nu h (by omega) (by omega)).2 _ hm).2.1
theorem uK (l:List Tf) (n:Nat) (hn:n=l.length) (hi:isT 0 l=true) (a:List Int) (ha:a.length=13) (E:Nat) (a':List Int) (hE:fdFill a l=(E,a')) (X:Nat) (A:Option Addr) (c:Nat) (w:World) (hX:Gu w X (rgL (rdL a))) (hA:Ts w X l A c):
  Calls Tryz.prog 82 #[.func (.func 83) #[.pointer (some ⟨X,0,none⟩)] #[], .slice A n c] w fun e w'=>e= .returned (.int .i64 (E:Int))∧Gu w' X (rgL (rdL a'))∧w.grownBy w' (some X):=by
 have h1:n≤9223372036854775807:=by have h1:=hA.len;have h2:=hA.cap;omega
 have hXw:=hX.lt
 have HX:=Lib.hid hX
 have HN:=Lib.hid hn
 have HI:=Lib.hid hi
 have HA:=Lib.hid hA
 have HE:=Lib.hid hE
 clear hX hn hi hA hE
 go_enter Tryz.func82, Tryz.ntmps82
 go_wp2
 go_loopw [12] (fun i wr=> ∃(k:Nat) (b:List Int),k≤n∧i= .int .i64 k∧b.length=13∧fdFill b (l.drop k)=(E,a')∧Gu wr X (rgL (rdL b))∧w.grownBy wr (some X)) (fun i _=>n - (intOf i).toNat)
 case atStart=>exact⟨0,a,Nat.zero_le _,rfl,ha,HE.out,HX.out,World.grownBy.refl _ _⟩
 case round=>
  obtain⟨k,b,hk,rfl,hbl,hfill,hbox,hg⟩:=hrel
  have HF:=Lib.hid hfill
  have HB:=Lib.hid hbox
  have HG:=Lib.hid hg
  have HL:=Lib.hid hbl
  have hsz:=hg.size
  have hXr:=hbox.lt
  clear hfill hbox hg hbl
  by_cases hlt:k<n
  ·obtain⟨ad,S,cc,rfl,had,hk4⟩:=(HA.out.below (Aq HG.out (Nat.le_refl _) (Nat.le_of_lt hXw))).rd k (by rw[←HN.out];exact hlt)
   have hc0:=hk4.c0
   have hc1:=hk4.c1
   have hcap:=hk4.bs.len
   have hcap2:=hk4.bs.cap
   have HKL:=Lib.hid (show k<l.length by rw[←HN.out];exact hlt)
   have h0:=Lb HI.out HKL.out
   have b1:(0:Int)≤(k:Int):=by omega
   have b2:(k:Int)<(n:Int):=by omega
   have F1:=Lib.hid (fun q=>Ew (a:=b) HKL.out q)
   have F2:=Lib.hid (fun q q2=>Cq (a:=b) HKL.out q q2)
   have F3:=Lib.hid (fun q2 (v E:Nat) hv hE=>Dz (a:=b) HKL.out q2 (v:=v) (E:=E) hv hE)
   have F4:=Lib.hid (fun q2 (v:Nat) hv=>Ex (a:=b) HKL.out q2 (v:=v) hv)
   obtain⟨x,hx⟩: ∃x,x=l.getD k TF0:=⟨_,rfl⟩
   rw[←hx]at hc0 hc1 hcap h0 F1 F2 F3 F4
   have HBS:=Lib.hid (show Bs wr X x.val S cc by rw[hx];exact hk4.bs)
   obtain⟨wb,hwb⟩: ∃wb,wb=wr.alloc (.cells #[.int .i64 x.tag, .slice S x.val.length cc] 121):=⟨_,rfl⟩
   have hlit:Below wr.heap.size wr wb:=by rw[hwb];exact Aa wr _ _
   have HGB:=Lib.hid (show w.grownBy wb (some X)from At HG.out (Dy _ hlit))
   have HBB:=Lib.hid (show Gu wb X (rgL (rdL b))from HB.out.next hlit)
   have HBS2:=Lib.hid ((HBS.out.below (hlit.mono (Nat.le_of_lt hXr))).more (Nat.le_of_lt HBB.out.lt))
   clear hx hk4 HBS hlit
   by_cases q1:128≤x.tag
   ·have e:=F1.out q1
    rw[HF.out]at e
    obtain⟨e1,e2⟩:=Prod.mk.inj e
    have HE1:=Lib.hid e1
    have HE2:=Lib.hid e2
    clear e e1 e2
    rw[hwb]at HGB HBB
    clear hwb HBS2
    go_wp2
    go_ret
    exact⟨by rw[HE1.out];rfl,by rw[HE2.out];exact HBB.out,HGB.out⟩
   by_cases q2:13<x.tag
   ·have e:=F2.out q1 q2
    rw[HF.out]at e
    obtain⟨e1,e2⟩:=Prod.mk.inj e
    have HE1:=Lib.hid e1
    have HE2:=Lib.hid e2
    clear e e1 e2
    rw[hwb]at HGB HBB
    clear hwb HBS2
    go_wp2_with fail
    refine(uF X x.tag q2 _).mono ?_
    rintro e w1 ⟨rfl,rfl⟩
    go_wp2
    go_ret
    exact⟨by rw[HE1.out];rfl,by rw[HE2.out];exact HBB.out,HGB.out⟩
   obtain⟨t,ht⟩: ∃t:Nat,x.tag=(t:Int):=⟨x.tag.toNat,by omega⟩
   obtain⟨m,hm⟩: ∃m:Nat,x.val.length=m:=⟨_,rfl⟩
   obtain⟨v,Ev,hv⟩: ∃v Ev,Ib x.val=(v,Ev):=⟨_,_,rfl⟩
   have HV:=Lib.hid hv
   have HM:=Lib.hid hm
   have HT:=Lib.hid (show 1≤t∧t≤13 by omega)
   rw[hm]at hc1 hcap hwb
   rw[ht]at hc0 hwb
   have G3:=F3.out q2 v Ev hv
   have G4:=F4.out q2 v
   rw[ht,Int.toNat_natCast]at G4
   have HG3:=Lib.hid G3
   have HG4:=Lib.hid G4
   have b3: ¬((128:Int)≤(t:Int)):=by omega
   rw[hwb]at HGB HBB HBS2
   clear hv hm G3 G4 F1 F2 F3 F4 hwb q1 q2 ht h0
   obtain⟨o,ho⟩: ∃o,o=wM t:=⟨_,rfl⟩
   obtain⟨y,hy⟩: ∃y,(rgL (rdL b))[o]?=some y:=⟨_,by rw[ho];exact pR (rdL b) HT.out.1 HT.out.2⟩
   have hcy:=HBB.out.cell hy
   have hfy:=HBB.out.frozen o
   have HPO:=Lib.hid ho.symm
   have HST:=Lib.hid (show(rgL (rdL b)).set o (v:Int)=rgL (rdL (b.set (t - 1) (v:Int))) by rw[ho];exact AdI HL.out HT.out.1 HT.out.2 _)
   clear hy ho
   go_wp2_with fail
   refine(Qm X t HT.out.1 HT.out.2 _).mono ?_
   rintro e w1 ⟨rfl,rfl⟩
   rw[HPO.out]
   go_wp2_with fail
   refine(mL x.val m HM.out.symm v Ev HV.out S cc _ HBS2.out).mono ?_
   rintro e w1 ⟨rfl,rfl⟩
   by_cases hE0:Ev=0
   ·subst hE0
    have e:=HG4.out HV.out
    rw[HF.out]at e
    have HE4:=Lib.hid e.symm
    clear e
    go_wp2
    go_roundw
    case rel=>
     refine⟨k+1,b.set (t - 1) (v:Int),by omega,by go_num,by rw[List.length_set];exact HL.out,HE4.out, ?_, ?_⟩
     ·rw[←HST.out]
      exact(HB.out.set o (v:Int)).alloc _
     ·exact At (At HG.out (Bl wr X o (.int .i64 (v:Int)))) (Dy (some X) (Aa _ _ _))
    case measure=>simp[intOf];omega
   ·have e:=HG3.out hE0
    rw[HF.out]at e
    obtain⟨e1,e2⟩:=Prod.mk.inj e
    have HE1:=Lib.hid e1
    have HE2:=Lib.hid e2
    have s1:((Ev:Int)==0)=false:=by rw[beq_eq_false_iff_ne];omega
    have s2:((Ev:Int) !=0)=true:=by rw[bne_iff_ne];omega
    have s3:(Ev==0)=false:=by rw[beq_eq_false_iff_ne];exact hE0
    have s4:(Ev !=0)=true:=by rw[bne_iff_ne];exact hE0
    clear e e1 e2 hE0
    go_wp2
    go_ret
    exact⟨by rw[HE1.out];rfl,by rw[HE2.out];exact HBB.out,HGB.out⟩
  ·have e:k=n:=by omega
   have e2:l.drop k=[]:=List.drop_eq_nil_of_le (by rw[←HN.out];omega)
   have e3:=HF.out
   rw[e2,fdFill]at e3
   obtain⟨rfl,e4⟩:=Prod.mk.inj e3
   have HE4:=Lib.hid e4
   clear e2 e3 e4
   go_wp2
   go_ret
   exact⟨rfl,by rw[←HE4.out];exact HB.out,HG.out⟩
end Go.Proofs.YtmdbfogjfbbpjaaGreatDoor
