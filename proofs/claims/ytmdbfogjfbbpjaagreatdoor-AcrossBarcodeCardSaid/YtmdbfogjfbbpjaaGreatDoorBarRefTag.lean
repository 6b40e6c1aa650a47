import Derived.Test.YtmdbfogjfbbpjaaGreatDoorBarMath
import Derived.Test.YtmdbfogjfbbpjaaGreatDoorMacRefBlock
import Derived.Test.YtmdbfogjfbbpjaaGreatDoorShaRefSum
import Derived.Test.YtmdbfogjfbbpjaaGreatDoorLayPFields
import Derived.Test.YtmdbfogjfbbpjaaGreatDoorStripePDec
import Derived.IntWalk
import Derived.Test.YtmdbfogjfbbpjaaGreatDoorFortyPMap
import Derived.BigQuiet
set_option maxHeartbeats 2000000
set_option maxRecDepth 100000
set_option linter.unusedVariables false
section
namespace Go.Proofs.YtmdbfogjfbbpjaaGreatDoor
set_option maxRecDepth 100000
open Go.ChangeShapes Go.WideShapes Go.ChangeAt Go.RowKit
theorem bE (s l:List Nat) (n m:Nat) (hn:n=s.length) (hm:m=l.length) (A B:Option Addr) (c d:Nat) (w:World) (hA:Bs w w.heap.size s A c) (hB:Bs w w.heap.size l B d) (h5:n≤5000) (h4:m≤3999) (F:Array Value) (hF:F=(U8 (tagB s l)).toArray):
  Calls Tryz.prog 66 #[.slice A n c, .slice B m d] w fun e w'=>e= .returned (.agg F)∧Below w.heap.size w w':=by
 obtain⟨i0,hi,hz0,hz1,hz2⟩:=info_parts Be
 obtain⟨L,hL⟩: ∃L,66::l=L:=⟨_,rfl⟩
 have HL1:=Lib.hid (show U8 [66]++U8 l=U8 L by rw[←hL];rfl)
 have HLK:=Lib.hid (show 1+m=L.length by rw[←hL,hm,List.length_cons];omega)
 have HLB:=Lib.hid (show∀x∈L,x<256 by rw[←hL];intro x hx;rcases List.mem_cons.1 hx with rfl|h;decide;exact hB.lt x h)
 have HFV:=Lib.hid (show F=(U8 (Zg s L)).toArray by rw[hF,tagB,hL])
 have HM:=Lib.hid (show(U8 l).length=m by simp[U8,hm])
 have HIF:=Lib.hid (Fx (l:=tagB s l) hF (Gr _ _))
 have HN:=Lib.hid hn
 have HA:=Lib.hid hA
 have HB:=Lib.hid hB
 obtain⟨w0,hw0⟩: ∃w0,w.alloc (.cells #[.int .u8 0, .int .u8 0, .int .u8 0, .int .u8 0, .int .u8 0, .int .u8 0, .int .u8 0, .int .u8 0, .int .u8 0, .int .u8 0, .int .u8 0, .int .u8 0, .int .u8 0, .int .u8 0, .int .u8 0, .int .u8 0, .int .u8 0, .int .u8 0, .int .u8 0, .int .u8 0, .int .u8 0, .int .u8 0, .int .u8 0, .int .u8 0, .int .u8 0, .int .u8 0, .int .u8 0, .int .u8 0, .int .u8 0, .int .u8 0, .int .u8 0, .int .u8 0] 83)=w0:=⟨_,rfl⟩
 obtain⟨w1,hw1⟩: ∃w1,w0.alloc (.cells #[.int .u8 66] 5)=w1:=⟨_,rfl⟩
 have hs0:w.heap.size+1=w0.heap.size:=by rw[←hw0];simp
 have hbl0:Below w.heap.size w w0:=by rw[←hw0];exact Aa w _ _
 have hbl:Below w.heap.size w w1:=by rw[←hw1];exact hbl0.trans ((Aa w0 _ _).mono hbl0.size)
 have hown:w1.ownsRow w0.heap.size 5 1 (.slice (some ⟨w0.heap.size,0,none⟩) 1 1) 1 (U8 [66]):=by rw[←hw1];exact World.ownsRow_lit (e:= 5) (base:=w0.heap.size) (size:=1) w0 #[.int .u8 66] 1 (Nat.le_refl _) (by unfold maxLen;omega) rfl
 have HX1:=Lib.hid (show w1.heap[w.heap.size]?=some (.cells b32 83 (0,0)) by rw[←hw1,heap_alloc_old _ _ (by omega), ←hw0];exact heap_alloc_new w _)
 have hbs:w0.heap.size≤w1.heap.size:=by rw[←hw1];simp
 have HS0:=Lib.hid hbl0.size
 have HW0:=Lib.hid hs0
 have HWA:=Lib.hid hw0
 have HWB:=Lib.hid hw1
 have HOWN:=Lib.hid hown
 have HBW:=Lib.hid (hB.next hbl)
 have HBL:=Lib.hid hbl
 have h64:1+m≤maxLen:=by unfold maxLen;omega
 clear hL hF hn hm hA hB hown hbl hbl0 hs0 hw0 hw1
 go_enter Tryz.func66, Tryz.ntmps66
 go_wp2_with (at_builtin;go_loud (rw[HWA.out,HW0.out,HWB.out];refine Af _ rfl (.tmp 8) (.tmp 9) 23 rfl w0.heap.size 5 i0 (.int .u8 0) 1 Tryz.underlying23 hi hz0 hz1 hz2 rfl (.slice (some ⟨w0.heap.size,0,none⟩) 1 1) 1 (U8 [66]) rfl HOWN.out _ B m d (U8 l) rfl HBW.out.rd HM.out HBW.out.nil (Bd l) h64 (by omega) hbs ?_;intro v2 w2 hown2 hg2;rw[HL1.out]at hown2;obtain⟨AL,cL,rfl,hs2⟩:=Av hown2 HLB.out;have HS2:=Lib.hid hs2;have HB2:=Lib.hid (show Below w.heap.size w w2 from HBL.out.grown hg2 HBL.out.size (fun p hp=>by cases hp;exact HS0.out));have HX2:=Lib.hid (show w2.heap[w.heap.size]?=some (.cells b32 83 (0,0))from(hg2.block _ (Array.getElem?_eq_some_iff.1 HX1.out).1 (fun q=>by have q2:w.heap.size=w0.heap.size:=Option.some.inj q;have:=HW0.out;omega)).trans HX1.out);clear hown2 hg2 hs2))
 refine(Za s L n (1+m) HN.out HLK.out A AL c cL w2 (HA.out.next HB2.out).rd HS2.out.rd HA.out.nil HS2.out.nil HA.out.lt HLB.out h5 (by omega) F HFV.out).mono ?_
 rintro e w3 ⟨rfl,hb3⟩
 have HX3:=Lib.hid ((hb3.block w.heap.size (Array.getElem?_eq_some_iff.1 HX2.out).1).trans HX2.out)
 have HB3:=Lib.hid (HB2.out.trans (hb3.mono HB2.out.size))
 clear hb3
 go_wp2_with ((with_reducible refine Ac 4 ?_);refine Al HX3.out HIF.out.1 HIF.out.2.2 ?_ (hold:=HIF.out.2.1);intro w6 hw6)
 have hr6:w6.heap[w.heap.size]?=some (.cells F 83 (0,0)):=by rw[hw6.out];exact setRow_heap _ _ _ _ _ _ HX3.out
 refine bodyPost_ret (results_cell_row Tryz.results66 _ w6 w.heap.size 83 _ (0,0) _ rfl hr6 Tryz.underlying83 rfl HIF.out.1) rfl ⟨rfl, ?_⟩
 exact HB3.out.trans (An hw6.out (Nat.le_refl _))
end Go.Proofs.YtmdbfogjfbbpjaaGreatDoor
end
section
namespace Go.Proofs.YtmdbfogjfbbpjaaGreatDoor
open Go.ChangeShapes Go.WideShapes Go.ChangeAt Go.RowKit
theorem Fi (l:List Tf) (n:Nat) (hn:n=l.length) (b:Bool) (hb:isT 0 l=b) (A:Option Addr) (c:Nat) (w:World) (hA:Ts w w.heap.size l A c):
  Calls Tryz.prog 117 #[.slice A n c] w fun e w'=>e= .returned (.bool b)∧Below w.heap.size w w':=by
 have h1:n≤9223372036854775807:=by have h1:=hA.len;have h2:=hA.cap;omega
 have HN:=Lib.hid hn
 have HB:=Lib.hid hb
 have HA:=Lib.hid hA
 clear hn hb hA
 go_enter Tryz.func117, Tryz.ntmps117
 go_wp2
 go_loopw [3] (fun i wr=> ∃k:Nat,k≤n∧i= .int .i64 k∧isT 0 (l.take k)=true∧Below w.heap.size w wr) (fun i _=>n - (intOf i).toNat)
 case atStart=>exact⟨0,Nat.zero_le _,rfl,rfl,Below.refl _ _⟩
 case round=>
  obtain⟨k,hk,rfl,hall,hbel⟩:=hrel
  have HH:=Lib.hid hall
  have HBL:=Lib.hid hbel
  clear hall hbel
  by_cases hlt:k<n
  ·have HTA:=Lib.hid (HA.out.below HBL.out)
   obtain⟨ad,S,cc,hsome,had,hk4⟩:=HTA.out.rd k (by rw[←HN.out];exact hlt)
   have hc0:=hk4.c0
   have hc1:=hk4.c1
   have hcap:=hk4.bs.len
   have hcap2:=hk4.bs.cap
   have HKL:=Lib.hid (show k<l.length by rw[←HN.out];exact hlt)
   have b1:(0:Int)≤(k:Int):=by omega
   have b2:(k:Int)<(n:Int):=by omega
   have HBAD:=Lib.hid (fun h=>HB.out.symm.trans (rS l k HKL.out h))
   have HOK:=Lib.hid (fun h=>(iX l k HKL.out HH.out h).1)
   have HD:=Lib.hid (HBL.out.drew)
   have ha0:=(Aam HH.out).1
   have hprev: ∀j,j+1=k→wr.cell? (ad.add (j*2))=some (.int .i64 (Fk 0 (l.take k))):=fun j hj=>by
    subst hj
    obtain⟨ad',S',cc',hsome',_,hk5⟩:=HTA.out.rd j (by have:=HKL.out;omega)
    rw[hsome]at hsome'
    cases hsome'
    rw[Aao l j (by have:=HKL.out;omega)]
    exact hk5.c0
   have hzero:k=0→Fk 0 (l.take k)=0:=fun h=>by subst h;rfl
   have HPV:=Lib.hid hprev
   have HZ:=Lib.hid hzero
   clear hprev hzero
   subst hsome
   obtain⟨x,hx⟩: ∃x,x=l.getD k TF0:=⟨_,rfl⟩
   obtain⟨a,ha⟩: ∃a,a=Fk 0 (l.take k):=⟨_,rfl⟩
   rw[←hx]at hc0 hc1 hcap HBAD HOK
   rw[←ha]at HBAD HOK HPV HZ ha0
   clear hx ha hk4
   by_cases q1:x.tag<1
   ·have e:=HBAD.out (by rw[←Bool.not_eq_true,Ca];omega)
    have d1:decide (x.tag<1)=true:=decide_eq_true q1
    have HE:=Lib.hid e
    clear e
    go_wp2
    go_quiet (fail)
    go_wp2
    go_ret
    exact⟨by rw[HE.out];rfl,Ae HBL.out _⟩
   have d1:decide (x.tag<1)=false:=decide_eq_false q1
   by_cases q2:255<x.tag
   ·have e:=HBAD.out (by rw[←Bool.not_eq_true,Ca];omega)
    have d2:decide (255<x.tag)=true:=decide_eq_true q2
    have HE:=Lib.hid e
    clear e
    go_wp2
    go_quiet (fail)
    go_wp2
    go_ret
    exact⟨by rw[HE.out];rfl,Ae HBL.out _⟩
   have d2:decide (255<x.tag)=false:=decide_eq_false q2
   by_cases q3:255<x.val.length
   ·have e:=HBAD.out (by rw[←Bool.not_eq_true,Ca];omega)
    have q4:(255:Int)<(x.val.length:Int):=by omega
    have d3:decide ((255:Int)<(x.val.length:Int))=true:=decide_eq_true q4
    have HE:=Lib.hid e
    clear e
    go_wp2
    go_quiet (fail)
    go_wp2
    go_ret
    exact⟨by rw[HE.out];rfl,Ae HBL.out _⟩
   have q4: ¬(255:Int)<(x.val.length:Int):=by omega
   have d3:decide ((255:Int)<(x.val.length:Int))=false:=decide_eq_false q4
   by_cases h0:k=0
   ·have ha:=HZ.out h0
    have HO:=Lib.hid (HOK.out ((Ca _ _ _).2 ⟨by omega,by omega,by omega⟩))
    have b3: ¬(0:Int)<(k:Int):=by omega
    have d4:decide (0<k)=false:=decide_eq_false (by omega)
    clear ha h0
    go_wp2
    go_quiet (fail)
    go_wp2
    go_roundw
    case rel=>exact⟨k+1,by omega,by go_num,HO.out,Ae HBL.out _⟩
    case measure=>simp[intOf];omega
   ·obtain⟨j,hj⟩: ∃j,j+1=k:=⟨k - 1,by omega⟩
    have hp:=HPV.out j hj
    have b3:(0:Int)<(k:Int):=by omega
    have d4:decide (0<k)=true:=decide_eq_true (by omega)
    have j1:IntKind.i64.wrap ((k:Int) - 1)=(j:Int):=by rw[IntWalk.i64_in _ (by omega)];omega
    have j2:(0:Int)≤(j:Int):=by omega
    have j3:(j:Int)<(n:Int):=by omega
    clear hj h0
    by_cases q5:x.tag≤a
    ·have e:=HBAD.out (by rw[←Bool.not_eq_true,Ca];omega)
     have d5:decide (x.tag≤a)=true:=decide_eq_true q5
     have HE:=Lib.hid e
     clear e
     go_wp2
     go_quiet (fail)
     go_wp2
     go_ret
     exact⟨by rw[HE.out];rfl,Ae HBL.out _⟩
    ·have d5:decide (x.tag≤a)=false:=decide_eq_false q5
     have HO:=Lib.hid (HOK.out ((Ca _ _ _).2 ⟨by omega,by omega,by omega⟩))
     go_wp2
     go_quiet (fail)
     go_wp2
     go_roundw
     case rel=>exact⟨k+1,by omega,by go_num,HO.out,Ae HBL.out _⟩
     case measure=>simp[intOf];omega
  ·have e:k=n:=by omega
   have e2:l.take k=l:=List.take_of_length_le (by rw[←HN.out];omega)
   have HE:=Lib.hid (show b=true by rw[←HB.out, ←e2];exact HH.out)
   clear e2
   go_wp2
   go_ret
   exact⟨by rw[HE.out];rfl,HBL.out⟩
def sgI (c:Nat):Int:=if Ee c then(vl c:Int)else -1
theorem Afd:((⟨#[48,49,50,51,52,53,54,55,56,57,65,66,67,68,69,70,71,72,73,74,75,76,77,78,79,80,81,82,83,84,85,86,87,88,89,90,32,36,37,42,43,45,46,47,58]⟩:ByteArray)).size=45:=rfl
theorem Uh (c:Nat) (hc:c<256) (r:Int) (hr:sgI c=r) (w:World):Calls Tryz.prog 175 #[.int .u8 (c:Int)] w fun e w'=>e= .returned (.int .i64 r)∧w=w':=by
 have HR:=Lib.hid hr
 have hlen:=Afd
 have hv:=Ws c
 clear hr
 go_enter Tryz.func175, Tryz.ntmps175
 go_wp2
 go_loop [4] (fun i=> ∃k:Nat,k≤45∧k≤vl c∧i= .int .i64 k) (fun i=>45 - (intOf i).toNat)
 case atStart=>exact⟨0,by omega,by omega,rfl⟩
 case round=>
  obtain⟨k,hk,hkv,rfl⟩:=hrel
  by_cases hlt:k<45
  ·have hix:=Dh k hlt
   have b1:(k:Int)<45:=by omega
   by_cases he:sg k=c
   ·have hvl:=Aa9 hlt hkv he
    have e1:((sg k:Nat):Int)=(c:Int):=by rw[he]
    obtain rfl:r=(k:Int):=by rw[←HR.out,sgI,if_pos (by unfold Ee;rw[hvl];simpa using hlt),hvl]
    rw[e1]at hix
    clear HR hvl e1 he hkv hv
    go_wp2
    go_ret
    exact⟨rfl,rfl⟩
   ·have hnx:=Adm hlt hkv he
    have HNX:=Lib.hid hnx
    have hne:(((sg k:Nat):Int)==(c:Int))=false:=by rw[beq_eq_false_iff_ne];omega
    have hne2:((sg k:Nat)==c)=false:=by rw[beq_eq_false_iff_ne];exact he
    have hne3: ¬((sg k:Nat)=c):=he
    clear hnx hkv hv
    generalize sg k=y at*
    go_wp2
    go_round
    case rel=>exact⟨k+1,by omega,HNX.out,by go_num⟩
    case measure=>simp[intOf];omega
  ·obtain rfl:k=45:=by omega
   obtain rfl:r= -1:=by rw[←HR.out,sgI,if_neg (by unfold Ee;simp;omega)]
   clear HR hkv hv
   go_wp2
   go_ret
   exact⟨rfl,rfl⟩
theorem eY (w:World):Calls Tryz.prog 118 #[] w fun e w'=>e= .returned (.string { data:= #[48,49,50,51,52,53,54,55,56,57,65,66,67,68,69,70,71,72,73,74,75,76,77,78,79,80,81,82,83,84,85,86,87,88,89,90,32,36,37,42,43,45,46,47,58] })∧w=w':=by
 go_enter Tryz.func118, Tryz.ntmps118
 go_wp2
 go_ret
 exact⟨rfl,rfl⟩
theorem AaN {l:List Nat} {i a b:Nat} (ha:l[i]?=some a) (hb:l[i+1]?=some b):l.take (i+2)=l.take i++ [a,b]:=by
 rw[show i+2=(i+1)+1 from rfl,Fg hb,Fg ha,List.append_assoc];rfl
theorem pD {l:List Nat} {i a b:Nat} (ha:l[i]?=some a) (hb:l[i+1]?=some b) (h2:i % 2=0) (hl:i≤l.length):putF (l.take (i+2))=putF (l.take i)++put3 (a*256+b):=by
 rw[AaN ha hb,Mt _ _ (by rw[List.length_take,Nat.min_eq_left hl];exact h2)]
 rw[putF,putF,List.append_nil]
theorem pE {l:List Nat} {i a:Nat} (ha:l[i]?=some a) (hn:l.length=i+1) (h2:i % 2=0):putF (l.take (i+2))=putF (l.take i)++put2 a:=by
 have e:=Fg ha
 rw[List.take_of_length_le (by omega)]at e
 rw[List.take_of_length_le (show l.length≤i+2 by omega),show putF l=putF (l.take i++ [a])from congrArg putF e,Mt _ _ (by rw[List.length_take];omega)]
 rfl
theorem eZ (l:List Nat) (n:Nat) (hn:n=l.length) (hn4:n≤4000) (p:List Nat) (hp:putF l=p) (A:Option Addr) (c:Nat) (w:World) (hA:Bs w w.heap.size l A c):
    Calls Tryz.prog 67 #[.slice A n c] w fun e w'=> ∃A' c',e= .returned (.slice A' (p.length:Nat) c')∧Bs w' w'.heap.size p A' c'∧Below w.heap.size w w':=by
  obtain⟨i0,hi,hz0,hz1,hz2⟩:=info_parts Be
  have HN:=Lib.hid hn
  have HP:=Lib.hid hp
  have HA:=Lib.hid hA
  clear hn hp hA
  go_enter Tryz.func67, Tryz.ntmps67
  go_wp2_with (go_at_call 118;refine(eY _).mono ?_;rintro e w1 ⟨rfl,rfl⟩)
  go_loopw [4,5,6,7] (fun v i _ _ wr=> ∃(k:Nat) (o:List Nat),2*k≤n+1∧i= .int .i64 ((2*k:Nat):Int)∧o=putF (l.take (2*k))∧o.length≤3*k∧wr.ownsRow w.heap.size 5 1 v o.length (U8 o)∧Below w.heap.size w wr) (fun _ i _ _ _=>n+2 - (intOf i).toNat)
  case atStart=>exact⟨0,[],by omega,rfl,rfl,by simp,World.ownsRow_lit w #[] 0 (Nat.le_refl _) (by decide) rfl,(Below.refl _ _).alloc (Nat.le_refl _) _⟩
  case round=>
    obtain⟨k,o,hk,rfl,ho,hol,hown,hbel⟩:=hrel
    obtain⟨f,hf⟩: ∃f,f=2*k:=⟨_,rfl⟩
    rw[←hf]at ho⊢
    have HO:=Lib.hid ho
    have HOW:=Lib.hid hown
    have HBL:=Lib.hid hbel
    have HF:=Lib.hid hf
    clear ho hown hbel
    have hge: ∀g,u4.ownBlock=some g→w.heap.size≤g:=fun g hg=>Ak HOW.out hg
    obtain⟨j,hj⟩: ∃j,j=o.length:=⟨_,rfl⟩
    rw[←hj]at HOW hol
    have HJ:=Lib.hid hj
    have hbs:=HBL.out.size
    clear hj
    by_cases hlt:f<n
    · have hfl:f<l.length:=by rw[←HN.out];exact hlt
      obtain⟨a,ha⟩: ∃a,l[f]?=some a:=⟨_,List.getElem?_eq_getElem hfl⟩
      have ha2:a<256:=HA.out.lt a (List.mem_of_getElem? ha)
      obtain⟨ad,rfl,hb0,hc⟩:=(HA.out.below HBL.out).rd f (.int .u8 (a:Int)) (by rw[U8,List.getElem?_map,ha];rfl)
      have b0:(0:Int)≤(f:Int):=by omega
      have b1:(f:Int)<(n:Int):=by omega
      have wf2:IntKind.i64.wrap ((f:Int)+2)=(f:Int)+2:=IntWalk.i64_in _ (by omega)
      by_cases hlt2:f+1<n
      · have hfl2:f+1<l.length:=by rw[←HN.out];exact hlt2
        obtain⟨b,hb⟩: ∃b,l[f+1]?=some b:=⟨_,List.getElem?_eq_getElem hfl2⟩
        have hb2:b<256:=HA.out.lt b (List.mem_of_getElem? hb)
        obtain⟨ad',e',hb0',hc'⟩:=(HA.out.below HBL.out).rd (f+1) (.int .u8 (b:Int)) (by rw[U8,List.getElem?_map,hb];rfl)
        cases e'
        have hst:=pD ha hb (by omega) (by omega)
        rw[←HO.out]at hst
        have HST:=Lib.hid hst
        obtain⟨y,hy⟩: ∃y,y=a*256+b:=⟨_,rfl⟩
        rw[←hy]at HST
        obtain⟨f1,hf1⟩: ∃f1,f1=f+1:=⟨_,rfl⟩
        rw[←hf1]at hc'
        have b2:(f1:Int)<(n:Int):=by omega
        have b3:(0:Int)≤(f1:Int):=by omega
        have wf:IntKind.i64.wrap ((f:Int)+1)=(f1:Int):=by rw[IntWalk.i64_in _ (by omega)];omega
        have ya:IntKind.i64.wrap (a:Int)=(a:Int):=IntWalk.i64_in _ (by omega)
        have yb:IntKind.i64.wrap (b:Int)=(b:Int):=IntWalk.i64_in _ (by omega)
        have y1:IntKind.i64.wrap (256*(a:Int))=256*(a:Int):=IntWalk.i64_in _ (by omega)
        have y2:IntKind.i64.wrap (256*(a:Int)+(b:Int))=(y:Int):=by rw[IntWalk.i64_in _ (by omega)];omega
        obtain⟨r1,hr1⟩: ∃r1,r1=y % 45:=⟨_,rfl⟩
        obtain⟨q1,hq1⟩: ∃q1,q1=y / 45:=⟨_,rfl⟩
        obtain⟨r2,hr2⟩: ∃r2,r2=q1 % 45:=⟨_,rfl⟩
        obtain⟨q2,hq2⟩: ∃q2,q2=y / 2025:=⟨_,rfl⟩
        have hput:put3 y=[sg r1,sg r2,sg q2]:=by rw[put3,hr1,hr2,hq1,hq2]
        rw[hput]at HST
        have i1:=Dh r1 (by omega)
        have i2:=Dh r2 (by omega)
        have i3:=Dh q2 (by omega)
        have t1:(y:Int).tmod 45=(r1:Int):=by rw[Int.tmod_eq_emod_of_nonneg (by omega)];omega
        have t2:(y:Int).tdiv 45=(q1:Int):=by rw[Int.tdiv_eq_ediv_of_nonneg (by omega)];omega
        have t3:(q1:Int).tmod 45=(r2:Int):=by rw[Int.tmod_eq_emod_of_nonneg (by omega)];omega
        have t4:(y:Int).tdiv 2025=(q2:Int):=by rw[Int.tdiv_eq_ediv_of_nonneg (by omega)];omega
        have v1:IntKind.i64.wrap (r1:Int)=(r1:Int):=IntWalk.i64_in _ (by omega)
        have v2:IntKind.i64.wrap (q1:Int)=(q1:Int):=IntWalk.i64_in _ (by omega)
        have v3:IntKind.i64.wrap (r2:Int)=(r2:Int):=IntWalk.i64_in _ (by omega)
        have v4:IntKind.i64.wrap (q2:Int)=(q2:Int):=IntWalk.i64_in _ (by omega)
        have hmx:j+3≤maxLen:=by unfold maxLen;omega
        have hFl:f+2≤n+1:=by omega
        clear hst hput ha hb hr1 hq1 hr2 hq2 hy hf hfl hfl2 hb0 hb0' hf1
        generalize sg r1=s1 at*
        generalize sg r2=s2 at*
        generalize sg q2=s3 at*
        go_wp2
        go_quiet (fail)
        go_wp2
        go_region_held3 (fun _=>True) (trivial)
        ((refine step_append_lies _ (by rfl) _ _ _ (by rfl) w.heap.size 5 i0 _ 1 1 Tryz.underlying23 hi hz0 hz1 hz2 rfl (by omega) u4 j (U8 o) (by rfl) ((HOW.out.alloc _).drew)
            ⟨wr.heap.size,0,none⟩ 3 3 [.int .u8 (s1:Int), .int .u8 (s2:Int), .int .u8 (s3:Int)] (by rfl) (by rfl)
            (World.news_of_block (cs:= #[.int .u8 (s1:Int), .int .u8 (s2:Int), .int .u8 (s3:Int)]) (t:= 5) (fr:=(0,0)) (heap_alloc_new wr _)) (by simp[Value.oneCell'])
            (by omega) hmx (by omega) (by simp;omega) (wr.heap.size+1) (by simp) ?_;intro gg cap w1 hown1 hgrow hat hlt1))
        all_goals
          have hbel1:Below w.heap.size w w1:=by first|exact((HBL.out.alloc hbs _).drew).grown hgrow (by simp;omega) hge|exact((Ae HBL.out _).alloc (by exact hbs) _).grown hgrow (by simp;omega) hge
          have hown2:w1.ownsRow w.heap.size 5 1 (.slice (some ⟨gg,0,none⟩) (j+3) cap) (o++ [s1,s2,s3]).length (U8 (o++ [s1,s2,s3])):=by
            rw[Nh,List.length_append, ←HJ.out]
            exact hown1
          have HOW2:=Lib.hid hown2
          have HBL2:=Lib.hid hbel1
          clear hown1 hgrow hat hlt1 hown2 hbel1 hc hc'
          go_wp2
          go_roundw
          case rel=>exact⟨k+1,o++ [s1,s2,s3],by have:=HF.out;omega,by have:=HF.out;exact congrArg (Value.int .i64) (by omega),by rw[show 2*(k+1)=f+2 by have:=HF.out;omega];exact HST.out.symm,by rw[List.length_append, ←HJ.out];simp only[List.length_cons,List.length_nil];omega,HOW2.out,HBL2.out⟩
          case measure=>simp[intOf];omega
      · have hst:=pE ha (by rw[←HN.out];omega) (show f % 2=0 by omega)
        rw[←HO.out]at hst
        have HST:=Lib.hid hst
        have wf:IntKind.i64.wrap ((f:Int)+1)=(n:Int):=by rw[IntWalk.i64_in _ (by omega)];omega
        have ya:IntKind.i64.wrap (a:Int)=(a:Int):=IntWalk.i64_in _ (by omega)
        obtain⟨r1,hr1⟩: ∃r1,r1=a % 45:=⟨_,rfl⟩
        obtain⟨q1,hq1⟩: ∃q1,q1=a / 45:=⟨_,rfl⟩
        have hput:put2 a=[sg r1,sg q1]:=by rw[put2,hr1,hq1]
        rw[hput]at HST
        have i1:=Dh r1 (by omega)
        have i2:=Dh q1 (by omega)
        have t1:(a:Int).tmod 45=(r1:Int):=by rw[Int.tmod_eq_emod_of_nonneg (by omega)];omega
        have t2:(a:Int).tdiv 45=(q1:Int):=by rw[Int.tdiv_eq_ediv_of_nonneg (by omega)];omega
        have v1:IntKind.i64.wrap (r1:Int)=(r1:Int):=IntWalk.i64_in _ (by omega)
        have v2:IntKind.i64.wrap (q1:Int)=(q1:Int):=IntWalk.i64_in _ (by omega)
        have hmx:j+2≤maxLen:=by unfold maxLen;omega
        have b2: ¬((n:Int)<(n:Int)):=by omega
        have hFl:f+2=n+1:=by omega
        clear hst hput ha hr1 hq1 hf hfl hb0
        generalize sg r1=s1 at*
        generalize sg q1=s2 at*
        go_wp2
        go_region_held3 (fun _=>True) (trivial)
        ((refine step_append_lies _ (by rfl) _ _ _ (by rfl) w.heap.size 5 i0 _ 1 1 Tryz.underlying23 hi hz0 hz1 hz2 rfl (by omega) u4 j (U8 o) (by rfl) ((HOW.out.alloc _).drew)
            ⟨wr.heap.size,0,none⟩ 2 2 [.int .u8 (s1:Int), .int .u8 (s2:Int)] (by rfl) (by rfl)
            (World.news_of_block (cs:= #[.int .u8 (s1:Int), .int .u8 (s2:Int)]) (t:= 5) (fr:=(0,0)) (heap_alloc_new wr _)) (by simp[Value.oneCell'])
            (by omega) hmx (by omega) (by simp;omega) (wr.heap.size+1) (by simp) ?_;intro gg cap w1 hown1 hgrow hat hlt1))
        all_goals
          have hbel1:Below w.heap.size w w1:=by first|exact((HBL.out.alloc hbs _).drew).grown hgrow (by simp;omega) hge|exact((Ae HBL.out _).alloc (by exact hbs) _).grown hgrow (by simp;omega) hge
          have hown2:w1.ownsRow w.heap.size 5 1 (.slice (some ⟨gg,0,none⟩) (j+2) cap) (o++ [s1,s2]).length (U8 (o++ [s1,s2])):=by
            rw[Nh,List.length_append, ←HJ.out]
            exact hown1
          have HOW2:=Lib.hid hown2
          have HBL2:=Lib.hid hbel1
          clear hown1 hgrow hat hlt1 hown2 hbel1 hc
          go_wp2
          go_roundw
          case rel=>exact⟨k+1,o++ [s1,s2],by have:=HF.out;omega,by have:=HF.out;exact congrArg (Value.int .i64) (by omega),by rw[show 2*(k+1)=f+2 by have:=HF.out;omega];exact HST.out.symm,by rw[List.length_append, ←HJ.out];simp only[List.length_cons,List.length_nil];omega,HOW2.out,HBL2.out⟩
          case measure=>simp[intOf];omega
    · have b1: ¬((f:Int)<(n:Int)):=by omega
      have e:o=p:=by rw[HO.out,List.take_of_length_le (by rw[←HN.out];omega),HP.out]
      subst e
      have hplt: ∀x∈o,x<256:=by rw[←HP.out];exact Vb l
      obtain⟨A2,c2,rfl,hbs2⟩:=Av HOW.out hplt
      have HBS:=Lib.hid hbs2
      clear hbs2 hge hplt
      go_wp2
      go_ret
      exact⟨A2,c2,by rw[HJ.out];rfl,HBS.out,HBL.out⟩
end Go.Proofs.YtmdbfogjfbbpjaaGreatDoor
end
