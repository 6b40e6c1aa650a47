import Derived.Test.YtmdbfogjfbbpjaaGreatDoorMem
import Derived.Test.YtmdbfogjfbbpjaaGreatDoorLayPFields
import Derived.Test.YtmdbfogjfbbpjaaGreatDoorLineMath
import Derived.Test.YtmdbfogjfbbpjaaGreatDoorLayPTold
import Derived.Test.YtmdbfogjfbbpjaaGreatDoorMacRefBlock
import Derived.Test.YtmdbfogjfbbpjaaGreatDoorEqualBytes
import Derived.OwnWalk
import Derived.RegionTactic
import Derived.BigRegion
import Derived.Deep.RegionHeld3
set_option maxHeartbeats 1600000
set_option maxRecDepth 100000
set_option linter.unusedVariables false
namespace Go.Proofs.YtmdbfogjfbbpjaaGreatDoor
open Go.ChangeShapes Go.WideShapes Go.ChangeAt Go.RowKit
theorem Qo (l:List Nat) (n:Nat) (hn:n=l.length) (E:Int) (N:Nat) (hE:Bt l=(E,N)) (A:Option Addr) (c:Nat) (w:World) (hA:Bs w w.heap.size l A c):
  Calls Tryz.prog 162 #[.slice A n c] w fun e w'=>e= .returned (.tuple #[.int .i64 (N:Nat), .int .i64 E])∧w=w':=by
 have h63:n≤9223372036854775807:=by have:=hA.len;have:=hA.cap;omega
 have HN:=Lib.hid hn
 have HA:=Lib.hid hA
 have HE:=Lib.hid hE
 clear hn hA hE
 by_cases h18:18<n
 ·have h1:Bt l=(1,0):=by rw[Bt,if_pos (by rw[←HN.out];exact h18)]
  obtain⟨rfl,rfl⟩:E=1∧N=0:=by have:=HE.out;rw[h1]at this;exact⟨(Prod.mk.inj this).1.symm,(Prod.mk.inj this).2.symm⟩
  clear HE h1
  go_enter Tryz.func162, Tryz.ntmps162
  go_wp2
  go_ret2
  exact⟨rfl,rfl⟩
 have h18':n≤18:=by omega
 have HR:=Lib.hid (show Kx l 0=(E,N) by rw[←HE.out,Bt,if_neg (by rw[←HN.out];exact h18)])
 clear h18 HE h63
 go_enter Tryz.func162, Tryz.ntmps162
 go_wp2
 go_loop [4,5] (fun t i=> ∃(k a:Nat),k≤n∧i= .int .i64 k∧t= .int .i64 (a:Nat)∧a<10^k∧Kx (l.drop k) a=(E,N)) (fun _ i=>n - (intOf i).toNat)
 case atStart=>exact⟨0,0,Nat.zero_le _,rfl,rfl,by decide,HR.out⟩
 case round=>
  obtain⟨k,a,hk,rfl,rfl,ha,hr⟩:=hrel
  by_cases hlt:k<n
  ·have hkl:k<l.length:=by rw[←HN.out];exact hlt
   obtain⟨ad,rfl,hb,hc⟩:=HA.out.rd k _ (Co l k hkl)
   rw[Hv hkl]at hr
   generalize l[k]=x at*
   have h10:=cB (show k≤18 by omega)
   have h11:k+1≤18:=by omega
   have HS:=Lib.hid hr
   clear hr hkl
   by_cases hx:9<x
   ·obtain⟨rfl,rfl⟩:E=7∧N=0:=by have:=HS.out;rw[Kx,if_pos hx]at this;exact⟨(Prod.mk.inj this).1.symm,(Prod.mk.inj this).2.symm⟩
    clear HS
    go_wp2
    go_ret2
    exact⟨rfl,rfl⟩
   ·have hx9:x≤9:=by omega
    have hr2:Kx (l.drop (k+1)) (10*a+x)=(E,N):=by have:=HS.out;rwa[Kx,if_neg hx]at this
    have ha2:10*a+x<10^(k+1):=by rw[Nat.pow_succ];omega
    have hb2:=Nat.lt_of_lt_of_le ha2 (cB h11)
    have HR2:=Lib.hid hr2
    have HA2:=Lib.hid ha2
    have HAK:=Lib.hid ha
    have w1:IntKind.i64.wrap (10*(a:Int))=10*(a:Int):=IntWalk.i64_in _ (by omega)
    have w2:IntKind.i64.wrap ((a:Int)*10)=(a:Int)*10:=IntWalk.i64_in _ (by omega)
    have w3:IntKind.i64.wrap (10*(a:Int)+(x:Int))=10*(a:Int)+(x:Int):=IntWalk.i64_in _ (by omega)
    have w4:IntKind.i64.wrap ((a:Int)*10+(x:Int))=(a:Int)*10+(x:Int):=IntWalk.i64_in _ (by omega)
    clear HS hx hr2 ha2 ha h10
    go_wp2
    go_round
    case rel=>exact⟨k+1,10*a+x,by omega,by go_num,by go_num,HA2.out,HR2.out⟩
    case measure=>simp[intOf];omega
  ·have e:l.drop k=[]:=List.drop_of_length_le (by rw[←HN.out];omega)
   rw[e,Kx]at hr
   obtain⟨rfl,rfl⟩:E=0∧N=a:=⟨(Prod.mk.inj hr).1.symm,(Prod.mk.inj hr).2.symm⟩
   have h10:=Nat.lt_of_lt_of_le ha (cB (show k≤18 by omega))
   clear hr e ha
   go_wp2
   go_ret2
   exact⟨rfl,rfl⟩
theorem Aab {W:World} {B:Nat} {l:List Nat} {A:Option Addr} {c:Nat} (h:Bs W B l A c) (o y:Nat) {a:Option Addr} {s:List Nat} (hs:s=(l.drop o).take y) (ha:a=if c=o then A else A.map (fun x=>x.add o)):Bs W B s a (c - o):=by
 have hlen:=h.len
 have hcap:=h.cap
 have hsl:s.length≤l.length - o:=by rw[hs,List.length_take,List.length_drop];omega
 by_cases h0:s=[]
 ·subst h0
  refine⟨by intro j u hu;simp[U8]at hu,fun e=> ?_,by simp,by omega,by simp⟩
  rw[ha]at e
  have:A=none:=by
   split at e
   ·exact e
   ·cases A
    ·rfl
    ·cases e
  have:=h.nil this
  omega
 have hp:0<s.length:=List.length_pos_iff.2 h0
 have hco:c≠o:=by omega
 rw[if_neg hco]at ha
 have hp:Zc A l a s:=fun _=>⟨o,ha,(l.drop o).drop y,by rw[hs,List.take_append_drop]⟩
 have hb:=tV h hp (by omega)
 refine⟨hb.rd,fun e=> ?_,by omega,by omega,hb.lt⟩
 have:=hb.nil e
 omega
theorem iM (x:Int): ∀u∈([.int .i64 x]:List Value),u.oneCell'=true:=by
 intro u hu
 simp at hu
 subst hu
 rfl
theorem Pg (l:List Nat) (ws:List Int) (ml m:Nat) (hml:ml=l.length) (hm:m=ws.length) (E:Int) (p:List Int) (hR:Bq l ws=(E,p)) (A A':Option Addr) (c c':Nat) (w:World) (hA:Bs w w.heap.size l A c) (hA':Zs w w.heap.size ws A' c'):
  Calls Tryz.prog 108 #[.slice A ml c, .slice A' m c'] w fun e w'=> ∃A2 c2,e= .returned (.tuple #[.slice A2 (p.length:Nat) c2, .int .i64 E])∧Zs w' w'.heap.size p A2 c2∧Below w.heap.size w w':=by
 obtain⟨i0,hi,hz0,hz1,hz2⟩:=info_parts Gp
 have h63:m≤9223372036854775807:=by have:=hA'.len;have:=hA'.cap;omega
 have h63':ml≤9223372036854775807:=by have:=hA.len;have:=hA.cap;omega
 obtain⟨T,hT⟩: ∃T,Hp ws=T:=⟨_,rfl⟩
 rw[Bq,hT]at hR
 have HML:=Lib.hid hml
 have HM:=Lib.hid hm
 have HA:=Lib.hid hA
 have HA':=Lib.hid hA'
 have HR:=Lib.hid hR
 have HT:=Lib.hid hT
 clear hml hm hA hA' hR hT
 by_cases h1:20<m
 ·have h2:T=(0,1):=by rw[←HT.out,Hp,if_pos (by rw[←HM.out];exact h1)]
  obtain⟨rfl,rfl⟩:E=1∧p=[]:=by have:=HR.out;rw[h2,if_pos (by decide)]at this;exact⟨(Prod.mk.inj this).1.symm,(Prod.mk.inj this).2.symm⟩
  clear HR HT h2
  go_enter Tryz.func108, Tryz.ntmps108
  go_wp2
  go_ret2
  exact⟨none,0,rfl,Jg _,Below.refl _ _⟩
 have h20:m≤20:=by omega
 have HTR:=Lib.hid (show Nb ws 0=T by rw[←HT.out,Hp,if_neg (by rw[←HM.out];exact h1)])
 clear h1
 go_enter Tryz.func108, Tryz.ntmps108
 go_wp2
 go_loop [6,7] (fun t i=> ∃(k:Nat) (s:Int),k≤m∧i= .int .i64 k∧t= .int .i64 s∧0≤s∧s≤18*(k:Int)∧Nb (ws.drop k) s=T) (fun _ i=>m - (intOf i).toNat)
 case atStart=>exact⟨0,0,Nat.zero_le _,rfl,rfl,by omega,by omega,HTR.out⟩
 case round=>
  obtain⟨k,s,hk,rfl,rfl,hs0,hs1,hr⟩:=hrel
  have HRR:=Lib.hid hr
  clear hr
  by_cases hlt:k<m
  ·have hkw:k<ws.length:=by rw[←HM.out];exact hlt
   obtain⟨y,hy⟩: ∃y,ws[k]?=some y:=⟨_,List.getElem?_eq_getElem hkw⟩
   have hdw:ws.drop k=y::ws.drop (k+1):=by rw[Hv hkw];congr 1;rw[List.getElem?_eq_getElem hkw]at hy;exact Option.some.inj hy
   obtain⟨ad',rfl,hb',hc'⟩:=HA'.out.at hy
   have hj:=HRR.out
   rw[hdw,Nb]at hj
   have b1:(0:Int)≤(k:Int):=by omega
   have b2:(k:Int)<(m:Int):=by omega
   clear hkw hy hdw HRR
   by_cases h0:0≤y∧y≤18
   ·rw[if_pos h0]at hj
    have HJ:=Lib.hid hj
    obtain⟨hy0,hy1⟩:=h0
    have w1:IntKind.i64.wrap (s+y)=s+y:=IntWalk.i64_in _ (by omega)
    clear hj
    go_wp2
    go_round
    case rel=>exact⟨k+1,s+y,by omega,by go_num,by go_num,by omega,by omega,HJ.out⟩
    case measure=>simp[intOf];omega
   ·rw[if_neg h0]at hj
    obtain⟨rfl,rfl⟩:E=1∧p=[]:=by have:=HR.out;rw[←hj,if_pos (by decide)]at this;exact⟨(Prod.mk.inj this).1.symm,(Prod.mk.inj this).2.symm⟩
    clear hj
    by_cases h0':y<0
    ·clear h0
     go_wp2
     go_ret2
     exact⟨none,0,rfl,Jg _,Below.refl _ _⟩
    ·have h1':0≤y:=by omega
     have h2':18<y:=by omega
     clear h0 h0'
     go_wp2
     go_ret2
     exact⟨none,0,rfl,Jg _,Below.refl _ _⟩
  ·obtain rfl:k=m:=by omega
   have hj:=HRR.out
   rw[List.drop_of_length_le (by rw[←HM.out];omega),Nb]at hj
   have hT0:Hp ws=(s,0):=by rw[HT.out,hj]
   obtain⟨_,hw18,hsum⟩:=Vl (ws:=ws) (by rw[hT0])
   rw[hT0]at hsum
   have hr:=HR.out
   rw[←hj,if_neg (by simp)]at hr
   have HW18:=Lib.hid hw18
   have HSUM:=Lib.hid hsum
   clear HRR hj hT0 hw18 hsum HTR HT HR
   by_cases hS:(l.length:Int)≠s
   ·rw[if_pos hS]at hr
    obtain⟨rfl,rfl⟩:=Prod.mk.inj hr
    have hne:(s !=(ml:Int))=true:=by rw[bne_iff_ne,HML.out];exact fun e=>hS e.symm
    clear hr hS
    go_wp2
    go_ret2
    exact⟨none,0,rfl,Jg _,Below.refl _ _⟩
   rw[if_neg hS]at hr
   have hSe:s=(ml:Int):=by rw[HML.out];omega
   subst hSe
   have HGR:=Lib.hid hr
   have HS:=Lib.hid (show(l.length:Int)=ws.sum by rw[←HML.out];exact HSUM.out)
   have hml360:ml≤360:=by omega
   clear hr hS HSUM
   go_wp2
   go_loopw [8,9,10] (fun v t i wr=> ∃(j o:Nat) (out:List Int),j≤k∧i= .int .i64 j∧t= .int .i64 o∧o≤ml∧wr.ownsRow w.heap.size 3 1 v j (I64 out)∧Df (Fe (l.drop o) (ws.drop j)) out=(E,p)∧((l.drop o).length:Int)=(ws.drop j).sum∧Below w.heap.size w wr) (fun _ _ i _=>k - (intOf i).toNat)
   case atStart=>exact⟨0,0,[],Nat.zero_le _,rfl,rfl,Nat.zero_le _,World.ownsRow_lit w #[] 0 (Nat.le_refl _) (by decide) rfl,HGR.out,HS.out,(Below.refl _ _).alloc (Nat.le_refl _) _⟩
   case round=>
    obtain⟨j,o,out,hj,rfl,rfl,ho,hown,hgr,hsu,hbel⟩:=hrel
    have HO:=Lib.hid hown
    have HG2:=Lib.hid hgr
    have HSU:=Lib.hid hsu
    have HBL:=Lib.hid hbel
    clear hown hgr hsu hbel HGR HS
    by_cases hjlt:j<k
    ·have hkw:j<ws.length:=by rw[←HM.out];exact hjlt
     obtain⟨y,hy⟩: ∃y,ws[j]?=some y:=⟨_,List.getElem?_eq_getElem hkw⟩
     have hdw:ws.drop j=y::ws.drop (j+1):=by rw[Hv hkw];congr 1;rw[List.getElem?_eq_getElem hkw]at hy;exact Option.some.inj hy
     obtain⟨hy0,hy18⟩:=HW18.out y (List.mem_of_getElem? hy)
     obtain⟨Y,rfl⟩: ∃Y:Nat,y=Y:=⟨y.toNat,by omega⟩
     have hsr:=Oc (ws.drop (j+1)) (fun x hx=>HW18.out x (List.mem_of_mem_drop hx))
     have hss:=HSU.out
     rw[hdw,List.sum_cons,List.length_drop, ←HML.out]at hss
     have hYr:o+Y≤ml:=by omega
     have hsd:((l.drop (o+Y)).length:Int)=(ws.drop (j+1)).sum:=by rw[List.length_drop, ←HML.out];omega
     obtain⟨ad',rfl,hb',hc'⟩:=(HA'.out.next HBL.out).at hy
     have hgr:=HG2.out
     rw[hdw,Fe,Int.toNat_natCast,List.drop_drop,Df]at hgr
     obtain⟨q,hq⟩: ∃q,q=(l.drop o).take Y:=⟨_,rfl⟩
     have hql:Y=q.length:=by rw[hq,List.length_take,List.length_drop, ←HML.out];omega
     rw[←hq]at hgr
     obtain⟨eg,zg,hg⟩: ∃eg zg,Bt q=(eg,zg):=⟨_,_,rfl⟩
     rw[hg]at hgr
     obtain⟨ap,hap⟩: ∃ap,ap=if c=o then A else A.map (fun x=>x.add o):=⟨_,rfl⟩
     have HBS:=Lib.hid (Aab (HA.out.next HBL.out) o Y hq hap)
     have HQL:=Lib.hid hql
     have HG:=Lib.hid hg
     have HSD:=Lib.hid hsd
     have HGR:=Lib.hid hgr
     have hmc:ml≤c:=by rw[HML.out];exact HA.out.len
     have b1:(0:Int)≤(j:Int):=by omega
     have b2:(j:Int)<(k:Int):=by omega
     have w1:IntKind.i64.wrap ((o:Int)+(Y:Int))=(o:Int)+(Y:Int):=IntWalk.i64_in _ (by omega)
     have t1:((o:Int)+(Y:Int)).toNat=o+Y:=by omega
     have t2:o+Y - o=Y:=by omega
     have g1:(o:Int)≤(o:Int)+(Y:Int):=by omega
     have g2:(o:Int)+(Y:Int)≤(c:Int):=by omega
     have HBL2:=Lib.hid HBL.out.size
     have HY:=Lib.hid hy
     clear hkw hy hdw hsr hss hsd hgr hq hql hg
     have HAP:=Lib.hid hap
     by_cases hco:c=o
     ·have ea:ap=A:=by have:=HAP.out;rwa[if_pos hco]at this
      have HB0:=Lib.hid (show Bs wr wr.heap.size q ap 0 by have:=HBS.out;rwa[hco,Nat.sub_self]at this)
      clear hap
      subst ea
      subst hco
      by_cases e0:eg=0
      ·subst e0
       have hgr2:Df (Fe (l.drop (c+Y)) (ws.drop (j+1))) (out++ [(zg:Int)])=(E,p):=by have:=HGR.out;rwa[if_pos rfl]at this
       have HG3:=Lib.hid hgr2
       clear hgr2
       go_wp2_with (first|(go_at_call 162;refine(Qo q Y HQL.out 0 zg HG.out ap 0 wr HB0.out).mono ?_;rintro e w' ⟨rfl,rfl⟩)|(at_builtin;refine wpList_append_own _ rfl _ _ 105 rfl w.heap.size 3 i0 (.int .i64 0) 1 8 Tryz.underlying105 hi hz0 hz1 hz2 rfl (by decide) _ j (I64 out) rfl (HO.out.alloc _) ⟨_,0,none⟩ 1 1 [.int .i64 (zg:Int)] rfl rfl (cell_one_new _ _ _) (iM _) ?c3 ?c4 ?c5 ?_))
       case c3=>unfold maxLen;omega
       case c4=>omega
       case c5=>have:=HBL.out.size;simp;omega
       intro v' w2 hown' hgrow hnil
       have hbel2:Below w.heap.size w w2:=(HBL.out.alloc HBL.out.size _).grown hgrow (by have:=HBL.out.size;simp;omega) (fun g hg=>Ak HO.out hg)
       have hown1:w2.ownsRow w.heap.size 3 1 v' (j+1) (I64 (out++ [(zg:Int)])):=by rw[Ba];exact hown'
       have HO2:=Lib.hid hown1
       obtain⟨ad2,e2,_,hc2⟩:=(HA'.out.next hbel2).at HY.out
       cases e2
       clear hown' hgrow hnil hown1
       go_wp2
       go_roundw
       case rel=>exact⟨j+1,c+Y,out++ [(zg:Int)],by omega,by go_num,by go_num,by omega,HO2.out,HG3.out,HSD.out,hbel2⟩
       case measure=>simp[intOf];omega
      ·have hne:(eg !=0)=true:=by rw[bne_iff_ne];exact e0
       obtain⟨he,rfl⟩:E=eg∧p=[]:=by have:=HGR.out;rw[if_neg e0]at this;exact⟨(Prod.mk.inj this).1.symm,(Prod.mk.inj this).2.symm⟩
       subst he
       go_wp2_with (go_at_call 162;refine(Qo q Y HQL.out E zg HG.out ap 0 wr HB0.out).mono ?_;rintro e w' ⟨rfl,rfl⟩)
       go_ret2
       exact⟨none,0,rfl,Jg _,HBL.out⟩
     ·have ea:ap=A.map (fun x=>x.add o):=by have:=HAP.out;rwa[if_neg hco]at this
      have HB0:=HBS
      clear hap
      subst ea
      by_cases e0:eg=0
      ·subst e0
       have hgr2:Df (Fe (l.drop (o+Y)) (ws.drop (j+1))) (out++ [(zg:Int)])=(E,p):=by have:=HGR.out;rwa[if_pos rfl]at this
       have HG3:=Lib.hid hgr2
       clear hgr2
       go_wp2_with (first|(go_at_call 162;refine(Qo q Y HQL.out 0 zg HG.out _ (c - o) wr HB0.out).mono ?_;rintro e w' ⟨rfl,rfl⟩)|(at_builtin;refine wpList_append_own _ rfl _ _ 105 rfl w.heap.size 3 i0 (.int .i64 0) 1 8 Tryz.underlying105 hi hz0 hz1 hz2 rfl (by decide) _ j (I64 out) rfl (HO.out.alloc _) ⟨_,0,none⟩ 1 1 [.int .i64 (zg:Int)] rfl rfl (cell_one_new _ _ _) (iM _) ?c3 ?c4 ?c5 ?_))
       case c3=>unfold maxLen;omega
       case c4=>omega
       case c5=>have:=HBL.out.size;simp;omega
       intro v' w2 hown' hgrow hnil
       have hbel2:Below w.heap.size w w2:=(HBL.out.alloc HBL.out.size _).grown hgrow (by have:=HBL.out.size;simp;omega) (fun g hg=>Ak HO.out hg)
       have hown1:w2.ownsRow w.heap.size 3 1 v' (j+1) (I64 (out++ [(zg:Int)])):=by rw[Ba];exact hown'
       have HO2:=Lib.hid hown1
       obtain⟨ad2,e2,_,hc2⟩:=(HA'.out.next hbel2).at HY.out
       cases e2
       clear hown' hgrow hnil hown1
       go_wp2
       go_roundw
       case rel=>exact⟨j+1,o+Y,out++ [(zg:Int)],by omega,by go_num,by go_num,by omega,HO2.out,HG3.out,HSD.out,hbel2⟩
       case measure=>simp[intOf];omega
      ·have hne:(eg !=0)=true:=by rw[bne_iff_ne];exact e0
       obtain⟨he,rfl⟩:E=eg∧p=[]:=by have:=HGR.out;rw[if_neg e0]at this;exact⟨(Prod.mk.inj this).1.symm,(Prod.mk.inj this).2.symm⟩
       subst he
       go_wp2_with (go_at_call 162;refine(Qo q Y HQL.out E zg HG.out _ (c - o) wr HB0.out).mono ?_;rintro e w' ⟨rfl,rfl⟩)
       go_ret2
       exact⟨none,0,rfl,Jg _,HBL.out⟩
    ·obtain rfl:j=k:=by omega
     have hj:=HG2.out
     rw[List.drop_of_length_le (show ws.length≤j by rw[←HM.out];exact Nat.le_refl _),Fe,Df]at hj
     obtain⟨rfl,rfl⟩:E=0∧p=out:=⟨(Prod.mk.inj hj).1.symm,(Prod.mk.inj hj).2.symm⟩
     obtain⟨A2,c2,rfl,hjl,hz⟩:=Bo HO.out
     have HZ:=Lib.hid hz
     have HJL:=Lib.hid hjl
     clear hj hz hjl
     go_wp2
     go_ret2
     exact⟨A2,c2,by rw[HJL.out];rfl,HZ.out,HBL.out⟩
theorem Aac (l:List Nat) (n:Nat) (hn:n=l.length) (E:Int) (r:Rg) (hE:By l=(E,r)) (A:Option Addr) (c:Nat) (w:World) (hA:Bs w w.heap.size l A c) (h:l=[]):Calls Tryz.prog 61 #[.slice A n c] w fun e w'=>e= .returned (.tuple #[.agg #[.int .i64 r.t.ser, .int .i64 r.t.kind, .int .i64 r.t.frm, .int .i64 r.t.till, .int .i64 r.t.cls, .int .i64 r.t.card, .int .i64 r.t.seat, .int .i64 r.t.day, .int .i64 r.t.days, .int .i64 r.t.uses, .int .i64 r.t.epoch, .int .i64 r.key, .int .i64 r.left, .int .i64 r.inn, .int .i64 r.ver], .int .i64 E])∧Below w.heap.size w w':=by
 subst h
 obtain⟨rfl,rfl⟩:E=14∧r=Ah:=by have:=hE;exact⟨(Prod.mk.inj this).1.symm,(Prod.mk.inj this).2.symm⟩
 obtain rfl:n=0:=hn
 clear hE
 go_enter Tryz.func61, Tryz.ntmps61
 go_wp2
 exact bodyPost_ret (Ab Tryz.results61 _ _ w.heap.size 39 #[.int .i64 0, .int .i64 0, .int .i64 0, .int .i64 0, .int .i64 0, .int .i64 0, .int .i64 0, .int .i64 0, .int .i64 0, .int .i64 0, .int .i64 0, .int .i64 0, .int .i64 0, .int .i64 0, .int .i64 0] (0,0) _ rfl (heap_alloc_new w _) Tryz.underlying39 rfl Ai) rfl ⟨rfl,Aa w _ _⟩
theorem Aad (x:Nat) (q:List Nat) (n:Nat) (hn:n=(x::q).length) (E:Int) (r:Rg) (hE:By (x::q)=(E,r)) (A:Option Addr) (c:Nat) (w:World) (hA:Bs w w.heap.size (x::q) A c) (hx:9<x):Calls Tryz.prog 61 #[.slice A n c] w fun e w'=>e= .returned (.tuple #[.agg #[.int .i64 r.t.ser, .int .i64 r.t.kind, .int .i64 r.t.frm, .int .i64 r.t.till, .int .i64 r.t.cls, .int .i64 r.t.card, .int .i64 r.t.seat, .int .i64 r.t.day, .int .i64 r.t.days, .int .i64 r.t.uses, .int .i64 r.t.epoch, .int .i64 r.key, .int .i64 r.left, .int .i64 r.inn, .int .i64 r.ver], .int .i64 E])∧Below w.heap.size w w':=by
 obtain⟨rfl,rfl⟩:E=7∧r=Ah:=by have:=hE;rw[By,if_pos hx]at this;exact⟨(Prod.mk.inj this).1.symm,(Prod.mk.inj this).2.symm⟩
 clear hE
 have hn63:n≤9223372036854775807:=by have:=hA.len;have:=hA.cap;omega
 have hn1:1≤n:=by rw[hn];simp
 have hnz:((n:Int)==0)=false:=by rw[beq_eq_false_iff_ne];omega
 obtain⟨ad,rfl,hb0,hc0⟩:=(hA.next (Aa w #[.int .i64 0, .int .i64 0, .int .i64 0, .int .i64 0, .int .i64 0, .int .i64 0, .int .i64 0, .int .i64 0, .int .i64 0, .int .i64 0, .int .i64 0, .int .i64 0, .int .i64 0, .int .i64 0, .int .i64 0] 39)).rd 0 _ (Co (x::q) 0 (by simp))
 have hc1:=hc0
 rw[Da]at hc1
 simp only[List.getElem_cons_zero]at hc0 hc1
 have hx255:x<256:=hA.lt x (by simp)
 have HN:=Lib.hid hn
 have HA:=Lib.hid hA
 clear hn hA
 go_enter Tryz.func61, Tryz.ntmps61
 go_wp2
 exact bodyPost_ret (Ab Tryz.results61 _ _ w.heap.size 39 #[.int .i64 0, .int .i64 0, .int .i64 0, .int .i64 0, .int .i64 0, .int .i64 0, .int .i64 0, .int .i64 0, .int .i64 0, .int .i64 0, .int .i64 0, .int .i64 0, .int .i64 0, .int .i64 0, .int .i64 0] (0,0) _ rfl (heap_alloc_new w _) Tryz.underlying39 rfl Ai) rfl ⟨rfl,Aa w _ _⟩
theorem Aae (x:Nat) (q:List Nat) (n:Nat) (hn:n=(x::q).length) (E:Int) (r:Rg) (hE:By (x::q)=(E,r)) (A:Option Addr) (c:Nat) (w:World) (hA:Bs w w.heap.size (x::q) A c) (hx: ¬9<x) (hw: ¬(1≤(x:Int)∧(x:Int)≤4)):Calls Tryz.prog 61 #[.slice A n c] w fun e w'=>e= .returned (.tuple #[.agg #[.int .i64 r.t.ser, .int .i64 r.t.kind, .int .i64 r.t.frm, .int .i64 r.t.till, .int .i64 r.t.cls, .int .i64 r.t.card, .int .i64 r.t.seat, .int .i64 r.t.day, .int .i64 r.t.days, .int .i64 r.t.uses, .int .i64 r.t.epoch, .int .i64 r.key, .int .i64 r.left, .int .i64 r.inn, .int .i64 r.ver], .int .i64 E])∧Below w.heap.size w w':=by
 obtain⟨rfl,rfl⟩:E=8∧r=Ah:=by have:=hE;rw[By,if_neg hx,Gy,if_neg hw,if_pos (by decide)]at this;exact⟨(Prod.mk.inj this).1.symm,(Prod.mk.inj this).2.symm⟩
 have HWE:=Lib.hid (show Gy x=8 by rw[Gy,if_neg hw])
 have HWL:=Lib.hid (show Au x=[] by rw[Au,if_neg hw])
 have HWN:=Lib.hid (show 0=([]:List Int).length from rfl)
 have hx9:x≤9:=by omega
 clear hE hx hw
 have hn63:n≤9223372036854775807:=by have:=hA.len;have:=hA.cap;omega
 have hn1:1≤n:=by rw[hn];simp
 have hnz:((n:Int)==0)=false:=by rw[beq_eq_false_iff_ne];omega
 obtain⟨ad,rfl,hb0,hc0⟩:=(hA.next (Aa w #[.int .i64 0, .int .i64 0, .int .i64 0, .int .i64 0, .int .i64 0, .int .i64 0, .int .i64 0, .int .i64 0, .int .i64 0, .int .i64 0, .int .i64 0, .int .i64 0, .int .i64 0, .int .i64 0, .int .i64 0] 39)).rd 0 _ (Co (x::q) 0 (by simp))
 have hc1:=hc0
 rw[Da]at hc1
 simp only[List.getElem_cons_zero]at hc0 hc1
 have hx255:x<256:=hA.lt x (by simp)
 have HN:=Lib.hid hn
 have HA:=Lib.hid hA
 clear hn hA
 go_enter Tryz.func61, Tryz.ntmps61
 go_wp2_with (first|(go_at_call 107;refine(Gh x _ [] _ HWN.out HWE.out HWL.out _).mono ?_;rintro e w2 ⟨AW,cW,rfl,hz,hb⟩;have HZ:=Lib.hid hz;have HR:=Lib.hid ((Am.new w Ah).next hb);have HB2:=Lib.hid (Ay _ _ hb);have HA2:=Lib.hid (HA.out.next (Ay _ _ hb));clear hz hb)|((with_reducible refine Ac 2 ?_);refine Al HR.out Ai (Bh _ _ _ _ _ _ _ _ _ _ _ _ _ _ _) ?_))
 intro w9 hw9
 go_wp2
 refine bodyPost_ret (Ab Tryz.results61 _ w9 w.heap.size 39 #[.int .i64 0, .int .i64 0, .int .i64 0, .int .i64 0, .int .i64 0, .int .i64 0, .int .i64 0, .int .i64 0, .int .i64 0, .int .i64 0, .int .i64 0, .int .i64 0, .int .i64 0, .int .i64 0, .int .i64 0] (0,0) _ rfl (by rw[hw9.out];exact setRow_heap _ _ _ _ _ _ HR.out) Tryz.underlying39 rfl Ai) rfl ⟨rfl, ?_⟩
 rw[hw9.out]
 exact below_setRow HB2.out (Nat.le_refl _) _
theorem Aaf (x:Nat) (q:List Nat) (n:Nat) (hn:n=(x::q).length) (E:Int) (r:Rg) (hE:By (x::q)=(E,r)) (A:Option Addr) (c:Nat) (w:World) (hA:Bs w w.heap.size (x::q) A c) (hx: ¬9<x) (hw:1≤(x:Int)∧(x:Int)≤4) (s:Int) (hs:(Bq (x::q) (Au x)).1=s) (hs0:s≠0):Calls Tryz.prog 61 #[.slice A n c] w fun e w'=>e= .returned (.tuple #[.agg #[.int .i64 r.t.ser, .int .i64 r.t.kind, .int .i64 r.t.frm, .int .i64 r.t.till, .int .i64 r.t.cls, .int .i64 r.t.card, .int .i64 r.t.seat, .int .i64 r.t.day, .int .i64 r.t.days, .int .i64 r.t.uses, .int .i64 r.t.epoch, .int .i64 r.key, .int .i64 r.left, .int .i64 r.inn, .int .i64 r.ver], .int .i64 E])∧Below w.heap.size w w':=by
 obtain⟨rfl,rfl⟩:E=s∧r=Ah:=by have:=hE;rw[By,if_neg hx,Gy,if_pos hw,if_neg (by decide),Yd,if_pos (by rw[hs];exact hs0)]at this;exact⟨(Prod.mk.inj this).1.symm.trans hs,(Prod.mk.inj this).2.symm⟩
 have hn2:=xS (l:=x::q) (ws:=Au x) (by rw[hs];exact hs0)
 have HS:=Lib.hid (show Bq (x::q) (Au x)=(E,[]) by rw[←hs, ←hn2])
 have hne:(E !=0)=true:=by rw[bne_iff_ne];exact hs0
 obtain⟨m,hm⟩: ∃m,m=(Au x).length:=⟨_,rfl⟩
 have HWE:=Lib.hid (show Gy x=0 by rw[Gy,if_pos hw])
 have HWN:=Lib.hid hm
 have hx9:x≤9:=by omega
 clear hE hx hw hs hn2 hs0 hm
 have hn63:n≤9223372036854775807:=by have:=hA.len;have:=hA.cap;omega
 have hn1:1≤n:=by rw[hn];simp
 have hnz:((n:Int)==0)=false:=by rw[beq_eq_false_iff_ne];omega
 obtain⟨ad,rfl,hb0,hc0⟩:=(hA.next (Aa w #[.int .i64 0, .int .i64 0, .int .i64 0, .int .i64 0, .int .i64 0, .int .i64 0, .int .i64 0, .int .i64 0, .int .i64 0, .int .i64 0, .int .i64 0, .int .i64 0, .int .i64 0, .int .i64 0, .int .i64 0] 39)).rd 0 _ (Co (x::q) 0 (by simp))
 have hc1:=hc0
 rw[Da]at hc1
 simp only[List.getElem_cons_zero]at hc0 hc1
 have hx255:x<256:=hA.lt x (by simp)
 have HN:=Lib.hid hn
 have HA:=Lib.hid hA
 clear hn hA
 go_enter Tryz.func61, Tryz.ntmps61
 go_wp2_with (first|(go_at_call 107;refine(Gh x _ (Au x) _ HWN.out HWE.out rfl _).mono ?_;rintro e w2 ⟨AW,cW,rfl,hz,hb⟩;have HZ:=Lib.hid hz;have HR:=Lib.hid ((Am.new w Ah).next hb);have HB2:=Lib.hid (Ay _ _ hb);have HA2:=Lib.hid (HA.out.next (Ay _ _ hb));clear hz hb)|(go_at_call 108;refine(Pg (x::q) (Au x) n m HN.out HWN.out _ _ HS.out (some ad) AW c cW _ HA2.out HZ.out).mono ?_;rintro e w3 ⟨AS,cS,rfl,hz,hb⟩;have HV:=Lib.hid hz;have HR3:=Lib.hid (HR.out.next hb);have HB3:=Lib.hid (HB2.out.trans (hb.mono HB2.out.size));clear hz hb)|((with_reducible refine Ac 2 ?_);refine Al HR3.out Ai (Bh _ _ _ _ _ _ _ _ _ _ _ _ _ _ _) ?_))
 intro w9 hw9
 go_wp2
 refine bodyPost_ret (Ab Tryz.results61 _ w9 w.heap.size 39 #[.int .i64 0, .int .i64 0, .int .i64 0, .int .i64 0, .int .i64 0, .int .i64 0, .int .i64 0, .int .i64 0, .int .i64 0, .int .i64 0, .int .i64 0, .int .i64 0, .int .i64 0, .int .i64 0, .int .i64 0] (0,0) _ rfl (by rw[hw9.out];exact setRow_heap _ _ _ _ _ _ HR3.out) Tryz.underlying39 rfl Ai) rfl ⟨rfl, ?_⟩
 rw[hw9.out]
 exact below_setRow HB3.out (Nat.le_refl _) _
theorem AcR (x:Nat) (q:List Nat) (n:Nat) (hn:n=(x::q).length) (E:Int) (r:Rg) (hE:By (x::q)=(E,r)) (A:Option Addr) (c:Nat) (w:World) (hA:Bs w w.heap.size (x::q) A c) (hx: ¬9<x) (hw:1≤(x:Int)∧(x:Int)≤4) (hk4:(x:Int)=4) (v0 v1 v2 v3 v4 v5 v6 v7 v8 v9 v10 v11 v12:Int) (hs:Bq (x::q) (Au x)=(0,[v0,v1,v2,v3,v4,v5,v6,v7,v8,v9,v10,v11,v12])) (h0:v0=x):Calls Tryz.prog 61 #[.slice A n c] w fun e w'=>e= .returned (.tuple #[.agg #[.int .i64 r.t.ser, .int .i64 r.t.kind, .int .i64 r.t.frm, .int .i64 r.t.till, .int .i64 r.t.cls, .int .i64 r.t.card, .int .i64 r.t.seat, .int .i64 r.t.day, .int .i64 r.t.days, .int .i64 r.t.uses, .int .i64 r.t.epoch, .int .i64 r.key, .int .i64 r.left, .int .i64 r.inn, .int .i64 r.ver], .int .i64 E])∧Below w.heap.size w w':=by
 have ht:Eh x [v0,v1,v2,v3,v4,v5,v6,v7,v8,v9,v10,v11,v12]=(⟨(⟨v1,v0,v7,v8,v2,v3,0,v4,v5,v9,v6⟩:Tk),v12,v10,v11,0⟩:Rg):=by rw[Eh,if_pos hk4];rfl
 have hr:(if Ga (⟨(⟨v1,v0,v7,v8,v2,v3,0,v4,v5,v9,v6⟩:Tk),v12,v10,v11,0⟩:Rg)=true then(0,(⟨(⟨v1,v0,v7,v8,v2,v3,0,v4,v5,v9,v6⟩:Tk),v12,v10,v11,0⟩:Rg))else(9,Ah))=(E,r):=by have:=hE;rw[By,if_neg hx,Gy,if_pos hw,if_neg (by decide),Yd,hs,if_neg (by simp)]at this;simp only at this;rw[ht]at this;exact this
 have HE:=Lib.hid hr
 have HS:=Lib.hid hs
 obtain⟨m,hm⟩: ∃m,m=(Au x).length:=⟨_,rfl⟩
 have HWE:=Lib.hid (show Gy x=0 by rw[Gy,if_pos hw])
 have HWN:=Lib.hid hm
 have hx9:x≤9:=by omega
 have q4:(v0==4)=true:=by rw[beq_iff_eq,h0];exact hk4
 clear hE hx hw hs hm hk4 h0 ht hr
 have hn63:n≤9223372036854775807:=by have:=hA.len;have:=hA.cap;omega
 have hn1:1≤n:=by rw[hn];simp
 have hnz:((n:Int)==0)=false:=by rw[beq_eq_false_iff_ne];omega
 obtain⟨ad,rfl,hb0,hc0⟩:=(hA.next (Aa w #[.int .i64 0, .int .i64 0, .int .i64 0, .int .i64 0, .int .i64 0, .int .i64 0, .int .i64 0, .int .i64 0, .int .i64 0, .int .i64 0, .int .i64 0, .int .i64 0, .int .i64 0, .int .i64 0, .int .i64 0] 39)).rd 0 _ (Co (x::q) 0 (by simp))
 have hc1:=hc0
 rw[Da]at hc1
 simp only[List.getElem_cons_zero]at hc0 hc1
 have hx255:x<256:=hA.lt x (by simp)
 have HN:=Lib.hid hn
 have HA:=Lib.hid hA
 clear hn hA
 go_enter Tryz.func61, Tryz.ntmps61
 go_wp2_with (first|(go_at_call 107;refine(Gh x _ (Au x) _ HWN.out HWE.out rfl _).mono ?_;rintro e w2 ⟨AW,cW,rfl,hz,hb⟩;have HZ:=Lib.hid hz;have HR:=Lib.hid ((Am.new w Ah).next hb);have HB2:=Lib.hid (Ay _ _ hb);have HA2:=Lib.hid (HA.out.next (Ay _ _ hb));clear hz hb)|(go_at_call 108;refine(Pg (x::q) (Au x) n m HN.out HWN.out _ _ HS.out (some ad) AW c cW _ HA2.out HZ.out).mono ?_;rintro e w3 ⟨AS,cS,rfl,hz,hb⟩;have HV:=Lib.hid hz;have HR3:=Lib.hid (HR.out.next hb);have HB3:=Lib.hid (HB2.out.trans (hb.mono HB2.out.size));clear hz hb))
 obtain⟨av,rfl,hav,a0⟩:=HV.out.at (k:=0) (x:=v0) rfl
 rw[Da]at a0
 obtain⟨_,ee,_,aa⟩:=HV.out.at (k:=1) (x:=v1) rfl
 cases ee
 have a1:w3.cell? ⟨av.block,av.off+1,none⟩=some (.int .i64 v1):=aa
 clear aa
 obtain⟨_,ee,_,aa⟩:=HV.out.at (k:=2) (x:=v2) rfl
 cases ee
 have a2:w3.cell? ⟨av.block,av.off+2,none⟩=some (.int .i64 v2):=aa
 clear aa
 obtain⟨_,ee,_,aa⟩:=HV.out.at (k:=3) (x:=v3) rfl
 cases ee
 have a3:w3.cell? ⟨av.block,av.off+3,none⟩=some (.int .i64 v3):=aa
 clear aa
 obtain⟨_,ee,_,aa⟩:=HV.out.at (k:=4) (x:=v4) rfl
 cases ee
 have a4:w3.cell? ⟨av.block,av.off+4,none⟩=some (.int .i64 v4):=aa
 clear aa
 obtain⟨_,ee,_,aa⟩:=HV.out.at (k:=5) (x:=v5) rfl
 cases ee
 have a5:w3.cell? ⟨av.block,av.off+5,none⟩=some (.int .i64 v5):=aa
 clear aa
 obtain⟨_,ee,_,aa⟩:=HV.out.at (k:=6) (x:=v6) rfl
 cases ee
 have a6:w3.cell? ⟨av.block,av.off+6,none⟩=some (.int .i64 v6):=aa
 clear aa
 obtain⟨_,ee,_,aa⟩:=HV.out.at (k:=7) (x:=v7) rfl
 cases ee
 have a7:w3.cell? ⟨av.block,av.off+7,none⟩=some (.int .i64 v7):=aa
 clear aa
 obtain⟨_,ee,_,aa⟩:=HV.out.at (k:=8) (x:=v8) rfl
 cases ee
 have a8:w3.cell? ⟨av.block,av.off+8,none⟩=some (.int .i64 v8):=aa
 clear aa
 go_region_held3 (fun w'=>w'.cell? av=some (.int .i64 v0)∧w'.cell? ⟨av.block,av.off+1,none⟩=some (.int .i64 v1)∧w'.cell? ⟨av.block,av.off+2,none⟩=some (.int .i64 v2)∧w'.cell? ⟨av.block,av.off+3,none⟩=some (.int .i64 v3)∧w'.cell? ⟨av.block,av.off+4,none⟩=some (.int .i64 v4)∧w'.cell? ⟨av.block,av.off+5,none⟩=some (.int .i64 v5)∧w'.cell? ⟨av.block,av.off+6,none⟩=some (.int .i64 v6)∧w'.cell? ⟨av.block,av.off+7,none⟩=some (.int .i64 v7)∧w'.cell? ⟨av.block,av.off+8,none⟩=some (.int .i64 v8)) (first|exact⟨a0,a1,a2,a3,a4,a5,a6,a7,a8⟩|go_keep) (fail)
 rename_i hS3
 clear hS3 a0 a1 a2 a3 a4 a5 a6 a7 a8
 have HW34:Hid (Below w3.heap.size w3 ((w3.alloc (.cells #[.int .i64 v1, .int .i64 v0, .int .i64 v7, .int .i64 v8, .int .i64 v2, .int .i64 v3, .int .i64 0, .int .i64 v4, .int .i64 v5, .int .i64 0, .int .i64 v6] 37)).drew)):=Lib.hid (Ae ((Below.refl _ _).alloc (Nat.le_refl _) _) 1)
 have HT4:Hid (Cp ((w3.alloc (.cells #[.int .i64 v1, .int .i64 v0, .int .i64 v7, .int .i64 v8, .int .i64 v2, .int .i64 v3, .int .i64 0, .int .i64 v4, .int .i64 v5, .int .i64 0, .int .i64 v6] 37)).drew) w3.heap.size (⟨v1,v0,v7,v8,v2,v3,0,v4,v5,0,v6⟩:Tk)):=Lib.hid (Cp.new w3 (⟨v1,v0,v7,v8,v2,v3,0,v4,v5,0,v6⟩:Tk))
 obtain⟨w4,hw4⟩: ∃w4,w4=(w3.alloc (.cells #[.int .i64 v1, .int .i64 v0, .int .i64 v7, .int .i64 v8, .int .i64 v2, .int .i64 v3, .int .i64 0, .int .i64 v4, .int .i64 v5, .int .i64 0, .int .i64 v6] 37)).drew:=⟨_,rfl⟩
 rw[←hw4]at HW34 HT4⊢
 have HR4:=Lib.hid (HR3.out.next HW34.out)
 have HB4:=Lib.hid (HB3.out.trans (HW34.out.mono HB3.out.size))
 have HV4:=Lib.hid (HV.out.next HW34.out)
 have hRY:w.heap.size<w3.heap.size:=HR3.out.lt
 obtain⟨Y,hY⟩: ∃Y,Y=w3.heap.size:=⟨_,rfl⟩
 rw[←hY]at HT4 hav hRY⊢
 clear hw4 hY HW34
 obtain⟨c0,c1,c2,c3,c4,c5,c6,c7,c8,c9,c10⟩:=HT4.out.cells
 have hfz:=HT4.out.frozen 9
 obtain⟨_,ee,_,aa⟩:=HV4.out.at (k:=9) (x:=v9) rfl
 cases ee
 have a9:w4.cell? ⟨av.block,av.off+9,none⟩=some (.int .i64 v9):=aa
 clear aa
 obtain⟨_,ee,_,aa⟩:=HV4.out.at (k:=10) (x:=v10) rfl
 cases ee
 have a10:w4.cell? ⟨av.block,av.off+10,none⟩=some (.int .i64 v10):=aa
 clear aa
 obtain⟨_,ee,_,aa⟩:=HV4.out.at (k:=11) (x:=v11) rfl
 cases ee
 have a11:w4.cell? ⟨av.block,av.off+11,none⟩=some (.int .i64 v11):=aa
 clear aa
 obtain⟨_,ee,_,aa⟩:=HV4.out.at (k:=12) (x:=v12) rfl
 cases ee
 have a12:w4.cell? ⟨av.block,av.off+12,none⟩=some (.int .i64 v12):=aa
 clear aa
 go_wp2
 obtain⟨w5,hw5⟩: ∃w5,w5=w4.setCell ⟨Y,9,none⟩ (.int .i64 v9):=⟨_,rfl⟩
 rw[←hw5]
 have HT5:Hid (Cp w5 Y (⟨v1,v0,v7,v8,v2,v3,0,v4,v5,v9,v6⟩:Tk)):=Lib.hid (by rw[hw5];exact heap_setCell_same w4 Y 9 _ _ _ HT4.out)
 have HR5:Hid (Am w5 w.heap.size Ah):=Lib.hid (by rw[hw5];exact(heap_setCell_other w4 _ _ _ (by simp;omega)).trans HR4.out)
 have HB5:Hid (Below w.heap.size w w5):=Lib.hid (by rw[hw5];exact HB4.out.setCell (p:=⟨Y,9,none⟩) (Nat.le_of_lt hRY) _)
 have b10:w5.cell? ⟨av.block,av.off+10,none⟩=some (.int .i64 v10):=by rw[hw5,World.cell?_setCell_far _ _ _ _ (by show Y≠av.block;omega)];exact a10
 have b11:w5.cell? ⟨av.block,av.off+11,none⟩=some (.int .i64 v11):=by rw[hw5,World.cell?_setCell_far _ _ _ _ (by show Y≠av.block;omega)];exact a11
 have b12:w5.cell? ⟨av.block,av.off+12,none⟩=some (.int .i64 v12):=by rw[hw5,World.cell?_setCell_far _ _ _ _ (by show Y≠av.block;omega)];exact a12
 clear hw5 hfz c0 c1 c2 c3 c4 c5 c6 c7 c8 c9 c10 a9 a10 a11 a12
 obtain⟨c0,c1,c2,c3,c4,c5,c6,c7,c8,c9,c10⟩:=HT5.out.cells
 have k1:IntKind.i64.wrap ((10:Int)+1)=11:=IntWalk.i64_in _ (by omega)
 have k2:IntKind.i64.wrap ((10:Int)+2)=12:=IntWalk.i64_in _ (by omega)
 have k3:IntKind.i64.wrap (11:Int)=11:=IntWalk.i64_in _ (by omega)
 have k4:IntKind.i64.wrap (12:Int)=12:=IntWalk.i64_in _ (by omega)
 go_region_held3 (fun w'=>w'.cell? ⟨Y,0,none⟩=some (.int .i64 v1)∧w'.cell? ⟨Y,1,none⟩=some (.int .i64 v0)∧w'.cell? ⟨Y,2,none⟩=some (.int .i64 v7)∧w'.cell? ⟨Y,3,none⟩=some (.int .i64 v8)∧w'.cell? ⟨Y,4,none⟩=some (.int .i64 v2)∧w'.cell? ⟨Y,5,none⟩=some (.int .i64 v3)∧w'.cell? ⟨Y,6,none⟩=some (.int .i64 0)∧w'.cell? ⟨Y,7,none⟩=some (.int .i64 v4)∧w'.cell? ⟨Y,8,none⟩=some (.int .i64 v5)∧w'.cell? ⟨Y,9,none⟩=some (.int .i64 v9)∧w'.cell? ⟨Y,10,none⟩=some (.int .i64 v6)∧w'.cell? ⟨av.block,av.off+10,none⟩=some (.int .i64 v10)∧w'.cell? ⟨av.block,av.off+11,none⟩=some (.int .i64 v11)∧w'.cell? ⟨av.block,av.off+12,none⟩=some (.int .i64 v12)) (first|exact⟨c0,c1,c2,c3,c4,c5,c6,c7,c8,c9,c10,b10,b11,b12⟩|go_keep) (fail)
 rename_i hS5
 clear hS5 c0 c1 c2 c3 c4 c5 c6 c7 c8 c9 c10 b10 b11 b12
 have HW56:Hid (Below w5.heap.size w5 ((w5.alloc (.cells #[.int .i64 v1, .int .i64 v0, .int .i64 v7, .int .i64 v8, .int .i64 v2, .int .i64 v3, .int .i64 0, .int .i64 v4, .int .i64 v5, .int .i64 v9, .int .i64 v6, .int .i64 v12, .int .i64 v10, .int .i64 v11, .int .i64 0] 39)).drew)):=Lib.hid (Ae ((Below.refl _ _).alloc (Nat.le_refl _) _) 1)
 have HZ6:Hid (Am ((w5.alloc (.cells #[.int .i64 v1, .int .i64 v0, .int .i64 v7, .int .i64 v8, .int .i64 v2, .int .i64 v3, .int .i64 0, .int .i64 v4, .int .i64 v5, .int .i64 v9, .int .i64 v6, .int .i64 v12, .int .i64 v10, .int .i64 v11, .int .i64 0] 39)).drew) w5.heap.size (⟨(⟨v1,v0,v7,v8,v2,v3,0,v4,v5,v9,v6⟩:Tk),v12,v10,v11,0⟩:Rg)):=Lib.hid (Am.new w5 (⟨(⟨v1,v0,v7,v8,v2,v3,0,v4,v5,v9,v6⟩:Tk),v12,v10,v11,0⟩:Rg))
 obtain⟨w6,hw6⟩: ∃w6,w6=(w5.alloc (.cells #[.int .i64 v1, .int .i64 v0, .int .i64 v7, .int .i64 v8, .int .i64 v2, .int .i64 v3, .int .i64 0, .int .i64 v4, .int .i64 v5, .int .i64 v9, .int .i64 v6, .int .i64 v12, .int .i64 v10, .int .i64 v11, .int .i64 0] 39)).drew:=⟨_,rfl⟩
 rw[←hw6]at HW56 HZ6⊢
 have HR6:=Lib.hid (HR5.out.next HW56.out)
 have HT6:=Lib.hid (HT5.out.next HW56.out)
 have HB6:=Lib.hid (HB5.out.trans (HW56.out.mono HB5.out.size))
 obtain⟨Z,hZ⟩: ∃Z,Z=w5.heap.size:=⟨_,rfl⟩
 rw[←hZ]at HZ6⊢
 clear hw6 hZ HW56
 obtain⟨c0,c1,c2,c3,c4,c5,c6,c7,c8,c9,c10⟩:=HT6.out.cells
 by_cases h1:okT (⟨v1,v0,v7,v8,v2,v3,0,v4,v5,v9,v6⟩:Tk)=true
 rotate_left
 ·have hrr: ¬(Ga (⟨(⟨v1,v0,v7,v8,v2,v3,0,v4,v5,v9,v6⟩:Tk),v12,v10,v11,0⟩:Rg)=true):=fun h=>h1 ((Ec _).1 h).1
  obtain⟨rfl,rfl⟩:E=9∧r=Ah:=by have:=HE.out;rw[if_neg hrr]at this;exact⟨(Prod.mk.inj this).1.symm,(Prod.mk.inj this).2.symm⟩
  clear HE hrr
  have H1:Hid (okT (⟨v1,v0,v7,v8,v2,v3,0,v4,v5,v9,v6⟩:Tk)=false):=Lib.hid (by simpa using h1)
  clear h1
  go_wp2_with (first|(go_at_call 109;refine(Bf (⟨v1,v0,v7,v8,v2,v3,0,v4,v5,v9,v6⟩:Tk) _ H1.out _).mono ?_;rintro e w7 ⟨rfl,hb⟩;have HR7:=Lib.hid (HR6.out.next hb);have HZ7:=Lib.hid (HZ6.out.next hb);have HT7:=Lib.hid (HT6.out.next hb);have HB7:=Lib.hid (HB6.out.trans (hb.mono HB6.out.size));clear hb;clear c0 c1 c2 c3 c4 c5 c6 c7 c8 c9 c10;obtain⟨d0,d1,d2,d3,d4,d5,d6,d7,d8,d9,d10⟩:=HT7.out.cells;obtain⟨e0,e1,e2,e3,e4,e5,e6,e7,e8,e9,e10,e11,e12,e13,e14⟩:=HZ7.out.cells)|((with_reducible refine Ac 2 ?_);refine Al HR7.out Ai (Bh _ _ _ _ _ _ _ _ _ _ _ _ _ _ _) ?_))
  intro w9 hw9
  go_wp2
  refine bodyPost_ret (Ab Tryz.results61 _ w9 w.heap.size 39 #[.int .i64 0, .int .i64 0, .int .i64 0, .int .i64 0, .int .i64 0, .int .i64 0, .int .i64 0, .int .i64 0, .int .i64 0, .int .i64 0, .int .i64 0, .int .i64 0, .int .i64 0, .int .i64 0, .int .i64 0] (0,0) _ rfl (by rw[hw9.out];exact setRow_heap _ _ _ _ _ _ HR7.out) Tryz.underlying39 rfl Ai) rfl ⟨rfl, ?_⟩
  rw[hw9.out]
  exact below_setRow HB7.out (Nat.le_refl _) _
 have H1:=Lib.hid h1
 by_cases h2:Ft (v9) v10 v11=true
 rotate_left
 ·have hrr: ¬(Ga (⟨(⟨v1,v0,v7,v8,v2,v3,0,v4,v5,v9,v6⟩:Tk),v12,v10,v11,0⟩:Rg)=true):=fun h=>h2 ((Ec _).1 h).2
  obtain⟨rfl,rfl⟩:E=9∧r=Ah:=by have:=HE.out;rw[if_neg hrr]at this;exact⟨(Prod.mk.inj this).1.symm,(Prod.mk.inj this).2.symm⟩
  clear HE hrr
  have H2:Hid (Ft (v9) v10 v11=false):=Lib.hid (by simpa using h2)
  clear h1 h2
  go_wp2_with (first|(go_at_call 109;refine(Bf (⟨v1,v0,v7,v8,v2,v3,0,v4,v5,v9,v6⟩:Tk) _ H1.out _).mono ?_;rintro e w7 ⟨rfl,hb⟩;have HR7:=Lib.hid (HR6.out.next hb);have HZ7:=Lib.hid (HZ6.out.next hb);have HT7:=Lib.hid (HT6.out.next hb);have HB7:=Lib.hid (HB6.out.trans (hb.mono HB6.out.size));clear hb;clear c0 c1 c2 c3 c4 c5 c6 c7 c8 c9 c10;obtain⟨d0,d1,d2,d3,d4,d5,d6,d7,d8,d9,d10⟩:=HT7.out.cells;obtain⟨e0,e1,e2,e3,e4,e5,e6,e7,e8,e9,e10,e11,e12,e13,e14⟩:=HZ7.out.cells)|(go_at_call 110;refine(Gb (⟨v1,v0,v7,v8,v2,v3,0,v4,v5,v9,v6⟩:Tk) v10 v11 _ H2.out _).mono ?_;rintro e w8 ⟨rfl,hb⟩;have HR8:=Lib.hid (HR7.out.next hb);have HZ8:=Lib.hid (HZ7.out.next hb);have HB8:=Lib.hid (HB7.out.trans (hb.mono HB7.out.size));clear hb;clear d0 d1 d2 d3 d4 d5 d6 d7 d8 d9 d10 e0 e1 e2 e3 e4 e5 e6 e7 e8 e9 e10 e11 e12 e13 e14;obtain⟨f0,f1,f2,f3,f4,f5,f6,f7,f8,f9,f10,f11,f12,f13,f14⟩:=HZ8.out.cells)|((with_reducible refine Ac 2 ?_);refine Al HR8.out Ai (Bh _ _ _ _ _ _ _ _ _ _ _ _ _ _ _) ?_))
  intro w9 hw9
  go_wp2
  refine bodyPost_ret (Ab Tryz.results61 _ w9 w.heap.size 39 #[.int .i64 0, .int .i64 0, .int .i64 0, .int .i64 0, .int .i64 0, .int .i64 0, .int .i64 0, .int .i64 0, .int .i64 0, .int .i64 0, .int .i64 0, .int .i64 0, .int .i64 0, .int .i64 0, .int .i64 0] (0,0) _ rfl (by rw[hw9.out];exact setRow_heap _ _ _ _ _ _ HR8.out) Tryz.underlying39 rfl Ai) rfl ⟨rfl, ?_⟩
  rw[hw9.out]
  exact below_setRow HB8.out (Nat.le_refl _) _
 ·have hrr:Ga (⟨(⟨v1,v0,v7,v8,v2,v3,0,v4,v5,v9,v6⟩:Tk),v12,v10,v11,0⟩:Rg)=true:=(Ec _).2 ⟨h1,h2⟩
  obtain⟨rfl,rfl⟩:E=0∧r=(⟨(⟨v1,v0,v7,v8,v2,v3,0,v4,v5,v9,v6⟩:Tk),v12,v10,v11,0⟩:Rg):=by have:=HE.out;rw[if_pos hrr]at this;exact⟨(Prod.mk.inj this).1.symm,(Prod.mk.inj this).2.symm⟩
  clear HE hrr
  have H2:=Lib.hid h2
  clear h1 h2
  go_wp2_with (first|(go_at_call 109;refine(Bf (⟨v1,v0,v7,v8,v2,v3,0,v4,v5,v9,v6⟩:Tk) _ H1.out _).mono ?_;rintro e w7 ⟨rfl,hb⟩;have HR7:=Lib.hid (HR6.out.next hb);have HZ7:=Lib.hid (HZ6.out.next hb);have HT7:=Lib.hid (HT6.out.next hb);have HB7:=Lib.hid (HB6.out.trans (hb.mono HB6.out.size));clear hb;clear c0 c1 c2 c3 c4 c5 c6 c7 c8 c9 c10;obtain⟨d0,d1,d2,d3,d4,d5,d6,d7,d8,d9,d10⟩:=HT7.out.cells;obtain⟨e0,e1,e2,e3,e4,e5,e6,e7,e8,e9,e10,e11,e12,e13,e14⟩:=HZ7.out.cells)|(go_at_call 110;refine(Gb (⟨v1,v0,v7,v8,v2,v3,0,v4,v5,v9,v6⟩:Tk) v10 v11 _ H2.out _).mono ?_;rintro e w8 ⟨rfl,hb⟩;have HR8:=Lib.hid (HR7.out.next hb);have HZ8:=Lib.hid (HZ7.out.next hb);have HB8:=Lib.hid (HB7.out.trans (hb.mono HB7.out.size));clear hb;clear d0 d1 d2 d3 d4 d5 d6 d7 d8 d9 d10 e0 e1 e2 e3 e4 e5 e6 e7 e8 e9 e10 e11 e12 e13 e14;obtain⟨f0,f1,f2,f3,f4,f5,f6,f7,f8,f9,f10,f11,f12,f13,f14⟩:=HZ8.out.cells)|((with_reducible refine Ac 2 ?_);refine Al HR8.out Ai (Bh _ _ _ _ _ _ _ _ _ _ _ _ _ _ _) ?_))
  intro w9 hw9
  go_wp2
  refine bodyPost_ret (Ab Tryz.results61 _ w9 w.heap.size 39 #[.int .i64 v1, .int .i64 v0, .int .i64 v7, .int .i64 v8, .int .i64 v2, .int .i64 v3, .int .i64 0, .int .i64 v4, .int .i64 v5, .int .i64 v9, .int .i64 v6, .int .i64 v12, .int .i64 v10, .int .i64 v11, .int .i64 0] (0,0) _ rfl (by rw[hw9.out];exact setRow_heap _ _ _ _ _ _ HR8.out) Tryz.underlying39 rfl Ai) rfl ⟨rfl, ?_⟩
  rw[hw9.out]
  exact below_setRow HB8.out (Nat.le_refl _) _
end Go.Proofs.YtmdbfogjfbbpjaaGreatDoor
