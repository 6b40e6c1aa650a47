import Derived.Test.YtmdbfogjfbbpjaaGreatDoorLayPFields
import Derived.BigRegionIn
import Derived.BigQuiet
import Derived.Test.YtmdbfogjfbbpjaaGreatDoorMacRefBlock
import Derived.Test.YtmdbfogjfbbpjaaGreatDoorEqualBytes
import Derived.Test.YtmdbfogjfbbpjaaGreatDoorLayPPut0
import Derived.OwnWalk
set_option maxHeartbeats 1600000
set_option maxRecDepth 100000
set_option linter.unusedVariables false
namespace Go.Proofs.YtmdbfogjfbbpjaaGreatDoor
open Go.ChangeShapes Go.WideShapes Go.ChangeAt Go.RowKit
theorem AbF (n s:Int) (w:World) (h:n<0∨s<0∨18<s):Calls Tryz.prog 176 #[.int .i64 n, .int .i64 s] w fun e w'=>e= .returned (.tuple #[.slice none 0 0, .int .i64 1])∧w=w':=by
 by_cases h1:n<0
 ·clear h
  go_enter Tryz.func176, Tryz.ntmps176
  go_wp2
  go_ret2
  exact⟨rfl,rfl⟩
 by_cases h2:s<0
 ·have h1':0≤n:=by omega
  clear h h1
  go_enter Tryz.func176, Tryz.ntmps176
  go_wp2
  go_ret2
  exact⟨rfl,rfl⟩
 have h1':0≤n:=by omega
 have h2':0≤s:=by omega
 have h3:18<s:=by omega
 clear h h1 h2
 go_enter Tryz.func176, Tryz.ntmps176
 go_wp2
 go_ret2
 exact⟨rfl,rfl⟩
def Ae1 (wr:World) (base N k:Nat) (v:Value):Prop:= ∃g cap,v= .slice (some ⟨g,0,none⟩) k cap∧wr.ownsRow base 5 1 (.slice (some ⟨g,0,none⟩) k cap) k (U8 (dg N k))
theorem AbG (N s:Nat) (E:Int) (p:List Nat) (hE:Ch N s=E) (hp:bputL N s=p) (w:World) (hN:N<9223372036854775808) (hs:s≤18):
  Calls Tryz.prog 176 #[.int .i64 N, .int .i64 s] w fun e w'=> ∃A c,e= .returned (.tuple #[.slice A (p.length:Nat) c, .int .i64 E])∧Bs w' w'.heap.size p A c∧Below w.heap.size w w':=by
 obtain⟨i0,hi,hz0,hz1,hz2⟩:=info_parts Be
 have HE:=Lib.hid hE
 have HP:=Lib.hid hp
 clear hE hp
 go_enter Tryz.func176, Tryz.ntmps176
 go_wp2
 go_loopw [0,6,7] (fun t v i wr=> ∃k:Nat,k≤s∧i= .int .i64 k∧t= .int .i64 (N / 10^k:Nat)∧Ae1 wr w.heap.size N k v∧Below w.heap.size w wr) (fun _ _ i _=>s - (intOf i).toNat)
 case atStart=>exact⟨0,Nat.zero_le _,rfl,by simp,⟨_,_,rfl,World.ownsRow_lit w #[] 0 (Nat.le_refl _) (by decide) rfl⟩,(Below.refl _ _).alloc (Nat.le_refl _) _⟩
 case round=>
  obtain⟨k,hk,rfl,rfl,⟨g,cap,rfl,hown⟩,hbel⟩:=hrel
  have hy:N / 10^k<9223372036854775808:=Nat.lt_of_le_of_lt (Nat.div_le_self _ _) hN
  have hy2:N / 10^(k+1)=N / 10^k / 10:=by rw[Nat.pow_succ,Nat.div_div_eq_div_mul]
  have hp:dg N (k+1)=N / 10^k % 10::dg N k:=rfl
  by_cases hlt:k<s
  ·generalize N / 10^k=y at*
   have HY:=Lib.hid hy2
   have HPP:=Lib.hid hp
   clear hy2 hp
   have hrd:=Rd.of_own hown
   have hnews: ∀j u,(U8 (dg N k))[j]?=some u→(wr.alloc (.cells #[.int .u8 ((y:Int) % 10)] 5)).cell? ((⟨g,0,none⟩:Addr).add j)=some u:=by
    intro j u hu
    obtain⟨ad,e,hb1,hc1⟩:=hrd j u hu
    cases e
    rw[World.cell?_alloc_lt _ _ _ (by rw[add_block];exact hb1)]
    exact hc1
   have hlen:(U8 (dg N k)).length=k*1:=by simp[U8,Lz]
   have HL:=Lib.hid hlen
   have HNW:=Lib.hid hnews
   have hbs:=hbel.size
   clear hlen hnews hrd
   go_wp2_with (at_builtin;refine wpList_append_own _ rfl _ _ 23 rfl w.heap.size 5 i0 (.int .u8 0) 1 1 Tryz.underlying23 hi hz0 hz1 hz2 rfl (by decide) _ 1 [.int .u8 ((y:Int) % 10)] rfl (World.ownsRow_lit wr #[.int .u8 ((y:Int) % 10)] 1 hbs (by decide) rfl) ⟨g,0,none⟩ k cap (U8 (dg N k)) rfl HL.out HNW.out (Bd _) ?c3 ?c4 ?c5 ?_)
   case c3=>unfold maxLen;omega
   case c4=>omega
   case c5=>simp;omega
   intro v' w1 hown' hgrow hnil
   have hbel1:Below w.heap.size w w1:=(hbel.alloc hbs _).grown hgrow (by simp;omega) (fun g hg=>by simp[Value.ownBlock]at hg;omega)
   have hown1:w1.ownsRow w.heap.size 5 1 v' (k+1) (U8 (dg N (k+1))):=by
    rw[HPP.out,U8,List.map_cons,Nat.add_comm k 1]
    have e:Value.int .u8 ((y % 10:Nat):Int)= .int .u8 ((y:Int) % 10):=by simp
    rw[e]
    exact hown'
   have hga:Ae1 w1 w.heap.size N (k+1) v':=by
    obtain⟨g',cap',e,_⟩:=hown1.form (by omega)
    subst e
    exact⟨g',cap',rfl,hown1⟩
   have HG:=Lib.hid hga
   clear hown' hgrow hnil hown hown1 hga hbel
   go_wp2
   go_roundw
   case rel=>exact⟨k+1,by omega,by go_num,by rw[HY.out];go_num,HG.out,hbel1⟩
   case measure=>simp[intOf];omega
  ·have ek:k=s:=by omega
   subst ek
   have HO:=Lib.hid hown
   clear hp hy2 hown
   by_cases hov:10^k≤N
   ·have hpos:0<N / 10^k:=Nat.div_pos hov (bW k)
    obtain⟨e1,e2⟩:=bX hs hov
    obtain rfl:E=23:=by rw[←HE.out,e1]
    obtain rfl:p=[]:=by rw[←HP.out,e2]
    clear HE HP e1 e2 hov
    generalize N / 10^k=y at*
    go_wp2
    go_ret2
    exact⟨none,0,rfl,Gv _,hbel⟩
   ·have hz:N / 10^k=0:=Nat.div_eq_of_lt (by omega)
    obtain⟨e1,e2⟩:=fY hs (show N<10^k by omega)
    obtain rfl:E=0:=by rw[←HE.out,e1]
    have hpl:p=dg N k:=by rw[←HP.out,e2]
    have hl:p.length=k:=by rw[hpl,Lz]
    have HPL:=Lib.hid hpl
    have HL:=Lib.hid hl
    rw[hz]
    clear HE HP e1 e2 hov hpl hl hz
    go_wp2
    go_ret2
    refine⟨some ⟨g,0,none⟩,cap,by rw[HL.out];rfl, ?_,hbel⟩
    rw[HPL.out]
    exact AdM HO.out (fun x hx=>by have:=bV N k x hx;omega)
theorem lM (n s:Int) (E:Int) (p:List Nat) (hE:Ch n s=E) (hp:bputL n s=p) (w:World) (hn:n≤9223372036854775807):
  Calls Tryz.prog 176 #[.int .i64 n, .int .i64 s] w fun e w'=> ∃A c,e= .returned (.tuple #[.slice A (p.length:Nat) c, .int .i64 E])∧Bs w' w'.heap.size p A c∧Below w.heap.size w w':=by
 by_cases h:n<0∨s<0∨18<s
 ·obtain⟨e1,e2⟩:=Ya h
  obtain rfl:E=1:=by rw[←hE,e1]
  obtain rfl:p=[]:=by rw[←hp,e2]
  refine(AbF n s w h).mono ?_
  rintro e w1 ⟨rfl,rfl⟩
  exact⟨none,0,rfl,Gv _,Below.refl _ _⟩
 ·obtain⟨N,rfl⟩: ∃N:Nat,n=N:=⟨n.toNat,by omega⟩
  obtain⟨S,rfl⟩: ∃S:Nat,s=S:=⟨s.toNat,by omega⟩
  exact AbG N S E p hE hp w (by omega) (by omega)
theorem bT (vs ws:List Int) (n m:Nat) (hn:n=vs.length) (hm:m=ws.length) (E:Int) (p:List Nat) (hE:joinX vs ws=(E,p)) (A A':Option Addr) (c c':Nat) (w:World) (hA:Zs w w.heap.size vs A c) (hA':Zs w w.heap.size ws A' c') (hv: ∀v∈vs,Cl v):
  Calls Tryz.prog 126 #[.slice A n c, .slice A' m c'] w fun e w'=> ∃A2 c2,e= .returned (.tuple #[.slice A2 (p.length:Nat) c2, .int .i64 E])∧Bs w' w'.heap.size p A2 c2∧Below w.heap.size w w':=by
 obtain⟨i0,hi,hz0,hz1,hz2⟩:=info_parts Be
 have h63:n≤9223372036854775807:=by have:=hA.len;have:=hA.cap;omega
 have h63':m≤9223372036854775807:=by have:=hA'.len;have:=hA'.cap;omega
 have HN:=Lib.hid hn
 have HM:=Lib.hid hm
 have HA:=Lib.hid hA
 have HA':=Lib.hid hA'
 have HE:=Lib.hid hE
 have HV:=Lib.hid hv
 clear hn hm hA hA' hE hv
 by_cases h1:n≠m∨20<n
 ·have h2:joinX vs ws=(1,[]):=by rw[joinX,if_pos (by rw[←HN.out, ←HM.out];exact h1)]
  obtain⟨rfl,rfl⟩:E=1∧p=[]:=by have:=HE.out;rw[h2]at this;exact⟨(Prod.mk.inj this).1.symm,(Prod.mk.inj this).2.symm⟩
  clear HE h2
  by_cases h3:n≠m
  ·have b1:((n:Int) !=(m:Int))=true:=by simp;omega
   have b2:(n !=m)=true:=by simpa using h3
   clear h1
   go_enter Tryz.func126, Tryz.ntmps126
   go_wp2
   go_ret2
   exact⟨none,0,rfl,Gv _,Below.refl _ _⟩
  ·obtain rfl:n=m:=by omega
   have h4:20<n:=by omega
   clear h1 h3
   go_enter Tryz.func126, Tryz.ntmps126
   go_wp2
   go_ret2
   exact⟨none,0,rfl,Gv _,Below.refl _ _⟩
 obtain rfl:n=m:=by omega
 have h20:n≤20:=by omega
 have HR:=Lib.hid (show joinR vs ws []=(E,p) by rw[←HE.out,joinX,if_neg (by rw[←HN.out, ←HM.out];exact h1)])
 clear h1 HE
 go_enter Tryz.func126, Tryz.ntmps126
 go_wp2
 go_loopw [6,7] (fun v i wr=> ∃(k:Nat) (out:List Nat),k≤n∧i= .int .i64 k∧wr.ownsRow w.heap.size 5 1 v out.length (U8 out)∧(∀x∈out,x≤9)∧out.length≤18*k∧joinR (vs.drop k) (ws.drop k) out=(E,p)∧Below w.heap.size w wr) (fun _ i _=>n - (intOf i).toNat)
 case atStart=>exact⟨0,[],Nat.zero_le _,rfl,World.ownsRow_lit w #[] 0 (Nat.le_refl _) (by decide) rfl,by simp,by simp,HR.out,(Below.refl _ _).alloc (Nat.le_refl _) _⟩
 case round=>
  obtain⟨k,out,hk,rfl,hown,h9,hlen,hjr,hbel⟩:=hrel
  have HO:=Lib.hid hown
  have H9:=Lib.hid h9
  have HBL:=Lib.hid hbel
  have HJR:=Lib.hid hjr
  clear hown h9 hjr hbel
  by_cases hlt:k<n
  ·have hkv:k<vs.length:=by rw[←HN.out];exact hlt
   have hkw:k<ws.length:=by rw[←HM.out];exact hlt
   obtain⟨x,hx⟩: ∃x,vs[k]?=some x:=⟨_,List.getElem?_eq_getElem hkv⟩
   obtain⟨y,hy⟩: ∃y,ws[k]?=some y:=⟨_,List.getElem?_eq_getElem hkw⟩
   have hdv:vs.drop k=x::vs.drop (k+1):=by rw[Hv hkv];congr 1;rw[List.getElem?_eq_getElem hkv]at hx;exact Option.some.inj hx
   have hdw:ws.drop k=y::ws.drop (k+1):=by rw[Hv hkw];congr 1;rw[List.getElem?_eq_getElem hkw]at hy;exact Option.some.inj hy
   have hx64:Cl x:=HV.out x (List.mem_of_getElem? hx)
   obtain⟨ad,rfl,hb,hc⟩:=(HA.out.next HBL.out).at hx
   obtain⟨ad',rfl,hb',hc'⟩:=(HA'.out.next HBL.out).at hy
   have HX:=Lib.hid hx64
   have hj:=HJR.out
   rw[hdv,hdw,joinR,List.headD_cons,List.tail_cons]at hj
   have b1:(0:Int)≤(k:Int):=by omega
   have b2:(k:Int)<(n:Int):=by omega
   clear hkv hkw hx hy hdv hdw HJR
   by_cases h0:Ch x y=0
   ·rw[if_pos h0]at hj
    have HJ:=Lib.hid hj
    clear hj
    obtain⟨q,hq⟩: ∃q,q=bputL x y:=⟨_,rfl⟩
    have hq18:q.length≤18:=by rw[hq];exact qH x y
    have hq9: ∀z∈q,z≤9:=by rw[hq];exact qG x y
    have HQ9:=Lib.hid hq9
    have HP0:=Lib.hid h0
    have HQ:=Lib.hid hq
    rw[←hq]at HJ
    clear hq9 h0 hq
    go_wp2
    rename_i K hK
    have HKK:=Lib.hid hK
    clear hK
    go_region_with (go_at_call 176;refine(lM x y 0 q HP0.out HQ.out.symm _ HX.out.2).mono ?_;rintro e w1 ⟨A1,c1,rfl,hb1,hbd⟩;have HB1:=Lib.hid hb1;have HBD:=Lib.hid ((Ae (Below.refl _ _) _).trans (hbd.mono (Nat.le_refl _)));have HBL1:=Lib.hid (HBL.out.trans (HBD.out.mono HBL.out.size));clear hb1 hbd)
    all_goals
     have hK:=HKK.out
     go_wp2_with (at_builtin;refine Af _ rfl _ _ 23 rfl w.heap.size 5 i0 (.int .u8 0) 1 Tryz.underlying23 hi hz0 hz1 hz2 rfl _ out.length (U8 out) rfl (Aj HO.out HBD.out) _ _ q.length c1 (U8 q) rfl HB1.out.rd (by simp[U8]) HB1.out.nil (Bd _) (by unfold maxLen;omega) (by omega) (by have:=HBL1.out.size;omega) ?_;intro v' w2 hown' hgrow;have HO2:=Lib.hid hown';have HB2:=Lib.hid (HBL1.out.grown hgrow HBL1.out.size (fun j hj=>Ak (Aj HO.out HBD.out) hj));clear hown' hgrow)
     go_roundw
     case rel=>exact⟨k+1,out++q,by omega,by go_num,by rw[List.length_append,U8,List.map_append];exact HO2.out,fun z hz=>(List.mem_append.1 hz).elim (H9.out z) (HQ9.out z),by rw[List.length_append];omega,HJ.out,HB2.out⟩
     case measure=>simp[intOf];omega
   ·rw[if_neg h0]at hj
    have hEE:Ch x y=E:=(Prod.mk.inj hj).1
    obtain rfl:p=[]:=(Prod.mk.inj hj).2.symm
    obtain⟨q,hq⟩: ∃q,q=bputL x y:=⟨_,rfl⟩
    have hne:(E !=0)=true:=by rw[←hEE];simpa using h0
    have HEE:=Lib.hid hEE
    have HQ:=Lib.hid hq
    clear h0 hj hEE hq
    go_wp2
    go_region_with (go_at_call 176;refine(lM x y E q HEE.out HQ.out.symm _ HX.out.2).mono ?_;rintro e w1 ⟨A1,c1,rfl,hb1,hbd⟩;have HBD:=Lib.hid ((Ae (Below.refl _ _) _).trans (hbd.mono (Nat.le_refl _)));have HBL1:=Lib.hid (HBL.out.trans (HBD.out.mono HBL.out.size));clear hb1 hbd)
    all_goals go_wp2
    all_goals go_ret2
    all_goals exact⟨none,0,rfl,Gv _,HBL1.out⟩
  ·have e1:k=n:=by omega
   subst e1
   have hj:=HJR.out
   rw[List.drop_of_length_le (by rw[←HN.out];omega),joinR]at hj
   obtain⟨rfl,rfl⟩:E=0∧p=out:=⟨(Prod.mk.inj hj).1.symm,(Prod.mk.inj hj).2.symm⟩
   obtain⟨A2,c2,rfl,hbs⟩:=Av HO.out (fun x hx=>by have:=H9.out x hx;omega)
   have HBS:=Lib.hid hbs
   clear HJR hj hbs
   go_wp2
   go_ret2
   exact⟨A2,c2,rfl,HBS.out,HBL.out⟩
theorem AbH (r:Rg) (hin:InR r) (E:Int) (p:List Nat) (hE:lputX r=(E,p)) (w:World) (hbad:(Hf r&&Jn r)=false):Calls Tryz.prog 74 #[.agg #[.int .i64 r.t.ser, .int .i64 r.t.kind, .int .i64 r.t.frm, .int .i64 r.t.till, .int .i64 r.t.cls, .int .i64 r.t.card, .int .i64 r.t.seat, .int .i64 r.t.day, .int .i64 r.t.days, .int .i64 r.t.uses, .int .i64 r.t.epoch, .int .i64 r.key, .int .i64 r.left, .int .i64 r.inn, .int .i64 r.ver]] w fun e w'=> ∃A c,e= .returned (.tuple #[.slice A (p.length:Nat) c, .int .i64 E])∧Bs w' w'.heap.size p A c∧Below w.heap.size w w':=by
 obtain⟨k1,h1⟩: ∃k1,okT r.t=k1:=⟨_,rfl⟩
 obtain⟨k2,h2⟩: ∃k2,Ft r.t.uses r.left r.inn=k2:=⟨_,rfl⟩
 have HF:=Lib.hid hbad
 have HE:=Lib.hid hE
 have H1:=Lib.hid h1
 have H2:=Lib.hid h2
 clear hE h1 h2 hbad
 obtain⟨w0,hw0⟩: ∃w0,w0=(w.alloc (.cells #[.int .i64 r.t.ser, .int .i64 r.t.kind, .int .i64 r.t.frm, .int .i64 r.t.till, .int .i64 r.t.cls, .int .i64 r.t.card, .int .i64 r.t.seat, .int .i64 r.t.day, .int .i64 r.t.days, .int .i64 r.t.uses, .int .i64 r.t.epoch, .int .i64 r.key, .int .i64 r.left, .int .i64 r.inn, .int .i64 r.ver] 39)).alloc (.cells #[.int .i64 r.t.ser, .int .i64 r.t.kind, .int .i64 r.t.frm, .int .i64 r.t.till, .int .i64 r.t.cls, .int .i64 r.t.card, .int .i64 r.t.seat, .int .i64 r.t.day, .int .i64 r.t.days, .int .i64 r.t.uses, .int .i64 r.t.epoch] 37):=⟨_,rfl⟩
 have HX:Hid (Am w0 w.heap.size r):=Lib.hid (by rw[hw0];exact(Am.new w r).alloc _)
 have HT:Hid (Cp w0 (w.heap.size+1) r.t):=Lib.hid (by rw[hw0,show w.heap.size+1=(w.alloc (.cells #[.int .i64 r.t.ser, .int .i64 r.t.kind, .int .i64 r.t.frm, .int .i64 r.t.till, .int .i64 r.t.cls, .int .i64 r.t.card, .int .i64 r.t.seat, .int .i64 r.t.day, .int .i64 r.t.days, .int .i64 r.t.uses, .int .i64 r.t.epoch, .int .i64 r.key, .int .i64 r.left, .int .i64 r.inn, .int .i64 r.ver] 39)).heap.size by simp];exact Cp.new _ r.t)
 have HBL:Hid (Below w.heap.size w w0):=Lib.hid (by rw[hw0];exact((Below.refl _ _).alloc (Nat.le_refl _) _).alloc (by simp) _)
 have HW:=Lib.hid hw0
 clear hw0
 go_enter Tryz.func74, Tryz.ntmps74
 go_wp2_with fail
 rw[←HW.out]
 obtain⟨e0,e1,e2,e3,e4,e5,e6,e7,e8,e9,e10⟩:=HT.out.cells
 go_wp2_with fail
 refine(Bf r.t k1 H1.out _).mono ?_
 rintro e w1 ⟨rfl,hb⟩
 clear e0 e1 e2 e3 e4 e5 e6 e7 e8 e9 e10
 replace HX:=Lib.hid (HX.out.next hb)
 replace HT:=Lib.hid (HT.out.next hb)
 replace HBL:=Lib.hid (HBL.out.trans (hb.mono HBL.out.size))
 clear hb
 obtain⟨c0,c1,c2,c3,c4,c5,c6,c7,c8,c9,c10⟩:=HT.out.cells
 obtain⟨b0,b1,b2,b3,b4,b5,b6,b7,b8,b9,b10,b11,b12,b13,b14⟩:=HX.out.cells
 cases k1
 rotate_left
 go_wp2_with fail
 refine(Gb r.t r.left r.inn k2 H2.out _).mono ?_
 rintro e w1 ⟨rfl,hb⟩
 clear c0 c1 c2 c3 c4 c5 c6 c7 c8 c9 c10 b0 b1 b2 b3 b4 b5 b6 b7 b8 b9 b10 b11 b12 b13 b14
 replace HX:=Lib.hid (HX.out.next hb)
 replace HT:=Lib.hid (HT.out.next hb)
 replace HBL:=Lib.hid (HBL.out.trans (hb.mono HBL.out.size))
 clear hb
 obtain⟨c0,c1,c2,c3,c4,c5,c6,c7,c8,c9,c10⟩:=HT.out.cells
 obtain⟨b0,b1,b2,b3,b4,b5,b6,b7,b8,b9,b10,b11,b12,b13,b14⟩:=HX.out.cells
 cases k2
 rotate_left
 cases q3:decide (r.key<0)
 cases q3':decide (99<r.key)
 cases q4:(r.ver==0)
 rotate_left
 have q4':(r.ver !=0)=false:=by rw[bne,q4];rfl
 cases q5:(r.t.seat !=0)
 cases q6:decide (9999999<r.t.ser)
 ·exfalso
  have h:=HF.out
  have ha:Hf r=true:=(Cc r).2 ⟨H1.out,H2.out,by have:=of_decide_eq_false q3;omega,by have:=of_decide_eq_false q3';omega,by simpa using q4⟩
  have hf:Jn r=true:=(Gz r).2 ⟨by simpa using q5,by have:=of_decide_eq_false q6;omega⟩
  rw[ha,hf]at h;cases h
 all_goals
  have hE:=HE.out
  (try(have q4':(r.ver !=0)=true:=by rw[bne,q4];rfl))
  cases ha:Hf r
  rotate_left
  ·have hf:Jn r=false:=by have h:=HF.out;rw[ha,Bool.true_and]at h;exact h
   obtain⟨a1,a2,a3,a4,a5⟩:=(Cc r).1 ha
   first
    |exact absurd a1 (by rw[H1.out];decide)
    |exact absurd a2 (by rw[H2.out];decide)
    |(rw[kL ha hf]at hE;obtain⟨rfl,rfl⟩:=Prod.mk.inj hE;clear ha hf a1 a2 a3 a4 a5;go_wp2;go_ret2;exact⟨none,0,rfl,Gv _,HBL.out⟩)
    |(have:=of_decide_eq_true q3';omega)
    |(have:=of_decide_eq_true q3;omega)
    |exact absurd q4 (by rw[a5];decide)
  first
   |(exfalso;have h:Hf r=true:=(Cc r).2 ⟨H1.out,H2.out,by have:=of_decide_eq_false q3;omega,by have:=of_decide_eq_false q3';omega,by simpa using q4⟩;rw[ha]at h;cases h)
   |(rw[kK ha]at hE;obtain⟨rfl,rfl⟩:=Prod.mk.inj hE;clear ha;go_wp2;go_ret2;exact⟨none,0,rfl,Gv _,HBL.out⟩)
theorem lN (w:World) (a b c:Int): ∀j u,([.int .i64 a, .int .i64 b, .int .i64 c]:List Value)[j]?=some u→(w.alloc (.cells #[.int .i64 a, .int .i64 b, .int .i64 c] 3)).cell? ((⟨w.heap.size,0,none⟩:Addr).add j)=some u:=by
 intro j u hu
 obtain⟨ad,e,_,hc⟩:=Cm w #[.int .i64 a, .int .i64 b, .int .i64 c] 3 j u hu
 cases e
 exact hc
theorem xI (w:World) (o:Obj) (a b c:Int): ∀j u,([.int .i64 a, .int .i64 b, .int .i64 c]:List Value)[j]?=some u→((w.alloc o).alloc (.cells #[.int .i64 a, .int .i64 b, .int .i64 c] 3)).cell? ((⟨w.heap.size+1,0,none⟩:Addr).add j)=some u:=by
 have h:=lN (w.alloc o) a b c
 rw[show(w.alloc o).heap.size=w.heap.size+1 by simp]at h
 exact h
theorem Cp.below {w w':World} {b B:Nat} {t:Tk} (h:Cp w b t) (hlt:b<B) (hb:Below B w w'):Cp w' b t:=(hb.block _ hlt).trans h
theorem bU (a b c:Int): ∀u∈([.int .i64 a, .int .i64 b, .int .i64 c]:List Value),u.oneCell'=true:=Fw [a,b,c]
theorem AbI (r:Rg) (hin:InR r) (E:Int) (p:List Nat) (hE:lputX r=(E,p)) (w:World) (ha:Hf r=true) (hf:Jn r=true) (hnk:r.t.kind≠4):Calls Tryz.prog 74 #[.agg #[.int .i64 r.t.ser, .int .i64 r.t.kind, .int .i64 r.t.frm, .int .i64 r.t.till, .int .i64 r.t.cls, .int .i64 r.t.card, .int .i64 r.t.seat, .int .i64 r.t.day, .int .i64 r.t.days, .int .i64 r.t.uses, .int .i64 r.t.epoch, .int .i64 r.key, .int .i64 r.left, .int .i64 r.inn, .int .i64 r.ver]] w fun e w'=> ∃A c,e= .returned (.tuple #[.slice A (p.length:Nat) c, .int .i64 E])∧Bs w' w'.heap.size p A c∧Below w.heap.size w w':=by
 have hv9:I64 (valL r)=[.int .i64 r.t.kind, .int .i64 r.t.ser, .int .i64 r.t.cls, .int .i64 r.t.card, .int .i64 r.t.day, .int .i64 r.t.days, .int .i64 r.t.epoch, .int .i64 r.t.frm, .int .i64 r.t.till]++ [.int .i64 r.left, .int .i64 r.inn, .int .i64 r.key]:=by rw[valL,Nc,if_neg hnk];rfl
 have HV9:=Lib.hid hv9
 have hn12:(9+3:Nat)=(Au r.t.kind).length:=by rw[If (Od ((Cc r).1 ha).1),if_neg hnk]
 have qk:(r.t.kind==4)=false:=by rw[beq_eq_false_iff_ne];exact hnk
 clear hv9 hnk
 rw[Tb ha hf]at hE
 have HJ:=Lib.hid hE
 have hk:=Od ((Cc r).1 ha).1
 have hvl:=Xr hk
 obtain⟨h1,h2,h3,h3',h4⟩:=(Cc r).1 ha
 have H1:=Lib.hid h1
 have H2:=Lib.hid h2
 have q3:decide (r.key<0)=false:=decide_eq_false (by omega)
 have q3':decide (99<r.key)=false:=decide_eq_false (by omega)
 have q4:(r.ver !=0)=false:=by rw[h4];rfl
 have q4':(r.ver==0)=true:=by rw[h4];rfl
 clear h1 h2 h3 h3' h4
 obtain⟨h5,h6⟩:=(Gz r).1 hf
 have q5:(r.t.seat !=0)=false:=by rw[h5];rfl
 have q6:decide (9999999<r.t.ser)=false:=decide_eq_false (by omega)
 have q5':(r.t.seat==0)=true:=by rw[h5];rfl
 have q6':decide (r.t.ser≤9999999)=true:=decide_eq_true h6
 obtain⟨n,hn⟩: ∃n,n=(Au r.t.kind).length:=⟨_,rfl⟩
 have HN:=Lib.hid hn
 have HWE:=Lib.hid (show Gy r.t.kind=0 by rw[Gy,if_pos hk])
 have HVL:=Lib.hid (hn.trans hvl.symm)
 have HIN:=Lib.hid hin
 obtain⟨i0,hi,hz0,hz1,hz2⟩:=info_parts Gp
 clear ha hf h5 h6 hE hvl hn hin hk
 have hn13:(9+3:Nat)=n:=hn12.trans HN.out.symm
 have HN13:=Lib.hid hn13
 clear hn12 hn13
 obtain⟨w0,hw0⟩: ∃w0,w0=(w.alloc (.cells #[.int .i64 r.t.ser, .int .i64 r.t.kind, .int .i64 r.t.frm, .int .i64 r.t.till, .int .i64 r.t.cls, .int .i64 r.t.card, .int .i64 r.t.seat, .int .i64 r.t.day, .int .i64 r.t.days, .int .i64 r.t.uses, .int .i64 r.t.epoch, .int .i64 r.key, .int .i64 r.left, .int .i64 r.inn, .int .i64 r.ver] 39)).alloc (.cells #[.int .i64 r.t.ser, .int .i64 r.t.kind, .int .i64 r.t.frm, .int .i64 r.t.till, .int .i64 r.t.cls, .int .i64 r.t.card, .int .i64 r.t.seat, .int .i64 r.t.day, .int .i64 r.t.days, .int .i64 r.t.uses, .int .i64 r.t.epoch] 37):=⟨_,rfl⟩
 have HX:Hid (Am w0 w.heap.size r):=Lib.hid (by rw[hw0];exact(Am.new w r).alloc _)
 have HT:Hid (Cp w0 (w.heap.size+1) r.t):=Lib.hid (by rw[hw0,show w.heap.size+1=(w.alloc (.cells #[.int .i64 r.t.ser, .int .i64 r.t.kind, .int .i64 r.t.frm, .int .i64 r.t.till, .int .i64 r.t.cls, .int .i64 r.t.card, .int .i64 r.t.seat, .int .i64 r.t.day, .int .i64 r.t.days, .int .i64 r.t.uses, .int .i64 r.t.epoch, .int .i64 r.key, .int .i64 r.left, .int .i64 r.inn, .int .i64 r.ver] 39)).heap.size by simp];exact Cp.new _ r.t)
 have HBL:Hid (Below w.heap.size w w0):=Lib.hid (by rw[hw0];exact((Below.refl _ _).alloc (Nat.le_refl _) _).alloc (by simp) _)
 have HW:=Lib.hid hw0
 clear hw0
 go_enter Tryz.func74, Tryz.ntmps74
 go_wp2_with fail
 rw[←HW.out]
 obtain⟨e0,e1,e2,e3,e4,e5,e6,e7,e8,e9,e10⟩:=HT.out.cells
 go_wp2_with (first|(go_at_call 109;refine(Bf r.t _ H1.out _).mono ?_;rintro e w1 ⟨rfl,hb⟩;clear e0 e1 e2 e3 e4 e5 e6 e7 e8 e9 e10;have HX1:=Lib.hid (HX.out.next hb);have HT1:=Lib.hid (HT.out.next hb);have HBL1:=Lib.hid (HBL.out.trans (hb.mono HBL.out.size));clear hb;obtain⟨c0,c1,c2,c3,c4,c5,c6,c7,c8,c9,c10⟩:=HT1.out.cells;obtain⟨b0,b1,b2,b3,b4,b5,b6,b7,b8,b9,b10,b11,b12,b13,b14⟩:=HX1.out.cells)|(go_at_call 110;refine(Gb r.t r.left r.inn _ H2.out _).mono ?_;rintro e w2 ⟨rfl,hb⟩;clear c0 c1 c2 c3 c4 c5 c6 c7 c8 c9 c10 b0 b1 b2 b3 b4 b5 b6 b7 b8 b9 b10 b11 b12 b13 b14;have HX2:=Lib.hid (HX1.out.next hb);have HT2:=Lib.hid (HT1.out.next hb);have HBL2:=Lib.hid (HBL1.out.trans (hb.mono HBL1.out.size));clear hb;obtain⟨c0,c1,c2,c3,c4,c5,c6,c7,c8,c9,c10⟩:=HT2.out.cells;obtain⟨b0,b1,b2,b3,b4,b5,b6,b7,b8,b9,b10,b11,b12,b13,b14⟩:=HX2.out.cells;have hXl:=HX2.out.lt;have hYl:=HT2.out.lt;have HO4:=Lib.hid (World.ownsRow_lit (base:=w2.heap.size) (e:= 3) (size:=1) w2 #[.int .i64 r.t.kind, .int .i64 r.t.ser, .int .i64 r.t.cls, .int .i64 r.t.card, .int .i64 r.t.day, .int .i64 r.t.days, .int .i64 r.t.epoch, .int .i64 r.t.frm, .int .i64 r.t.till] 9 (Nat.le_refl _) (by decide) rfl);have hB4:Below w2.heap.size w2 (w2.alloc (.cells #[.int .i64 r.t.kind, .int .i64 r.t.ser, .int .i64 r.t.cls, .int .i64 r.t.card, .int .i64 r.t.day, .int .i64 r.t.days, .int .i64 r.t.epoch, .int .i64 r.t.frm, .int .i64 r.t.till] 3)):=Aa w2 _ _;have hRw:=HX2.out.below hXl hB4;have hTw:=HT2.out.below hYl hB4;obtain⟨kt0,kt1,kt2,kt3,kt4,kt5,kt6,kt7,kt8,kt9,kt10⟩:=hTw.cells;obtain⟨kr0,kr1,kr2,kr3,kr4,kr5,kr6,kr7,kr8,kr9,kr10,kr11,kr12,kr13,kr14⟩:=hRw.cells;clear hRw hTw;have HB4:=Lib.hid hB4;clear hB4)|(at_builtin;refine wpList_append_own _ rfl (.tmp 72) (.tmp 81) 105 rfl w2.heap.size 3 i0 (.int .i64 0) 1 8 Tryz.underlying105 hi hz0 hz1 hz2 rfl (by decide) _ 9 _ rfl (HO4.out.alloc _) ⟨w2.heap.size+1,0,none⟩ 3 3 [.int .i64 r.left, .int .i64 r.inn, .int .i64 r.key] rfl rfl (xI _ _ _ _ _) (bU _ _ _) (by unfold maxLen;omega) (by omega) (by have:=HB4.out.size;first|omega|(simp only[World.size_alloc]at this⊢;omega)|(simp only[World.size_alloc];omega)) ?_;intro v7 w7 hown hg _;have hB7:Below w2.heap.size w2 w7:=(HB4.out.alloc (by have:=HB4.out.size;first|omega|(simp only[World.size_alloc]at this⊢;omega)|(simp only[World.size_alloc];omega)) _).grown hg (by have:=HB4.out.size;first|omega|(simp only[World.size_alloc]at this⊢;omega)|(simp only[World.size_alloc];omega)) (fun j hj=>Ak HO4.out hj);have hRw:=HX2.out.below hXl hB7;have hTw:=HT2.out.below hYl hB7;obtain⟨ft0,ft1,ft2,ft3,ft4,ft5,ft6,ft7,ft8,ft9,ft10⟩:=hTw.cells;obtain⟨fr0,fr1,fr2,fr3,fr4,fr5,fr6,fr7,fr8,fr9,fr10,fr11,fr12,fr13,fr14⟩:=hRw.cells;clear hRw hTw;have HB7:=Lib.hid (HBL2.out.trans (hB7.mono HBL2.out.size));obtain⟨AV,cV,rfl,_,hzv⟩:=Bo (l:=valL r) (by rw[HV9.out];exact hown);have HZV:=Lib.hid hzv;try rw[HN13.out];clear hown hg hzv hB7)|(go_at_call 107;refine(Gh r.t.kind 0 (Au r.t.kind) n HN.out HWE.out rfl _).mono ?_;rintro e w8 ⟨AW,cW,rfl,hzw,hb⟩;have HZW:=Lib.hid hzw;have HZV8:=Lib.hid (HZV.out.next hb);have HB8:=Lib.hid (HB7.out.trans (hb.mono HB7.out.size));clear hzw hb)|(go_at_call 126;refine(bT (valL r) (Au r.t.kind) n n HVL.out HN.out E p HJ.out AV AW cV cW _ HZV8.out HZW.out (fK HIN.out)).mono ?_;rintro e w9 ⟨A9,c9,rfl,hbs,hb⟩;have HBS:=Lib.hid hbs;have HB9:=Lib.hid (HB8.out.trans (hb.mono HB8.out.size));clear hbs hb))
 go_ret2
 exact⟨A9,c9,rfl,HBS.out,HB9.out⟩
theorem xJ (r:Rg) (hin:InR r) (E:Int) (p:List Nat) (hE:lputX r=(E,p)) (w:World) (ha:Hf r=true) (hf:Jn r=true) (hk4:r.t.kind=4):Calls Tryz.prog 74 #[.agg #[.int .i64 r.t.ser, .int .i64 r.t.kind, .int .i64 r.t.frm, .int .i64 r.t.till, .int .i64 r.t.cls, .int .i64 r.t.card, .int .i64 r.t.seat, .int .i64 r.t.day, .int .i64 r.t.days, .int .i64 r.t.uses, .int .i64 r.t.epoch, .int .i64 r.key, .int .i64 r.left, .int .i64 r.inn, .int .i64 r.ver]] w fun e w'=> ∃A c,e= .returned (.tuple #[.slice A (p.length:Nat) c, .int .i64 E])∧Bs w' w'.heap.size p A c∧Below w.heap.size w w':=by
 have hv9:I64 (valL r)=[.int .i64 r.t.kind, .int .i64 r.t.ser, .int .i64 r.t.cls, .int .i64 r.t.card, .int .i64 r.t.day, .int .i64 r.t.days, .int .i64 r.t.epoch, .int .i64 r.t.frm, .int .i64 r.t.till]++ [.int .i64 r.t.uses]++ [.int .i64 r.left, .int .i64 r.inn, .int .i64 r.key]:=by rw[valL,Nc,if_pos hk4];rfl
 have HV9:=Lib.hid hv9
 have hn12:(10+3:Nat)=(Au r.t.kind).length:=by rw[If (Od ((Cc r).1 ha).1),if_pos hk4]
 have qk:(r.t.kind==4)=true:=by rw[beq_iff_eq];exact hk4
 clear hv9 hk4
 rw[Tb ha hf]at hE
 have HJ:=Lib.hid hE
 have hk:=Od ((Cc r).1 ha).1
 have hvl:=Xr hk
 obtain⟨h1,h2,h3,h3',h4⟩:=(Cc r).1 ha
 have H1:=Lib.hid h1
 have H2:=Lib.hid h2
 have q3:decide (r.key<0)=false:=decide_eq_false (by omega)
 have q3':decide (99<r.key)=false:=decide_eq_false (by omega)
 have q4:(r.ver !=0)=false:=by rw[h4];rfl
 have q4':(r.ver==0)=true:=by rw[h4];rfl
 clear h1 h2 h3 h3' h4
 obtain⟨h5,h6⟩:=(Gz r).1 hf
 have q5:(r.t.seat !=0)=false:=by rw[h5];rfl
 have q6:decide (9999999<r.t.ser)=false:=decide_eq_false (by omega)
 have q5':(r.t.seat==0)=true:=by rw[h5];rfl
 have q6':decide (r.t.ser≤9999999)=true:=decide_eq_true h6
 obtain⟨n,hn⟩: ∃n,n=(Au r.t.kind).length:=⟨_,rfl⟩
 have HN:=Lib.hid hn
 have HWE:=Lib.hid (show Gy r.t.kind=0 by rw[Gy,if_pos hk])
 have HVL:=Lib.hid (hn.trans hvl.symm)
 have HIN:=Lib.hid hin
 obtain⟨i0,hi,hz0,hz1,hz2⟩:=info_parts Gp
 clear ha hf h5 h6 hE hvl hn hin hk
 have hn13:(10+3:Nat)=n:=hn12.trans HN.out.symm
 have HN13:=Lib.hid hn13
 clear hn12 hn13
 obtain⟨w0,hw0⟩: ∃w0,w0=(w.alloc (.cells #[.int .i64 r.t.ser, .int .i64 r.t.kind, .int .i64 r.t.frm, .int .i64 r.t.till, .int .i64 r.t.cls, .int .i64 r.t.card, .int .i64 r.t.seat, .int .i64 r.t.day, .int .i64 r.t.days, .int .i64 r.t.uses, .int .i64 r.t.epoch, .int .i64 r.key, .int .i64 r.left, .int .i64 r.inn, .int .i64 r.ver] 39)).alloc (.cells #[.int .i64 r.t.ser, .int .i64 r.t.kind, .int .i64 r.t.frm, .int .i64 r.t.till, .int .i64 r.t.cls, .int .i64 r.t.card, .int .i64 r.t.seat, .int .i64 r.t.day, .int .i64 r.t.days, .int .i64 r.t.uses, .int .i64 r.t.epoch] 37):=⟨_,rfl⟩
 have HX:Hid (Am w0 w.heap.size r):=Lib.hid (by rw[hw0];exact(Am.new w r).alloc _)
 have HT:Hid (Cp w0 (w.heap.size+1) r.t):=Lib.hid (by rw[hw0,show w.heap.size+1=(w.alloc (.cells #[.int .i64 r.t.ser, .int .i64 r.t.kind, .int .i64 r.t.frm, .int .i64 r.t.till, .int .i64 r.t.cls, .int .i64 r.t.card, .int .i64 r.t.seat, .int .i64 r.t.day, .int .i64 r.t.days, .int .i64 r.t.uses, .int .i64 r.t.epoch, .int .i64 r.key, .int .i64 r.left, .int .i64 r.inn, .int .i64 r.ver] 39)).heap.size by simp];exact Cp.new _ r.t)
 have HBL:Hid (Below w.heap.size w w0):=Lib.hid (by rw[hw0];exact((Below.refl _ _).alloc (Nat.le_refl _) _).alloc (by simp) _)
 have HW:=Lib.hid hw0
 clear hw0
 go_enter Tryz.func74, Tryz.ntmps74
 go_wp2_with fail
 rw[←HW.out]
 obtain⟨e0,e1,e2,e3,e4,e5,e6,e7,e8,e9,e10⟩:=HT.out.cells
 go_wp2_with (first|(go_at_call 109;refine(Bf r.t _ H1.out _).mono ?_;rintro e w1 ⟨rfl,hb⟩;clear e0 e1 e2 e3 e4 e5 e6 e7 e8 e9 e10;have HX1:=Lib.hid (HX.out.next hb);have HT1:=Lib.hid (HT.out.next hb);have HBL1:=Lib.hid (HBL.out.trans (hb.mono HBL.out.size));clear hb;obtain⟨c0,c1,c2,c3,c4,c5,c6,c7,c8,c9,c10⟩:=HT1.out.cells;obtain⟨b0,b1,b2,b3,b4,b5,b6,b7,b8,b9,b10,b11,b12,b13,b14⟩:=HX1.out.cells)|(go_at_call 110;refine(Gb r.t r.left r.inn _ H2.out _).mono ?_;rintro e w2 ⟨rfl,hb⟩;clear c0 c1 c2 c3 c4 c5 c6 c7 c8 c9 c10 b0 b1 b2 b3 b4 b5 b6 b7 b8 b9 b10 b11 b12 b13 b14;have HX2:=Lib.hid (HX1.out.next hb);have HT2:=Lib.hid (HT1.out.next hb);have HBL2:=Lib.hid (HBL1.out.trans (hb.mono HBL1.out.size));clear hb;obtain⟨c0,c1,c2,c3,c4,c5,c6,c7,c8,c9,c10⟩:=HT2.out.cells;obtain⟨b0,b1,b2,b3,b4,b5,b6,b7,b8,b9,b10,b11,b12,b13,b14⟩:=HX2.out.cells;have hXl:=HX2.out.lt;have hYl:=HT2.out.lt;have HO4:=Lib.hid (World.ownsRow_lit (base:=w2.heap.size) (e:= 3) (size:=1) w2 #[.int .i64 r.t.kind, .int .i64 r.t.ser, .int .i64 r.t.cls, .int .i64 r.t.card, .int .i64 r.t.day, .int .i64 r.t.days, .int .i64 r.t.epoch, .int .i64 r.t.frm, .int .i64 r.t.till] 9 (Nat.le_refl _) (by decide) rfl);have hB4:Below w2.heap.size w2 (w2.alloc (.cells #[.int .i64 r.t.kind, .int .i64 r.t.ser, .int .i64 r.t.cls, .int .i64 r.t.card, .int .i64 r.t.day, .int .i64 r.t.days, .int .i64 r.t.epoch, .int .i64 r.t.frm, .int .i64 r.t.till] 3)):=Aa w2 _ _;have hRw:=HX2.out.below hXl hB4;have hTw:=HT2.out.below hYl hB4;obtain⟨kt0,kt1,kt2,kt3,kt4,kt5,kt6,kt7,kt8,kt9,kt10⟩:=hTw.cells;obtain⟨kr0,kr1,kr2,kr3,kr4,kr5,kr6,kr7,kr8,kr9,kr10,kr11,kr12,kr13,kr14⟩:=hRw.cells;clear hRw hTw;have HB4:=Lib.hid hB4;clear hB4)|(at_builtin;refine wpList_append_own _ rfl (.tmp 67) (.tmp 70) 105 rfl w2.heap.size 3 i0 (.int .i64 0) 1 8 Tryz.underlying105 hi hz0 hz1 hz2 rfl (by decide) _ 9 _ rfl (HO4.out.alloc _) ⟨w2.heap.size+1,0,none⟩ 1 1 [.int .i64 r.t.uses] rfl rfl (Xo _ _ _) (Vj _) (by unfold maxLen;omega) (by omega) (by have:=HB4.out.size;first|omega|(simp only[World.size_alloc]at this⊢;omega)|(simp only[World.size_alloc];omega)) ?_;intro v6 w6 hown hg _;have hB6:Below w2.heap.size w2 w6:=(HB4.out.alloc (by have:=HB4.out.size;first|omega|(simp only[World.size_alloc]at this⊢;omega)|(simp only[World.size_alloc];omega)) _).grown hg (by have:=HB4.out.size;first|omega|(simp only[World.size_alloc]at this⊢;omega)|(simp only[World.size_alloc];omega)) (fun j hj=>Ak HO4.out hj);have hRw:=HX2.out.below hXl hB6;have hTw:=HT2.out.below hYl hB6;obtain⟨gt0,gt1,gt2,gt3,gt4,gt5,gt6,gt7,gt8,gt9,gt10⟩:=hTw.cells;obtain⟨gr0,gr1,gr2,gr3,gr4,gr5,gr6,gr7,gr8,gr9,gr10,gr11,gr12,gr13,gr14⟩:=hRw.cells;clear hRw hTw;have HB6:=Lib.hid hB6;have HO6:=Lib.hid hown;clear hown hg hB6)|(at_builtin;refine wpList_append_own _ rfl (.tmp 72) (.tmp 81) 105 rfl w2.heap.size 3 i0 (.int .i64 0) 1 8 Tryz.underlying105 hi hz0 hz1 hz2 rfl (by decide) _ 10 _ rfl (HO6.out.alloc _) ⟨w6.heap.size,0,none⟩ 3 3 [.int .i64 r.left, .int .i64 r.inn, .int .i64 r.key] rfl rfl (lN _ _ _ _) (bU _ _ _) (by unfold maxLen;omega) (by omega) (by have:=HB6.out.size;first|omega|(simp only[World.size_alloc]at this⊢;omega)|(simp only[World.size_alloc];omega)) ?_;intro v7 w7 hown hg _;have hB7:Below w2.heap.size w2 w7:=(HB6.out.alloc (by have:=HB6.out.size;first|omega|(simp only[World.size_alloc]at this⊢;omega)|(simp only[World.size_alloc];omega)) _).grown hg (by have:=HB6.out.size;first|omega|(simp only[World.size_alloc]at this⊢;omega)|(simp only[World.size_alloc];omega)) (fun j hj=>Ak HO6.out hj);have hRw:=HX2.out.below hXl hB7;have hTw:=HT2.out.below hYl hB7;obtain⟨ft0,ft1,ft2,ft3,ft4,ft5,ft6,ft7,ft8,ft9,ft10⟩:=hTw.cells;obtain⟨fr0,fr1,fr2,fr3,fr4,fr5,fr6,fr7,fr8,fr9,fr10,fr11,fr12,fr13,fr14⟩:=hRw.cells;clear hRw hTw;have HB7:=Lib.hid (HBL2.out.trans (hB7.mono HBL2.out.size));obtain⟨AV,cV,rfl,_,hzv⟩:=Bo (l:=valL r) (by rw[HV9.out];exact hown);have HZV:=Lib.hid hzv;try rw[HN13.out];clear hown hg hzv hB7)|(go_at_call 107;refine(Gh r.t.kind 0 (Au r.t.kind) n HN.out HWE.out rfl _).mono ?_;rintro e w8 ⟨AW,cW,rfl,hzw,hb⟩;have HZW:=Lib.hid hzw;have HZV8:=Lib.hid (HZV.out.next hb);have HB8:=Lib.hid (HB7.out.trans (hb.mono HB7.out.size));clear hzw hb)|(go_at_call 126;refine(bT (valL r) (Au r.t.kind) n n HVL.out HN.out E p HJ.out AV AW cV cW _ HZV8.out HZW.out (fK HIN.out)).mono ?_;rintro e w9 ⟨A9,c9,rfl,hbs,hb⟩;have HBS:=Lib.hid hbs;have HB9:=Lib.hid (HB8.out.trans (hb.mono HB8.out.size));clear hbs hb))
 go_ret2
 exact⟨A9,c9,rfl,HBS.out,HB9.out⟩
theorem xK (r:Rg) (hin:InR r) (E:Int) (p:List Nat) (hE:lputX r=(E,p)) (w:World):Calls Tryz.prog 74 #[.agg #[.int .i64 r.t.ser, .int .i64 r.t.kind, .int .i64 r.t.frm, .int .i64 r.t.till, .int .i64 r.t.cls, .int .i64 r.t.card, .int .i64 r.t.seat, .int .i64 r.t.day, .int .i64 r.t.days, .int .i64 r.t.uses, .int .i64 r.t.epoch, .int .i64 r.key, .int .i64 r.left, .int .i64 r.inn, .int .i64 r.ver]] w fun e w'=> ∃A c,e= .returned (.tuple #[.slice A (p.length:Nat) c, .int .i64 E])∧Bs w' w'.heap.size p A c∧Below w.heap.size w w':=by
 cases h:(Hf r&&Jn r)
 ·exact AbH r hin E p hE w h
 ·rw[Bool.and_eq_true]at h
  by_cases hk:r.t.kind=4
  ·exact xJ r hin E p hE w h.1 h.2 hk
  ·exact AbI r hin E p hE w h.1 h.2 hk
theorem lO (c:Int) (b:B5) (E:Int) (hb:Ky c=b) (hE:Mi c=E) (w:World):Calls Tryz.prog 178 #[.int .i64 c] w fun e w'=>e= .returned (.tuple #[.agg #[.bool b.b0, .bool b.b1, .bool b.b2, .bool b.b3, .bool b.b4], .int .i64 E])∧Below w.heap.size w w':=by
 obtain⟨w1,hw1⟩: ∃w1,w1=w.alloc (.cells #[.bool false, .bool false, .bool false, .bool false, .bool false] 182):=⟨_,rfl⟩
 obtain⟨w2,hw2⟩: ∃w2,w2=w1.alloc (.cells #[.bool false, .bool false, .bool false, .bool false, .bool false] 182):=⟨_,rfl⟩
 have hsz:w1.heap.size=w.heap.size+1:=by rw[hw1];exact Array.size_push ..
 have HB:Hid (Below w.heap.size w w2):=Lib.hid (by rw[hw2,hw1];exact(Aa w _ _).trans ((Aa _ _ _).mono (Aa w _ _).size))
 have HR:Hid (Bc w2 w.heap.size noB):=Lib.hid (by rw[hw2];exact Bc.next (by rw[hw1];exact Bc.new w noB) (Aa w1 _ _))
 have HX:Hid (Bc w2 (w.heap.size+1) noB):=Lib.hid (by rw[hw2, ←hsz];exact Bc.new w1 noB)
 have HW:Hid ((w.alloc (.cells #[.bool false, .bool false, .bool false, .bool false, .bool false] 182)).alloc (.cells #[.bool false, .bool false, .bool false, .bool false, .bool false] 182)=w2):=Lib.hid (by rw[hw2,hw1])
 clear hw1 hw2 hsz w1
 cases h:isC c with
 |false=>
  have e1:b=noB:=by rw[←hb,Ky,h];rfl
  have e2:E=1:=by rw[←hE,Mi,h];rfl
  subst e1 e2
  clear hb hE
  cases q1:decide (c<0)
  case true=>
   clear h
   go_enter Tryz.func178, Tryz.ntmps178
   go_wp2
   rw[HW.out]
   refine bodyPost_ret (Ab Tryz.results178 _ w2 w.heap.size 182 #[.bool false, .bool false, .bool false, .bool false, .bool false] (0,0) _ rfl HR.out Tryz.underlying182 rfl Fo) rfl ⟨rfl,HB.out⟩
  case false=>
   have q2:decide (31<c)=true:=by
    rw[decide_eq_false_iff_not]at q1
    refine decide_eq_true ?_
    rcases Int.lt_or_le 31 c with h1|h1
    ·exact h1
    ·rw[(Hw c).2 ⟨by omega,h1⟩]at h;cases h
   clear h
   go_enter Tryz.func178, Tryz.ntmps178
   go_wp2
   rw[HW.out]
   refine bodyPost_ret (Ab Tryz.results178 _ w2 w.heap.size 182 #[.bool false, .bool false, .bool false, .bool false, .bool false] (0,0) _ rfl HR.out Tryz.underlying182 rfl Fo) rfl ⟨rfl,HB.out⟩
 |true=>
  have hs:=(Hw c).1 h
  have q1:decide (c<0)=false:=decide_eq_false (by omega)
  have q2:decide (31<c)=false:=decide_eq_false (by omega)
  have e2:E=0:=by rw[←hE,Mi,if_pos h]
  have hbb:=(fC h).trans hb
  obtain⟨n,hn⟩: ∃n:Nat,c=(n:Int):=⟨c.toNat,by omega⟩
  subst hn e2
  have ht:(n:Int).toNat=n:=by omega
  rw[ht]at hbb
  have HBB:=Lib.hid hbb
  have HN:=Lib.hid (show n<32 by omega)
  clear hb hE h hs hbb ht
  go_enter Tryz.func178, Tryz.ntmps178
  go_wp2
  rw[HW.out]
  go_loopw [0,5] (fun a i wr=> ∃k:Nat,k≤5∧i= .int .i64 k∧a= .int .i64 (n / 2^k:Nat)∧Bc wr (w.heap.size+1) (upB n k)∧Bc wr w.heap.size noB∧Below w.heap.size w wr) (fun _ i _=>5 - (intOf i).toNat)
  case atStart=>exact⟨0,by omega,rfl,by simp,HX.out,HR.out,HB.out⟩
  case round=>
   obtain⟨k,hk,rfl,rfl,hx,hr,hbel⟩:=hrel
   replace HX:=Lib.hid hx
   replace HR:=Lib.hid hr
   replace HB:=Lib.hid hbel
   clear hx hr hbel
   by_cases hlt:k<5
   ·obtain⟨m,hm⟩: ∃m,n / 2^k=m:=⟨_,rfl⟩
    have hle:m≤n:=by rw[←hm];exact Nat.div_le_self _ _
    have hnx:n / 2^(k+1)=m / 2:=by rw[Nat.pow_succ, ←Nat.div_div_eq_div_mul,hm]
    have hbit:((m:Int) % 2==1)=Ry n k:=by
     rw[Ry,hm]
     cases hq:(m % 2==1)
     ·rw[beq_eq_false_iff_ne]at hq⊢;omega
     ·rw[beq_iff_eq]at hq⊢;omega
    have wq:wrap64 ((m:Int) / 2)=(m:Int) / 2:=by have:=HN.out;unfold wrap64;omega
    have HQ:=Lib.hid (show((m:Int) / 2)=((m / 2:Nat):Int) by omega)
    have b1:(k:Int)<5:=by omega
    have b0:(0:Int)≤(k:Int):=by omega
    have HNX:=Lib.hid hnx
    have HBIT:=Lib.hid hbit
    rw[hm]
    clear hm hle hnx hbit
    have fz:=HX.out.frozen k
    have hsm:=HX.out.get k hlt
    go_wp2
    case roundEnd=>exact⟨⟨k+1,by omega,by go_num,by rw[wq,HQ.out,HNX.out],by rw[HBIT.out, ←kM n k hlt];exact HX.out.set _ k hlt,HR.out.setAt _ (by omega),HB.out.setCell (p:=⟨w.heap.size+1,k,none⟩) (by simp) _⟩,by simp[intOf];omega⟩
   ·have e:k=5:=by omega
    subst e
    have hb1: ¬(((5:Nat):Int)<5):=by omega
    rw[HBB.out]at HX
    obtain⟨c0,c1,c2,c3,c4⟩:=HX.out.cells
    clear hlt hk
    go_wp2_with ((with_reducible refine Ac 2 ?_);refine Ad (o:=⟨none, .store 182 (.tmp 2) (.tmp 25),_,_,_,_⟩) rfl 182 (.tmp 2) (.tmp 25) rfl w.heap.size #[.bool b.b0, .bool b.b1, .bool b.b2, .bool b.b3, .bool b.b4] rfl rfl 182 #[.bool false, .bool false, .bool false, .bool false, .bool false] HR.out Fo rfl (Pq _ _ _ _ _) ?_;intro w5 hw5)
    have hr5:=setRow_heap wr w.heap.size #[.bool false, .bool false, .bool false, .bool false, .bool false] #[.bool b.b0, .bool b.b1, .bool b.b2, .bool b.b3, .bool b.b4] 182 (0,0) HR.out
    rw[←hw5.out]at hr5
    have hb5:=An hw5.out (Nat.le_refl w.heap.size)
    refine bodyPost_ret (Ab Tryz.results178 _ w5 w.heap.size 182 #[.bool b.b0, .bool b.b1, .bool b.b2, .bool b.b3, .bool b.b4] (0,0) _ rfl hr5 Tryz.underlying182 rfl Fo) rfl ⟨rfl,HB.out.trans hb5⟩
theorem lP (v x E:Int) (hv:Yh v=x) (hE:Yi v=E) (w:World):Calls Tryz.prog 177 #[.int .i64 v] w fun e w'=>e= .returned (.tuple #[.int .i64 x, .int .i64 E])∧w'=w:=by
 cases h:isV v with
 |false=>
  have e1:x=0:=by rw[←hv,Yh,h];rfl
  have e2:E=1:=by rw[←hE,Yi,h];rfl
  subst e1 e2
  clear hv hE
  cases q1:decide (v<0)
  case true=>
   clear h
   go_enter Tryz.func177, Tryz.ntmps177
   go_wp2
   go_ret2
   exact⟨rfl,rfl⟩
  case false=>
   have q2:decide (15<v)=true:=by
    rw[decide_eq_false_iff_not]at q1
    refine decide_eq_true ?_
    rcases Int.lt_or_le 15 v with h1|h1
    ·exact h1
    ·rw[(Er v).2 ⟨by omega,h1⟩]at h;cases h
   clear h
   go_enter Tryz.func177, Tryz.ntmps177
   go_wp2
   go_ret2
   exact⟨rfl,rfl⟩
 |true=>
  have hs:=(Er v).1 h
  have q1:decide (v<0)=false:=decide_eq_false (by omega)
  have q2:decide (15<v)=false:=decide_eq_false (by omega)
  obtain⟨n,hn⟩: ∃n:Nat,v=(n:Int):=⟨v.toNat,by omega⟩
  subst hn
  have ht:(n:Int).toNat=n:=by omega
  have HN:=Lib.hid (show n<32 by omega)
  obtain⟨k,hk⟩: ∃k,Bb n=k:=⟨_,rfl⟩
  have HK:=Lib.hid hk
  have e2:E=0:=by rw[←hE,Yi,if_pos h]
  subst e2
  have hx:(if k % 2=0 then(n:Int)+16 else(n:Int))=x:=by rw[←hv,Yh,if_pos h,ht,hk]
  have w1:IntKind.i64.wrap ((n:Int)+16)=(n:Int)+16:=IntWalk.i64_in _ (by omega)
  by_cases hk2:k % 2=0
  ·have q3:((k:Int) % 2==0)=true:=by rw[beq_iff_eq];omega
   rw[if_pos hk2]at hx
   have HX:=Lib.hid hx
   clear hv hE h hs hk hk2 hx
   go_enter Tryz.func177, Tryz.ntmps177
   go_wp2_with (go_at_call 203;refine(Jw n k HN.out HK.out _).mono ?_;rintro e w1 ⟨rfl,rfl⟩)
   go_ret2
   exact⟨by rw[←HX.out];rfl,rfl⟩
  ·have q3:((k:Int) % 2==0)=false:=by rw[beq_eq_false_iff_ne];omega
   rw[if_neg hk2]at hx
   have HX:=Lib.hid hx
   clear hv hE h hs hk hk2 hx
   go_enter Tryz.func177, Tryz.ntmps177
   go_wp2_with (go_at_call 203;refine(Jw n k HN.out HK.out _).mono ?_;rintro e w1 ⟨rfl,rfl⟩)
   go_ret2
   exact⟨by rw[←HX.out];rfl,rfl⟩
theorem fS (vs:List Nat) (hv: ∀v∈vs,v<16) (n:Nat) (hn:n=vs.length) (hn2:n≤2000) (A:Option Addr) (c:Nat) (w:World) (hA:Zs w w.heap.size (NZ vs) A c):Calls Tryz.prog 129 #[.slice A n c] w fun e w'=> ∃A' c',e= .returned (.slice A' ((5*n:Nat)) c')∧Vs w' w'.heap.size (Ap vs) A' c'∧Below w.heap.size w w':=by
 obtain⟨i0,hi,hz0,hz1,hz2⟩:=info_parts Kz
 have HN:=Lib.hid hn
 have HA:=Lib.hid hA
 have HV:=Lib.hid hv
 have hn3:n≤9223372036854775807:=by omega
 clear hn hA hv
 go_enter Tryz.func129, Tryz.ntmps129
 go_wp2
 go_loopw [3,4] (fun v i wr=> ∃k:Nat,k≤n∧i= .int .i64 k∧wr.ownsRow w.heap.size 4 1 v (5*k) (BL (Ap (vs.take k)))∧Below w.heap.size w wr) (fun _ i _=>n - (intOf i).toNat)
 case atStart=>exact⟨0,by omega,rfl,World.ownsRow_lit w #[] 0 (Nat.le_refl _) (by decide) rfl,Aa w _ _⟩
 case round=>
  obtain⟨k,hk,rfl,hown,hbel⟩:=hrel
  by_cases hlt:k<n
  ·obtain⟨x,hx⟩: ∃x,vs[k]?=some x:=⟨_,List.getElem?_eq_getElem (by rw[←HN.out];exact hlt)⟩
   have hx16:x<16:=HV.out x (List.mem_of_getElem? hx)
   obtain⟨ad,rfl,hadl,hc0⟩:=HA.out.at (sM hx)
   have hc:wr.cell? (ad.add k)=some (.int .i64 (x:Int)):=(hbel.cell (by rw[add_block];exact hadl)).trans hc0
   have HX:=Lib.hid hx
   have HOW:=Lib.hid hown
   have HBL:=Lib.hid hbel
   have cf:=Ps x hx16
   obtain⟨ch,hch⟩: ∃ch,charN x=ch:=⟨_,rfl⟩
   rw[hch]at cf
   obtain⟨b,hb⟩: ∃b,Ky (ch:Int)=b:=⟨_,rfl⟩
   rw[hb]at cf
   have HCF:=Lib.hid cf
   have HB:=Lib.hid hb
   have b0:(0:Int)≤(k:Int):=by omega
   have b1:(k:Int)<(n:Int):=by omega
   clear hown hbel hx hadl hc0 cf hb hch
   go_wp2_with (go_at_call 177;refine(lP _ _ _ HCF.out.1 HCF.out.2.1 _).mono ?_;rintro e w2 ⟨rfl,rfl⟩)
   go_wp2_with (go_at_call 178;refine(lO _ b 0 HB.out HCF.out.2.2.1 _).mono ?_;rintro e w3 ⟨rfl,hb3⟩)
   have HO3:=Lib.hid (Aj HOW.out hb3)
   have HB3:=Lib.hid (HBL.out.trans (hb3.mono HBL.out.size))
   obtain⟨w4,hw⟩: ∃w4,w4=w3.alloc (.cells #[.bool b.b0, .bool b.b1, .bool b.b2, .bool b.b3, .bool b.b4] 182):=⟨_,rfl⟩
   have HX4:=Lib.hid (show Bc w4 w3.heap.size b by rw[hw];exact Bc.new w3 b)
   have hb4:Below w3.heap.size w3 w4:=by rw[hw];exact Aa w3 _ _
   replace HOW:=Lib.hid (Aj HO3.out hb4)
   replace HBL:=Lib.hid (HB3.out.trans (hb4.mono HB3.out.size))
   have hsx:w3.heap.size=w3.heap.size:=rfl
   clear hb3 hb4 HO3 HB3 hc
   try rw[←hw]
   clear hw
   obtain⟨X,hXe⟩: ∃X,w3.heap.size=X:=⟨_,rfl⟩
   rw[hXe]at HX4⊢
   clear hXe hsx
   go_loopw [3,9] (fun v j wr=> ∃q:Nat,q≤5∧j= .int .i64 q∧wr.ownsRow w.heap.size 4 1 v (5*k+q) (BL (Ap (vs.take k)++(B5L b).take q))∧Bc wr X b∧Below w.heap.size w wr) (fun _ j _=>5 - (intOf j).toNat)
   case atStart=>exact⟨0,by omega,rfl,by simpa using HOW.out,HX4.out,HBL.out⟩
   case round=>
    obtain⟨q,hq,rfl,hown,hbx,hbel⟩:=hrel
    replace HOW:=Lib.hid hown
    replace HX4:=Lib.hid hbx
    replace HBL:=Lib.hid hbel
    clear hown hbx hbel
    by_cases hq5:q<5
    ·have hc:=HX4.out.get q hq5
     have HT:=Lib.hid (AaY b q hq5)
     obtain⟨t,ht⟩: ∃t,Tc b q=t:=⟨_,rfl⟩
     rw[ht]at hc HT
     have hsz:=HBL.out.size
     have hxs:=HX4.out.lt
     have hm1:5*k+q+1≤maxLen:=by unfold maxLen;omega
     have hm2:(5*k+q+1)*1≤140737488355328:=by omega
     have c0:(0:Int)≤(q:Int):=by omega
     have c1:(q:Int)<5:=by omega
     clear ht
     go_wp2_with (at_builtin;refine wpList_append_own _ rfl (.tmp 34) (.tmp 38) 61 rfl w.heap.size 4 i0 (.bool false) 1 1 Tryz.underlying61 hi hz0 hz1 hz2 rfl (by decide) _ (5*k+q) (BL (Ap (vs.take k)++(B5L b).take q)) rfl (HOW.out.alloc _) ⟨_,0,none⟩ 1 1 [.bool t] rfl rfl (Yv _ _) (Yw _) hm1 hm2 (by simp;omega) ?_)
     intro v8 w8 hown8 hg8 _
     have HO8:=Lib.hid (show w8.ownsRow w.heap.size 4 1 v8 (5*k+(q+1)) (BL (Ap (vs.take k)++(B5L b).take (q+1))) by
      rw[HT.out, ←List.append_assoc,Oh, ←Nat.add_assoc]
      exact hown8)
     have HB8:=Lib.hid ((HBL.out.alloc HBL.out.size _).grown hg8 (by simp;omega) (fun p hp=>Ak HOW.out hp))
     have HX8:=Lib.hid (Bc.grown (HX4.out.next (Aa _ _ _)) (HOW.out.alloc _) hg8)
     clear hown8 hg8 hc HX4 HOW HBL
     go_wp2
     go_roundw
     case rel=>exact⟨q+1,by omega,by go_num,HO8.out,HX8.out,HB8.out⟩
     case measure=>simp[intOf];omega
    ·have e:q=5:=by omega
     have hb2: ¬((q:Int)<5):=by omega
     have HOK:=Lib.hid (show wr.ownsRow w.heap.size 4 1 u3 (5*(k+1)) (BL (Ap (vs.take (k+1)))) by
      rw[Ui HX.out, ←HCF.out.2.2.2, ←show(B5L b).take q=B5L b by rw[e];rfl,show 5*(k+1)=5*k+q by omega]
      exact HOW.out)
     clear HOW
     go_wp2
     go_roundw
     case rel=>exact⟨k+1,by omega,by go_num,HOK.out,HBL.out⟩
     case measure=>simp[intOf];omega
  ·have e:k=n:=by omega
   have hb: ¬((k:Int)<(n:Int)):=by omega
   have ht:Ap (vs.take k)=Ap vs:=by rw[e,HN.out,List.take_length]
   rw[ht,e]at hown
   clear ht hlt
   obtain⟨A',c',hv,_,hbs⟩:=Iu hown
   subst hv
   go_wp2
   go_ret
   exact⟨_,_,rfl,hbs,hbel⟩
end Go.Proofs.YtmdbfogjfbbpjaaGreatDoor
