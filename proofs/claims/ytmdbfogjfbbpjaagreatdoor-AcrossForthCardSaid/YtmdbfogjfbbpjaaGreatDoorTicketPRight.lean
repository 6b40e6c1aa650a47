import Derived.Test.YtmdbfogjfbbpjaaGreatDoorEqualBytes
import Derived.Test.YtmdbfogjfbbpjaaGreatDoorLayPFields
set_option maxHeartbeats 1600000
set_option maxRecDepth 100000
set_option linter.unusedVariables false
namespace Go.Proofs.YtmdbfogjfbbpjaaGreatDoor
open Go.ChangeShapes Go.WideShapes Go.ChangeAt Go.RowKit
theorem Ms {W w1:World} (hb:Below W.heap.size W w1):(∀b o,b<W.heap.size→w1.cell? ⟨b,o,none⟩=W.cell? ⟨b,o,none⟩)∧(∀b o,b<W.heap.size→w1.frozen? ⟨b,o,none⟩=W.frozen? ⟨b,o,none⟩):=
 ⟨fun b o h=>hb.cell (p:=⟨b,o,none⟩) h,fun b o h=>hb.frozen (p:=⟨b,o,none⟩) h⟩
theorem Li (t:Tk):okT t=(hbB t&&(inB t.kind 1 4&&(Dt t&&Fr t))):=by
 rw[Bool.eq_iff_iff,Dm,Dc,Ir]
 simp only[hbB,Bool.and_eq_true,Hd,decide_eq_true_eq]
 constructor
 ·rintro⟨h1,h2,h3,h4⟩;exact⟨by omega,by omega,h3,h4⟩
 ·rintro⟨h1,h2,h3,h4⟩;exact⟨by omega,by omega,h3,h4⟩
theorem rX {a b c o:Bool} {P:Prop} (e:o=(a&&(b&&c))) (h:o=false) (h1:a=false→P) (h2:a=true→b=false→P) (h3:a=true→b=true→c=false→P):P:=by
 cases a
 ·exact h1 rfl
 ·cases b
  ·exact h2 rfl rfl
  ·cases c
   ·exact h3 rfl rfl rfl
   ·rw[h]at e;cases e
theorem Ke:(Tryz.prog.info? 116).map (·.size)=some 5:=by kernel_rfl
theorem Wn (x y:Int) (a b c:Value) (ha:a.oneCell'=true) (hb:b.oneCell'=true) (hc:c.oneCell'=true):(#[Value.int .i64 x,Value.int .i64 y,a,b,c]:Array Value).all (·.oneCell')=true:=by
 rw[Array.all_eq_true_iff_forall_mem]
 intro u hu
 simp at hu
 rcases hu with rfl|rfl|rfl|rfl|rfl
 ·rfl
 ·rfl
 ·exact ha
 ·exact hb
 ·exact hc
theorem Aer {t:Tk} (hk:t.kind=1):okT t=(hbB t&&(inB t.uses 1 1&&Zy t)):=by
 have e1:inB t.kind 1 4=true:=by rw[Hd];omega
 have e2:Dt t=Zy t:=by rw[Dt,if_neg (by omega)];rfl
 have e3:Fr t=inB t.uses 1 1:=by
  rw[Bool.eq_iff_iff,Hd,Fr]
  rw[hk]
  simp
  try omega
 rw[Li,e1,e2,e3,Bool.true_and,Bool.and_comm (Zy t)]
theorem Aes {t:Tk} (hk:t.kind=2):okT t=(hbB t&&(inB t.uses 2 2&&Zy t)):=by
 have e1:inB t.kind 1 4=true:=by rw[Hd];omega
 have e2:Dt t=Zy t:=by rw[Dt,if_neg (by omega)];rfl
 have e3:Fr t=inB t.uses 2 2:=by
  rw[Bool.eq_iff_iff,Hd,Fr]
  rw[hk]
  simp
  try omega
 rw[Li,e1,e2,e3,Bool.true_and,Bool.and_comm (Zy t)]
theorem Aet {t:Tk} (hk:t.kind=3):okT t=(hbB t&&(inB t.uses 0 0&&Zb t)):=by
 have e1:inB t.kind 1 4=true:=by rw[Hd];omega
 have e2:Dt t=Zb t:=by rw[Dt,if_pos hk];rfl
 have e3:Fr t=inB t.uses 0 0:=by
  rw[Bool.eq_iff_iff,Hd,Fr]
  rw[hk]
  simp
  try omega
 rw[Li,e1,e2,e3,Bool.true_and,Bool.and_comm (Zb t)]
theorem Aeu {t:Tk} (hk:t.kind=4):okT t=(hbB t&&(inB t.uses 2 20&&Zy t)):=by
 have e1:inB t.kind 1 4=true:=by rw[Hd];omega
 have e2:Dt t=Zy t:=by rw[Dt,if_neg (by omega)];rfl
 have e3:Fr t=inB t.uses 2 20:=by
  rw[Bool.eq_iff_iff,Hd,Fr]
  rw[hk]
  simp
  try omega
 rw[Li,e1,e2,e3,Bool.true_and,Bool.and_comm (Zy t)]
theorem Aaz (n s:Int) (w:World) (h:n<0∨s<0∨18<s):Calls Tryz.prog 169 #[.int .i64 n, .int .i64 s] w fun e w'=>e= .returned (.tuple #[.slice none 0 0, .int .i64 1])∧w=w':=by
 by_cases h1:n<0
 ·clear h
  go_enter Tryz.func169, Tryz.ntmps169
  go_wp2
  go_ret2
  exact⟨rfl,rfl⟩
 ·have h2:0≤n:=by omega
  have hd:=decide_eq_false (show¬(0≤s∧s≤18) by omega)
  clear h
  go_enter Tryz.func169, Tryz.ntmps169
  go_wp2_with (go_at_call 215;refine(Hr s false hd _).mono ?_;rintro e w1 ⟨rfl,rfl⟩)
  go_ret2
  exact⟨rfl,rfl⟩
theorem Aa0 (N s:Nat) (E:Int) (p:List Nat) (hE:Ch N s=E) (hp:bputL N s=p) (w:World) (hN:N<9223372036854775808) (hs:s≤18):
  Calls Tryz.prog 169 #[.int .i64 N, .int .i64 s] w fun e w'=> ∃A c,e= .returned (.tuple #[.slice A (p.length:Nat) c, .int .i64 E])∧Bs w' w'.heap.size p A c∧Below w.heap.size w w':=by
 obtain⟨i0,hi,hz0,hz1,hz2⟩:=info_parts Be
 have HE:=Lib.hid hE
 have HP:=Lib.hid hp
 have hd:=decide_eq_true (show(0:Int)≤(s:Int)∧(s:Int)≤18 by omega)
 have g1:(0:Int)≤(s:Int):=by omega
 clear hE hp
 go_enter Tryz.func169, Tryz.ntmps169
 go_wp2_with (first|(go_at_call 215;refine(Hr (s:Int) true hd _).mono ?_;rintro e w1 ⟨rfl,rfl⟩)|(at_make;refine wpList_make_full _ rfl _ _ 23 rfl w.heap.size 5 i0 (.int .u8 0) 1 Tryz.underlying23 hi hz0 hz1 _ _ _ _ s rfl rfl (by omega) (by omega) ?b2 ?b3 (Nat.le_refl _) ?_))
 case b2=>rw[hz2];omega
 case b3=>unfold maxLen;omega
 intro w1 hown hg
 have hown1:w1.ownsRow w.heap.size 5 1 (.slice (some ⟨w.heap.size,0,none⟩) s s) s (U8 (Rv N s 0)):=by
  rw[toList_madeCells_one]at hown
  rw[xQ,U8,List.map_replicate]
  exact hown
 have hbel:Below w.heap.size w w1:=(Below.refl _ _).grown hg (Nat.le_refl _) (by simp)
 have s1:IntKind.i64.wrap ((s:Int) - 1)=(s:Int) - 1:=IntWalk.i64_in _ (by omega)
 clear hown hg
 go_wp2
 go_loopw [0,7] (fun m i wr=> ∃k:Nat,k≤s∧i= .int .i64 ((s:Int) - 1 - (k:Int))∧m= .int .i64 (N / 10^k:Nat)∧wr.ownsRow w.heap.size 5 1 (.slice (some ⟨w.heap.size,0,none⟩) s s) s (U8 (Rv N s k))∧Below w.heap.size w wr) (fun _ i _=>(intOf i+1).toNat)
 case atStart=>exact⟨0,Nat.zero_le _,by simp,by simp,hown1,hbel⟩
 case round=>
  clear hown1 hbel
  obtain⟨k,hk,rfl,rfl,hown,hbel⟩:=hrel
  have hy:N / 10^k<9223372036854775808:=Nat.lt_of_le_of_lt (Nat.div_le_self _ _) hN
  by_cases hlt:k<s
  ·have hc2: ∃v,wr.cell? ⟨w.heap.size,s - 1 - k,none⟩=some v:=by
    rw[hown.cellAt (s - 1 - k) (by omega),U8,List.getElem?_map]
    rw[List.getElem?_eq_getElem (by rw[AbL _ _ _ hk];omega)]
    exact⟨_,rfl⟩
   obtain⟨v2,hc2⟩:=hc2
   have hf:=hown.frozenAt (s - 1 - k)
   have hst:=(hown.stored (s - 1 - k) (.int .u8 ((N / 10^k % 10:Nat):Int))).1
   have hset:(U8 (Rv N s k)).set (s - 1 - k) (.int .u8 ((N / 10^k % 10:Nat):Int))=U8 (Rv N s (k+1)):=by
    rw[←AbN N s k hlt,U8,U8,List.map_set]
   rw[hset]at hst
   have hnx:N / 10^(k+1)=N / 10^k / 10:=by rw[Nat.pow_succ,Nat.div_div_eq_div_mul]
   have HNX:=Lib.hid hnx
   clear hset hnx
   generalize N / 10^k=y at*
   have HST:=Lib.hid hst
   have HOW:=Lib.hid hown
   have HC2:=hc2
   clear hst hown
   obtain⟨j,hj⟩: ∃j:Nat,j=s - 1 - k:=⟨_,rfl⟩
   have hj2:(s:Int) - 1 - (k:Int)=(j:Int):=by omega
   have hjs:(j:Int)<(s:Int):=by omega
   have hj3:IntKind.i64.wrap ((j:Int) - 1)=(j:Int) - 1:=IntWalk.i64_in _ (by omega)
   rw[←hj]at HC2 hf HST hc2
   rw[hj2]
   have HJ:=Lib.hid hj
   have HJ2:=Lib.hid hj2
   clear hj hj2 HC2
   go_wp2
   go_roundw
   case rel=>
    refine⟨k+1,by omega, ?_, ?_, ?_,hbel.setCell (Nat.le_refl _) _⟩
    ·have:=HJ2.out;exact congrArg (Value.int .i64) (by omega)
    ·rw[HNX.out];go_num
    ·exact HST.out
   case measure=>simp only[intOf];omega
  ·have e1:k=s:=by omega
   subst e1
   rw[AbM]at hown
   have hneg:(k:Int) - 1 - (k:Int)= -1:=by omega
   rw[hneg]
   have HO:=Lib.hid hown
   clear hown
   by_cases hov:10^k≤N
   ·have hpos:0<N / 10^k:=Nat.div_pos hov (bW k)
    obtain⟨e1,e2⟩:=bX hs hov
    obtain rfl:E=23:=by rw[←HE.out,e1]
    obtain rfl:p=[]:=by rw[←HP.out,e2]
    clear HE HP e1 e2 hov
    generalize N / 10^k=y at*
    go_wp2
    go_ret2
    exact⟨none,0,rfl,⟨by intro j u hu;simp[U8]at hu,fun _=>rfl,by simp,by omega,by simp⟩,hbel⟩
   ·have hz:N / 10^k=0:=Nat.div_eq_of_lt (by omega)
    obtain⟨e1,e2⟩:=fY hs (show N<10^k by omega)
    obtain rfl:E=0:=by rw[←HE.out,e1]
    have hpl:p=dg N k:=by rw[←HP.out,e2]
    have hl:p.length=k:=by rw[hpl,Lz]
    have HPL:=Lib.hid hpl
    have HL:=Lib.hid hl
    rw[hz]
    clear HE HP e1 e2 hov hpl hl hz
    go_wp2
    go_ret2
    refine⟨some ⟨w.heap.size,0,none⟩,k,by rw[HL.out];rfl, ?_,hbel⟩
    rw[HPL.out]
    exact⟨Rd.of_own HO.out,by simp,by rw[Lz];omega,by omega,fun x hx=>by have:=bV N k x hx;omega⟩
theorem aP (n s:Int) (E:Int) (p:List Nat) (hE:Ch n s=E) (hp:bputL n s=p) (w:World) (hn:n≤9223372036854775807):
  Calls Tryz.prog 169 #[.int .i64 n, .int .i64 s] w fun e w'=> ∃A c,e= .returned (.tuple #[.slice A (p.length:Nat) c, .int .i64 E])∧Bs w' w'.heap.size p A c∧Below w.heap.size w w':=by
 by_cases h:n<0∨s<0∨18<s
 ·obtain⟨e1,e2⟩:=Ya h
  obtain rfl:E=1:=by rw[←hE,e1]
  obtain rfl:p=[]:=by rw[←hp,e2]
  refine(Aaz n s w h).mono ?_
  rintro e w1 ⟨rfl,rfl⟩
  exact⟨none,0,rfl,⟨by intro j u hu;simp[U8]at hu,fun _=>rfl,by simp,by omega,by simp⟩,Below.refl _ _⟩
 ·obtain⟨N,rfl⟩: ∃N:Nat,n=N:=⟨n.toNat,by omega⟩
  obtain⟨S,rfl⟩: ∃S:Nat,s=S:=⟨s.toNat,by omega⟩
  exact Aa0 N S E p hE hp w (by omega) (by omega)
theorem uX (vs ws:List Int) (n m:Nat) (hn:n=vs.length) (hm:m=ws.length) (E:Int) (p:List Nat) (hE:joinX vs ws=(E,p)) (A A':Option Addr) (c c':Nat) (w:World) (hA:Zs w w.heap.size vs A c) (hA':Zs w w.heap.size ws A' c') (hv: ∀v∈vs,Cl v):
  Calls Tryz.prog 120 #[.slice A n c, .slice A' m c'] w fun e w'=> ∃A2 c2,e= .returned (.tuple #[.slice A2 (p.length:Nat) c2, .int .i64 E])∧Bs w' w'.heap.size p A2 c2∧Below w.heap.size w w':=by
 obtain⟨i0,hi,hz0,hz1,hz2⟩:=info_parts Be
 have h63:n≤9223372036854775807:=by have:=hA.len;have:=hA.cap;omega
 have h63':m≤9223372036854775807:=by have:=hA'.len;have:=hA'.cap;omega
 have HN:=Lib.hid hn
 have HM:=Lib.hid hm
 have HA:=Lib.hid hA
 have HA':=Lib.hid hA'
 have HE:=Lib.hid hE
 have HV:=Lib.hid hv
 clear hn hm hA hA' hE hv
 by_cases h1:n≠m∨20<n
 ·have h2:joinX vs ws=(1,[]):=by rw[joinX,if_pos (by rw[←HN.out, ←HM.out];exact h1)]
  obtain⟨rfl,rfl⟩:E=1∧p=[]:=by have:=HE.out;rw[h2]at this;exact⟨(Prod.mk.inj this).1.symm,(Prod.mk.inj this).2.symm⟩
  clear HE h2
  by_cases h3:n≠m
  ·have b1:((n:Int) !=(m:Int))=true:=by simp;omega
   have b2:(n !=m)=true:=by simpa using h3
   clear h1
   go_enter Tryz.func120, Tryz.ntmps120
   go_wp2
   go_ret2
   exact⟨none,0,rfl,Gv _,Below.refl _ _⟩
  ·obtain rfl:n=m:=by omega
   have h4:20<n:=by omega
   clear h1 h3
   go_enter Tryz.func120, Tryz.ntmps120
   go_wp2
   go_ret2
   exact⟨none,0,rfl,Gv _,Below.refl _ _⟩
 obtain rfl:n=m:=by omega
 have h20:n≤20:=by omega
 have HR:=Lib.hid (show joinR vs ws []=(E,p) by rw[←HE.out,joinX,if_neg (by rw[←HN.out, ←HM.out];exact h1)])
 clear h1 HE
 go_enter Tryz.func120, Tryz.ntmps120
 go_wp2
 go_loopw [6,24] (fun v i wr=> ∃(k:Nat) (out:List Nat),k≤n∧i= .int .i64 k∧wr.ownsRow w.heap.size 5 1 v out.length (U8 out)∧(∀x∈out,x≤9)∧out.length≤18*k∧joinR (vs.drop k) (ws.drop k) out=(E,p)∧Below w.heap.size w wr) (fun _ i _=>n - (intOf i).toNat)
 case atStart=>exact⟨0,[],Nat.zero_le _,rfl,World.ownsRow_lit w #[] 0 (Nat.le_refl _) (by decide) rfl,by simp,by simp,HR.out,(Below.refl _ _).alloc (Nat.le_refl _) _⟩
 case round=>
  obtain⟨k,out,hk,rfl,hown,h9,hlen,hjr,hbel⟩:=hrel
  have HO:=Lib.hid hown
  have H9:=Lib.hid h9
  have HBL:=Lib.hid hbel
  have HJR:=Lib.hid hjr
  clear hown h9 hjr hbel
  by_cases hlt:k<n
  ·have hkv:k<vs.length:=by rw[←HN.out];exact hlt
   have hkw:k<ws.length:=by rw[←HM.out];exact hlt
   obtain⟨x,hx⟩: ∃x,vs[k]?=some x:=⟨_,List.getElem?_eq_getElem hkv⟩
   obtain⟨y,hy⟩: ∃y,ws[k]?=some y:=⟨_,List.getElem?_eq_getElem hkw⟩
   have hdv:vs.drop k=x::vs.drop (k+1):=by rw[Hv hkv];congr 1;rw[List.getElem?_eq_getElem hkv]at hx;exact Option.some.inj hx
   have hdw:ws.drop k=y::ws.drop (k+1):=by rw[Hv hkw];congr 1;rw[List.getElem?_eq_getElem hkw]at hy;exact Option.some.inj hy
   have hx64:Cl x:=HV.out x (List.mem_of_getElem? hx)
   obtain⟨ad,rfl,hb,hc⟩:=(HA.out.next HBL.out).at hx
   obtain⟨ad',rfl,hb',hc'⟩:=(HA'.out.next HBL.out).at hy
   have HX:=Lib.hid hx64
   have hj:=HJR.out
   rw[hdv,hdw,joinR,List.headD_cons,List.tail_cons]at hj
   have b1:(0:Int)≤(k:Int):=by omega
   have b2:(k:Int)<(n:Int):=by omega
   clear hkv hkw hx hy hdv hdw HJR
   by_cases h0:Ch x y=0
   ·rw[if_pos h0]at hj
    have HJ:=Lib.hid hj
    clear hj
    obtain⟨q,hq⟩: ∃q,q=bputL x y:=⟨_,rfl⟩
    have hq18:q.length≤18:=by rw[hq];exact qH x y
    have hq9: ∀z∈q,z≤9:=by rw[hq];exact qG x y
    have HQ9:=Lib.hid hq9
    have HP0:=Lib.hid h0
    have HQ:=Lib.hid hq
    rw[←hq]at HJ
    clear hq9 h0 hq
    go_wp2_with (first|(go_at_call 169;refine(aP x y 0 q HP0.out HQ.out.symm _ HX.out.2).mono ?_;rintro e w1 ⟨A1,c1,rfl,hb1,hbd⟩;have HB1:=Lib.hid hb1;have HBD:=Lib.hid (hbd.mono (Nat.le_refl _));have HBL1:=Lib.hid (HBL.out.trans (hbd.mono HBL.out.size));clear hb1 hbd)|(at_builtin;refine Af _ rfl _ _ 23 rfl w.heap.size 5 i0 (.int .u8 0) 1 Tryz.underlying23 hi hz0 hz1 hz2 rfl _ out.length (U8 out) rfl (Aj HO.out HBD.out) _ _ q.length c1 (U8 q) rfl HB1.out.rd (by simp[U8]) HB1.out.nil (Bd _) ?c3 ?c4 ?c5 ?_))
    case c3=>unfold maxLen;omega
    case c4=>omega
    case c5=>have:=HBL1.out.size;omega
    intro v' w2 hown' hgrow
    have hown1:w2.ownsRow w.heap.size 5 1 v' (out++q).length (U8 (out++q)):=by
     rw[List.length_append,U8,List.map_append];exact hown'
    have hbel2:Below w.heap.size w w2:=HBL1.out.grown hgrow HBL1.out.size (fun j hj=>Ak (Aj HO.out HBD.out) hj)
    have HO2:=Lib.hid hown1
    clear hown' hgrow hown1
    go_wp2
    go_roundw
    case rel=>exact⟨k+1,out++q,by omega,by go_num,HO2.out,fun z hz=>(List.mem_append.1 hz).elim (H9.out z) (HQ9.out z),by rw[List.length_append];omega,HJ.out,hbel2⟩
    case measure=>simp[intOf];omega
   ·rw[if_neg h0]at hj
    have hEE:Ch x y=E:=(Prod.mk.inj hj).1
    obtain rfl:p=[]:=(Prod.mk.inj hj).2.symm
    obtain⟨q,hq⟩: ∃q,q=bputL x y:=⟨_,rfl⟩
    have hne:(E !=0)=true:=by rw[←hEE];simpa using h0
    have HEE:=Lib.hid hEE
    have HQ:=Lib.hid hq
    clear h0 hj hEE hq
    go_wp2_with (go_at_call 169;refine(aP x y E q HEE.out HQ.out.symm _ HX.out.2).mono ?_;rintro e w1 ⟨A1,c1,rfl,hb1,hbd⟩;have HBL1:=Lib.hid (HBL.out.trans (hbd.mono HBL.out.size));clear hb1 hbd)
    go_ret2
    exact⟨none,0,rfl,Gv _,HBL1.out⟩
  ·have e1:k=n:=by omega
   subst e1
   have hj:=HJR.out
   rw[List.drop_of_length_le (by rw[←HN.out];omega),joinR]at hj
   obtain⟨rfl,rfl⟩:E=0∧p=out:=⟨(Prod.mk.inj hj).1.symm,(Prod.mk.inj hj).2.symm⟩
   obtain⟨A2,c2,rfl,hbs⟩:=Av HO.out (fun x hx=>by have:=H9.out x hx;omega)
   have HBS:=Lib.hid hbs
   clear HJR hj hbs
   go_wp2
   go_ret2
   exact⟨A2,c2,rfl,HBS.out,HBL.out⟩
end Go.Proofs.YtmdbfogjfbbpjaaGreatDoor
