import Derived.Test.YtmdbfogjfbbpjaaGreatDoorMem
import Derived.Laws.EntriesVeiled
import Derived.Test.YtmdbfogjfbbpjaaGreatDoorLineMath
import Derived.OwnWalk
import Derived.ArgAppend
import Derived.Test.YtmdbfogjfbbpjaaGreatDoorTrackBackMath
import Derived.OrdersHeld
set_option maxHeartbeats 1600000
set_option maxRecDepth 100000
set_option linter.unusedVariables false
namespace Go.Proofs.YtmdbfogjfbbpjaaGreatDoor
open Go.ChangeShapes Go.WideShapes Go.ChangeAt Go.RowKit
theorem wV {α:Type} (l:List (List α)) (j:Nat) (x:List α) (h:l[j]?=some x):(l.take (j+1)).flatten=(l.take j).flatten++x:=by
 rw[List.take_add_one,h];simp
theorem wW (k:Int):(Cj k).length≤4:=by
 unfold Cj
 split
 ·decide
 ·split
  ·decide
  ·split<;>decide
theorem wX (k:Int) (j:Nat):((Cj k).take j).flatten.length≤13:=by
 have h1:((Cj k).take j).flatten.length≤(Cj k).flatten.length:=by
  conv=>rhs;rw[←List.take_append_drop j (Cj k),List.flatten_append,List.length_append]
  omega
 have h2:=Ge k
 have h3:=Vd k
 rw[fieldsL]at h2
 omega
theorem Um (k:Int) (n:Nat) (hn:n=(fieldsL k).length) (X:Nat) (w:World):Calls Tryz.prog 119 #[.pointer (some ⟨X,0,none⟩), .int .i64 k] w fun e w'=> ∃A c,e= .returned (.slice A n c)∧Fs w' w'.heap.size X (fieldsL k) A c∧Below w.heap.size w w'∧ ∀ad,A=some ad→w.heap.size≤ad.block:=by
 obtain⟨i0,hi,hz0,hz1,hz2⟩:=info_parts AeW
 obtain⟨m,hm⟩: ∃m,m=(Cj k).length:=⟨_,rfl⟩
 have hm4:m≤4:=by rw[hm];exact wW k
 have HM:=Lib.hid hm
 have HN:=Lib.hid hn
 clear hm hn
 go_enter Tryz.func119, Tryz.ntmps119
 go_wp2_with fail
 refine(eS k m HM.out w).mono ?_
 rintro e w1 ⟨A,c,rfl,hrd,hb1⟩
 have HR:=Lib.hid hrd
 have HB1:=Lib.hid hb1
 clear hrd hb1
 go_wp2
 go_loopw [5,7,11] (fun v _ i wr=> ∃j:Nat,j≤m∧i= .int .i64 j∧wr.ownsRow w1.heap.size 143 2 v ((Cj k).take j).flatten.length (FL X ((Cj k).take j).flatten)∧Below w1.heap.size w1 wr) (fun _ _ i _=>m - (intOf i).toNat)
 case atStart=>exact⟨0,Nat.zero_le _,rfl,⟨rfl, .inl ⟨rfl,rfl⟩⟩,Below.refl _ _⟩
 case round=>
  obtain⟨j,hj,rfl,hown,hbel⟩:=hrel
  have HO:=Lib.hid hown
  have HBL:=Lib.hid hbel
  clear hown hbel
  by_cases hlt:j<m
  ·have hjl:j<(Cj k).length:=by rw[←HM.out];exact hlt
   have hjv:j<(Bi k).length:=by rw[Wz];exact hjl
   obtain⟨x,hx⟩: ∃x,(Cj k)[j]?=some x:=⟨_,List.getElem?_eq_getElem hjl⟩
   obtain⟨y,hy⟩: ∃y,(Bi k)[j]?=some y:=⟨_,List.getElem?_eq_getElem hjv⟩
   obtain⟨K,rfl,h7,hent,hcon⟩:=AaG k j y x hy hx
   obtain⟨ad,rfl,hb,hc⟩:=(HR.out.next HBL.out) j _ hy
   have hle:=wX k j
   have HX:=Lib.hid hx
   have HC:=Lib.hid hcon
   obtain⟨q,hq⟩: ∃q,q=x.length:=⟨_,rfl⟩
   rw[←hq]at h7
   have HQ:=Lib.hid hq
   obtain⟨p,hp⟩: ∃p,p=((Cj k).take j).flatten.length:=⟨_,rfl⟩
   rw[←hp]at hle
   have HP:=Lib.hid hp
   have HO1:Hid (_):=Lib.hid (hp▸HO.out)
   have b1:(0:Int)≤(j:Int):=by omega
   have b2:(j:Int)<(m:Int):=by omega
   clear hjl hjv hx hy hcon hq hp
   go_wp2_with (first|(refine(HC.out X _).mono ?_;rintro e w2 ⟨A2,rfl,hrd2,hb2⟩;have HR2:=Lib.hid hrd2;have HBD:=Lib.hid hb2;have HBL1:=Lib.hid (HBL.out.trans (hb2.mono HBL.out.size));clear hrd2 hb2;try rw[←HQ.out])|(at_builtin;refine wpList_append_own _ rfl _ _ 139 rfl w1.heap.size 143 i0 (.agg #[.pointer none, .int .i64 0]) 2 16 Tryz.underlying139 hi hz0 hz1 hz2 rfl (by decide) _ p _ rfl (Aj HO1.out HBD.out) A2 q q (FL X x) rfl (by rw[eN,HQ.out]) (fun a u hu=>by obtain⟨ad,e,_,hc⟩:=HR2.out a u hu;cases e;exact hc) (AeX X x) (by unfold maxLen;omega) (by omega) HBL1.out.size ?_;intro v' w3 hown' hgrow _))
   have hbel2:Below w1.heap.size w1 w3:=HBL1.out.grown hgrow HBL1.out.size (fun j hj=>Ak (Aj HO1.out HBD.out) hj)
   have HO2:Hid (w3.ownsRow w1.heap.size 143 2 v' ((Cj k).take (j+1)).flatten.length (FL X ((Cj k).take (j+1)).flatten)):=Lib.hid (by
    rw[wV _ j x HX.out,vP,List.length_append, ←HP.out, ←HQ.out];exact hown')
   clear hown' hgrow
   go_wp2
   go_roundw
   case rel=>exact⟨j+1,by omega,by go_num,HO2.out,hbel2⟩
   case measure=>simp[intOf];omega
  ·have e1:j=m:=by omega
   subst e1
   obtain⟨A2,c2,rfl,hl,hfs,hfar⟩:=vR HO.out
   have HFA:=Lib.hid hfar
   have e2:((Cj k).take j).flatten=fieldsL k:=by rw[List.take_of_length_le (by rw[←HM.out];omega),fieldsL]
   rw[e2]at hfs
   have e3:((Cj k).take j).flatten.length=n:=by rw[e2,HN.out]
   rw[e3]
   have HFS:=Lib.hid hfs
   have HB2:=Lib.hid (HB1.out.trans (HBL.out.mono HB1.out.size))
   clear hl hfs hfar e2 e3
   go_wp2
   go_ret
   exact⟨A2,c2,rfl,HFS.out,HB2.out,fun ad e=>Nat.le_trans HB1.out.size (HFA.out ad e)⟩
theorem My (k:Int) (n:Nat) (hn:n=(fieldsL k).length) (X:Nat) (w:World):Calls Tryz.prog 119 #[.pointer (some ⟨X,0,none⟩), .int .i64 k] w fun e w'=> ∃A c,e= .returned (.slice A n c)∧Fs w' w'.heap.size X (fieldsL k) A c∧Below w.heap.size w w':=
 (Um k n hn X w).mono fun e w' ⟨A,c,h1,h2,h3,_⟩=>⟨A,c,h1,h2,h3⟩
structure Bs (w:World) (B:Nat) (s:List Nat) (A:Option Addr) (c:Nat):Prop where
 rd:Rd w B A (U8 s)
 nil:A=none→c=0
 len:s.length≤c
 cap:c≤9223372036854775807
 lt: ∀x∈s,x<256
theorem Bs.next {w w':World} {s:List Nat} {A:Option Addr} {c:Nat} (h:Bs w w.heap.size s A c) (hb:Below w.heap.size w w'):Bs w' w'.heap.size s A c:=⟨h.rd.next hb,h.nil,h.len,h.cap,h.lt⟩
theorem Bs.below {w w':World} {B:Nat} {s:List Nat} {A:Option Addr} {c:Nat} (h:Bs w B s A c) (hb:Below B w w'):Bs w' B s A c:=⟨h.rd.below hb,h.nil,h.len,h.cap,h.lt⟩
theorem Bs.more {w:World} {B B':Nat} {s:List Nat} {A:Option Addr} {c:Nat} (h:Bs w B s A c) (hB:B≤B'):Bs w B' s A c:=⟨h.rd.more hB,h.nil,h.len,h.cap,h.lt⟩
theorem Av {w:World} {base n:Nat} {v:Value} {s:List Nat} (h:w.ownsRow base 5 1 v n (U8 s)) (hs: ∀x∈s,x<256): ∃A c,v= .slice A n c∧Bs w w.heap.size s A c:=by
 have hn:s.length=n:=by have:=h.1;simpa[U8]using this
 rcases h.2 with⟨rfl,h0⟩|⟨g,cap,cur,rfl,_,_,h2,h3,_⟩
 ·subst h0
  have:s=[]:=List.eq_nil_of_length_eq_zero hn
  subst this
  exact⟨none,0,rfl,⟨by intro k u hu;simp[U8]at hu,fun _=>rfl,by simp,by omega,by simp⟩⟩
 ·unfold maxLen at h3
  exact⟨_,cap,rfl,⟨Rd.of_own h,by simp,by omega,h3,hs⟩⟩
theorem AdM {w:World} {base n c:Nat} {A:Option Addr} {s:List Nat} (h:w.ownsRow base 5 1 (.slice A n c) n (U8 s)) (hs: ∀x∈s,x<256):Bs w w.heap.size s A c:=by
 obtain⟨A',c',e,hz⟩:=Av h hs
 cases e
 exact hz
theorem Gv (w:World):Bs w w.heap.size [] none 0:=⟨by intro j u hu;simp[U8]at hu,fun _=>rfl,by simp,by omega,by simp⟩
theorem AdN {w:World} {base n c:Nat} {A:Option Addr} {l:List Int} (h:w.ownsRow base 3 1 (.slice A n c) n (I64 l)):Zs w w.heap.size l A c:=by
 obtain⟨A',c',e,_,hz⟩:=Bo h
 cases e
 exact hz
theorem Jg (w:World):Zs w w.heap.size [] none 0:=⟨by intro j u hu;simp[I64]at hu,fun _=>rfl,by simp,by omega⟩
theorem lE (w:World) (x:Int): ∀j u,(I64 [x])[j]?=some u→(w.alloc (.cells #[.int .i64 x] 3)).cell? ((⟨w.heap.size,0,none⟩:Addr).add j)=some u:=by
 intro j u hu
 obtain⟨ad,e,_,hc⟩:=Cm w #[.int .i64 x] 3 j u hu
 cases e
 exact hc
theorem Xo (w:World) (o:Obj) (x:Int): ∀j u,([.int .i64 x]:List Value)[j]?=some u→((w.alloc o).alloc (.cells #[.int .i64 x] 3)).cell? ((⟨w.heap.size+1,0,none⟩:Addr).add j)=some u:=by
 have h:=lE (w.alloc o) x
 rw[show(w.alloc o).heap.size=w.heap.size+1 by simp]at h
 exact h
theorem Vj (x:Int): ∀u∈([.int .i64 x]:List Value),u.oneCell'=true:=by
 intro u hu
 simp only[List.mem_singleton]at hu
 subst hu;rfl
theorem Lv {α:Type} {l:List α} {k:Nat} {x:α} (h:l[k]?=some x):l.take (k+1)=l.take k++ [x]:=by rw[List.take_add_one,h];rfl
theorem pU (k:Int) (hk: ¬(1≤k∧k≤4)) (w:World):Calls Tryz.prog 135 #[.int .i64 k] w fun e w'=>e= .returned (.tuple #[.slice none 0 0, .int .i64 8])∧Below w.heap.size w w':=by
 have hn:0=(fieldsL k).length:=by rw[Ge,Au,if_neg hk];rfl
 have HN:=Lib.hid hn
 clear hn
 go_enter Tryz.func135, Tryz.ntmps135
 go_wp2_with (go_at_call 119;refine(My k 0 HN.out _ _).mono ?_;rintro e w1 ⟨A,c,rfl, -,hb⟩;have HB:=Lib.hid hb;clear hb)
 go_ret2
 exact⟨rfl,(Aa w _ _).trans (HB.out.mono (by simp))⟩
theorem lF (k:Int) (hk:1≤k∧k≤4) (n:Nat) (hn:n=(Au k).length) (w:World):Calls Tryz.prog 135 #[.int .i64 k] w fun e w'=> ∃A c,e= .returned (.tuple #[.slice A n c, .int .i64 0])∧Zs w' w'.heap.size (Au k) A c∧Below w.heap.size w w':=by
 obtain⟨i0,hi,hz0,hz1,hz2⟩:=info_parts Gp
 have h13:n≤13:=by rw[hn];exact Vd k
 have h12:12≤n:=by rw[hn,If hk];split<;>omega
 have hnf:n=(fieldsL k).length:=by rw[Ge,hn]
 have HN:=Lib.hid hn
 have HF:=Lib.hid hnf
 have hz:((n:Int)==0)=false:=by rw[beq_eq_false_iff_ne];omega
 have hz':(n==0)=false:=by rw[beq_eq_false_iff_ne];omega
 clear hn hnf hk
 go_enter Tryz.func135, Tryz.ntmps135
 go_wp2_with (first|(go_at_call 119;refine(My k n HF.out _ _).mono ?_;rintro e w1 ⟨A,c,rfl,hfs,hb⟩;have HB:=Lib.hid hb;have HFS:=Lib.hid hfs;clear hb hfs)|(at_make;refine wpList_make_own _ rfl _ _ 105 rfl w1.heap.size 3 i0 (.int .i64 0) 1 Tryz.underlying105 hi hz0 hz1 _ _ _ n rfl rfl rfl ?b2 ?b3 ?b4 ?_))
 case b2=>rw[hz2];omega
 case b3=>unfold maxLen;omega
 case b4=>exact Nat.le_refl _
 intro w2 hown hgr
 have HO0:=Lib.hid hown
 have HB2:=Lib.hid (show Below w1.heap.size w1 w2 from(Below.refl _ _).grown hgr (Nat.le_refl _) (fun j hj=>by cases hj))
 clear hown hgr
 go_wp2
 go_loopw [6,8,19] (fun v _ i wr=> ∃j:Nat,j≤n∧i= .int .i64 j∧wr.ownsRow w1.heap.size 3 1 v j (I64 ((Au k).take j))∧Below w1.heap.size w1 wr) (fun _ _ i _=>n - (intOf i).toNat)
 case atStart=>exact⟨0,Nat.zero_le _,rfl,HO0.out,HB2.out⟩
 case round=>
  obtain⟨j,hj,rfl,hown,hbel⟩:=hrel
  have HO:=Lib.hid hown
  have HBL:=Lib.hid hbel
  clear hown hbel
  by_cases hlt:j<n
  ·have hjl:j<(fieldsL k).length:=by rw[←HF.out];exact hlt
   obtain⟨⟨o,wd⟩,hx⟩: ∃x,(fieldsL k)[j]?=some x:=⟨_,List.getElem?_eq_getElem hjl⟩
   obtain⟨g,rfl,hb,hc,hc'⟩:=(HFS.out.next HBL.out).at hx
   have hw:(Au k)[j]?=some wd:=by rw[←Mw,List.getElem?_map,hx];rfl
   have HW:=Lib.hid hw
   have b1:(0:Int)≤(j:Int):=by omega
   have b2:(j:Int)<(n:Int):=by omega
   clear hjl hx hw
   go_wp2_with (at_builtin;refine wpList_append_own _ rfl _ _ 105 rfl w1.heap.size 3 i0 (.int .i64 0) 1 8 Tryz.underlying105 hi hz0 hz1 hz2 rfl (by decide) _ j _ rfl ((HO.out.alloc _).alloc _) ⟨wr.heap.size+1,0,none⟩ 1 1 [.int .i64 wd] rfl rfl (Xo _ _ _) (Vj _) (by unfold maxLen;omega) (by omega) (by have:=HBL.out.size;simp;omega) ?_;intro v' w3 hown' hgrow _)
   have hbel2:Below w1.heap.size w1 w3:=(((HBL.out.alloc HBL.out.size _).alloc (by have:=HBL.out.size;simp;omega) _)).grown hgrow (by have:=HBL.out.size;simp;omega) (fun j hj=>Ak HO.out hj)
   have HO2:Hid (w3.ownsRow w1.heap.size 3 1 v' (j+1) (I64 ((Au k).take (j+1)))):=Lib.hid (by rw[Lv HW.out,Ba];exact hown')
   clear hown' hgrow
   go_wp2
   go_roundw
   case rel=>exact⟨j+1,by omega,by go_num,HO2.out,hbel2⟩
   case measure=>simp[intOf];omega
  ·have e1:j=n:=by omega
   subst e1
   have e2:(Au k).take j=Au k:=List.take_of_length_le (by rw[←HN.out];omega)
   have ho:=HO.out
   rw[e2]at ho
   obtain⟨A2,c2,rfl,_,hzs⟩:=Bo ho
   have HZ:=Lib.hid hzs
   have HB3:=Lib.hid (((Aa w _ _).trans (HB.out.mono (by simp))).trans (HBL.out.mono (by have:=HB.out.size;simp at this;omega)))
   clear e2 ho hzs
   go_wp2
   go_ret2
   exact⟨A2,c2,rfl,HZ.out,HB3.out⟩
theorem lG (k E:Int) (l:List Int) (n:Nat) (hn:n=l.length) (hE:Gy k=E) (hl:Au k=l) (w:World):Calls Tryz.prog 135 #[.int .i64 k] w fun e w'=> ∃A c,e= .returned (.tuple #[.slice A n c, .int .i64 E])∧Zs w' w'.heap.size l A c∧Below w.heap.size w w':=by
 by_cases hk:1≤k∧k≤4
 ·obtain rfl:E=0:=by rw[←hE,Gy,if_pos hk]
  subst hl
  exact lF k hk n hn w
 ·obtain rfl:E=8:=by rw[←hE,Gy,if_neg hk]
  obtain rfl:l=[]:=by rw[←hl,Au,if_neg hk]
  subst hn
  refine(pU k hk w).mono ?_
  rintro e w' ⟨rfl,hb⟩
  exact⟨none,0,rfl,Jg _,hb⟩
theorem Xp {w:World} {base base':Nat} {e:TypeId} {size:Nat} {v:Value} {n:Nat} {xs:List Value} (h:w.ownsRow base e size v n xs) (hb:base'≤base):w.ownsRow base' e size v n xs:=by
 refine⟨h.1, ?_⟩
 rcases h.2 with hn|⟨g,cap,cur,rfl,h1,rest⟩
 ·exact .inl hn
 ·exact .inr ⟨g,cap,cur,rfl,Nat.le_trans hb h1,rest⟩
section
variable {P:Program} (w:World)
theorem Us (base:Nat) (t ty e:TypeId) (i:TypeInfo) (z:Value) (bytes:Nat) (ht:P.underlying t=some (.slice e)) (hi:P.info? e=some i) (hz:i.zero=some z) (hsize:i.size=1) (hby:i.bytes=bytes) (hzs:z.cells.size=1)
  (g n cap:Nat) (xs:List Value) (hown:w.ownsRow base e 1 (.slice (some ⟨g,0,none⟩) n cap) n xs) (a:Addr) (m c:Nat) (news:List Value) (hl:news.length=m) (hnews: ∀j u,news[j]?=some u→w.cell? (a.add j)=some u)
  (h1: ∀u∈news,u.oneCell'=true) (h63:n+m≤maxLen) (hbytes:(n+m)*bytes≤140737488355328) (hbase:base≤w.heap.size):
  ∃v' w',(Builtin.append_ #[t,t] ty #[.slice (some ⟨g,0,none⟩) n cap, .slice (some a) m c]).run P w= .ok v' w'∧w'.ownsRow base e 1 v' (n+m) (xs++news)∧w.grownBy w' (some g)∧ ∀j,j<n→w'.cell? ⟨g,j,none⟩=w.cell? ⟨g,j,none⟩:=by
 have hlen:=hown.1
 by_cases hroom:n+m≤cap
 ·obtain⟨w',hr,ho,hg⟩:=run_append_fits (P:=P) w base t ty e i 1 ht hi hsize g n cap xs hown a m c news (by omega) hnews h1 hroom
  refine⟨_,w',hr,ho,hg,fun j hj=> ?_⟩
  rw[ho.cellAt j (by omega),hown.cellAt j (by omega),List.getElem?_append_left (by omega)]
 ·have hcells: ∀j u,xs[j]?=some u→w.cell? ((⟨g,0,none⟩:Addr).add j)=some u:=by
   intro j u hu
   have hj:j<xs.length:=by
    rcases Nat.lt_or_ge j xs.length with h|h
    ·exact h
    ·rw[List.getElem?_eq_none h]at hu;cases hu
   rw[Bu,hown.cellAt j (by omega)]
   exact hu
  obtain⟨v',w',hr,ho,hg⟩:=run_append_arg_grows (P:=P) w t ty e i z 1 bytes ht hi hz hsize hby hzs (by omega) ⟨g,0,none⟩ n cap xs hlen hcells a m c news (by omega) hnews (by omega) h63 hbytes
  refine⟨v',w',hr,Xp ho hbase,⟨hg.os,hg.tape,hg.output,hg.size,fun k hk _=>hg.block k hk (by simp)⟩,fun j hj=> ?_⟩
  have hlt:g<w.heap.size:=by
   have:=(Rd.of_own hown) j (xs[j]'(by omega)) (List.getElem?_eq_getElem _)
   obtain⟨ad,he,hb,_⟩:=this
   cases he
   exact hb
  exact World.cell?_of_block (hg.block g hlt (by simp))
theorem Tg {ops:Array Oper} {o:Oper} {a:Act} {K:Act→World→Prop} {Q:Exit→Act→World→Prop} {E:Prop} (hgd:o.guard=none) (s x:Operand) (t:TypeId)
  (ho:o.op= .call { callee:= .builtin .append,args:= #[s,x],argTypes:= #[t,t] })
  (base:Nat) (e:TypeId) (i:TypeInfo) (z:Value) (bytes:Nat) (ht:P.underlying t=some (.slice e)) (hi:P.info? e=some i) (hz:i.zero=some z) (hsize:i.size=1) (hby:i.bytes=bytes) (hzs:z.cells.size=1)
  (g n cap:Nat) (xs:List Value) (hs:a.eval s= .slice (some ⟨g,0,none⟩) n cap) (hown:w.ownsRow base e 1 (.slice (some ⟨g,0,none⟩) n cap) n xs)
  (ad:Addr) (m c:Nat) (news:List Value) (hx:a.eval x= .slice (some ad) m c) (hl:news.length=m) (hnews: ∀j u,news[j]?=some u→w.cell? (ad.add j)=some u)
  (h1: ∀u∈news,u.oneCell'=true) (h63:n+m≤maxLen) (hbytes:(n+m)*bytes≤140737488355328) (hbase:base≤w.heap.size)
  (h: ∀v' w',w'.ownsRow base e 1 v' (n+m) (xs++news)→w.grownBy w' (some g)→(∀j,j<n→w'.cell? ⟨g,j,none⟩=w.cell? ⟨g,j,none⟩)→K (a.put o.dst v') w'):
  if Region.wanted o (yielded ops a.tmps)=true then Oper.wp P o a w K Q else E:=by
 have hw:Region.wanted o (yielded ops a.tmps)=true:=by simp[Region.wanted,hgd]
 rw[if_pos hw]
 obtain⟨v',w',hrun,h2,h3,h4⟩:=Us (P:=P) w base t o.type e i z bytes ht hi hz hsize hby hzs g n cap xs hown ad m c news hl hnews h1 h63 hbytes hbase
 unfold Oper.wp
 simp[execOp,ho,resolve,invoke,builtin,hs,hx,hrun,Result.andThen]
 exact h v' w' h2 h3 h4
end
section
variable {P:Program} (w:World)
theorem Th (base:Nat) (t ty e:TypeId) (i:TypeInfo) (z:Value) (bytes:Nat) (ht:P.underlying t=some (.slice e)) (hi:P.info? e=some i) (hz:i.zero=some z) (hsize:i.size=1) (hby:i.bytes=bytes) (hzs:z.cells.size=1)
  (g n cap:Nat) (xs:List Value) (hown:w.ownsRow base e 1 (.slice (some ⟨g,0,none⟩) n cap) n xs) (a:Addr) (m c:Nat) (news:List Value) (hl:news.length=m) (hm:0<n+m) (hnews: ∀j u,news[j]?=some u→w.cell? (a.add j)=some u)
  (h1: ∀u∈news,u.oneCell'=true) (h63:n+m≤maxLen) (hbytes:(n+m)*bytes≤140737488355328) (hbase:base≤w.heap.size):
  ∃g' cap' w',(Builtin.append_ #[t,t] ty #[.slice (some ⟨g,0,none⟩) n cap, .slice (some a) m c]).run P w= .ok (.slice (some ⟨g',0,none⟩) (n+m) cap') w'∧w'.ownsRow base e 1 (.slice (some ⟨g',0,none⟩) (n+m) cap') (n+m) (xs++news)∧w.grownBy w' (some g)∧(g'=g∨w.heap.size≤g'):=by
 have hlen:=hown.1
 by_cases hroom:n+m≤cap
 ·obtain⟨w',hr,ho,hg⟩:=run_append_fits (P:=P) w base t ty e i 1 ht hi hsize g n cap xs hown a m c news (by omega) hnews h1 hroom
  exact⟨_,_,w',hr,ho,hg, .inl rfl⟩
 ·have hcells: ∀j u,xs[j]?=some u→w.cell? ((⟨g,0,none⟩:Addr).add j)=some u:=hown.cells rfl
  obtain⟨v',w',hr,ho,hg⟩:=run_append_arg_grows (P:=P) w t ty e i z 1 bytes ht hi hz hsize hby hzs (by omega) ⟨g,0,none⟩ n cap xs hlen hcells a m c news (by omega) hnews (by omega) h63 hbytes
  obtain⟨g',cap',rfl,hgb⟩:=ho.form hm
  exact⟨_,_,w',hr,Xp ho hbase,⟨hg.os,hg.tape,hg.output,hg.size,fun k hk _=>hg.block k hk (by simp)⟩, .inr hgb.1⟩
theorem Fp {ops:Array Oper} {rest:List Oper} {o:Oper} {a:Act} {Q:Exit→Act→World→Prop} (hgd:o.guard=none) (s x:Operand) (t:TypeId)
  (ho:o.op= .call { callee:= .builtin .append,args:= #[s,x],argTypes:= #[t,t] })
  (base:Nat) (e:TypeId) (i:TypeInfo) (z:Value) (bytes:Nat) (ht:P.underlying t=some (.slice e)) (hi:P.info? e=some i) (hz:i.zero=some z) (hsize:i.size=1) (hby:i.bytes=bytes) (hzs:z.cells.size=1)
  (g n cap:Nat) (xs:List Value) (hs:a.eval s= .slice (some ⟨g,0,none⟩) n cap) (hown:w.ownsRow base e 1 (.slice (some ⟨g,0,none⟩) n cap) n xs)
  (ad:Addr) (m c:Nat) (news:List Value) (hx:a.eval x= .slice (some ad) m c) (hl:news.length=m) (hm:0<n+m) (hnews: ∀j u,news[j]?=some u→w.cell? (ad.add j)=some u)
  (h1: ∀u∈news,u.oneCell'=true) (h63:n+m≤maxLen) (hbytes:(n+m)*bytes≤140737488355328) (hbase:base≤w.heap.size)
  (h: ∀g' cap' w',w'.ownsRow base e 1 (.slice (some ⟨g',0,none⟩) (n+m) cap') (n+m) (xs++news)→w.grownBy w' (some g)→(g'=g∨w.heap.size≤g')→wpList P ops Q rest (a.put o.dst (.slice (some ⟨g',0,none⟩) (n+m) cap')) w'):wpList P ops Q (o::rest) a w:=by
 refine wpList_plain hgd fun K hK=> ?_
 obtain⟨g',cap',w',hrun,h2,h3,h4⟩:=Th (P:=P) w base t o.type e i z bytes ht hi hz hsize hby hzs g n cap xs hown ad m c news hl hm hnews h1 h63 hbytes hbase
 unfold Oper.wp
 simp[execOp,ho,resolve,invoke,builtin,hs,hx,hrun,Result.andThen]
 exact hK _ _ (h g' cap' w' h2 h3 h4)
end
theorem lH (w:World) (v:Value) (t:TypeId): ∀j u,[v][j]?=some u→(w.alloc (.cells #[v] t)).cell? ((⟨w.heap.size,0,none⟩:Addr).add j)=some u:=by
 intro j u hu
 rw[Bu,cell_of_row _ _ j _ t (0,0) (heap_alloc_new w _)]
 simpa using hu
section
variable {P:Program} (w:World)
theorem Jh {ops:Array Oper} {rest:List Oper} {o:Oper} {a:Act} {Q:Exit→Act→World→Prop} (hgd:o.guard=none) (s x:Operand) (t:TypeId)
  (ho:o.op= .call { callee:= .builtin .append,args:= #[s,x],argTypes:= #[t,t] })
  (base:Nat) (e:TypeId) (i:TypeInfo) (z:Value) (bytes:Nat) (ht:P.underlying t=some (.slice e)) (hi:P.info? e=some i) (hz:i.zero=some z) (hsize:i.size=1) (hby:i.bytes=bytes) (hzs:z.cells.size=1)
  (v:Value) (n:Nat) (xs:List Value) (hs:a.eval s=v) (hown:w.ownsRow base e 1 v n xs)
  (ad:Addr) (m c:Nat) (news:List Value) (hx:a.eval x= .slice (some ad) m c) (hl:news.length=m) (hm:0<m) (hnews: ∀j u,news[j]?=some u→w.cell? (ad.add j)=some u)
  (h1: ∀u∈news,u.oneCell'=true) (h63:n+m≤maxLen) (hbytes:(n+m)*bytes≤140737488355328) (hbase:base≤w.heap.size)
  (h: ∀v' w',w'.ownsRow base e 1 v' (n+m) (xs++news)→w.grownBy w' v.ownBlock→(∀g,v'.ownBlock=some g→v.ownBlock=some g∨w.heap.size≤g)→wpList P ops Q rest (a.put o.dst v') w'):wpList P ops Q (o::rest) a w:=by
 rcases hown.2 with⟨rfl,rfl⟩|⟨g,cap,cur,rfl,hb,hg,rest'⟩
 ·have hown':w.ownsRow w.heap.size e 1 (.slice none 0 0) 0 xs:=⟨hown.1, .inl ⟨rfl,rfl⟩⟩
  exact wpList_append_own w hgd s x t ho w.heap.size e i z 1 bytes ht hi hz hsize hby hzs (by omega) _ 0 xs hs hown' ad m c news hx (by omega) hnews h1 h63 hbytes (Nat.le_refl _) fun v' w' h2 h3 _=>h v' w' (Xp h2 hbase) h3 fun g hgb=> .inr (Ak h2 hgb)
 ·exact Fp w hgd s x t ho base e i z bytes ht hi hz hsize hby hzs g n cap xs hs hown ad m c news hx hl (by omega) hnews h1 h63 hbytes hbase fun g' cap' w' h2 h3 h4=>h _ w' h2 h3 fun k hk=>by
   simp only[Value.ownBlock,Option.some.injEq]at hk⊢
   subst hk
   rcases h4 with h4|h4
   ·exact .inl h4.symm
   ·exact .inr h4
end
def rgL (r:Rg):List Int:=[r.t.ser,r.t.kind,r.t.frm,r.t.till,r.t.cls,r.t.card,r.t.seat,r.t.day,r.t.days,r.t.uses,r.t.epoch,r.key,r.left,r.inn,r.ver]
def InR (r:Rg):Prop:= ∀x∈rgL r,Cl x
theorem Ie.at {w:World} {X o:Nat} {r:Rg} {x:Int} (h:Ie w X r) (hx:(rgL r)[o]?=some x):w.cell? ⟨X,o,none⟩=some (.int .i64 x):=by
 rw[cell_of_row w X o _ _ (0,0) h]
 have e:(#[.int .i64 r.t.ser, .int .i64 r.t.kind, .int .i64 r.t.frm, .int .i64 r.t.till, .int .i64 r.t.cls, .int .i64 r.t.card, .int .i64 r.t.seat, .int .i64 r.t.day, .int .i64 r.t.days, .int .i64 r.t.uses, .int .i64 r.t.epoch, .int .i64 r.key, .int .i64 r.left, .int .i64 r.inn, .int .i64 r.ver]:Array Value)=((rgL r).map fun x=>Value.int .i64 x).toArray:=rfl
 rw[e]
 simp[hx]
theorem Xq (r:Rg) (hk:1≤r.t.kind∧r.t.kind≤4):(fieldsL r.t.kind).map (fun p=>(rgL r)[p.1]?)=(valL r).map some:=by
 unfold fieldsL Cj valL Nc
 by_cases h1:r.t.kind=1∨r.t.kind=2
 ·rw[if_pos h1,if_neg (by omega)];rfl
 ·by_cases h3:r.t.kind=3
  ·rw[if_neg h1,if_pos h3,if_neg (by omega)];rfl
  ·have h4:r.t.kind=4:=by omega
   rw[if_neg h1,if_neg h3,if_pos h4,if_pos h4];rfl
theorem pV {r:Rg} (hk:1≤r.t.kind∧r.t.kind≤4) {j:Nat} {p:Nat × Int} (h:(fieldsL r.t.kind)[j]?=some p): ∃x,(valL r)[j]?=some x∧(rgL r)[p.1]?=some x:=by
 have h1:=congrArg (fun l=>l[j]?) (Xq r hk)
 simp only[List.getElem?_map,h,Option.map_some]at h1
 cases hv:(valL r)[j]? with
 |none=>rw[hv]at h1;cases h1
 |some x=>rw[hv]at h1;exact⟨x,rfl,by simpa using h1⟩
theorem Xr {r:Rg} (hk:1≤r.t.kind∧r.t.kind≤4):(valL r).length=(Au r.t.kind).length:=by
 have:=congrArg List.length (Xq r hk)
 simp only[List.length_map]at this
 rw[←this,Ge]
theorem fK {r:Rg} (h:InR r): ∀v∈valL r,Cl v:=by
 intro v hv
 refine h v ?_
 unfold valL Nc at hv
 split at hv
 ·simp only[List.cons_append,List.nil_append,List.mem_cons,List.not_mem_nil,or_false]at hv
  rcases hv with rfl|rfl|rfl|rfl|rfl|rfl|rfl|rfl|rfl|rfl|rfl|rfl|rfl<;>simp[rgL]
 ·simp only[List.cons_append,List.nil_append,List.mem_cons,List.not_mem_nil,or_false]at hv
  rcases hv with rfl|rfl|rfl|rfl|rfl|rfl|rfl|rfl|rfl|rfl|rfl|rfl<;>simp[rgL]
theorem pW {w:World} {base n size:Nat} {e:TypeId} {v:Value} {xs:List Value} (h:w.ownsRow base e size v n xs) {g:Nat} (hg:v.ownBlock=some g):g<w.heap.size:=by
 rcases h.2 with⟨rfl,_⟩|⟨g',cap,cur,rfl,_,hgg,_⟩
 ·simp[Value.ownBlock]at hg
 ·simp[Value.ownBlock]at hg
  subst hg
  exact(Array.getElem?_eq_some_iff.1 hgg).1
theorem Afs {w:World} {base n size:Nat} {e:TypeId} {v:Value} {xs:List Value} (h:w.ownsRow base e size v n xs) {g:Nat} (hg:w.heap.size≤g):some g≠v.ownBlock:=fun e=>by
 have:=pW h e.symm
 omega
structure KAt (w:World) (B:Nat) (p:Addr) (k:K) (S:Option Addr) (c:Nat):Prop where
 c0:w.cell? p=some (.int .i64 k.id)
 c1:w.cell? ⟨p.block,p.off+1,none⟩=some (.slice S k.sec.length c)
 c2:w.cell? ⟨p.block,p.off+2,none⟩=some (.int .i64 k.frm)
 c3:w.cell? ⟨p.block,p.off+3,none⟩=some (.int .i64 k.til)
 bs:Bs w B k.sec S c
theorem KAt.below {w w':World} {B B':Nat} {p:Addr} {k:K} {S:Option Addr} {c:Nat} (h:KAt w B p k S c) (hp:p.block<B') (hB:B≤B') (hb:Below B' w w'):KAt w' B p k S c:=
 ⟨(hb.cell hp).trans h.c0,(hb.cell (p:=⟨p.block,p.off+1,none⟩) hp).trans h.c1,(hb.cell (p:=⟨p.block,p.off+2,none⟩) hp).trans h.c2,(hb.cell (p:=⟨p.block,p.off+3,none⟩) hp).trans h.c3,h.bs.below (hb.mono hB)⟩
theorem KAt.more {w:World} {B B':Nat} {p:Addr} {k:K} {S:Option Addr} {c:Nat} (h:KAt w B p k S c) (hB:B≤B'):KAt w B' p k S c:=⟨h.c0,h.c1,h.c2,h.c3,⟨h.bs.rd.more hB,h.bs.nil,h.bs.len,h.bs.cap,h.bs.lt⟩⟩
def Ks (w:World) (B:Nat) (A:Option Addr) (l:List K):Prop:=
 ∀i,i<l.length→ ∃ad S c,A=some ad∧ad.block<B∧KAt w B (ad.add (i*4)) (l.getD i K0) S c
theorem Ks.below {w w':World} {B:Nat} {A:Option Addr} {l:List K} (h:Ks w B A l) (hb:Below B w w'):Ks w' B A l:=by
 intro i hi
 obtain⟨ad,S,c,e,hlt,hk⟩:=h i hi
 exact⟨ad,S,c,e,hlt,hk.below (by rw[add_block];exact hlt) (Nat.le_refl _) hb⟩
theorem Ks.more {w:World} {B B':Nat} {A:Option Addr} {l:List K} (h:Ks w B A l) (hB:B≤B'):Ks w B' A l:=by
 intro i hi
 obtain⟨ad,S,c,e,hlt,hk⟩:=h i hi
 exact⟨ad,S,c,e,by omega,hk.more hB⟩
theorem Ks.next {w w':World} {A:Option Addr} {l:List K} (h:Ks w w.heap.size A l) (hb:Below w.heap.size w w'):Ks w' w'.heap.size A l:=(h.below hb).more hb.size
theorem Bs.empty (w:World) (B:Nat):Bs w B [] none 0:=⟨by intro k u hu;simp[U8]at hu,fun _=>rfl,by simp,by omega,by simp⟩
theorem Db {P:Program} {fn:Func} {p u:Tmp} {ty:TypeId} (h:fn.results= #[.cell p ty, .tmp u]) (tmps:Array Value) (w:World) (g:Nat) (t:TypeId) (cs:Array Value) (fr:Nat × Nat) (d:TypeDesc)
  (hp:tmps.getD p undef= .pointer (some ⟨g,0,none⟩)) (hg:w.heap[g]?=some (.cells cs t fr))
  (hu:P.underlying ty=some d) (hd:(match d with| .struct _| .array _ _=>true|_=>false)=true) (hi:(P.info? ty).map (·.size)=some cs.size):
  (results fn tmps).run P w= .ok (.tuple #[.agg cs,tmps.getD u undef]) w:=by
 have hp':tmps[p]?.getD undef= .pointer (some ⟨g,0,none⟩):=by simpa using hp
 simp[results,h,hp',asAddr,run_loadVar_row w g t ty cs fr d hg hu hd hi]
theorem Ep:(Tryz.prog.info? 44).map (·.size)=some 4:=by kernel_rfl
theorem Py (id:Int) (S:Option Addr) (n c:Nat) (f t:Int):(#[Value.int .i64 id, .slice S n c, .int .i64 f, .int .i64 t]:Array Value).all (·.oneCell')=true:=by
 rw[Array.all_eq_true_iff_forall_mem]
 intro u hu
 simp at hu
 rcases hu with rfl|rfl|rfl|rfl<;>rfl
structure KV where
 k:K
 S:Option Addr
 c:Nat
def KV.cells (q:KV):List Value:=[.int .i64 q.k.id, .slice q.S q.k.sec.length q.c, .int .i64 q.k.frm, .int .i64 q.k.til]
def bN (L:List KV):List Value:=L.flatMap KV.cells
theorem Pz (q:KV) (L:List KV):bN (q::L)=q.cells++bN L:=rfl
theorem Rs (L:List KV):(bN L).length=L.length*4:=by
 induction L with
 |nil=>rfl
 |cons q L ih=>rw[Pz,List.length_append,ih,List.length_cons];simp[KV.cells];omega
theorem Ab2 (L:List KV) (i j:Nat) (q:KV) (hq:L[i]?=some q) (hj:j<4):(bN L)[i*4+j]?=q.cells[j]?:=by
 induction L generalizing i with
 |nil=>simp at hq
 |cons x L ih=>
  cases i with
  |zero=>
   simp at hq
   subst hq
   rw[Pz,Nat.zero_mul,Nat.zero_add,List.getElem?_append_left (by simp[KV.cells];omega)]
  |succ i=>
   rw[Pz,List.getElem?_append_right (by simp[KV.cells];omega)]
   have:(i+1)*4+j - x.cells.length=i*4+j:=by simp[KV.cells];omega
   rw[this]
   exact ih i (by simpa using hq)
theorem wY {w:World} {base g n cap:Nat} {L:List KV} (h:w.ownsRow base 44 4 (.slice (some ⟨g,0,none⟩) n cap) n (bN L)) (hs: ∀q∈L,Bs w w.heap.size q.k.sec q.S q.c):Ks w w.heap.size (some ⟨g,0,none⟩) (L.map (·.k)):=by
 have hn:L.length=n:=by
  have:=h.1
  rw[Rs]at this
  omega
 have hg:g<w.heap.size:=by
  rcases h.2 with⟨h',_⟩|⟨g',cap',cur,h',_,hg,_⟩
  ·simp at h'
  ·simp only[Value.slice.injEq,Option.some.injEq,Addr.mk.injEq,and_true,true_and]at h'
   obtain⟨rfl,rfl⟩:=h'
   exact(Array.getElem?_eq_some_iff.1 hg).1
 intro i hi
 have hi':i<L.length:=by simpa using hi
 have hq:L[i]?=some L[i]:=List.getElem?_eq_getElem hi'
 have hk:(L.map (·.k)).getD i K0=L[i].k:=by
  rw[List.getD_eq_getElem?_getD,List.getElem?_map,hq];rfl
 have hc: ∀j,j<4→w.cell? ⟨g,i*4+j,none⟩=(L[i]).cells[j]?:=by
  intro j hj
  rw[h.cellAt _ (by omega),Ab2 L i j _ hq hj]
 rw[hk]
 refine⟨_,(L[i]).S,(L[i]).c,rfl,hg, ?_⟩
 rw[Bu]
 exact⟨hc 0 (by omega),hc 1 (by omega),hc 2 (by omega),hc 3 (by omega),hs _ (List.getElem_mem hi')⟩
def KVs (w:World) (B:Nat) (A:Option Addr) (L:List KV):Prop:= ∀i q,L[i]?=some q→ ∃ad,A=some ad∧ad.block<B∧KAt w B (ad.add (i*4)) q.k q.S q.c
theorem Ab3 {w:World} {B:Nat} {A:Option Addr} {l:List K} (h:Ks w B A l) (n:Nat):n≤l.length→ ∃L:List KV,L.length=n∧L.map (·.k)=l.take n∧KVs w B A L:=by
 induction n with
 |zero=>intro _;exact⟨[],rfl,rfl,by intro i q hq;simp at hq⟩
 |succ n ih=>
  intro hn
  obtain⟨L,h1,h2,h3⟩:=ih (by omega)
  obtain⟨ad,S,c,e,hlt,hk⟩:=h n (by omega)
  refine⟨L++ [⟨l.getD n K0,S,c⟩],by simp[h1], ?_, ?_⟩
  ·rw[List.map_append,h2,List.take_succ_eq_append_getElem (by omega),List.getD_eq_getElem?_getD,List.getElem?_eq_getElem (by omega)];rfl
  ·intro i q hq
   rcases Nat.lt_or_ge i n with hi|hi
   ·rw[List.getElem?_append_left (by omega)]at hq
    exact h3 i q hq
   ·rw[List.getElem?_append_right (by omega),h1]at hq
    have:i - n=0:=by
     rcases Nat.eq_zero_or_pos (i - n)with h0|h0
     ·exact h0
     ·rw[List.getElem?_eq_none (by simp;omega)]at hq;cases hq
    rw[this]at hq
    have e2:i=n:=by omega
    simp at hq
    subst hq e2
    exact⟨ad,e,hlt,hk⟩
theorem wZ {w:World} {B:Nat} {A:Option Addr} {l:List K} (h:Ks w B A l): ∃L:List KV,L.map (·.k)=l∧KVs w B A L∧ ∀q∈L,Bs w B q.k.sec q.S q.c:=by
 obtain⟨L,_,h2,h3⟩:=Ab3 h l.length (Nat.le_refl _)
 refine⟨L,by rw[h2,List.take_length],h3, ?_⟩
 intro q hq
 obtain⟨i,hi⟩:=List.mem_iff_getElem?.1 hq
 obtain⟨_,_,_,hk⟩:=h3 i q hi
 exact hk.bs
section
variable {P:Program} {ops:Array Oper} {Q:Exit→Act→World→Prop} {md:Region.Mode} {S:World→Prop}
theorem pl (i d:Nat) {oi:Oper} {v:Value} {fuel:Nat} {listed l':Array Bool} {a a':Act} {w:World} (hS:S w)
  (h:wpAnyH P md ops Q S fuel l' a' w)
  (hi:ops[i]?=some oi:=by rfl) (hd:oi.dst=some d:=by rfl)
  (hk:((Region.noSelect ops&&Region.free md ops listed i)&&((Region.ready md ops listed).contains i&&Region.wanted oi (yielded ops a.tmps)))=true:=by kernel_rfl)
  (hQ: ∀c a w,Q (.panic c) (a.put (some d) v) w→Q (.panic c) a w:=by exact fun _ _ _ h=>h)
  (hy: ∀w,S w→(execOp a.eval oi).run P w= .ok (.value v) w:=by intro w hSw;go_simp;first|done|with_reducible rfl)
  (hl:listed.setIfInBounds i true=l':=by first|(simp only[List.setIfInBounds_toArray,List.set_cons_zero,List.set_cons_succ];rfl)|rfl)
  (ha:a.put (some d) v=a':=by first|(simp only[Act.put,List.setIfInBounds_toArray,List.set_cons_zero,List.set_cons_succ];rfl)|rfl):wpAnyH P md ops Q S (fuel+1) listed a w:=by
 subst hl ha
 simp only[Bool.and_eq_true]at hk
 exact wpAnyH_take (oi:=oi) hi hk.1.1 hk.1.2 hk.2.1 (by rw[hd];exact hQ) (Or.inl ⟨hk.2.2,hy⟩) hS (by rw[hd];exact h)
theorem sk (i d:Nat) {oi:Oper} {fuel:Nat} {listed l':Array Bool} {a a':Act} {w:World} (hS:S w)
  (h:wpAnyH P md ops Q S fuel l' a' w)
  (hi:ops[i]?=some oi:=by rfl) (hd:oi.dst=some d:=by rfl)
  (hk:((Region.noSelect ops&&Region.free md ops listed i)&&((Region.ready md ops listed).contains i&& !Region.wanted oi (yielded ops a.tmps)))=true:=by kernel_rfl)
  (hQ: ∀c a w,Q (.panic c) (a.put (some d) undef) w→Q (.panic c) a w:=by exact fun _ _ _ h=>h)
  (hl:listed.setIfInBounds i true=l':=by first|(simp only[List.setIfInBounds_toArray,List.set_cons_zero,List.set_cons_succ];rfl)|rfl)
  (ha:a.put (some d) undef=a':=by first|(simp only[Act.put,List.setIfInBounds_toArray,List.set_cons_zero,List.set_cons_succ];rfl)|rfl):wpAnyH P md ops Q S (fuel+1) listed a w:=by
 subst hl ha
 simp only[Bool.and_eq_true,Bool.not_eq_true']at hk
 exact wpAnyH_take (oi:=oi) hi hk.1.1 hk.1.2 hk.2.1 (by rw[hd];exact hQ) (Or.inr ⟨hk.2.2,rfl⟩) hS (by rw[hd];exact h)
end
theorem fL (id f t:Int) (n:Nat) (A:Option Addr) (c:Nat) (w:World) (hn:n≤9223372036854775807):
  Calls Tryz.prog 104 #[.agg #[.int .i64 id, .slice A n c, .int .i64 f, .int .i64 t]] w fun e w'=>e= .returned (.bool (Pj id n f t))∧Below w.heap.size w w':=by
 go_enter Tryz.func104, Tryz.ntmps104
 go_wp2
 all_goals
  go_ret
  refine⟨congrArg Ending.returned (congrArg Value.bool ?_),(Below.refl _ _).alloc (Nat.le_refl _) _⟩
  rw[Bool.eq_iff_iff]
  simp[Pj]
  try omega
def Cy (l:List K) (i:Nat):Bool:=(l.getD i K0).right&&(i==0||decide ((l.getD (i - 1) K0).id<(l.getD i K0).id))
def isR (l:List K):Bool:=(List.range l.length).all (Cy l)
theorem Ku {l:List K} :isR l=true↔ ∀i,i<l.length→Cy l i=true:=by simp[isR]
theorem Nz {l:List K} (i:Nat) (hi:i<l.length) (h:Cy l i=false):isR l=false:=by
 cases e:isR l
 ·rfl
 ·have:=Ku.1 e i hi
  rw[h]at this;cases this
theorem Lw (k:K) (n:Nat) (hn:n=k.sec.length) (b:Bool) (hb:k.right=b) (A:Option Addr) (c:Nat) (w:World) (h1:n≤9223372036854775807):
  Calls Tryz.prog 104 #[.agg #[.int .i64 k.id, .slice A n c, .int .i64 k.frm, .int .i64 k.til]] w fun e w'=>e= .returned (.bool b)∧Below w.heap.size w w':=by
 subst hb hn
 exact fL k.id k.frm k.til k.sec.length A c w h1
theorem xA (l:List K) (n:Nat) (hn:n=l.length) (A:Option Addr) (c:Nat) (w:World) (hA:Ks w w.heap.size A l) (h1:n≤9223372036854775807):
  Calls Tryz.prog 59 #[.slice A n c] w fun e w'=>e= .returned (.bool (isR l))∧Below w.heap.size w w':=by
 have HN:=Lib.hid hn
 clear hn
 go_enter Tryz.func59, Tryz.ntmps59
 go_wp2
 go_loopw [3] (fun i wr=> ∃k:Nat,k≤n∧i= .int .i64 k∧Below w.heap.size w wr∧ ∀j,j<k→Cy l j=true) (fun i _=>n - (intOf i).toNat)
 case atStart=>exact⟨0,Nat.zero_le _,rfl,Below.refl _ _,by omega⟩
 case round=>
  obtain⟨k,hk,rfl,hbel,hall⟩:=hrel
  by_cases hlt:k<n
  ·have HA:=Lib.hid hA
   obtain⟨ad,S,cc,rfl,had,hk4⟩:=(hA.below hbel) k (by rw[←HN.out];exact hlt)
   have HLEN:=Lib.hid (Nat.le_trans hk4.bs.len hk4.bs.cap)
   have b1:(0:Int)≤(k:Int):=by omega
   have b2:(k:Int)<(n:Int):=by omega
   have HH:=Lib.hid hall
   have HBL:=Lib.hid hbel
   have hkl:k<l.length:=by rw[←HN.out];exact hlt
   have HKL:=Lib.hid hkl
   clear hall hA hkl hbel
   obtain⟨x,hx⟩: ∃x,x=l.getD k K0:=⟨_,rfl⟩
   rw[←hx]at hk4 HLEN
   have HX:=Lib.hid hx
   clear hx
   cases hr:x.right with
   |false=>
    have HIS:=Lib.hid (Nz k HKL.out (by rw[Cy, ←HX.out,hr,Bool.false_and]))
    have HRT:=Lib.hid hr
    have HKA:Hid (KAt wr.drew w.heap.size (ad.add (k*4)) x S cc):=Lib.hid (hk4.below (by rw[add_block];exact Nat.lt_of_lt_of_le had HBL.out.size) HBL.out.size (Below.refl _ _).drew)
    clear hr hk4
    go_wp2
    refine wp_region_held_drew (S:=fun w'=>KAt w' w.heap.size (ad.add (k*4)) x S cc) (by kernel_rfl) HKA.out (fun hHeld=> ?_)
    refine pl 0 10 hHeld ?_
    refine pl 1 11 hHeld ?_
    refine pl 2 12 hHeld ?_
    refine pl 3 13 hHeld ?_ (hy:=by intro w hSw;obtain⟨h0,h1,h2,h3,_⟩:=hSw;go_simp;(first|done|with_reducible rfl))
    refine wpAnyH_ready (rs:=[4]) (by kernel_rfl) (by simp) ?_
    refine AllReadyH.cons (o:=⟨some 14, .call _,_,_,_,_⟩) rfl (fun K hK=> ?_) AllReadyH.nil
    go_simp
    go_at_call 104
    refine(Lw x x.sec.length rfl false HRT.out S cc wr.drew HLEN.out).mono ?_
    rintro e w3 ⟨rfl,hb3⟩
    go_wp2_with fail
    have HB3:=Lib.hid (HBL.out.drew.trans (hb3.mono HBL.out.drew.size))
    have HKA3:=Lib.hid (HKA.out.below (by rw[add_block];exact Nat.lt_of_lt_of_le had HBL.out.size) HBL.out.size hb3)
    clear hb3
    refine hK.out _ _ HKA3.out (fun hHeld=> ?_)
    clear hK K
    refine pl 5 15 hHeld ?_
    refine pl 6 16 hHeld ?_
    refine sk 7 17 hHeld ?_
    refine sk 8 18 hHeld ?_
    refine sk 9 19 hHeld ?_
    refine sk 10 20 hHeld ?_
    refine sk 11 21 hHeld ?_
    refine sk 12 22 hHeld ?_
    refine sk 13 23 hHeld ?_
    refine sk 14 24 hHeld ?_
    refine sk 15 25 hHeld ?_
    refine sk 16 26 hHeld ?_
    refine sk 17 27 hHeld ?_
    refine sk 18 28 hHeld ?_
    refine sk 19 29 hHeld ?_
    refine sk 20 30 hHeld ?_
    refine sk 21 31 hHeld ?_
    refine sk 22 32 hHeld ?_
    refine pl 23 33 hHeld ?_
    refine wpAnyH_done (by kernel_rfl) ?_ _
    go_wp2
    go_ret
    exact⟨by rw[HIS.out];rfl,HB3.out⟩
   |true=>
    have HRT:=Lib.hid hr
    clear hr
    by_cases h0:k=0
    ·have HG:=Lib.hid (show∀i,i<k+1→Cy l i=true from by
      intro i hi
      have e:i=k:=by omega
      subst e
      subst h0
      rw[Cy, ←HX.out,HRT.out];rfl)
     have HKA:Hid (KAt wr.drew w.heap.size (ad.add (k*4)) x S cc):=Lib.hid (hk4.below (by rw[add_block];exact Nat.lt_of_lt_of_le had HBL.out.size) HBL.out.size (Below.refl _ _).drew)
     have b3: ¬((0:Int)<(k:Int)):=by omega
     clear hk4 h0
     go_wp2
     refine wp_region_held_drew (S:=fun w'=>KAt w' w.heap.size (ad.add (k*4)) x S cc) (by kernel_rfl) HKA.out (fun hHeld=> ?_)
     refine pl 0 10 hHeld ?_
     refine pl 1 11 hHeld ?_
     refine pl 2 12 hHeld ?_
     refine pl 3 13 hHeld ?_ (hy:=by intro w hSw;obtain⟨h0,h1,h2,h3,_⟩:=hSw;go_simp;(first|done|with_reducible rfl))
     refine wpAnyH_ready (rs:=[4]) (by kernel_rfl) (by simp) ?_
     refine AllReadyH.cons (o:=⟨some 14, .call _,_,_,_,_⟩) rfl (fun K hK=> ?_) AllReadyH.nil
     go_simp
     go_at_call 104
     refine(Lw x x.sec.length rfl true HRT.out S cc wr.drew HLEN.out).mono ?_
     rintro e w3 ⟨rfl,hb3⟩
     go_wp2_with fail
     have HB3:=Lib.hid (HBL.out.drew.trans (hb3.mono HBL.out.drew.size))
     have HKA3:=Lib.hid (HKA.out.below (by rw[add_block];exact Nat.lt_of_lt_of_le had HBL.out.size) HBL.out.size hb3)
     clear hb3
     refine hK.out _ _ HKA3.out (fun hHeld=> ?_)
     clear hK K
     refine pl 5 15 hHeld ?_
     refine pl 6 16 hHeld ?_
     refine pl 7 17 hHeld ?_
     refine pl 8 18 (v:= .bool false) hHeld ?_ (hy:=by intro w hSw;go_simp;(first|done|omega|(simp[b3];done)|(simp;omega)))
     refine pl 9 19 hHeld ?_
     refine sk 10 20 hHeld ?_
     refine sk 11 21 hHeld ?_
     refine sk 12 22 hHeld ?_
     refine sk 13 23 hHeld ?_
     refine sk 14 24 hHeld ?_
     refine sk 15 25 hHeld ?_
     refine sk 16 26 hHeld ?_
     refine sk 17 27 hHeld ?_
     refine sk 18 28 hHeld ?_
     refine sk 19 29 hHeld ?_
     refine sk 20 30 hHeld ?_
     refine sk 21 31 hHeld ?_
     refine pl 22 32 hHeld ?_
     refine pl 23 33 hHeld ?_
     refine wpAnyH_done (by kernel_rfl) ?_ _
     go_wp2
     go_roundw
     case rel=>exact⟨k+1,by omega,by go_num,HB3.out,HG.out⟩
     case measure=>simp[intOf];omega
    ·obtain⟨j,hj⟩: ∃j,k=j+1:=⟨k - 1,by omega⟩
     obtain⟨ad',S',cc',e,_,hj4⟩:=(HA.out.below HBL.out) j (by have:=HKL.out;omega)
     cases e
     obtain⟨y,hy⟩: ∃y,y=l.getD j K0:=⟨_,rfl⟩
     rw[←hy]at hj4
     have HY:=Lib.hid hy
     have HJ:=Lib.hid hj
     have HKA:Hid (KAt wr.drew w.heap.size (ad.add (k*4)) x S cc∧KAt wr.drew w.heap.size (ad.add (j*4)) y S' cc'):=Lib.hid
      ⟨hk4.below (by rw[add_block];exact Nat.lt_of_lt_of_le had HBL.out.size) HBL.out.size (Below.refl _ _).drew,hj4.below (by rw[add_block];exact Nat.lt_of_lt_of_le had HBL.out.size) HBL.out.size (Below.refl _ _).drew⟩
     have b3:(0:Int)<(k:Int):=by omega
     have hkj:(k:Int) - 1=(j:Int):=by omega
     have bj:(0:Int)≤(j:Int):=by omega
     have hwj:IntKind.i64.wrap (j:Int)=(j:Int):=IntWalk.i64_in _ (by omega)
     have bj2:(j:Int)<(n:Int):=by omega
     clear hk4 hj4 hy h0 hj
     by_cases hxy:x.id≤y.id
     ·have HIS:=Lib.hid (Nz k HKL.out (by
       have e1:(decide (y.id<x.id))=false:=by simp;omega
       rw[Cy,HJ.out,Nat.add_sub_cancel, ←HJ.out, ←HX.out, ←HY.out,e1,Bool.or_false]
       have e2:(k==0)=false:=by simp;omega
       rw[e2,Bool.and_false]))
      go_wp2
      refine wp_region_held_drew (S:=fun w'=>KAt w' w.heap.size (ad.add (k*4)) x S cc∧KAt w' w.heap.size (ad.add (j*4)) y S' cc') (by kernel_rfl) HKA.out (fun hHeld=> ?_)
      refine pl 0 10 hHeld ?_
      refine pl 1 11 hHeld ?_
      refine pl 2 12 hHeld ?_
      refine pl 3 13 hHeld ?_ (hy:=by intro w hSw;obtain⟨⟨h0,h1,h2,h3,_⟩,⟨k0,k1,k2,k3,_⟩⟩:=hSw;go_simp;(first|done|with_reducible rfl))
      refine wpAnyH_ready (rs:=[4]) (by kernel_rfl) (by simp) ?_
      refine AllReadyH.cons (o:=⟨some 14, .call _,_,_,_,_⟩) rfl (fun K hK=> ?_) AllReadyH.nil
      go_simp
      go_at_call 104
      refine(Lw x x.sec.length rfl true HRT.out S cc wr.drew HLEN.out).mono ?_
      rintro e w3 ⟨rfl,hb3⟩
      go_wp2_with fail
      have HB3:=Lib.hid (HBL.out.drew.trans (hb3.mono HBL.out.drew.size))
      have HKA3:=Lib.hid (And.intro (HKA.out.1.below (by rw[add_block];exact Nat.lt_of_lt_of_le had HBL.out.size) HBL.out.size hb3) (HKA.out.2.below (by rw[add_block];exact Nat.lt_of_lt_of_le had HBL.out.size) HBL.out.size hb3))
      clear hb3
      refine hK.out _ _ HKA3.out (fun hHeld=> ?_)
      clear hK K
      refine pl 5 15 hHeld ?_
      refine pl 6 16 hHeld ?_
      refine pl 7 17 hHeld ?_
      refine pl 8 18 (v:= .bool true) hHeld ?_ (hy:=by intro w hSw;go_simp;(first|done|omega|(simp[b3];done)|(simp;omega)))
      refine pl 9 19 hHeld ?_
      refine pl 10 20 hHeld ?_
      refine pl 11 21 hHeld ?_
      refine pl 12 22 hHeld ?_
      refine pl 13 23 hHeld ?_
      refine pl 14 24 hHeld ?_ (hy:=by intro w hSw;obtain⟨⟨h0,h1,h2,h3,_⟩,⟨k0,k1,k2,k3,_⟩⟩:=hSw;go_simp;(first|done|with_reducible rfl))
      refine pl 15 25 hHeld ?_
      refine pl 16 26 hHeld ?_
      refine pl 17 27 (v:= .int .i64 (j:Int)) hHeld ?_ (hy:=by intro w hSw;go_simp;(first|done|omega|(simp[hkj,hwj];done)|(simp;omega)))
      refine pl 18 28 hHeld ?_
      refine pl 19 29 hHeld ?_
      refine pl 20 30 hHeld ?_ (hy:=by intro w hSw;obtain⟨⟨h0,h1,h2,h3,_⟩,⟨k0,k1,k2,k3,_⟩⟩:=hSw;go_simp;(first|done|with_reducible rfl))
      refine pl 21 31 (v:= .bool true) hHeld ?_ (hy:=by intro w hSw;go_simp;(first|done|omega|(simp[hxy];done)|(simp;omega)))
      refine pl 22 32 hHeld ?_
      refine pl 23 33 hHeld ?_
      refine wpAnyH_done (by kernel_rfl) ?_ _
      go_wp2
      go_ret
      exact⟨by rw[HIS.out];rfl,HB3.out⟩
     ·have HG:=Lib.hid (show∀i,i<k+1→Cy l i=true from by
       intro i hi
       rcases Nat.lt_or_ge i k with h|h
       ·exact HH.out i h
       ·have e:i=k:=by omega
        subst e
        have e1:(decide (y.id<x.id))=true:=by simp;omega
        rw[Cy,HJ.out,Nat.add_sub_cancel, ←HJ.out, ←HX.out, ←HY.out,HRT.out,e1,Bool.or_true];rfl)
      go_wp2
      refine wp_region_held_drew (S:=fun w'=>KAt w' w.heap.size (ad.add (k*4)) x S cc∧KAt w' w.heap.size (ad.add (j*4)) y S' cc') (by kernel_rfl) HKA.out (fun hHeld=> ?_)
      refine pl 0 10 hHeld ?_
      refine pl 1 11 hHeld ?_
      refine pl 2 12 hHeld ?_
      refine pl 3 13 hHeld ?_ (hy:=by intro w hSw;obtain⟨⟨h0,h1,h2,h3,_⟩,⟨k0,k1,k2,k3,_⟩⟩:=hSw;go_simp;(first|done|with_reducible rfl))
      refine wpAnyH_ready (rs:=[4]) (by kernel_rfl) (by simp) ?_
      refine AllReadyH.cons (o:=⟨some 14, .call _,_,_,_,_⟩) rfl (fun K hK=> ?_) AllReadyH.nil
      go_simp
      go_at_call 104
      refine(Lw x x.sec.length rfl true HRT.out S cc wr.drew HLEN.out).mono ?_
      rintro e w3 ⟨rfl,hb3⟩
      go_wp2_with fail
      have HB3:=Lib.hid (HBL.out.drew.trans (hb3.mono HBL.out.drew.size))
      have HKA3:=Lib.hid (And.intro (HKA.out.1.below (by rw[add_block];exact Nat.lt_of_lt_of_le had HBL.out.size) HBL.out.size hb3) (HKA.out.2.below (by rw[add_block];exact Nat.lt_of_lt_of_le had HBL.out.size) HBL.out.size hb3))
      clear hb3
      refine hK.out _ _ HKA3.out (fun hHeld=> ?_)
      clear hK K
      refine pl 5 15 hHeld ?_
      refine pl 6 16 hHeld ?_
      refine pl 7 17 hHeld ?_
      refine pl 8 18 (v:= .bool true) hHeld ?_ (hy:=by intro w hSw;go_simp;(first|done|omega|(simp[b3];done)|(simp;omega)))
      refine pl 9 19 hHeld ?_
      refine pl 10 20 hHeld ?_
      refine pl 11 21 hHeld ?_
      refine pl 12 22 hHeld ?_
      refine pl 13 23 hHeld ?_
      refine pl 14 24 hHeld ?_ (hy:=by intro w hSw;obtain⟨⟨h0,h1,h2,h3,_⟩,⟨k0,k1,k2,k3,_⟩⟩:=hSw;go_simp;(first|done|with_reducible rfl))
      refine pl 15 25 hHeld ?_
      refine pl 16 26 hHeld ?_
      refine pl 17 27 (v:= .int .i64 (j:Int)) hHeld ?_ (hy:=by intro w hSw;go_simp;(first|done|omega|(simp[hkj,hwj];done)|(simp;omega)))
      refine pl 18 28 hHeld ?_
      refine pl 19 29 hHeld ?_
      refine pl 20 30 hHeld ?_ (hy:=by intro w hSw;obtain⟨⟨h0,h1,h2,h3,_⟩,⟨k0,k1,k2,k3,_⟩⟩:=hSw;go_simp;(first|done|with_reducible rfl))
      refine pl 21 31 (v:= .bool false) hHeld ?_ (hy:=by intro w hSw;go_simp;(first|done|omega|(simp[hxy];done)|(simp;omega)))
      refine pl 22 32 hHeld ?_
      refine pl 23 33 hHeld ?_
      refine wpAnyH_done (by kernel_rfl) ?_ _
      go_wp2
      go_roundw
      case rel=>exact⟨k+1,by omega,by go_num,HB3.out,HG.out⟩
      case measure=>simp[intOf];omega
  ·have e:k=n:=by omega
   have HB:=Lib.hid (Ku.2 (by rw[←HN.out, ←e];exact hall))
   clear hall
   go_wp2
   go_ret
   exact⟨by rw[HB.out];rfl,hbel⟩
end Go.Proofs.YtmdbfogjfbbpjaaGreatDoor
