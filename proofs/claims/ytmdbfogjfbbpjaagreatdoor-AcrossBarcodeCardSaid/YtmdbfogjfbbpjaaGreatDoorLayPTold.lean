import Derived.Test.YtmdbfogjfbbpjaaGreatDoorLayPFields
import Derived.Test.YtmdbfogjfbbpjaaGreatDoorEqualBytes
import Derived.Test.YtmdbfogjfbbpjaaGreatDoorTrackPGet
import Derived.OwnWalk
import Derived.RegionTactic
import Derived.BigRegion
import Derived.RangeFuncNested
import Derived.RangeFuncBound
import Derived.RangeFuncLeaves
import Derived.RangeFuncBox
import Derived.Shelf.Abstract
import Derived.WalkKit
import Derived.OwnWalkIn
import Derived.TacticsInMore
import Derived.LoopNIn
import Derived.LoopIn
import Derived.Maps.OwnIn
import Derived.Maps.AppendAt
import Derived.Maps.Views
set_option maxHeartbeats 1600000
set_option maxRecDepth 100000
set_option linter.unusedVariables false
section
namespace Go.Proofs.YtmdbfogjfbbpjaaGreatDoor
open Go.ChangeShapes Go.WideShapes Go.ChangeAt Go.RowKit
def Jl (w:World) (X:Nat) (l:List Int):Prop:=w.heap[X]?=some (.cells ((l.map fun x=>Value.int .i64 x).toArray) 138 (0,0))
theorem Jl.lt {w:World} {X:Nat} {l:List Int} (h:Jl w X l):X<w.heap.size:=(Array.getElem?_eq_some_iff.1 h).1
theorem Jl.alloc {w:World} {X:Nat} {l:List Int} (h:Jl w X l) (o:Obj):Jl (w.alloc o) X l:=(heap_alloc_old w o h.lt).trans h
theorem Jl.next {w w':World} {X:Nat} {l:List Int} (h:Jl w X l) (hb:Below w.heap.size w w'):Jl w' X l:=(hb.block _ h.lt).trans h
theorem Jl.set {w:World} {X:Nat} {l:List Int} (h:Jl w X l) (o:Nat) (x:Int):Jl (w.setCell ⟨X,o,none⟩ (.int .i64 x)) X (l.set o x):=by
 have:=heap_setCell_same w X o _ _ (.int .i64 x) h
 rw[Jl,this]
 simp[List.map_set]
theorem Jl.drew {w:World} {X:Nat} {l:List Int} (h:Jl w X l):Jl w.drew X l:=h
theorem Jl.cell {w:World} {X o:Nat} {l:List Int} (h:Jl w X l) (ho:o<l.length): ∃y,w.cell? ⟨X,o,none⟩=some (.int .i64 y):=by
 refine⟨l[o], ?_⟩
 rw[cell_of_row w X o _ _ (0,0) h]
 simp[ho]
theorem Jl.frozen {w:World} {X:Nat} {l:List Int} (h:Jl w X l) (o:Nat):w.frozen? ⟨X,o,none⟩=false:=frozen_of_row w X o _ _ h
theorem Jl.sbox {w:World} {X:Nat} {r:Rg} (h:Jl w X (rgL r)):Ie w X r:=h
def Nq (k:Int) (v:List Int) (j:Nat):List Int:=((((fieldsL k).map (·.1)).zip v).take j).foldl (fun l p=>l.set p.1 p.2) [0,0,0,0,0,0,0,0,0,yP k,0,0,0,0,0]
theorem yQ (k:Int) (v:List Int) (j:Nat):(Nq k v j).length=15:=by
 unfold Nq
 generalize ((((fieldsL k).map (·.1)).zip v).take j)=ps
 have: ∀(ps:List (Nat × Int)) (l:List Int),(ps.foldl (fun l p=>l.set p.1 p.2) l).length=l.length:=by
  intro ps
  induction ps with
  |nil=>intro l;rfl
  |cons p ps ih=>intro l;rw[List.foldl_cons,ih,List.length_set]
 rw[this];rfl
theorem rI {k:Int} {v:List Int} {j:Nat} {p:Nat × Int} {x:Int} (h:(fieldsL k)[j]?=some p) (hx:v[j]?=some x):Nq k v (j+1)=(Nq k v j).set p.1 x:=by
 have hz:(((fieldsL k).map (·.1)).zip v)[j]?=some (p.1,x):=by
  rw[List.zip,List.getElem?_zipWith,List.getElem?_map,h,hx];rfl
 unfold Nq
 rw[Lv hz,List.foldl_append]
 rfl
theorem rJ {k:Int} {j:Nat} {p:Nat × Int} (h:(fieldsL k)[j]?=some p):p.1<15:=by
 have hm:p∈fieldsL k:=List.mem_of_getElem? h
 have: ∀q∈fieldsL k,q.1<15:=by
  unfold fieldsL Cj
  split
  ·decide
  ·split
   ·decide
   ·split<;>decide
 exact this p hm
theorem yR {k:Int} {v:List Int} (hk:1≤k∧k≤4) (hl:v.length=(Au k).length):Nq k v v.length=rgL (Eh k v):=by
 rw[If hk]at hl
 by_cases h4:k=4
 ·subst h4
  rw[if_pos rfl]at hl
  obtain⟨a,b,c,d,e,f,g,i,j,x,l,m,n,rfl⟩:=gA hl
  rfl
 ·rw[if_neg h4]at hl
  obtain⟨a,b,c,d,e,f,g,i,j,x,l,m,rfl⟩:=fZ hl
  by_cases h1:k=1
  ·subst h1;rfl
  ·by_cases h2:k=2
   ·subst h2;rfl
   ·obtain rfl:k=3:=by omega
    rfl
theorem Fs.far {w w':World} {X:Nat} {l:List (Nat × Int)} {A:Option Addr} {c:Nat} (h:Fs w w.heap.size X l A c) (hg:w.grownBy w' (some X)) (hf: ∀ad,A=some ad→X<ad.block):Fs w' w'.heap.size X l A c:=by
 refine⟨fun k u hu=> ?_,h.nil,h.len,h.cap,h.lay⟩
 obtain⟨ad,e,hlt,hc⟩:=h.rd k u hu
 have:=hf ad e
 exact⟨ad,e,Nat.lt_of_lt_of_le hlt hg.size,hg.cell hc (by rw[add_block];simp;omega)⟩
theorem yS (k:Int) (hk:1≤k∧k≤4) (v:List Int) (n:Nat) (hn:n=v.length) (hl:v.length=(Au k).length) (r:Rg) (hr:Eh k v=r) (A':Option Addr) (c':Nat) (w:World) (hv:Zs w w.heap.size v A' c'):Calls Tryz.prog 137 #[.int .i64 k, .slice A' n c'] w fun e w'=>e= .returned (.agg #[.int .i64 r.t.ser, .int .i64 r.t.kind, .int .i64 r.t.frm, .int .i64 r.t.till, .int .i64 r.t.cls, .int .i64 r.t.card, .int .i64 r.t.seat, .int .i64 r.t.day, .int .i64 r.t.days, .int .i64 r.t.uses, .int .i64 r.t.epoch, .int .i64 r.key, .int .i64 r.left, .int .i64 r.inn, .int .i64 r.ver])∧Below w.heap.size w w':=by
 have hend:Nq k v n=rgL r:=by rw[hn,yR hk hl,hr]
 have h13:n≤13:=by rw[hn,hl];exact Vd k
 have hnf:n=(fieldsL k).length:=by rw[Ge,hn,hl]
 have HF:=Lib.hid hnf
 have HN:=Lib.hid hn
 have HE:=Lib.hid hend
 have HV:=Lib.hid hv
 obtain⟨u,hu⟩: ∃u,yP k=u:=⟨_,rfl⟩
 have HU:=Lib.hid hu
 clear hend hnf hl hr hv hu hn
 go_enter Tryz.func137, Tryz.ntmps137
 go_wp2_with (first|(go_at_call 186;refine(Ac6 k u HU.out _).mono ?_;rintro e w1 ⟨rfl,rfl⟩)|(go_at_call 119;refine(Um k n HF.out _ _).mono ?_;rintro e w4 ⟨A,c,rfl,hfs,hb,hfar⟩;have HFS:=Lib.hid hfs;have HB4:=Lib.hid hb;have HFA:=Lib.hid hfar;clear hb hfs hfar))
 obtain⟨X,hX⟩: ∃X,X=w.heap.size+1:=⟨_,rfl⟩
 have HL4:Hid (Jl w4 X (Nq k v 0)):=Lib.hid (by
  have e:Nq k v 0=[0,0,0,0,0,0,0,0,0,u,0,0,0,0,0]:=by rw[Nq,List.take_zero,HU.out];rfl
  rw[hX,e]
  exact(HB4.out.block _ (by simp)).trans (by rw[show w.heap.size+1=(w.alloc (.cells #[.int .i64 0, .int .i64 0, .int .i64 0, .int .i64 0, .int .i64 0, .int .i64 0, .int .i64 0, .int .i64 0, .int .i64 0, .int .i64 0, .int .i64 0, .int .i64 0, .int .i64 0, .int .i64 0, .int .i64 0] 39)).heap.size by simp];exact heap_alloc_new _ _))
 have HR4:Hid (Am w4 w.heap.size Ah):=Lib.hid ((Am.new w Ah).alloc _|>.next HB4.out)
 have HBL4:Hid (Below w.heap.size w w4):=Lib.hid ((((Below.refl _ _).alloc (Nat.le_refl _) _).alloc (by simp) _).trans (HB4.out.mono (by simp;omega)))
 have HFS4:Hid (Fs w4 w4.heap.size X (fieldsL k) A c):=Lib.hid (by rw[hX];exact HFS.out)
 have HFA4:Hid (∀ad,A=some ad→X<ad.block):=Lib.hid (fun ad e=>by have:=HFA.out ad e;simp at this;omega)
 have hwX:w.heap.size<X:=by omega
 have hX4:X<w4.heap.size:=HL4.out.lt
 have hs4:=HBL4.out.size
 rw[←hX]
 clear HFS HB4 HFA hX
 go_loopw [6,7,15] (fun _ _ i wr=> ∃j:Nat,j≤n∧i= .int .i64 j∧Jl wr X (Nq k v j)∧w4.grownBy wr (some X)) (fun _ _ i _=>n - (intOf i).toNat)
 case atStart=>exact⟨0,Nat.zero_le _,rfl,HL4.out,World.grownBy.refl _ _⟩
 case round=>
  obtain⟨j,hj,rfl,hL,hG⟩:=hrel
  have HL:=Lib.hid hL
  have HG:=Lib.hid hG
  have hs:=hG.size
  clear hL hG
  by_cases hlt:j<n
  ·have hjl:j<(fieldsL k).length:=by rw[←HF.out];exact hlt
   have hjv:j<v.length:=by rw[←HN.out];exact hlt
   obtain⟨⟨o,wd⟩,hx⟩: ∃x,(fieldsL k)[j]?=some x:=⟨_,List.getElem?_eq_getElem hjl⟩
   obtain⟨x,hxv⟩: ∃x,v[j]?=some x:=⟨_,List.getElem?_eq_getElem hjv⟩
   obtain⟨g,rfl,hb,hc,hc'⟩:=(HFS4.out.far HG.out HFA4.out).at hx
   have hbr:Below w.heap.size w wr:=HBL4.out.trans (Aq HG.out (Nat.le_of_lt hwX) hs4)
   obtain⟨ad',rfl,hb',hcv⟩:=((HV.out.next hbr).next (Aa wr #[.pointer (some ⟨X,o,none⟩), .int .i64 wd] 143)).at hxv
   have ho:o<15:=rJ hx
   obtain⟨y,hcy⟩:=(HL.out.alloc (.cells #[.pointer (some ⟨X,o,none⟩), .int .i64 wd] 143)).cell (o:=o) (by rw[yQ];exact ho)
   have hfy:=(HL.out.alloc (.cells #[.pointer (some ⟨X,o,none⟩), .int .i64 wd] 143)).frozen o
   have hst:=rI hx hxv
   have HST:=Lib.hid hst
   have HBR:=Lib.hid hbr
   have b1:(0:Int)≤(j:Int):=by omega
   have b2:(j:Int)<(n:Int):=by omega
   have hXr:X<wr.heap.size:=by omega
   clear hjl hjv hx hxv hbr hst
   go_wp2
   go_region
   all_goals go_wp2
   refine⟨⟨j+1,by omega,by go_num, ?_, ?_⟩,by simp[intOf];omega⟩
   ·rw[HST.out]
    exact(HL.out.set o x).alloc _
   ·refine At HG.out ?_
    have h1:=Bl wr X o (.int .i64 x)
    have h2:=At h1 (Dy (some X) ((Below.refl _ _).alloc (Nat.le_refl _) (.cells #[.pointer (some ⟨X,o,none⟩), .int .i64 wd] 143)))
    exact⟨h2.os,h2.tape,h2.output,h2.size,h2.block⟩
  ·have e1:j=n:=by omega
   subst e1
   have hS:Ie wr X r:=by have:=HL.out;rw[HE.out]at this;exact this.sbox
   obtain⟨c0,c1,c2,c3,c4,c5,c6,c7,c8,c9,c10,c11,c12,c13,c14⟩:=hS.cells
   have hR:Am wr w.heap.size Ah:=(HG.out.block _ (by omega) (by simp;omega)).trans HR4.out
   have HR:=Lib.hid hR
   have HBR:=Lib.hid (HBL4.out.trans (Aq HG.out (Nat.le_of_lt hwX) hs4))
   clear hS hR
   go_wp2_with ((with_reducible refine Ac 4 ?_);refine Al HR.out Ai (Bh _ _ _ _ _ _ _ _ _ _ _ _ _ _ _) ?_)
   intro w5 hw5
   go_wp2
   refine bodyPost_ret (Ic Tryz.results137 _ w5 w.heap.size 39 #[.int .i64 r.t.ser, .int .i64 r.t.kind, .int .i64 r.t.frm, .int .i64 r.t.till, .int .i64 r.t.cls, .int .i64 r.t.card, .int .i64 r.t.seat, .int .i64 r.t.day, .int .i64 r.t.days, .int .i64 r.t.uses, .int .i64 r.t.epoch, .int .i64 r.key, .int .i64 r.left, .int .i64 r.inn, .int .i64 r.ver] (0,0) _ rfl (by rw[hw5.out];exact setRow_heap _ _ _ _ _ _ HR.out) Tryz.underlying39 rfl Ai) rfl ⟨rfl, ?_⟩
   rw[hw5.out]
   exact below_setRow HBR.out (Nat.le_refl _) _
end Go.Proofs.YtmdbfogjfbbpjaaGreatDoor
end
section
namespace Go.Proofs.YtmdbfogjfbbpjaaGreatDoor
open Go.ChangeShapes Go.WideShapes Go.ChangeAt Go.RowKit Go.Shelf
attribute [local go_sem] Oper.semAt_some
theorem yT (ad:Addr):ad.add 0=ad:=by simp[Addr.add]
theorem nD (ad:Addr) (i j:Nat):(ad.add i).add j=ad.add (i+j):=by
 unfold Addr.add
 split<;>split<;>simp_all<;>omega
def Zc (A:Option Addr) (l:List Nat) (a:Option Addr) (s:List Nat):Prop:=s≠ []→ ∃o,a=A.map (fun x=>x.add o)∧ ∃t,l.drop o=s++t
theorem tV {W:World} {B:Nat} {l:List Nat} {A:Option Addr} {c:Nat} (h:Bs W B l A c) {a:Option Addr} {s:List Nat} (hp:Zc A l a s) (h63:s.length≤9223372036854775807):Bs W B s a s.length:=by
 by_cases hs:s=[]
 ·subst hs
  exact⟨by intro j u hu;simp[U8]at hu,fun _=>rfl,by simp,by simp,by simp⟩
 obtain⟨o,ha,t,ht⟩:=hp hs
 have hat: ∀k u,(U8 s)[k]?=some u→(U8 l)[o+k]?=some u:=by
  intro k u hu
  have hk:k<s.length:=by
   rcases Nat.lt_or_ge k s.length with h1|h1
   ·exact h1
   ·rw[List.getElem?_eq_none (by simpa[U8]using h1)]at hu;cases hu
  have:(l.drop o)[k]?=s[k]?:=by rw[ht,List.getElem?_append_left hk]
  rw[List.getElem?_drop]at this
  rw[U8,List.getElem?_map]at hu⊢
  rw[this];exact hu
 refine⟨fun k u hu=> ?_,fun he=> ?_,Nat.le_refl _,h63,fun x hx=>h.lt x ?_⟩
 ·obtain⟨ad,rfl,hb,hc⟩:=h.rd _ _ (hat k u hu)
  refine⟨ad.add o,ha,by rw[add_block];exact hb, ?_⟩
  rw[nD];exact hc
 ·have:0<s.length:=List.length_pos_iff.2 hs
  obtain⟨ad,rfl,hb,hc⟩:=h.rd _ _ (hat 0 _ (by rw[U8,List.getElem?_map,List.getElem?_eq_getElem this];rfl))
  rw[ha]at he;cases he
 ·have:x∈l.drop o:=by rw[ht];exact List.mem_append_left _ hx
  exact List.mem_of_mem_drop this
def Tu (A:Option Addr) (l:List Nat) (a:Option Addr) (r:List Nat):Prop:=r≠ []→ ∃o,a=A.map (fun x=>x.add o)∧l.drop o=r
theorem Ac8 (A:Option Addr) (l:List Nat):Tu A l A l:=fun _=>⟨0,by cases A<;>simp[yT],rfl⟩
theorem yU {A:Option Addr} {l:List Nat} {a:Option Addr} {r:List Nat} (h:Tu A l a r) (y:Nat):Zc A l a (r.take y):=by
 intro hs
 have hr:r≠ []:=by intro e;apply hs;rw[e];simp
 obtain⟨o,h1,h2⟩:=h hr
 exact⟨o,h1,r.drop y,by rw[h2,List.take_append_drop]⟩
theorem yV {A:Option Addr} {l:List Nat} {a a':Option Addr} {r:List Nat} {c:Nat} (h:Tu A l a r) (y:Nat) (hc:r.length≤c) (ha:a'=if c=y then a else a.map (fun x=>x.add y)):Tu A l a' (r.drop y):=by
 intro hs
 have hlt:y<r.length:=by
  rcases Nat.lt_or_ge y r.length with h1|h1
  ·exact h1
  ·exact(hs (List.drop_of_length_le h1)).elim
 have hr:r≠ []:=by intro e;rw[e]at hlt;simp at hlt
 obtain⟨o,h1,h2⟩:=h hr
 refine⟨o+y, ?_,by rw[←List.drop_drop,h2]⟩
 rw[ha,if_neg (by omega),h1]
 cases A<;>simp[nD]
abbrev Pt (A:Option Addr) (l:List Nat):= { p:Option Addr × List Nat // Zc A l p.1 p.2 }
def Aej {A:Option Addr} {l:List Nat} (x:Pt A l):Array Value:= #[.slice x.1.1 x.1.2.length x.1.2.length]
def On {A:Option Addr} {l:List Nat} (pre:List (Pt A l)):List (List Nat):=pre.map (fun x=>x.1.2)
theorem Tv {A:Option Addr} {l:List Nat} (pre:List (Pt A l)) (x:Pt A l):On (pre++ [x])=On pre++ [x.1.2]:=by simp[On]
theorem Zs.belowB {w w':World} {B:Nat} {l:List Int} {A:Option Addr} {c:Nat} (h:Zs w B l A c) (hb:Below B w w'):Zs w' B l A c:=⟨h.rd.below hb,h.nil,h.len,h.cap⟩
theorem Ac9 (F:Fence) (n:Nat) (hf:F.fn 185) (hro:F.round=none) (A A':Option Addr) (m c m' c':Nat) (w:World):
  CallsIn F n Tryz.prog 185 #[.slice A m c, .slice A' m' c'] w fun e w'=>e= .returned (.func (.func 221) #[] #[.pointer (some ⟨w.heap.size,0,none⟩), .pointer (some ⟨w.heap.size+1,0,none⟩)])∧w'=(w.alloc (.cells #[.slice A m c] 23)).alloc (.cells #[.slice A' m' c'] 105):=by
 refine callsIn_of_wp Tryz.func185 rfl hf ?_ hro
 simp only[Tryz.ntmps185,List.size_toArray,List.length_cons,List.length_nil,Nat.reduceAdd,Nat.reduceSub,Array.replicate_succ,Array.replicate_zero,List.push_toArray,List.append_toArray,List.nil_append,List.cons_append]
 gi_wp2
 go_ret
 exact⟨rfl,rfl⟩
theorem yW (F:Fence) (n:Nat) (hf:F.fn 221) (hro:F.round=none) (hn:1≤n) (lp BA BB n₀:Nat) (l:List Nat) (ws:List Int) (A A':Option Addr) (ml c m c':Nat) (hml:ml=l.length) (hm:m=ws.length) (hcl:l.length≤c) (hcc:c≤9223372036854775807) (hw: ∀x∈ws,0≤x∧x≤18) (hsum:(l.length:Int)=ws.sum) (h20:m≤20) (J Jx:List (Pt A l)→World→Prop)
    (hY: ∀pre x W,J pre W→pre.length<m→YieldAt F (n - 1) Tryz.prog lp (Aej x) W fun e W'=>
      (e= .returned (.bool true)∧J (pre++ [x]) W'∧Below n₀ W W')∨(e= .returned (.bool false)∧Jx (pre++ [x]) W'))
    (W:World) (hA:W.cell? ⟨BA,0,none⟩=some (.slice A ml c)) (hB:W.cell? ⟨BB,0,none⟩=some (.slice A' m c')) (hZ:Zs W n₀ ws A' c') (h0:J [] W):
    CallsIn F n Tryz.prog 221 #[.func (.yield lp) #[] #[], .pointer (some ⟨BA,0,none⟩), .pointer (some ⟨BB,0,none⟩)] W fun e W'=>(∃v,e= .returned v)∧
      ((∃ys,On ys=Fe l ws∧J ys W')∨(∃pre,(∃t,Fe l ws=On pre++t)∧Jx pre W')):=by
  have HA:=Lib.hid hA
  have HB:=Lib.hid hB
  have HZ:=Lib.hid hZ
  have HW:=Lib.hid hw
  have HM:=Lib.hid hm
  have HML:=Lib.hid hml
  have HSUM:=Lib.hid hsum
  have HCL:=Lib.hid (show ml≤c by rw[hml];exact hcl)
  clear hZ hw hm hml hsum hcl
  refine callsIn_of_wp Tryz.func221 rfl hf ?_ hro
  simp only[Tryz.ntmps221,List.size_toArray,List.length_cons,List.length_nil,Nat.reduceAdd,Nat.reduceSub,Array.replicate_succ,Array.replicate_zero,List.push_toArray,List.append_toArray,List.nil_append,List.cons_append]
  gi_wp2
  gi_loopw [4,10] (fun v i wr=> ∃(k:Nat) (pre:List (Pt A l)) (r:List Nat) (a:Option Addr) (mr cr:Nat),k≤m∧i= .int .i64 (k:Int)∧v= .slice a mr cr∧mr=r.length∧pre.length=k∧Fe l ws=On pre++Fe r (ws.drop k)∧(r.length:Int)=(ws.drop k).sum∧mr≤cr∧cr≤9223372036854775807∧Tu A l a r∧J pre wr∧Below n₀ W wr)
    (fun _ i _=>m - (intOf i).toNat)
  case atStart=>exact⟨0,[],l,A,ml,c,Nat.zero_le _,rfl,rfl,HML.out,rfl,rfl,HSUM.out,HCL.out,hcc,Ac8 A l,h0,Below.refl _ _⟩
  case round=>
    obtain⟨k,pre,r,a,mr,cr,hk,rfl,rfl,hmr,hpk,hcut,hs,hrc,hcr,hrest,hJ,hbl⟩:=hrel
    have HMR:=Lib.hid hmr
    have HPK:=Lib.hid hpk
    have HCUT:=Lib.hid hcut
    have HS:=Lib.hid hs
    have HREST:=Lib.hid hrest
    have HBL:=Lib.hid hbl
    clear hmr hpk hcut hs hrest hbl
    by_cases hlt:k<m
    · have hkw:k<ws.length:=by rw[←HM.out];exact hlt
      obtain⟨y,hy⟩: ∃y,ws[k]?=some y:=⟨_,List.getElem?_eq_getElem hkw⟩
      have hdw:ws.drop k=y::ws.drop (k+1):=by rw[Hv hkw];congr 1;rw[List.getElem?_eq_getElem hkw]at hy;exact Option.some.inj hy
      obtain⟨hy0,hy18⟩:=HW.out y (List.mem_of_getElem? hy)
      obtain⟨Y,rfl⟩: ∃Y:Nat,y=Y:=⟨y.toNat,by omega⟩
      have hsr:=Oc (ws.drop (k+1)) (fun x hx=>HW.out x (List.mem_of_mem_drop hx))
      have hss:=HS.out
      rw[hdw,List.sum_cons]at hss
      have hYr:Y≤mr:=by have:=HMR.out;omega
      have hsd:((r.drop Y).length:Int)=(ws.drop (k+1)).sum:=by rw[List.length_drop];have:=HMR.out;omega
      have hcut2:Fe l ws=On pre++(r.take Y::Fe (r.drop Y) (ws.drop (k+1))):=by rw[HCUT.out,hdw,Fe,Int.toNat_natCast]
      obtain⟨ad',rfl,hb',hc'⟩:=(HZ.out.belowB HBL.out).at hy
      have HSD:=Lib.hid hsd
      have HC2:=Lib.hid hcut2
      have b1:(0:Int)≤(k:Int):=by omega
      have b2:(k:Int)<(m:Int):=by omega
      have b3:(Y:Int)≤(cr:Int):=by omega
      have b4:(Y:Int)≤(mr:Int):=by omega
      have b5:Y≤cr:=by omega
      clear hkw hy hdw hsr hss hsd hcut2
      have htl:(r.take Y).length=Y:=by rw[List.length_take];have:=HMR.out;omega
      obtain⟨fn,tmps,assign,body,hy,hR⟩:=hY pre ⟨(a,r.take Y),yU HREST.out Y⟩ wr hJ (by rw[HPK.out];exact hlt)
      dsimp only[Aej]at hy
      rw[htl]at hy
      have HR:=Lib.hid hR
      have HLT:=Lib.hid hlt
      have w1:IntKind.i64.wrap ((k:Int)+1)=(k:Int)+1:=IntWalk.i64_in _ (by omega)
      clear htl hR hJ hlt
      gi_wp2
      refine HR.out.mono ?_
      rintro e' W3 (⟨rfl,hJ3,hk3⟩|⟨rfl,hJx3⟩)
      · have HJ3:=Lib.hid hJ3
        have HK3:=Lib.hid hk3
        clear hJ3 hk3 HR hy
        obtain⟨a2,ha2⟩: ∃a2,a2=if cr=Y then a else a.map (fun x=>x.add Y):=⟨_,rfl⟩
        have HRD:=Lib.hid (yV HREST.out Y (by rw[←HMR.out];exact hrc) ha2)
        have hnew: ∀(i v:Value),i= .int .i64 ((k:Int)+1)→v= .slice a2 (mr - Y) (cr - Y)→ ∃(k:Nat) (pre:List (Pt A l)) (r:List Nat) (a:Option Addr) (mr cr:Nat),k≤m∧i= .int .i64 (k:Int)∧v= .slice a mr cr∧mr=r.length∧pre.length=k∧Fe l ws=On pre++Fe r (ws.drop k)∧(r.length:Int)=(ws.drop k).sum∧mr≤cr∧cr≤9223372036854775807∧Tu A l a r∧J pre W3∧Below n₀ W W3:=fun i v hi hv=>
          ⟨k+1,_,r.drop Y,a2,mr - Y,cr - Y,by have:=HLT.out;omega,by rw[hi];rfl,hv,by rw[List.length_drop, ←HMR.out],by rw[List.length_append,HPK.out];rfl,by rw[Tv,List.append_assoc];exact HC2.out,HSD.out,by omega,by omega,HRD.out,HJ3.out,HBL.out.trans HK3.out⟩
        have HNEW:=Lib.hid hnew
        clear hnew
        by_cases hcy:cr=Y
        · rw[if_pos hcy]at ha2
          subst ha2
          gi_wp2
          go_roundw
          case rel=>exact HNEW.out _ _ rfl (by rw[hcy,Nat.sub_self])
          case measure=>have:=HLT.out;simp[intOf];omega
        · rw[if_neg hcy]at ha2
          subst ha2
          gi_wp2
          go_roundw
          case rel=>exact HNEW.out _ _ rfl rfl
          case measure=>have:=HLT.out;simp[intOf];omega
      · gi_wp2
        refine bodyPost_ret (results_none rfl _ _ _) rfl ?_
        exact⟨⟨_,rfl⟩, .inr ⟨_,⟨Fe (r.drop Y) (ws.drop (k+1)),by rw[Tv,List.append_assoc];exact HC2.out⟩,hJx3⟩⟩
    · obtain rfl:k=m:=by omega
      have e1:ws.drop k=[]:=List.drop_of_length_le (by rw[←HM.out];omega)
      have hJe:On pre=Fe l ws:=by have:=HCUT.out;rw[e1,Fe,List.append_nil]at this;exact this.symm
      have HJE:=Lib.hid hJe
      clear e1 hJe
      gi_wp2
      go_end0
      exact⟨⟨_,rfl⟩, .inl ⟨pre,HJE.out,hJ⟩⟩
theorem nE (F:Fence) (n:Nat) (hf:F.fn 221) (hro:F.round=none) (hn:1≤n) (BA BB n₀:Nat) (l:List Nat) (ws:List Int) (A A':Option Addr) (ml c m c':Nat) (hml:ml=l.length) (hm:m=ws.length) (hcl:l.length≤c) (hcc:c≤9223372036854775807) (hw: ∀x∈ws,0≤x∧x≤18) (hsum:(l.length:Int)=ws.sum) (h20:m≤20) (w:World) (hn₀:n₀≤w.heap.size) (hBA:BA<w.heap.size) (hBB:BB<w.heap.size)
  (hA:w.cell? ⟨BA,0,none⟩=some (.slice A ml c)) (hB:w.cell? ⟨BB,0,none⟩=some (.slice A' m c')) (hZ:Zs w n₀ ws A' c'):
  SeqStopsK F n Tryz.prog 221 #[.pointer (some ⟨BA,0,none⟩), .pointer (some ⟨BB,0,none⟩)] (Aej (A:=A) (l:=l)) (Below n₀) (fun ys=>On ys=Fe l ws) (fun pre=> ∃t,Fe l ws=On pre++t) m w:=fun lp J Jx W hW _ _ hY h0=>
 yW F n hf hro hn lp BA BB n₀ l ws A A' ml c m c' hml hm hcl hcc hw hsum h20 J Jx hY W ((hW.cell (p:=⟨BA,0,none⟩) hBA).trans hA) ((hW.cell (p:=⟨BB,0,none⟩) hBB).trans hB) (hZ.belowB (hW.mono hn₀)) h0
end Go.Proofs.YtmdbfogjfbbpjaaGreatDoor
end
section
namespace Go.Proofs.YtmdbfogjfbbpjaaGreatDoor
open Go.ChangeShapes Go.WideShapes Go.ChangeAt Go.RowKit
theorem Qj (ws:List Int) (n:Nat) (hn:n=ws.length) (S E:Int) (h:Hp ws=(S,E)) (A:Option Addr) (c:Nat) (w:World) (hA:Zs w w.heap.size ws A c):
  Calls Tryz.prog 184 #[.slice A n c] w fun e w'=>e= .returned (.tuple #[.int .i64 S, .int .i64 E])∧w=w':=by
 have h63:n≤9223372036854775807:=by have:=hA.len;have:=hA.cap;omega
 have HN:=Lib.hid hn
 have HA:=Lib.hid hA
 have HE:=Lib.hid h
 clear hn hA h
 by_cases h1:20<n
 ·have h2:Hp ws=(0,1):=by rw[Hp,if_pos (by rw[←HN.out];exact h1)]
  obtain⟨rfl,rfl⟩:S=0∧E=1:=by have:=HE.out;rw[h2]at this;exact⟨(Prod.mk.inj this).1.symm,(Prod.mk.inj this).2.symm⟩
  clear HE h2
  go_enter Tryz.func184, Tryz.ntmps184
  go_wp2
  go_ret2
  exact⟨rfl,rfl⟩
 have h20:n≤20:=by omega
 have HR:=Lib.hid (show Nb ws 0=(S,E) by rw[←HE.out,Hp,if_neg (by rw[←HN.out];exact h1)])
 clear h1 HE
 go_enter Tryz.func184, Tryz.ntmps184
 go_wp2
 go_loop [4,12] (fun t i=> ∃(k:Nat) (s:Int),k≤n∧i= .int .i64 k∧t= .int .i64 s∧0≤s∧s≤18*(k:Int)∧Nb (ws.drop k) s=(S,E)) (fun _ i=>n - (intOf i).toNat)
 case atStart=>exact⟨0,0,Nat.zero_le _,rfl,rfl,by omega,by omega,HR.out⟩
 case round=>
  obtain⟨k,s,hk,rfl,rfl,hs0,hs1,hr⟩:=hrel
  have HRR:=Lib.hid hr
  clear hr
  by_cases hlt:k<n
  ·have hkw:k<ws.length:=by rw[←HN.out];exact hlt
   obtain⟨y,hy⟩: ∃y,ws[k]?=some y:=⟨_,List.getElem?_eq_getElem hkw⟩
   have hdw:ws.drop k=y::ws.drop (k+1):=by rw[Hv hkw];congr 1;rw[List.getElem?_eq_getElem hkw]at hy;exact Option.some.inj hy
   obtain⟨ad',rfl,hb',hc'⟩:=HA.out.at hy
   have hj:=HRR.out
   rw[hdw,Nb]at hj
   have b1:(0:Int)≤(k:Int):=by omega
   have b2:(k:Int)<(n:Int):=by omega
   clear hkw hy hdw HRR
   by_cases h0:0≤y∧y≤18
   ·rw[if_pos h0]at hj
    have HJ:=Lib.hid hj
    have hd:=decide_eq_true h0
    have w1:IntKind.i64.wrap (s+y)=s+y:=IntWalk.i64_in _ (by omega)
    have HD:=Lib.hid hd
    clear hj hd
    go_wp2_with (go_at_call 215;refine(Hr y true HD.out _).mono ?_;rintro e w1 ⟨rfl,rfl⟩)
    go_round
    case rel=>exact⟨k+1,s+y,by omega,by go_num,by go_num,by omega,by omega,HJ.out⟩
    case measure=>simp[intOf];omega
   ·rw[if_neg h0]at hj
    obtain⟨rfl,rfl⟩:S=0∧E=1:=⟨(Prod.mk.inj hj).1.symm,(Prod.mk.inj hj).2.symm⟩
    have HD:=Lib.hid (decide_eq_false h0)
    clear hj h0
    go_wp2_with (go_at_call 215;refine(Hr y false HD.out _).mono ?_;rintro e w1 ⟨rfl,rfl⟩)
    go_ret2
    exact⟨rfl,rfl⟩
  ·have e1:k=n:=by omega
   subst e1
   have hj:=HRR.out
   rw[List.drop_of_length_le (by rw[←HN.out];omega),Nb]at hj
   obtain⟨rfl,rfl⟩:S=s∧E=0:=⟨(Prod.mk.inj hj).1.symm,(Prod.mk.inj hj).2.symm⟩
   clear HRR hj
   go_wp2
   go_ret2
   exact⟨rfl,rfl⟩
end Go.Proofs.YtmdbfogjfbbpjaaGreatDoor
end
section
namespace Go.Proofs.YtmdbfogjfbbpjaaGreatDoor
open Go.ChangeShapes Go.WideShapes Go.ChangeAt Go.RowKit Go.Shelf
attribute [local go_sem] Oper.semAt_some
def Mk {A:Option Addr} {l:List Nat} (pre:List (Pt A l)):List Int:=pre.map (fun x=>(((Bt x.1.2).2:Nat):Int))
def Aek {A:Option Addr} {l:List Nat} (pre:List (Pt A l)):Prop:= ∀x∈pre,(Bt x.1.2).1=0
theorem yX {A:Option Addr} {l:List Nat} (pre:List (Pt A l)) (x:Pt A l):Mk (pre++ [x])=Mk pre++ [(((Bt x.1.2).2:Nat):Int)]:=by simp[Mk]
theorem Tw {A:Option Addr} {l:List Nat} : ∀(pre:List (Pt A l)) (t:List (List Nat)) (o:List Int),Aek pre→Df (On pre++t) o=Df t (o++Mk pre)
 |[],t,o,_=>by simp[On,Mk]
 |x::pre,t,o,h=>by
  have h1:=h x (by simp)
  rw[On,List.map_cons,List.cons_append,Df,if_pos h1]
  have:=Tw pre t (o++ [(((Bt x.1.2).2:Nat):Int)]) (fun y hy=>h y (by simp[hy]))
  rw[On]at this
  rw[this];simp[Mk]
theorem AcA {A:Option Addr} {l:List Nat} {a:Option Addr} {s:List Nat} (h:Zc A l a s):s.length≤l.length:=by
 by_cases hs:s=[]
 ·subst hs;simp
 ·obtain⟨o,_,t,ht⟩:=h hs
  have:=congrArg List.length ht
  rw[List.length_append,List.length_drop]at this
  omega
theorem Ael (x:Int): ∀u∈([.int .i64 x]:List Value),u.oneCell'=true:=by
 intro u hu
 simp at hu
 subst hu
 rfl
theorem rK (l:List Nat) (ws:List Int) (ml m:Nat) (hml:ml=l.length) (hm:m=ws.length) (S E:Int) (hT:Hp ws=(S,E)) (hE:E≠0) (A A':Option Addr) (c c':Nat) (w:World) (hA:Bs w w.heap.size l A c) (hA':Zs w w.heap.size ws A' c'):
  Calls Tryz.prog 136 #[.slice A ml c, .slice A' m c'] w fun e w'=>e= .returned (.tuple #[.slice none 0 0, .int .i64 E])∧Below w.heap.size w w':=by
 have HM:=Lib.hid hm
 have HT:=Lib.hid hT
 have HA':=Lib.hid hA'
 have hne:(E !=0)=true:=by rw[bne_iff_ne];exact hE
 obtain⟨W2,hW2⟩: ∃W2,(w.alloc (.cells #[.slice none 0 0] 105)).alloc (.cells #[.int .i64 0] 27)=W2:=⟨_,rfl⟩
 have hb2:Below w.heap.size w W2:=by rw[←hW2];exact((Below.refl _ w).alloc (Nat.le_refl _) _).alloc (by simp) _
 have b4:Boxed W2 w.heap.size 105 (.slice none 0 0):=by rw[←hW2];exact(Boxed.new w _ _).alloc _
 have b5:Boxed W2 (w.heap.size+1) 27 (.int .i64 0):=by rw[←hW2];have:=Boxed.new (w.alloc (.cells #[.slice none 0 0] 105)) 27 (.int .i64 0);rwa[World.size_alloc]at this
 have HB2:=Lib.hid hb2
 have HW2:=Lib.hid hW2
 have c4:=b4.cell
 have c5:=b5.cell
 have f4:=b4.frozen
 have f5:=b5.frozen
 have B4:=Lib.hid b4
 have B5:=Lib.hid b5
 clear hm hT hA' hb2 hW2 b4 b5
 go_enter Tryz.func136, Tryz.ntmps136
 go_wp2_with fail
 rw[HW2.out]
 refine(Qj ws m HM.out S E HT.out A' c' W2 (HA'.out.next HB2.out)).mono ?_
 rintro e w1 ⟨rfl,rfl⟩
 have d5:=(B5.out.other (B':=w.heap.size) (by omega) (.slice none 0 0)).cell
 have d5f:=(B5.out.other (B':=w.heap.size) (by omega) (.slice none 0 0)).frozen
 go_wp2
 have b4':=(B4.out.set (.slice none 0 0)).other (B':=w.heap.size+1) (by omega) (.int .i64 E)
 have b5':=(B5.out.other (B':=w.heap.size) (by omega) (.slice none 0 0)).set (.int .i64 E)
 have e4:=b4'.cell
 have e5:=b5'.cell
 refine bodyPost_ret (v:= .tuple #[.slice none 0 0, .int .i64 E]) (by simp[results, Tryz.results136,go_sem,e4,e5]) rfl ?_
 exact⟨rfl,(HB2.out.setCell (p:=⟨w.heap.size,0,none⟩) (Nat.le_refl _) _).setCell (p:=⟨w.heap.size+1,0,none⟩) (by simp) _⟩
theorem rL (l:List Nat) (ws:List Int) (ml m:Nat) (hml:ml=l.length) (hm:m=ws.length) (S:Int) (hT:Hp ws=(S,0)) (hE:(ml:Int)≠S) (A A':Option Addr) (c c':Nat) (w:World) (hA:Bs w w.heap.size l A c) (hA':Zs w w.heap.size ws A' c'):
  Calls Tryz.prog 136 #[.slice A ml c, .slice A' m c'] w fun e w'=>e= .returned (.tuple #[.slice none 0 0, .int .i64 14])∧Below w.heap.size w w':=by
 have HM:=Lib.hid hm
 have HT:=Lib.hid hT
 have HA':=Lib.hid hA'
 have hne:((ml:Int) !=S)=true:=by rw[bne_iff_ne];exact hE
 have h63:ml≤9223372036854775807:=by have:=hA.len;have:=hA.cap;omega
 obtain⟨W2,hW2⟩: ∃W2,(w.alloc (.cells #[.slice none 0 0] 105)).alloc (.cells #[.int .i64 0] 27)=W2:=⟨_,rfl⟩
 have hb2:Below w.heap.size w W2:=by rw[←hW2];exact((Below.refl _ w).alloc (Nat.le_refl _) _).alloc (by simp) _
 have b4:Boxed W2 w.heap.size 105 (.slice none 0 0):=by rw[←hW2];exact(Boxed.new w _ _).alloc _
 have b5:Boxed W2 (w.heap.size+1) 27 (.int .i64 0):=by rw[←hW2];have:=Boxed.new (w.alloc (.cells #[.slice none 0 0] 105)) 27 (.int .i64 0);rwa[World.size_alloc]at this
 have HB2:=Lib.hid hb2
 have HW2:=Lib.hid hW2
 have c4:=b4.cell
 have c5:=b5.cell
 have f4:=b4.frozen
 have f5:=b5.frozen
 have B4:=Lib.hid b4
 have B5:=Lib.hid b5
 clear hm hml hA hT hA' hb2 hW2 b4 b5
 go_enter Tryz.func136, Tryz.ntmps136
 go_wp2_with fail
 rw[HW2.out]
 refine(Qj ws m HM.out S 0 HT.out A' c' W2 (HA'.out.next HB2.out)).mono ?_
 rintro e w1 ⟨rfl,rfl⟩
 have d5:=(B5.out.other (B':=w.heap.size) (by omega) (.slice none 0 0)).cell
 have d5f:=(B5.out.other (B':=w.heap.size) (by omega) (.slice none 0 0)).frozen
 go_wp2
 have b4':=(B4.out.set (.slice none 0 0)).other (B':=w.heap.size+1) (by omega) (.int .i64 14)
 have b5':=(B5.out.other (B':=w.heap.size) (by omega) (.slice none 0 0)).set (.int .i64 14)
 have e4:=b4'.cell
 have e5:=b5'.cell
 refine bodyPost_ret (v:= .tuple #[.slice none 0 0, .int .i64 14]) (by simp[results, Tryz.results136,go_sem,e4,e5]) rfl ?_
 exact⟨rfl,(HB2.out.setCell (p:=⟨w.heap.size,0,none⟩) (Nat.le_refl _) _).setCell (p:=⟨w.heap.size+1,0,none⟩) (by simp) _⟩
theorem AcB (n:Nat) (hn:4≤n) (l:List Nat) (ws:List Int) (ml m:Nat) (hml:ml=l.length) (hm:m=ws.length) (S:Int) (hT:Hp ws=(S,0)) (hS:(l.length:Int)=S) (E:Int) (p:List Int) (hR:Df (Fe l ws) []=(E,p)) (A A':Option Addr) (c c':Nat) (w:World) (hA:Bs w w.heap.size l A c) (hA':Zs w w.heap.size ws A' c'):
    CallsIn Fence.wide n Tryz.prog 136 #[.slice A ml c, .slice A' m c'] w fun e w'=> ∃A2 c2,e= .returned (.tuple #[.slice A2 (p.length:Nat) c2, .int .i64 E])∧Zs w' w'.heap.size p A2 c2∧Below w.heap.size w w':=by
  have h1:1≤n:=by omega
  obtain⟨i0,hi,hz0,hz1,hz2⟩:=info_parts Gp
  obtain⟨hws20,hw18,hsum⟩:=Vl (ws:=ws) (by rw[hT])
  have hsum2:(l.length:Int)=ws.sum:=by rw[hS, ←hsum,hT]
  have hlen:=Oc ws hw18
  have hm20:m≤20:=by omega
  have h63:ml≤360:=by omega
  have hmlS:((ml:Int) !=S)=false:=by rw[bne_eq_false_iff_eq,hml];exact hS
  have HML:=Lib.hid hml
  have HM:=Lib.hid hm
  have HT:=Lib.hid hT
  have HR:=Lib.hid hR
  have HA:=Lib.hid hA
  have HA':=Lib.hid hA'
  have HW18:=Lib.hid hw18
  have HSUM:=Lib.hid hsum2
  clear hml hm hT hR hA hA' hS hws20 hw18 hsum hsum2 hlen
  obtain⟨W2,hW2⟩: ∃W2,(w.alloc (.cells #[.slice none 0 0] 105)).alloc (.cells #[.int .i64 0] 27)=W2:=⟨_,rfl⟩
  have hb2:Below w.heap.size w W2:=by rw[←hW2];exact((Below.refl _ w).alloc (Nat.le_refl _) _).alloc (by simp) _
  have b4:Boxed W2 w.heap.size 105 (.slice none 0 0):=by rw[←hW2];exact(Boxed.new w _ _).alloc _
  have b5:Boxed W2 (w.heap.size+1) 27 (.int .i64 0):=by rw[←hW2];have:=Boxed.new (w.alloc (.cells #[.slice none 0 0] 105)) 27 (.int .i64 0);rwa[World.size_alloc]at this
  have hs2:W2.heap.size=w.heap.size+1+1:=by rw[←hW2];simp
  have HB2:=Lib.hid hb2
  have HW2:=Lib.hid hW2
  have B4:=Lib.hid b4
  have B5:=Lib.hid b5
  clear hb2 hW2 b4 b5
  refine callsIn_of_wp_marks Tryz.func136 rfl trivial ?_ rfl
  simp only[Tryz.ntmps136,List.size_toArray,List.length_cons,List.length_nil,Nat.reduceAdd,Nat.reduceSub,Array.replicate_succ,Array.replicate_zero,List.push_toArray,List.append_toArray,List.nil_append,List.cons_append]
  gi_wp2
  rw[HW2.out]
  refine⟨trivial,(callsIn_wide.2 (Qj ws m HM.out S 0 HT.out A' c' W2 (HA'.out.next HB2.out))).mono ?_⟩
  rintro e w1 ⟨rfl,rfl⟩
  gi_wp2_with (gi_at_make;refine wpListIn_make_own _ rfl _ _ 105 rfl w.heap.size 3 i0 (.int .i64 0) 1 Tryz.underlying105 hi hz0 hz1 _ _ _ m rfl rfl rfl ?b2 ?b3 ?b4 ?_)
  case b2=>rw[hz2];omega
  case b3=>unfold maxLen;omega
  case b4=>omega
  intro w3 hown hg3
  have hg6:w.heap.size+1+1<w3.heap.size:=by
    obtain⟨h0,hrow⟩:=hown
    rcases hrow with⟨e,_⟩|⟨g,cap,cur,e,_,hgb,_⟩
    · cases e
    · cases e;exact(Array.getElem?_eq_some_iff.1 hgb).1
  have hb3:Below w.heap.size w w3:=HB2.out.grown hg3 (by omega) (fun j hj=>by cases hj)
  have b43:=B4.out.kept hg3 (fun e=>by cases e)
  have b53:=B5.out.kept hg3 (fun e=>by cases e)
  obtain⟨X,hX⟩: ∃X,X=w3.heap.size:=⟨_,rfl⟩
  have hXg:w.heap.size+1+1<X:=by omega
  obtain⟨W4,hW4⟩: ∃W4,w3.alloc (.cells #[.slice (some ⟨w.heap.size+1+1,0,none⟩) 0 m] 105)=W4:=⟨_,rfl⟩
  have hs4:W4.heap.size=X+1:=by rw[←hW4,hX];simp
  have b74:Boxed W4 X 105 (.slice (some ⟨w.heap.size+1+1,0,none⟩) 0 m):=by rw[←hW4,hX];exact Boxed.new w3 _ _
  have b44:Boxed W4 w.heap.size 105 (.slice none 0 0):=by rw[←hW4];exact b43.alloc _
  have b54:Boxed W4 (w.heap.size+1) 27 (.int .i64 0):=by rw[←hW4];exact b53.alloc _
  have hb4:Below w.heap.size w W4:=by rw[←hW4];exact hb3.alloc (by omega) _
  have hr4:W4.ownsRow w.heap.size 3 1 (.slice (some ⟨w.heap.size+1+1,0,none⟩) 0 m) 0 []:=by rw[←hW4];exact hown.alloc _
  have HW4:=Lib.hid hW4
  have HB43:=Lib.hid b44
  have HB53:=Lib.hid b54
  have HB73:=Lib.hid b74
  have HB4:=Lib.hid hb4
  have HR4:=Lib.hid hr4
  clear hown hg3 hb3 b43 b53 b44 b54 b74 hb4 hr4 hW4
  gi_wp2
  rw[HW4.out, ←hX]
  clear hX
  refine⟨trivial,(Ac9 Fence.wide (n - 1) trivial rfl _ _ _ _ _ _ _).mono ?_⟩
  rintro e w' ⟨rfl,rfl⟩
  obtain⟨W0,hW0⟩: ∃W0,(W4.alloc (.cells #[.slice A ml c] 23)).alloc (.cells #[.slice A' m c'] 105)=W0:=⟨_,rfl⟩
  have hs0:W0.heap.size=X+1+1+1:=by rw[←hW0];simp[hs4]
  have b40:Boxed W0 w.heap.size 105 (.slice none 0 0):=by rw[←hW0];exact(HB43.out.alloc _).alloc _
  have b50:Boxed W0 (w.heap.size+1) 27 (.int .i64 0):=by rw[←hW0];exact(HB53.out.alloc _).alloc _
  have b70:Boxed W0 X 105 (.slice (some ⟨w.heap.size+1+1,0,none⟩) 0 m):=by rw[←hW0];exact(HB73.out.alloc _).alloc _
  have b80:Boxed W0 (X+1) 23 (.slice A ml c):=by rw[←hW0, ←hs4];exact(Boxed.new W4 _ _).alloc _
  have b90:Boxed W0 (X+1+1) 105 (.slice A' m c'):=by rw[←hW0];have:=Boxed.new (W4.alloc (.cells #[.slice A ml c] 23)) 105 (.slice A' m c');rwa[World.size_alloc,hs4]at this
  have hb0:Below w.heap.size w W0:=by rw[←hW0];exact(HB4.out.alloc (by omega) _).alloc (by simp;omega) _
  have hr0:W0.ownsRow w.heap.size 3 1 (.slice (some ⟨w.heap.size+1+1,0,none⟩) 0 m) 0 []:=by rw[←hW0];exact(HR4.out.alloc _).alloc _
  gi_wp2
  clear hW0
  have hK1:1≤n - 1:=by omega
  refine wpIn_rangeFunc_ownG rfl h1 (gf:= 221) (lb:= #[.pointer (some ⟨X+1,0,none⟩), .pointer (some ⟨X+1+1,0,none⟩)]) rfl trivial (enters_of Tryz.func221 (by kernel_rfl) rfl)
    (nE Fence.wide (n - 1) trivial rfl hK1 (X+1) (X+1+1) w.heap.size l ws A A' ml c m c' HML.out HM.out HA.out.len HA.out.cap HW18.out HSUM.out hm20 W0 (by omega) (by omega) (by omega) b80.cell b90.cell (HA'.out.belowB hb0)) belowK_t (belowK_b (by omega)) (Below.refl _ _) (fun _=>rfl)
    (fun pre W=>((∃v,Boxed W X 105 v∧W.ownsRow w.heap.size 3 1 v (Mk pre).length (I64 (Mk pre))∧True)∧(Aek pre∧Boxed W w.heap.size 105 (.slice none 0 0)∧Boxed W (w.heap.size+1) 27 (.int .i64 0)∧X+1+1+1≤W.heap.size))∧Below w.heap.size w W)
    (fun cc pre W=>(cc= .ret∧ ∃(ini:List (Pt A l)) (z:Pt A l),pre=ini++ [z]∧Aek ini∧(Bt z.1.2).1≠0∧Boxed W w.heap.size 105 (.slice none 0 0)∧Boxed W (w.heap.size+1) 27 (.int .i64 (Bt z.1.2).1))∧Below w.heap.size w W)
    (OwnFrom.and (OwnFrom.and (Own.from (holdsRow_own w.heap.size X 105 3 1 (fun pre=>(Mk pre).length) (fun pre=>I64 (Mk pre)) (fun _ _=>True)) _) (Own.from (fun s P Q row hs hg hr=>⟨hs.1,hs.2.1.kept hg (fun e=>by obtain⟨o,h1,h2⟩:=hr _ e.symm;rw[show P.heap[w.heap.size]?=_ from hs.2.1]at h1;cases h1;cases h2),hs.2.2.1.kept hg (fun e=>by obtain⟨o,h1,h2⟩:=hr _ e.symm;rw[show P.heap[w.heap.size+1]?=_ from hs.2.2.1]at h1;cases h1;cases h2),Nat.le_trans hs.2.2.2 hg.size⟩) _)) (ownFrom_below (Nat.le_refl _) (by omega)))
    (fun cc=>OwnFrom.and (Own.from (fun s P Q row hs hg hr=>by
      obtain⟨hc,ini,z,e1,e2,e3,e4,e5⟩:=hs
      exact⟨hc,ini,z,e1,e2,e3,e4.kept hg (fun e=>by obtain⟨o,h1,h2⟩:=hr _ e.symm;rw[show P.heap[w.heap.size]?=_ from e4]at h1;cases h1;cases h2),e5.kept hg (fun e=>by obtain⟨o,h1,h2⟩:=hr _ e.symm;rw[show P.heap[w.heap.size+1]?=_ from e5]at h1;cases h1;cases h2)⟩) _) (ownFrom_below (Nat.le_refl _) (by omega)))
    ⟨⟨⟨_,b70,hr0,trivial⟩,(fun y hy=>by cases hy),b40,b50,by omega⟩,hb0⟩
    (fun x=> { tmps:= #[.slice A ml c, .slice A' m c',undef,undef, .pointer (some ⟨w.heap.size,0,none⟩), .pointer (some ⟨w.heap.size+1,0,none⟩), .int .i64 S, .int .i64 0, .pointer (some ⟨X,0,none⟩), .slice x.1.1 x.1.2.length x.1.2.length,undef,undef, .tuple #[.int .i64 S, .int .i64 0], .slice A' m c', .tuple #[.int .i64 S, .int .i64 0], .int .i64 S, .int .i64 0, .int .i64 0, .bool false,undef, .slice A ml c, .int .i64 (ml:Int), .int .i64 S, .bool false, .slice A' m c', .int .i64 (m:Int), .slice (some ⟨w.heap.size+1+1,0,none⟩) 0 m, .slice A ml c, .slice A' m c', .func (.func 221) #[] #[.pointer (some ⟨X+1,0,none⟩), .pointer (some ⟨X+1+1,0,none⟩)], .slice x.1.1 x.1.2.length x.1.2.length,undef,undef,undef,undef,undef,undef,undef,undef,undef,undef,undef,undef,undef],defers:=[] }) ?assign ?body ?done ?stop
  case assign=>
    intro lp x W K hK
    dsimp only[Aej]
    gi_wp2
    exact hK
  case body=>
    rintro lp pre x W ⟨⟨⟨v,h7,hrow, -⟩,hgood,h4,h5,hX3⟩,hB⟩ hlt
    have hbs:Bs W W.heap.size x.1.2 x.1.1 x.1.2.length:=(tV (HA.out.below hB) x.2 (by have:=AcA x.2;have:=HML.out;omega)).more hB.size
    obtain⟨eg,zg,hg⟩: ∃eg zg,Bt x.1.2=(eg,zg):=⟨_,_,rfl⟩
    have hnum:Mk (pre++ [x])=Mk pre++ [((zg:Nat):Int)]:=by rw[yX,hg]
    have hpl:(Mk pre).length<m:=by rw[Mk,List.length_map];exact hlt
    obtain⟨k,hk⟩: ∃k,k=x.1.2.length:=⟨_,rfl⟩
    have hget:=dN x.1.2 k hk eg zg hg x.1.1 k W (by rw[hk];exact hbs)
    have hgx:(Bt x.1.2).1=eg:=by rw[hg]
    have hgd:eg=0→Aek (pre++ [x]):=fun e0 y hy=>(List.mem_append.1 hy).elim (hgood y) (fun e=>by simp only[List.mem_singleton]at e;subst e;rw[hgx,e0])
    rw[←hk]
    obtain⟨ap,hap⟩: ∃ap,ap=x.1.1:=⟨_,rfl⟩
    rw[←hap]at hget⊢
    have hc7:=h7.cell
    have hc4:=h4.cell
    have hc5:=h5.cell
    have hf4:=h4.frozen
    have hf5:=h5.frozen
    have H7:=Lib.hid h7
    have HRW:=Lib.hid hrow
    have H4:=Lib.hid h4
    have H5:=Lib.hid h5
    have HGX:=Lib.hid hgx
    have HGD:=Lib.hid hgd
    have HGO:=Lib.hid hgood
    have HNUM:=Lib.hid hnum
    have HBB:=Lib.hid hB
    have HGET:=Lib.hid hget
    have HPL:=Lib.hid hpl
    clear h7 hrow h4 h5 hgx hgd hgood hnum hB hget hbs hg hk hap hpl b80 b90 b70 b40 b50
    have hn2:1≤n - 1 - 1:=by omega
    by_cases e0:eg=0
    · subst e0
      obtain⟨j,hj⟩: ∃j,j=(Mk pre).length:=⟨_,rfl⟩
      have hjm:j<m:=by rw[hj];exact HPL.out
      have HJ:=Lib.hid hj
      rw[←hj]at HRW
      have hm1:j+1≤maxLen:=by unfold maxLen;omega
      have hm2:(j+1)*8≤140737488355328:=by omega
      have hsz:=HBB.out.size
      clear hj
      gi_wp2_with (first|(refine⟨trivial, ?_⟩;gi_at_call 183;refine(CallsIn.inRound lp (callsIn_wide.2 HGET.out)).mono ?_;rintro e w' ⟨rfl,rfl⟩)|(gi_at_builtin;refine wpListIn_append_own_at _ rfl _ _ 105 rfl w.heap.size 3 i0 (.int .i64 0) 1 8 Tryz.underlying105 hi hz0 hz1 hz2 rfl (by decide) v _ _ rfl (HRW.out.alloc _) ⟨W.heap.size,0,none⟩ 1 1 [.int .i64 (zg:Int)] rfl rfl (cell_one_new _ _ _) (Ael _) hm1 hm2 (by simp;omega) ?_;intro v' w1' hown' hgrow _ hat;obtain⟨g',cap',rfl⟩:=ownsRow_succ hown';obtain⟨hv1,hv2,hr2,hk2,hb2⟩:=H7.out.appended (by decide) HRW.out hsz (by omega) hown' hgrow;have hc1:=hv1.cell;have hf1:=hv1.frozen))
      refine⟨hk2.from _,hb2,⟨⟨_,hv2, ?_,trivial⟩,HGD.out (by first|trivial|rfl),((H4.out.alloc _).kept hgrow (H4.out.not_row (by decide) HRW.out)).other (by omega) _,((H5.out.alloc _).kept hgrow (H5.out.not_row (by decide) HRW.out)).other (by omega) _,Nat.le_trans hX3 hk2.size⟩,HBB.out.trans hb2⟩
      rw[HNUM.out,Ba,List.length_append, ←HJ.out]
      exact hr2
    · have hne:(eg !=0)=true:=by rw[bne_iff_ne];exact e0
      have g5:=(H5.out.other (B':=w.heap.size) (by omega) (.slice none 0 0)).cell
      have g5f:=(H5.out.other (B':=w.heap.size) (by omega) (.slice none 0 0)).frozen
      gi_wp2_with (refine⟨trivial, ?_⟩;gi_at_call 183;refine(CallsIn.inRound lp (callsIn_wide.2 HGET.out)).mono ?_;rintro e w' ⟨rfl,rfl⟩)
      have q4:=(H4.out.set (.slice none 0 0)).other (B':=w.heap.size+1) (by omega) (.int .i64 eg)
      have q5:=(H5.out.other (B':=w.heap.size) (by omega) (.slice none 0 0)).set (.int .i64 eg)
      exact⟨((KeepsOthers.setCell _ _ _).trans (KeepsOthers.setCell _ _ _)).from _,⟨rfl,pre,x,rfl,HGO.out,by rw[HGX.out];exact e0,q4,by rw[HGX.out];exact q5⟩,(HBB.out.setCell (p:=⟨w.heap.size,0,none⟩) (Nat.le_refl _) _).setCell (p:=⟨w.heap.size+1,0,none⟩) (by simp) _⟩
  case done=>
    rintro D ys W hD hys ⟨⟨⟨v,h7,hrow, -⟩,hgood,h4,h5,hX3⟩,hB⟩ hK
    have hval:Df (Fe l ws) []=(0,Mk ys):=by rw[←hys, ←List.append_nil (On ys),Tw ys [] [] hgood];rfl
    obtain⟨rfl,rfl⟩:E=0∧p=Mk ys:=by have:=HR.out;rw[hval]at this;exact⟨(Prod.mk.inj this).1.symm,(Prod.mk.inj this).2.symm⟩
    obtain⟨A2,c2,rfl, -, -⟩:=Bo hrow
    obtain⟨k,hk⟩: ∃k,k=(Mk ys).length:=⟨_,rfl⟩
    rw[←hk]at h7 hrow
    have HKL:=Lib.hid hk
    clear hk
    have hc7:=h7.cell
    have hc4:=h4.cell
    have hf4:=h4.frozen
    have g5:=(h5.other (B':=w.heap.size) (by omega) (.slice A2 k c2)).cell
    have g5f:=(h5.other (B':=w.heap.size) (by omega) (.slice A2 k c2)).frozen
    have q4:=(h4.set (.slice A2 k c2)).other (B':=w.heap.size+1) (by omega) (.int .i64 0)
    have q5:=(h5.other (B':=w.heap.size) (by omega) (.slice A2 k c2)).set (.int .i64 0)
    have hrow1:=hrow.kept (grownBy_setCell' W w.heap.size (.slice A2 k c2)) (.inr (h4.not_row (by decide) hrow).symm)
    have hrow2:=hrow1.kept (grownBy_setCell' _ (w.heap.size+1) (.int .i64 0)) (.inr ((h5.other (B':=w.heap.size) (by omega) (.slice A2 k c2)).not_row (by decide) hrow1).symm)
    have hB2:=(hB.setCell (p:=⟨w.heap.size,0,none⟩) (Nat.le_refl _) (.slice A2 k c2)).setCell (p:=⟨w.heap.size+1,0,none⟩) (by simp) (.int .i64 0)
    have hK':((W.setCell ⟨w.heap.size,0,none⟩ (.slice A2 k c2)).setCell ⟨w.heap.size+1,0,none⟩ (.int .i64 0)).heap[D]?=some (.deferred (some [])):=((KeepsOthers.setCell W ⟨w.heap.size,0,none⟩ (.slice A2 k c2)).trans (KeepsOthers.setCell _ ⟨w.heap.size+1,0,none⟩ (.int .i64 0))).same D _ hK rfl
    have HQ4:=Lib.hid q4
    have HQ5:=Lib.hid q5
    have HRW:=Lib.hid hrow2
    have HB2:=Lib.hid hB2
    have HK':=Lib.hid hK'
    clear q4 q5 hrow hrow1 hrow2 hB hB2 hK' hK h7 h4 h5 hval hys hgood b80 b90 b70 b40 b50
    gi_wp2
    refine⟨by simp, .inl ⟨_,_,rfl,run_takeDeferred HK'.out, ?_⟩⟩
    have e4:=cell_kept HQ4.out.cell (grownBy_putObj' _ D (.deferred none)) (fun r e=>by cases e;exact⟨_,HK'.out,rfl⟩)
    have e5:=cell_kept HQ5.out.cell (grownBy_putObj' _ D (.deferred none)) (fun r e=>by cases e;exact⟨_,HK'.out,rfl⟩)
    refine⟨.tuple #[.slice A2 k c2, .int .i64 0], ?_,A2,c2,by rw[HKL.out],AdN (ownsRow_putObj HRW.out (.deferred none) HK'.out rfl),HB2.out.trans (belowK_b (w:=w) (Nat.le_refl _) _ D _ _ (by omega) HK'.out rfl rfl)⟩
    simp[results, Tryz.results136,go_sem,e4,e5]
  case stop=>
    rintro D cc pre W hD ⟨t,ht⟩ ⟨⟨rfl,ini,z,e1,e2,e3,h4,h5⟩,hB⟩ hK
    have hval:Df (Fe l ws) []=((Bt z.1.2).1,[]):=by rw[ht,e1,Tv,List.append_assoc,Tw ini _ [] e2,List.singleton_append,Df,if_neg e3]
    obtain⟨he,rfl⟩:E=(Bt z.1.2).1∧p=[]:=by have:=HR.out;rw[hval]at this;exact⟨(Prod.mk.inj this).1.symm,(Prod.mk.inj this).2.symm⟩
    rw[←he]at h5
    have q4:=cell_kept h4.cell (grownBy_putObj' _ D (.deferred none)) (fun r e=>by cases e;exact⟨_,hK,rfl⟩)
    have q5:=cell_kept h5.cell (grownBy_putObj' _ D (.deferred none)) (fun r e=>by cases e;exact⟨_,hK,rfl⟩)
    have HQ4:=Lib.hid q4
    have HQ5:=Lib.hid q5
    have HK:=Lib.hid hK
    clear hval he e3 ht q4 q5 hK b80 b90 b70 b40 b50
    gi_wp2
    refine⟨by simp, .inl ⟨_,_,rfl,run_takeDeferred HK.out, ?_⟩⟩
    have q4:=HQ4.out
    have q5:=HQ5.out
    refine⟨.tuple #[.slice none 0 0, .int .i64 E], ?_,none,0,rfl,Jg _,hB.trans (belowK_b (w:=w) (Nat.le_refl _) W D _ _ (by omega) HK.out rfl rfl)⟩
    simp[results, Tryz.results136,go_sem,q4,q5]
theorem nG (l:List Nat) (ws:List Int) (ml m:Nat) (hml:ml=l.length) (hm:m=ws.length) (E:Int) (p:List Int) (hR:Bq l ws=(E,p)) (A A':Option Addr) (c c':Nat) (w:World) (hA:Bs w w.heap.size l A c) (hA':Zs w w.heap.size ws A' c'):
  Calls Tryz.prog 136 #[.slice A ml c, .slice A' m c'] w fun e w'=> ∃A2 c2,e= .returned (.tuple #[.slice A2 (p.length:Nat) c2, .int .i64 E])∧Zs w' w'.heap.size p A2 c2∧Below w.heap.size w w':=by
 obtain⟨S,e,hT⟩: ∃S e,Hp ws=(S,e):=⟨_,_,rfl⟩
 rw[Bq,hT]at hR
 by_cases he:e≠0
 ·rw[if_pos he]at hR
  obtain⟨rfl,rfl⟩:=Prod.mk.inj hR
  refine(rK l ws ml m hml hm S e hT he A A' c c' w hA hA').mono ?_
  rintro x w1 ⟨rfl,hb⟩
  exact⟨none,0,rfl,Jg _,hb⟩
 rw[if_neg he]at hR
 obtain rfl:e=0:=by omega
 by_cases hS:(l.length:Int)≠S
 ·rw[if_pos hS]at hR
  obtain⟨rfl,rfl⟩:=Prod.mk.inj hR
  refine(rL l ws ml m hml hm S hT (by rw[hml];exact hS) A A' c c' w hA hA').mono ?_
  rintro x w1 ⟨rfl,hb⟩
  exact⟨none,0,rfl,Jg _,hb⟩
 rw[if_neg hS]at hR
 exact(callsIn_wide (n:=4)).1 (AcB 4 (Nat.le_refl _) l ws ml m hml hm S hT (by omega) E p hR A A' c c' w hA hA')
end Go.Proofs.YtmdbfogjfbbpjaaGreatDoor
end
