import Derived.Test.YtmdbfogjfbbpjaaGreatDoorLayPFields
import Derived.Test.YtmdbfogjfbbpjaaGreatDoorMem
import Derived.Deep.Slices
import Derived.Deep.Fields
import Derived.Lib.SmallJoins
import Derived.Test.YtmdbfogjfbbpjaaGreatDoorTrackBackMath
set_option maxRecDepth 100000
set_option linter.unusedVariables false
section
namespace Go.Proofs.YtmdbfogjfbbpjaaGreatDoor
def Wm (l:List K) (id:Int):Nat:=(l.takeWhile fun q=>decide (q.id<id)).length
def AfC (l:List K) (k:K):List K:=if(isR l&&k.right)=true then(if l.any (fun q=>q.id==k.id)=true then []else l.take (Wm l k.id)++k::l.drop (Wm l k.id))else []
def AfD (l:List K) (k:K):Int:=if(isR l&&k.right)=true then(if l.any (fun q=>q.id==k.id)=true then 10 else 0)else 1
theorem Aas {l:List K} (h:isR l=true):l.length≤100:=by
 have hg:=Ku.1 h
 have hlow: ∀i,i<l.length→(i:Int)≤(l.getD i K0).id∧(l.getD i K0).id≤99:=by
  intro i
  induction i with
  |zero=>
   intro hi
   have:=hg 0 hi
   simp only[Cy,Bool.and_eq_true]at this
   have:=(Lf _ _ _ _).1 this.1
   omega
  |succ i ih=>
   intro hi
   have:=hg (i+1) hi
   simp only[Cy,Bool.and_eq_true,Bool.or_eq_true,decide_eq_true_eq,beq_iff_eq,Nat.add_sub_cancel]at this
   have h1:=(Lf _ _ _ _).1 this.1
   have h2:=ih (by omega)
   omega
 rcases Nat.lt_or_ge 100 l.length with h|h
 ·have:=hlow 100 h;omega
 ·exact h
end Go.Proofs.YtmdbfogjfbbpjaaGreatDoor
end
section
namespace Go.Proofs.YtmdbfogjfbbpjaaGreatDoor
open Go.ChangeShapes Go.WideShapes Go.ChangeAt Go.RowKit
def Bn (l:List K) (id:Int):K:=if isR l=true then(l.find? fun k=>k.id==id).getD K0 else K0
def As (l:List K) (id:Int):Int:=if isR l=true then(if(l.find? fun k=>k.id==id).isSome then 0 else 10)else 1
theorem rT {l:List K} {p:K→Bool} (k:Nat) (hk:k<l.length) (h: ∀j,j<k→p (l.getD j K0)=false) (hp:p (l.getD k K0)=true):l.find? p=some (l.getD k K0):=by
 induction l generalizing k with
 |nil=>simp at hk
 |cons x l ih=>
  cases k with
  |zero=>simp at hp;simp[hp]
  |succ k=>
   have h0:=h 0 (by omega)
   simp at h0
   rw[List.find?_cons_of_neg (by simp[h0])]
   have:=ih k (by simpa using hk) (fun j hj=>by have:=h (j+1) (by omega);simpa using this) (by simpa using hp)
   simpa using this
theorem aL {l:List K} {p:K→Bool} (h: ∀j,j<l.length→p (l.getD j K0)=false):l.find? p=none:=by
 rw[List.find?_eq_none]
 intro x hx
 obtain⟨j,hj,rfl⟩:=List.getElem_of_mem hx
 have:=h j hj
 rw[List.getD_eq_getElem?_getD,List.getElem?_eq_getElem hj]at this
 simpa using this
theorem Gd (l:List K) (n:Nat) (hn:n=l.length) (b:Bool) (hb:isR l=b) (A:Option Addr) (c:Nat) (w:World) (hA:Ks w w.heap.size A l) (h1:n≤9223372036854775807):
  Calls Tryz.prog 59 #[.slice A n c] w fun e w'=>e= .returned (.bool b)∧Below w.heap.size w w':=by
 subst hb
 exact xA l n hn A c w hA h1
theorem Ju (l:List K) (n:Nat) (hn:n=l.length) (id:Int) (A:Option Addr) (c:Nat) (w:World) (hA:Ks w w.heap.size A l) (h1:n≤9223372036854775807)
  (r:K) (E:Int) (hr:r=Bn l id) (hE:E=As l id):
  Calls Tryz.prog 62 #[.slice A n c, .int .i64 id] w fun e w'=> ∃S cc,e= .returned (.tuple #[.agg #[.int .i64 r.id, .slice S r.sec.length cc, .int .i64 r.frm, .int .i64 r.til], .int .i64 E])∧Bs w' w'.heap.size r.sec S cc∧Below w.heap.size w w':=by
 have HN:=Lib.hid hn
 have HA:=Lib.hid hA
 have HR:=Lib.hid hr
 have HE:=Lib.hid hE
 clear hn hA hr hE
 have HA1:=Lib.hid (HA.out.next (Aa w #[.int .i64 0, .slice none 0 0, .int .i64 0, .int .i64 0] 44))
 cases his:isR l with
 |false=>
  have hr:r=K0:=by rw[HR.out,Bn,his];rfl
  have hE:E=1:=by rw[HE.out,As,his];rfl
  subst hr hE
  go_enter Tryz.func62, Tryz.ntmps62
  go_wp2_with fail
  refine(Gd l n HN.out false his A c _ HA1.out h1).mono ?_
  rintro e w1 ⟨rfl,hb1⟩
  have HBX:=Lib.hid (show w1.heap[w.heap.size]?=some (.cells #[.int .i64 0, .slice none 0 0, .int .i64 0, .int .i64 0] 44 (0,0))from(hb1.block _ (by simp)).trans (heap_alloc_new w _))
  have HB1:=Lib.hid (Ay _ _ hb1)
  clear hb1
  go_wp2_with ((with_reducible refine Ac 4 ?_);refine Al HBX.out Ep (Py _ _ _ _ _ _) ?_;intro w5 hw5)
  have hr5:=setRow_heap w1 w.heap.size #[.int .i64 0, .slice none 0 0, .int .i64 0, .int .i64 0] #[.int .i64 0, .slice none 0 0, .int .i64 0, .int .i64 0] 44 (0,0) HBX.out
  rw[←hw5.out]at hr5
  have hb5:=An hw5.out (Nat.le_refl w.heap.size)
  refine bodyPost_ret (Db Tryz.results62 _ w5 w.heap.size 44 #[.int .i64 0, .slice none 0 0, .int .i64 0, .int .i64 0] (0,0) _ rfl hr5 Tryz.underlying44 rfl Ep) rfl ⟨none,0,rfl,Bs.empty _ _,HB1.out.trans hb5⟩
 |true=>
  go_enter Tryz.func62, Tryz.ntmps62
  go_wp2_with fail
  refine(Gd l n HN.out true his A c _ HA1.out h1).mono ?_
  rintro e w1 ⟨rfl,hb1⟩
  have HBX:=Lib.hid (show w1.heap[w.heap.size]?=some (.cells #[.int .i64 0, .slice none 0 0, .int .i64 0, .int .i64 0] 44 (0,0))from(hb1.block _ (by simp)).trans (heap_alloc_new w _))
  have HB1:=Lib.hid (Ay _ _ hb1)
  have HK1:=Lib.hid (HA.out.below (Ay _ _ hb1))
  clear hb1
  go_wp2
  go_loop [6] (fun i=> ∃k:Nat,k≤n∧i= .int .i64 k∧ ∀j,j<k→((fun q:K=>q.id==id) (l.getD j K0))=false) (fun i=>n - (intOf i).toNat)
  case atStart=>exact⟨0,Nat.zero_le _,rfl,by omega⟩
  case round=>
   obtain⟨k,hk,rfl,hall⟩:=hrel
   by_cases hlt:k<n
   ·obtain⟨ad,S,cc,rfl,had,hk4⟩:=HK1.out k (by rw[←HN.out];exact hlt)
    have HKL:=Lib.hid (show k<l.length by rw[←HN.out];exact hlt)
    have HH:=Lib.hid hall
    obtain⟨x,hx⟩: ∃x,x=l.getD k K0:=⟨_,rfl⟩
    rw[←hx]at hk4
    have HX:=Lib.hid hx
    have HBS:=Lib.hid hk4.bs
    have hc0:=hk4.c0
    have hc1:=hk4.c1
    have hc2:=hk4.c2
    have hc3:=hk4.c3
    have b1:(0:Int)≤(k:Int):=by omega
    have b2:(k:Int)<(n:Int):=by omega
    clear hall hx hk4
    by_cases hid:x.id=id
    ·have hf:(l.find? fun q=>q.id==id)=some x:=by rw[HX.out];exact rT k HKL.out HH.out (by rw[←HX.out];simpa using hid)
     have hr:r=x:=by rw[HR.out,Bn,his,hf];rfl
     have hE:E=0:=by rw[HE.out,As,his,hf];rfl
     subst hr hE
     have e1:(r.id==id)=true:=by simpa using hid
     clear hf hid
     go_wp2_with ((with_reducible refine Ac 4 ?_);refine Al HBX.out Ep (Py _ _ _ _ _ _) ?_;intro w5 hw5)
     have hr5:=setRow_heap w1 w.heap.size #[.int .i64 0, .slice none 0 0, .int .i64 0, .int .i64 0] #[.int .i64 r.id, .slice S r.sec.length cc, .int .i64 r.frm, .int .i64 r.til] 44 (0,0) HBX.out
     rw[←hw5.out]at hr5
     have hb5:=An hw5.out (Nat.le_refl w.heap.size)
     refine bodyPost_ret (Db Tryz.results62 _ w5 w.heap.size 44 #[.int .i64 r.id, .slice S r.sec.length cc, .int .i64 r.frm, .int .i64 r.til] (0,0) _ rfl hr5 Tryz.underlying44 rfl Ep) rfl ⟨S,cc,rfl,(HBS.out.below hb5).more (HB1.out.trans hb5).size,HB1.out.trans hb5⟩
    ·have HST:=Lib.hid (show∀j,j<k+1→((fun q:K=>q.id==id) (l.getD j K0))=false from by
      intro j hj
      rcases Nat.lt_or_ge j k with h|h
      ·exact HH.out j h
      ·have e:j=k:=by omega
       subst e
       rw[←HX.out]
       simpa using hid)
     go_wp2
     go_round
     case rel=>exact⟨k+1,by omega,by go_num,HST.out⟩
     case measure=>simp[intOf];omega
   ·have e:k=n:=by omega
    have hf:(l.find? fun q=>q.id==id)=none:=aL (by rw[←HN.out, ←e];exact hall)
    have hr:r=K0:=by rw[HR.out,Bn,his,hf];rfl
    have hE:E=10:=by rw[HE.out,As,his,hf];rfl
    subst hr hE
    clear hf hall
    go_wp2_with ((with_reducible refine Ac 4 ?_);refine Al HBX.out Ep (Py _ _ _ _ _ _) ?_;intro w5 hw5)
    have hr5:=setRow_heap w1 w.heap.size #[.int .i64 0, .slice none 0 0, .int .i64 0, .int .i64 0] #[.int .i64 0, .slice none 0 0, .int .i64 0, .int .i64 0] 44 (0,0) HBX.out
    rw[←hw5.out]at hr5
    have hb5:=An hw5.out (Nat.le_refl w.heap.size)
    refine bodyPost_ret (Db Tryz.results62 _ w5 w.heap.size 44 #[.int .i64 0, .slice none 0 0, .int .i64 0, .int .i64 0] (0,0) _ rfl hr5 Tryz.underlying44 rfl Ep) rfl ⟨none,0,rfl,Bs.empty _ _,HB1.out.trans hb5⟩

def Ss (l:List K):Bool:=decide (200<l.length)||l.any fun k=>decide (200<k.sec.length)
theorem aM (l:List K) (h:200<l.length):Ss l=true:=by simp[Ss,h]
theorem oD (l:List K) (n:Nat) (hn:n=l.length) (A:Option Addr) (c B:Nat) (w:World) (hA:Ks w B A l) (h1:n≤9223372036854775807):
  Calls Tryz.prog 8 #[.slice A n c] w fun e w'=>e= .returned (.bool (Ss l))∧Below w.heap.size w w':=by
 have HN:=Lib.hid hn
 clear hn
 go_enter Tryz.func8, Tryz.ntmps8
 go_wp2
 go_loopw [3] (fun i wr=> ∃k d:Nat,k≤n∧i= .int .i64 k∧wr=w.drewN d∧(0<k→n≤200)∧ ∀j,j<k→(l.getD j K0).sec.length≤200) (fun i _=>n - (intOf i).toNat)
 case atStart=>exact⟨0,0,Nat.zero_le _,rfl,rfl,by omega,by omega⟩
 case round=>
  obtain⟨k,d,hk,rfl,rfl,h200,hall⟩:=hrel
  by_cases hlt:k<n∧n≤200
  ·obtain⟨hlt,hle⟩:=hlt
   obtain⟨ad,S,cc,rfl,had,hk4⟩:=hA k (by rw[←HN.out];exact hlt)
   have hc1:=hk4.c1
   have hcap:=hk4.bs.len
   have hcap2:=hk4.bs.cap
   have b1:(0:Int)≤(k:Int):=by omega
   have b2:(k:Int)<(n:Int):=by omega
   have b3:(n:Int)≤200:=by omega
   have HH:=Lib.hid hall
   clear hall
   by_cases hb:200<(l.getD k K0).sec.length
   ·have HB:Ss l=true:=by
     simp only[Ss,Bool.or_eq_true,List.any_eq_true,decide_eq_true_eq]
     have hkl:k<l.length:=by rw[←HN.out];exact hlt
     refine .inr ⟨l.getD k K0, ?_,hb⟩
     rw[List.getD_eq_getElem?_getD,List.getElem?_eq_getElem hkl]
     exact List.getElem_mem hkl
    have HBR:=Lib.hid HB
    have hk1:=hk4.c1
    clear HB hk4 hA hc1
    generalize l.getD k K0=x at*
    have b4:(200:Int)<(x.sec.length:Int):=by omega
    go_wp2
    go_ret
    exact⟨by rw[HBR.out];rfl,Ae (Below.refl _ _) _⟩
   ·have hstep: ∀j,j<k+1→(l.getD j K0).sec.length≤200:=by
     intro j hj
     rcases Nat.lt_or_ge j k with h|h
     ·exact HH.out j h
     ·have e:j=k:=by omega
      subst e;omega
    have HST:=Lib.hid hstep
    clear hstep hk4 hA
    generalize l.getD k K0=x at*
    have b4: ¬((200:Int)<(x.sec.length:Int)):=by omega
    go_wp2
    go_roundw
    case rel=>exact⟨k+1,d,by omega,by go_num,rfl,fun _=>hle,HST.out⟩
    case measure=>simp[intOf];omega
  ·have HH:=Lib.hid hall
   clear hall
   rcases(show k=n∨(k<n∧200<n) by omega)with e|⟨e,e2⟩
   ·subst e
    by_cases h0:200<k
    ·have HB:=Lib.hid (aM l (by rw[←HN.out];exact h0))
     have b4:(200:Int)<(k:Int):=by omega
     clear hlt
     go_wp2
     go_ret
     exact⟨by rw[HB.out];rfl,Ae (Below.refl _ _) _⟩
    ·have HB:Ss l=false:=by
      simp only[Ss,Bool.or_eq_false_iff,decide_eq_false_iff_not,List.any_eq_false,decide_eq_true_eq]
      refine⟨by rw[←HN.out];exact h0,fun x hx=> ?_⟩
      obtain⟨j,hj,rfl⟩:=List.getElem_of_mem hx
      have:=HH.out j (by rw[HN.out];exact hj)
      rw[List.getD_eq_getElem?_getD,List.getElem?_eq_getElem hj]at this
      simpa using this
     have HBR:=Lib.hid HB
     have b4: ¬((200:Int)<(k:Int)):=by omega
     clear HB hlt
     go_wp2
     go_ret
     exact⟨by rw[HBR.out];rfl,Ae (Below.refl _ _) _⟩
   ·have HB:=Lib.hid (aM l (by rw[←HN.out];exact e2))
    have b4:(200:Int)<(n:Int):=by omega
    have b5:(k:Int)<(n:Int):=by omega
    clear hlt
    go_wp2
    go_ret
    exact⟨by rw[HB.out];rfl,Ae (Below.refl _ _) _⟩
def Box (w:World) (b:Nat) (q:KV):Prop:=w.heap[b]?=some (.cells #[.int .i64 q.k.id, .slice q.S q.k.sec.length q.c, .int .i64 q.k.frm, .int .i64 q.k.til] 44 (0,0))∧b<w.heap.size∧Bs w w.heap.size q.k.sec q.S q.c
theorem Box.next {w w':World} {b:Nat} {q:KV} (h:Box w b q) (hb:Below w.heap.size w w'):Box w' b q:=⟨(hb.block _ h.2.1).trans h.1,Nat.lt_of_lt_of_le h.2.1 hb.size,h.2.2.next hb⟩
theorem aN (w:World) (o o':Obj):((w.alloc o).alloc o').heap[w.heap.size+1]?=some o':=by
 have:=heap_alloc_new (w.alloc o) o'
 simpa using this
theorem AeK (w:World) (L:List KV) (cs:Array Value) (n:Nat) (hc:cs.toList=bN L) (hn:L.length=n) (hn2:n≤1000) (hs: ∀q∈L,Bs w w.heap.size q.k.sec q.S q.c):
  Ks (w.alloc (.cells cs 44)) (w.alloc (.cells cs 44)).heap.size (some ⟨w.heap.size,0,none⟩) (L.map (·.k)):=by
 have hsz:cs.size=n*4:=by
  have:=congrArg List.length hc
  rw[Rs,hn]at this
  simpa using this
 have hown:=World.ownsRow_lit (e:= 44) (base:=w.heap.size) (size:=4) w cs n (Nat.le_refl _) (by unfold maxLen;omega) hsz
 rw[hc]at hown
 exact wY hown (fun q hq=>(hs q hq).next (Aa w _ _))
end Go.Proofs.YtmdbfogjfbbpjaaGreatDoor
end
section
namespace Go.Proofs.YtmdbfogjfbbpjaaGreatDoor
def Lt (a b:K):Prop:=a.id<b.id
theorem Qt (l:List K):isR l=true↔(∀x∈l,x.right=true)∧l.Pairwise Lt:=by
 constructor
 ·intro h
  have hg:=Ku.1 h
  have hd: ∀i (hi:i<l.length),l.getD i K0=l[i]:=fun i hi=>by rw[List.getD_eq_getElem?_getD,List.getElem?_eq_getElem hi];rfl
  constructor
  ·intro x hx
   obtain⟨i,hi,rfl⟩:=List.getElem_of_mem hx
   have:=hg i hi
   simp only[Cy,Bool.and_eq_true]at this
   rw[←hd i hi];exact this.1
  ·rw[List.pairwise_iff_getElem]
   intro i j hi hj hij
   induction j with
   |zero=>omega
   |succ j ih=>
    have:=hg (j+1) hj
    simp only[Cy,Bool.and_eq_true,Bool.or_eq_true,decide_eq_true_eq,beq_iff_eq,Nat.add_sub_cancel]at this
    have h2:(l.getD j K0).id<(l.getD (j+1) K0).id:=by
     rcases this.2 with h|h
     ·omega
     ·exact h
    rw[hd j (by omega),hd (j+1) hj]at h2
    rcases Nat.lt_or_ge i j with h|h
    ·have:=ih (by omega) h
     unfold Lt at*
     omega
    ·have e:i=j:=by omega
     subst e
     exact h2
 ·rintro⟨h1,h2⟩
  rw[Ku]
  intro i hi
  have hd: ∀i (hi:i<l.length),l.getD i K0=l[i]:=fun i hi=>by rw[List.getD_eq_getElem?_getD,List.getElem?_eq_getElem hi];rfl
  rw[List.pairwise_iff_getElem]at h2
  rw[Cy,hd i hi,h1 _ (List.getElem_mem hi),Bool.true_and]
  rcases Nat.eq_zero_or_pos i with h|h
  ·subst h;rfl
  ·have:=h2 (i - 1) i (by omega) hi (by omega)
   rw[hd (i - 1) (by omega)]
   unfold Lt at this
   simp[this]
def ins (k:K):List K→List K
 |[]=>[k]
 |x::l=>if x.id<k.id then x::ins k l else k::x::l
theorem uS (k:K) (l:List K):l.take (Wm l k.id)++k::l.drop (Wm l k.id)=ins k l:=by
 induction l with
 |nil=>rfl
 |cons x l ih=>
  unfold Wm at*
  by_cases h:x.id<k.id
  ·rw[List.takeWhile_cons_of_pos (by simpa using h),ins,if_pos h, ←ih]
   rfl
  ·rw[List.takeWhile_cons_of_neg (by simpa using h),ins,if_neg h]
   rfl
theorem rU (k:K) (l:List K) (x:K):x∈ins k l↔x=k∨x∈l:=by
 induction l with
 |nil=>simp[ins]
 |cons y l ih=>
  unfold ins
  split
  ·rw[List.mem_cons,ih,List.mem_cons]
   constructor
   ·rintro(h|h|h)<;>simp[h]
   ·rintro(h|h|h)<;>simp[h]
  ·simp
theorem AeL (k:K) (l:List K) (h:l.Pairwise Lt) (hne: ∀x∈l,x.id≠k.id):(ins k l).Pairwise Lt:=by
 induction l with
 |nil=>simp[ins]
 |cons y l ih=>
  rw[List.pairwise_cons]at h
  unfold ins
  split
  ·next hy=>
   rw[List.pairwise_cons]
   refine⟨?_,ih h.2 (fun x hx=>hne x (by simp[hx]))⟩
   intro x hx
   rcases(rU k l x).1 hx with h'|h'
   ·rw[h'];exact hy
   ·exact h.1 x h'
  ·next hy=>
   have hlt:k.id<y.id:=by have:=hne y (by simp);omega
   rw[List.pairwise_cons]
   refine⟨?_,by rw[List.pairwise_cons];exact h⟩
   intro x hx
   rcases List.mem_cons.1 hx with h'|h'
   ·rw[h'];exact hlt
   ·have:=h.1 x h'
    unfold Lt at*
    omega
theorem add_zero {l:List K} {k:K} (h:0=AfD l k):isR l=true∧k.right=true∧l.any (fun q=>q.id==k.id)=false∧AfC l k=ins k l∧isR (ins k l)=true:=by
 unfold AfD at h
 split at h
 ·next h1=>
  split at h
  ·exact absurd h (by decide)
  ·next h2=>
   have h3:isR l=true∧k.right=true:=by simpa using h1
   have h4:l.any (fun q=>q.id==k.id)=false:=by simpa using h2
   have hne: ∀x∈l,x.id≠k.id:=by
    intro x hx e
    rw[List.any_eq_false]at h4
    have:=h4 x hx
    simp[e]at this
   refine⟨h3.1,h3.2,h4, ?_, ?_⟩
   ·rw[AfC,if_pos h1,h4, ←uS];rfl
   ·have:=(Qt l).1 h3.1
    rw[Qt]
    refine⟨?_,AeL k l this.2 hne⟩
    intro x hx
    rcases(rU k l x).1 hx with h'|h'
    ·rw[h'];exact h3.2
    ·exact this.1 x h'
 ·exact absurd h (by decide)
end Go.Proofs.YtmdbfogjfbbpjaaGreatDoor
end
section
namespace Go.Proofs.YtmdbfogjfbbpjaaGreatDoor
open Go.ChangeShapes Go.WideShapes Go.ChangeAt Go.RowKit
theorem Dd (l:List K) (n:Nat) (hn:n=l.length) (b:Bool) (hb:Ss l=b) (A:Option Addr) (c:Nat) (w:World) (hA:Ks w w.heap.size A l) (h1:n≤9223372036854775807):
  Calls Tryz.prog 8 #[.slice A n c] w fun e w'=>e= .returned (.bool b)∧Below w.heap.size w w':=by
 subst hb
 exact oD l n hn A c _ w hA h1
theorem rV (w:World) (q:KV) (h:Bs w w.heap.size q.k.sec q.S q.c):Box (w.alloc (.cells #[.int .i64 q.k.id, .slice q.S q.k.sec.length q.c, .int .i64 q.k.frm, .int .i64 q.k.til] 44)) w.heap.size q∧
  Below w.heap.size w (w.alloc (.cells #[.int .i64 q.k.id, .slice q.S q.k.sec.length q.c, .int .i64 q.k.frm, .int .i64 q.k.til] 44)):=
 ⟨⟨heap_alloc_new w _,by simp,h.next (Aa w _ _)⟩,Aa w _ _⟩
theorem Ik (w:World) (q:KV) (h:Bs w w.heap.size q.k.sec q.S q.c): ∃w1,w1=w.alloc (.cells #[.int .i64 q.k.id, .slice q.S q.k.sec.length q.c, .int .i64 q.k.frm, .int .i64 q.k.til] 44)∧Box w1 w.heap.size q∧Below w.heap.size w w1:=⟨_,rfl,(rV w q h).1,Aa w _ _⟩
end Go.Proofs.YtmdbfogjfbbpjaaGreatDoor
end
section
namespace Go.Proofs.YtmdbfogjfbbpjaaGreatDoor
set_option maxRecDepth 100000
open Go.ChangeShapes Go.WideShapes Go.ChangeAt Go.RowKit Go.Deep
section
variable {H:Type} {enc:TypeId × Value→H}
theorem jG {W:World} {fuel:Nat} {v:Value} {y:DataW H × List MemPlace} (h:DataW.trod enc Tryz.prog W 0 (fun _=>true) true fuel 23 [v]=some y):
  ∃S s c,v= .slice S (List.length s) c∧Bs W W.heap.size s S c:=by
 rcases open_ints Tryz.underlying23 Tryz.underlying5 Tryz.cellsU8 h with⟨hcs,_⟩|⟨a,len,cap,zs,hcs,_,h1,h2,hz,_,hcell,hwf⟩
 ·simp at hcs
  exact⟨none,[],0,hcs,Bs.empty _ _⟩
 ·simp at hcs hz
  have hl:((zs.take len).map Int.toNat).length=len:=by simp;omega
  refine⟨some a,(zs.take len).map Int.toNat,cap,by rw[hl];exact hcs,⟨?_,by simp,by rw[hl];exact h1,by unfold maxLen at h2;exact h2, ?_⟩⟩
  ·intro j u hu
   simp only[U8,List.getElem?_map,Option.map_eq_some_iff]at hu
   obtain⟨x,⟨z,hz1,rfl⟩,rfl⟩:=hu
   have hj:j<len:=by
    rcases Nat.lt_or_ge j len with h|h
    ·exact h
    ·rw[List.getElem?_eq_none (by simp;omega)]at hz1;cases hz1
   have hcj:=hcell j (by omega)
   rw[List.getElem?_take,if_pos hj]at hz1
   rw[List.getD_eq_getElem?_getD,hz1,Option.getD_some]at hcj
   have hzw:=jZ z (hwf z (List.mem_of_getElem? hz1))
   refine⟨a,rfl, ?_, ?_⟩
   ·have:=Ll hcj
    rwa[add_block]at this
   ·rw[hcj]
    congr 2
    omega
  ·intro x hx
   simp only[List.mem_map]at hx
   obtain⟨z,hz1,rfl⟩:=hx
   have:=jZ z (hwf z (List.mem_of_mem_take hz1))
   omega
theorem Lg {W:World} {fuel:Nat} {v:Value} {y:DataW H × List MemPlace} (h:DataW.trod enc Tryz.prog W 0 (fun _=>true) true fuel 3 [v]=some y): ∃z:Int,v= .int .i64 z∧ -9223372036854775808≤z∧z≤9223372036854775807:=by
 obtain⟨z,e1,_,wz⟩:=DataW.trod_int Tryz.underlying3 h
 simp at e1
 exact⟨z,e1,Lm z wz⟩
end
section
variable {H:Type} {enc:TypeId × Value→H}
theorem Aat: Tryz.prog.cellsOf 44 =4:=by kernel_rfl
theorem Kk {W:World} {r:Reach} {b0:Nat} {v:Value} {d:DataW H} {ps:List MemPlace} (hval:Value.okWide Tryz.prog W r b0 22 v) (hd:DataW.Trod enc Tryz.prog W 0 (fun _=>true) true 22 v d ps):
  ∃(A:Option Addr) (l:List K) (c:Nat),v= .slice A l.length c∧Ks W W.heap.size A l∧l.length≤c∧c≤9223372036854775807∧(A=none→c=0):=by
 obtain⟨a0,len,cap,rfl⟩:=okWide_slice Tryz.underlying22 hval
 obtain⟨fuel,hf⟩:=hd
 rcases open_slice Tryz.underlying22 hf with⟨hcs,_⟩|⟨a,len',cap',m,n,D,Pl,hcs,_,hl,hm,hmm,_,hel⟩
 ·simp[Value.cells]at hcs
  obtain⟨rfl,rfl,rfl⟩:=hcs
  exact⟨none,[],0,rfl,by intro i hi;simp at hi,by simp,by simp,by simp⟩
 ·simp[Value.cells]at hcs
  obtain⟨rfl,rfl,rfl⟩:=hcs
  simp at hmm
  have hone: ∀i,i<len→ ∃(k:K) (S:Option Addr) (c:Nat),a.block<W.heap.size∧KAt W W.heap.size (a.add (i*4)) k S c:=by
   intro i hi
   obtain⟨cs',hc,ht⟩:=hel i (by omega)
   rw[Aat]at hc
   obtain⟨_,hcl,hat⟩:=World.cells?_some hc
   obtain⟨y0,y1,y2,y3,n',_,_,h0,h1,h2,h3⟩:=Go.Joins.trod_struct4 Tryz.underlying44 ht
   match cs',hcl with
   |[c0,c1,c2,c3],_=>
    have e3: Tryz.prog.cellsOf 3 =1:=by kernel_rfl
    have e24: Tryz.prog.cellsOf 23 =1:=by kernel_rfl
    simp only[e3,e24,List.drop_zero,List.drop_succ_cons,List.take_succ_cons,List.take_zero]at h0 h1 h2 h3
    obtain⟨z0,rfl,_,_⟩:=Lg h0
    obtain⟨S,s,c,rfl,hb⟩:=jG h1
    obtain⟨z2,rfl,_,_⟩:=Lg h2
    obtain⟨z3,rfl,_,_⟩:=Lg h3
    have g0:=hat 0 (by omega)
    have g1:=hat 1 (by omega)
    have g2:=hat 2 (by omega)
    have g3:=hat 3 (by omega)
    simp at g0 g1 g2 g3
    refine⟨⟨z0,s,z2,z3⟩,S,c, ?_,⟨g0,g1,g2,g3,hb⟩⟩
    have:=Ll g0
    rwa[add_block,add_block]at this
  have hall: ∀k,k≤len→ ∃l:List K,l.length=k∧Ks W W.heap.size (some a) l:=by
   intro k
   induction k with
   |zero=>intro _;exact⟨[],rfl,by intro i hi;simp at hi⟩
   |succ k ih=>
    intro hk
    obtain⟨l,h1,h2⟩:=ih (by omega)
    obtain⟨x,S,c,hlt,hx⟩:=hone k (by omega)
    refine⟨l++ [x],by simp[h1], ?_⟩
    intro i hi
    rcases Nat.lt_or_ge i k with h|h
    ·obtain⟨ad,S',c',e,hlt',hk'⟩:=h2 i (by omega)
     refine⟨ad,S',c',e,hlt', ?_⟩
     have:(l++ [x]).getD i K0=l.getD i K0:=by rw[List.getD_eq_getElem?_getD,List.getD_eq_getElem?_getD,List.getElem?_append_left (by omega)]
     rw[this];exact hk'
    ·have e:i=k:=by simp[h1]at hi;omega
     subst e
     have:(l++ [x]).getD i K0=x:=by rw[List.getD_eq_getElem?_getD,List.getElem?_append_right (by omega),h1];simp
     exact⟨a,S,c,rfl,hlt,by rw[this];exact hx⟩
  obtain⟨l,h1,h2⟩:=hall len (Nat.le_refl _)
  unfold maxLen at hm
  exact⟨some a,l,cap,by rw[h1],h2,by omega,hm,by simp⟩
end
end Go.Proofs.YtmdbfogjfbbpjaaGreatDoor
end
section
namespace Go.Proofs.YtmdbfogjfbbpjaaGreatDoor
open Go.ChangeShapes Go.WideShapes Go.ChangeAt Go.RowKit
theorem Gn {k:IntKind} {a b:Int} (h:a=b):Ending.returned (.int k a)= .returned (.int k b):=by rw[h]
theorem Aau (x:Nat) (n:Int) (hx:x<4294967296):
  bits BinOp.or IntKind.u32 ((x:Int) / 2^(n % 32).toNat) ((x:Int)*2^(32 - n % 32).toNat % 4294967296)=((itr (n % 32).toNat x:Nat):Int):=by
 obtain⟨k,hk⟩: ∃k:Nat,k=(n % 32).toNat:=⟨_,rfl⟩
 have e2:(32 - n % 32).toNat=32 - k:=by omega
 rw[←hk,e2]
 have h1:(x:Int) / 2^k=((x / 2^k:Nat):Int):=by simp
 have h2:(x:Int)*2^(32 - k) % 4294967296=((x*2^(32 - k) % 4294967296:Nat):Int):=by simp
 rw[h1,h2,u32_or_nat _ _ (Nat.lt_of_le_of_lt (Nat.div_le_self _ _) hx) (Nat.mod_lt _ (by omega)),Afx x k hx (by omega)]
theorem AcZ (x:Nat) (n:Int) (w:World) (hx:x<4294967296) (hn0: -9223372036854775808≤n) (hn1:n≤9223372036854775807):
  Calls Tryz.prog 259 #[.int .u32 x, .int .i64 n] w fun e w'=>e= .returned (.int .u32 ((itr (n % 32).toNat x:Nat):Int))∧w=w':=by
 have hx':(x:Int)≤4294967295:=by omega
 go_enter Tryz.func259, Tryz.ntmps259
 go_wp2
 go_ret
 refine⟨Gn ?_,rfl⟩
 exact Aau x n hx
theorem rW {y:Nat} (h:((y:Int) % 2==1)=true):(y:Int) / 2+2147483648=((stp y:Nat):Int):=by
 simp only[beq_iff_eq]at h
 unfold stp
 omega
theorem jH {y:Nat} (h:((y:Int) % 2==1)=false):(y:Int) / 2=((stp y:Nat):Int):=by
 simp only[beq_eq_false_iff_ne,ne_eq]at h
 unfold stp
 omega
theorem Lh (x:Nat) (n:Int) (w:World) (hx:x<4294967296) (hn0: -9223372036854775808≤n) (hn1:n≤9223372036854775807):
  Calls Tryz.prog 252 #[.int .u32 x, .int .i64 n] w fun e w'=>e= .returned (.int .u32 ((itr (n % 32).toNat x:Nat):Int))∧w=w':=by
 have ht:=Int.tmod_lt_of_pos n (show(0:Int)<32 by omega)
 have ht2:=Int.lt_tmod_of_pos n (show(0:Int)<32 by omega)
 have hd:=Int.mul_tdiv_add_tmod n 32
 have hK0: ∀K:Nat,(K:Int)=n.tmod 32∨(K:Int)=n.tmod 32+32∧n.tmod 32<0→K<32→(n % 32).toNat=K:=by intro K h hk;omega
 have HK:=Lib.hid hK0
 clear hd hK0
 by_cases hneg:n.tmod 32<0
 ·obtain⟨K,hK⟩: ∃K:Nat,(K:Int)=n.tmod 32+32:=⟨(n.tmod 32+32).toNat,by omega⟩
  have eK:=HK.out K (.inr ⟨hK,hneg⟩) (by omega)
  have hK31:K<32:=by omega
  rw[eK]
  clear eK HK
  have HK':=Lib.hid hK
  clear hK
  go_enter Tryz.func252, Tryz.ntmps252
  go_wp2
  rw[←HK'.out]
  go_loop [0,6] (fun y i=> ∃k:Nat,k≤K∧i= .int .i64 k∧y= .int .u32 ((itr k x:Nat):Int)) (fun _ i=>K - (intOf i).toNat)
  case atStart=>exact⟨0,Nat.zero_le _,rfl,rfl⟩
  case round=>
   obtain⟨k,hk,rfl,rfl⟩:=hrel
   have hlt:=Fc k hx
   obtain⟨y,hy⟩: ∃y,y=itr k x:=⟨_,rfl⟩
   have HS:Hid (itr (k+1) x=stp y):=by rw[hy];rfl
   have HY:=Lib.hid hy
   rw[←hy]at hlt⊢
   clear hy
   go_wp2
   ·go_round
    case rel=>exact⟨k+1,by omega,by go_num,by rw[HS.out, ←rW (by assumption)]⟩
    case measure=>simp[intOf];omega
   ·go_round
    case rel=>exact⟨k+1,by omega,by go_num,by rw[HS.out, ←jH (by assumption)]⟩
    case measure=>simp[intOf];omega
   ·have hlt: ¬k<K:=by assumption
    have hkk:k=K:=by omega
    go_ret
    exact⟨Gn (by rw[HY.out,hkk]),rfl⟩
 ·obtain⟨K,hK⟩: ∃K:Nat,(K:Int)=n.tmod 32:=⟨(n.tmod 32).toNat,by omega⟩
  have eK:=HK.out K (.inl hK) (by omega)
  have hK31:K<32:=by omega
  rw[eK]
  clear eK HK
  have HK':=Lib.hid hK
  clear hK
  have hneg':0≤n.tmod 32:=by omega
  go_enter Tryz.func252, Tryz.ntmps252
  go_wp2
  rw[←HK'.out]
  go_loop [0,6] (fun y i=> ∃k:Nat,k≤K∧i= .int .i64 k∧y= .int .u32 ((itr k x:Nat):Int)) (fun _ i=>K - (intOf i).toNat)
  case atStart=>exact⟨0,Nat.zero_le _,rfl,rfl⟩
  case round=>
   obtain⟨k,hk,rfl,rfl⟩:=hrel
   have hlt:=Fc k hx
   obtain⟨y,hy⟩: ∃y,y=itr k x:=⟨_,rfl⟩
   have HS:Hid (itr (k+1) x=stp y):=by rw[hy];rfl
   have HY:=Lib.hid hy
   rw[←hy]at hlt⊢
   clear hy
   go_wp2
   ·go_round
    case rel=>exact⟨k+1,by omega,by go_num,by rw[HS.out, ←rW (by assumption)]⟩
    case measure=>simp[intOf];omega
   ·go_round
    case rel=>exact⟨k+1,by omega,by go_num,by rw[HS.out, ←jH (by assumption)]⟩
    case measure=>simp[intOf];omega
   ·have hlt: ¬k<K:=by assumption
    have hkk:k=K:=by omega
    go_ret
    exact⟨Gn (by rw[HY.out,hkk]),rfl⟩
theorem Kl (a b:Nat) (ha:a<4294967296) (hb:b<4294967296):bits BinOp.xor IntKind.u32 (a:Int) (b:Int)=((a^^^b:Nat):Int):=u32_xor_nat a b ha hb
theorem uT (x:Nat) (i j k:Int) (w:World) (hx:x<4294967296) (hi0:0≤i) (hi:i<32) (hj0:0≤j) (hj:j<32) (hk0:0≤k) (hk:k<32):
  Calls Tryz.prog 236 #[.int .u32 x, .int .i64 i, .int .i64 j, .int .i64 k] w fun e w'=>e= .returned (.int .u32 ((threeN x i.toNat j.toNat k.toNat:Nat):Int))∧w=w':=by
 have ei:(i % 32).toNat=i.toNat:=by omega
 have ej:(j % 32).toNat=j.toNat:=by omega
 have ek:(k % 32).toNat=k.toNat:=by omega
 have EI:=Lib.hid ei
 have EJ:=Lib.hid ej
 have EK:=Lib.hid ek
 clear ei ej ek
 have ha:=Fc i.toNat hx
 have hb:=Fc j.toNat hx
 have hc:=Fc k.toNat hx
 go_enter Tryz.func236, Tryz.ntmps236
 go_wp2_with fail
 refine(Lh x i _ hx (by omega) (by omega)).mono ?_
 rintro e w' ⟨rfl,rfl⟩
 rw[EI.out]
 go_wp2_with fail
 refine(Lh x j _ hx (by omega) (by omega)).mono ?_
 rintro e w' ⟨rfl,rfl⟩
 rw[EJ.out]
 go_wp2_with fail
 refine(Lh x k _ hx (by omega) (by omega)).mono ?_
 rintro e w' ⟨rfl,rfl⟩
 rw[EK.out]
 go_wp2_with fail
 go_ret
 refine⟨Gn ?_,rfl⟩
 rw[Kl _ _ ha hb,Kl _ _ (Hz ha hb) hc]
 rfl
theorem dZ (x:Nat) (n:Int) (W:World) (hx:x<4294967296) (h0:0≤n) (h:n<32):
  Calls Tryz.prog 252 #[.int .u32 x, .int .i64 n] W fun e w'=>e= .returned (.int .u32 ((itr n.toNat x:Nat):Int))∧w'=W:=by
 have h:=Lh x n W hx (by omega) (by omega)
 rw[show(n % 32).toNat=n.toNat by omega]at h
 exact h.mono fun _ _ ⟨a,b⟩=>⟨a,b.symm⟩
theorem Ada (x:Nat) (i j:Int) (d:Nat) (w:World) (hx:x<4294967296) (hi0:0≤i) (hi:i<32) (hj0:0≤j) (hj:j<32) (hd:1≤d) (hd2:d<4294967296):
  Calls Tryz.prog 234 #[.int .u32 x, .int .i64 i, .int .i64 j, .int .u32 d] w fun e w'=>e= .returned (.int .u32 ((twoN x i.toNat j.toNat d:Nat):Int))∧ ∃n,w'=w.drewN n:=by
 have ha:=Fc i.toNat hx
 have hb:=Fc j.toNat hx
 have hq:x / d<4294967296:=Nat.lt_of_le_of_lt (Nat.div_le_self _ _) hx
 have hd0: ¬(d:Int)=0:=by omega
 go_enter Tryz.func234, Tryz.ntmps234
 go_wp2_with fail
 go_quiet ((go_at_call 252;exact Calls.quiet_of_same (dZ _ _ _ hx (by assumption) (by assumption))))
 go_wp2_with fail
 go_ret
 refine⟨Gn ?_,_,rfl⟩
 have e:(x:Int) / (d:Int) % 4294967296=((x / d:Nat):Int):=by
  rw[←Int.natCast_ediv];exact Int.emod_eq_of_lt (Int.natCast_nonneg _) (Int.ofNat_lt.2 hq)
 rw[Kl _ _ ha hb,e,Kl _ _ (Hz ha hb) hq]
 rfl
def bitOf (k:Nat):Nat:=if k=32 then 0 else 2^k
def Aav (n:Nat):Nat:=if n=0 then 0 else 4294967296 - n
def left (v:Value):Nat:=Aav (intOf v).toNat
theorem jI (k:IntKind) (n:Nat):left (.int k (n:Int))=Aav n:=rfl
theorem jJ {k:Nat} (h:k<32):bitOf k=2^k:=by unfold bitOf;rw[if_neg (by omega)]
theorem Qu {k:Nat} (h:k<32):1≤2^k∧2^k≤2147483648:=⟨Nat.one_le_two_pow,Nat.pow_le_pow_right (n:=2) (by omega) (show k≤31 by omega)⟩
theorem jK {k:Nat} (h:k<32):2*((2^k:Nat):Int) % 4294967296=((bitOf (k+1):Nat):Int):=by
 have e:2^(k+1)=2*2^k:=by rw[Nat.pow_succ,Nat.mul_comm]
 unfold bitOf
 by_cases h1:k+1=32
 ·have:k=31:=by omega
  subst this
  decide
 ·rw[if_neg h1,e]
  have:=(Qu (k:=k+1) (by omega)).2
  omega
theorem aO {k:Nat} (h:k<32):left (.int .u32 ((bitOf (k+1):Nat):Int))<left (.int .u32 ((2^k:Nat):Int)):=by
 have hp:=Qu h
 have e:2^(k+1)=2*2^k:=by rw[Nat.pow_succ,Nat.mul_comm]
 rw[jI,jI]
 unfold Aav bitOf
 by_cases h1:k+1=32
 ·rw[if_pos h1,if_pos rfl,if_neg (by omega)]
  omega
 ·rw[if_neg h1,if_neg (by omega),if_neg (by omega)]
  omega
theorem Km (x k:Nat):(x:Int) / ((2^k:Nat):Int) % 2=((x / 2^k % 2:Nat):Int):=by simp
theorem Aaw (e f g:Nat) (w:World) (he:e<4294967296) (hf:f<4294967296) (hg:g<4294967296):
  Calls Tryz.prog 237 #[.int .u32 e, .int .u32 f, .int .u32 g] w fun en w'=>en= .returned (.int .u32 ((pk e f g 32:Nat):Int))∧w=w':=by
 go_enter Tryz.func237, Tryz.ntmps237
 go_wp2
 go_loop [7,8] (fun o b=> ∃k:Nat,k≤32∧b= .int .u32 ((bitOf k:Nat):Int)∧o= .int .u32 ((pk e f g k:Nat):Int)) (fun _ b=>left b)
 case atStart=>exact⟨0,Nat.zero_le _,rfl,rfl⟩
 case round=>
  obtain⟨k,hk,rfl,rfl⟩:=hrel
  by_cases hlt:k<32
  ·have hp:=Qu hlt
   have hpk:=Aeo e f g k
   have hn:=jK hlt
   have hl:=aO hlt
   have ce:=Km e k
   have cf:=Km f k
   have cg:=Km g k
   have hs:pk e f g (k+1)=pk e f g k+(if e / 2^k % 2=1 then f / 2^k % 2 else g / 2^k % 2)*2^k:=by rw[pk];split<;>rfl
   have be:=Jt e k
   have bf:=Jt f k
   have bg:=Jt g k
   rw[jJ hlt]
   generalize 2^k=p at*
   generalize pk e f g k=y at*
   generalize e / p % 2=be' at*
   generalize f / p % 2=bf' at*
   generalize g / p % 2=bg' at*
   rcases(show be'=0∨be'=1 by omega)with rfl|rfl
   ·rcases(show bg'=0∨bg'=1 by omega)with rfl|rfl
    all_goals
     simp only[Nat.zero_ne_one,if_false,Nat.zero_mul,Nat.one_mul,Nat.add_zero]at hs
     have HS:=Lib.hid hs
     have HN:=Lib.hid hn
     have HL:=Lib.hid hl
     clear hs hn hl
     go_wp2
     go_round
     case rel=>exact⟨k+1,by omega,by rw[HN.out],by rw[HS.out];try go_num⟩
     case measure=>rw[HN.out];exact HL.out
   ·rcases(show bf'=0∨bf'=1 by omega)with rfl|rfl
    all_goals
     simp only[if_true,Nat.zero_mul,Nat.one_mul,Nat.add_zero]at hs
     have HS:=Lib.hid hs
     have HN:=Lib.hid hn
     have HL:=Lib.hid hl
     clear hs hn hl
     go_wp2
     go_round
     case rel=>exact⟨k+1,by omega,by rw[HN.out],by rw[HS.out];try go_num⟩
     case measure=>rw[HN.out];exact HL.out
  ·have ek:k=32:=by omega
   subst ek
   have hz:bitOf 32=0:=rfl
   go_wp2
   go_ret
   exact⟨rfl,rfl⟩
theorem Aax (a b c:Nat) (w:World) (ha:a<4294967296) (hb:b<4294967296) (hc:c<4294967296):
  Calls Tryz.prog 238 #[.int .u32 a, .int .u32 b, .int .u32 c] w fun en w'=>en= .returned (.int .u32 ((mj a b c 32:Nat):Int))∧ ∃n,w'=w.drewN n:=by
 go_enter Tryz.func238, Tryz.ntmps238
 go_wp2
 go_loopw [7,8] (fun o b' wr=> ∃k n:Nat,k≤32∧b'= .int .u32 ((bitOf k:Nat):Int)∧o= .int .u32 ((mj a b c k:Nat):Int)∧wr=w.drewN n) (fun _ b' _=>left b')
 case atStart=>exact⟨0,0,Nat.zero_le _,rfl,rfl,rfl⟩
 case round=>
  obtain⟨k,n,hk,rfl,rfl,rfl⟩:=hrel
  by_cases hlt:k<32
  ·have hp:=Qu hlt
   have hmj:=Aep a b c k
   have hn:=jK hlt
   have hl:=aO hlt
   have ca:=Km a k
   have cb:=Km b k
   have cc:=Km c k
   have hs:mj a b c (k+1)=mj a b c k+if 2≤a / 2^k % 2+b / 2^k % 2+c / 2^k % 2 then 2^k else 0:=rfl
   have ba:=Jt a k
   have bb:=Jt b k
   have bc:=Jt c k
   rw[jJ hlt]
   generalize 2^k=p at*
   generalize mj a b c k=y at*
   generalize a / p % 2=a' at*
   generalize b / p % 2=b' at*
   generalize c / p % 2=c' at*
   have hp0: ¬(p:Int)=0:=by omega
   have HN:=Lib.hid hn
   have HL:=Lib.hid hl
   clear hn hl
   rcases(show a'=0∨a'=1 by omega)with rfl|rfl<;>rcases(show b'=0∨b'=1 by omega)with rfl|rfl<;>rcases(show c'=0∨c'=1 by omega)with rfl|rfl
   all_goals
    simp only[Nat.reduceAdd,Nat.reduceLeDiff,if_true,if_false,Nat.add_zero]at hs
    have HS:=Lib.hid hs
    clear hs
    go_wp2
    go_quiet (fail)
    go_wp2
    go_roundw
    case rel=>exact⟨k+1,_,by omega,by rw[HN.out],by rw[HS.out];try go_num,rfl⟩
    case measure=>rw[HN.out];exact HL.out
  ·have ek:k=32:=by omega
   subst ek
   have hz:bitOf 32=0:=rfl
   go_wp2
   go_ret
   exact⟨rfl,_,rfl⟩
theorem Ei (x:Nat) (n:Int) (w:World) (hx:x<4294967296) (h0:0≤n) (h:n<32):
  Calls Tryz.prog 259 #[.int .u32 x, .int .i64 n] w fun e w'=>e= .returned (.int .u32 ((itr n.toNat x:Nat):Int))∧w=w':=by
 have h:=AcZ x n w hx (by omega) (by omega)
 rw[show(n % 32).toNat=n.toNat by omega]at h
 exact h
theorem Ze (x:Nat) (w:World) (hx:x<4294967296):
  Calls Tryz.prog 246 #[.int .u32 x] w fun e w'=>e= .returned (.int .u32 ((twoN x 7 18 8:Nat):Int))∧w=w':=by
 have ha:=Fc 7 hx
 have hb:=Fc 18 hx
 have hq:x / 8<4294967296:=by omega
 go_enter Tryz.func246, Tryz.ntmps246
 go_wp2_with fail
 refine(Ei x 7 _ hx (by omega) (by omega)).mono ?_
 rintro e w' ⟨rfl,rfl⟩
 go_wp2_with fail
 refine(Ei x 18 _ hx (by omega) (by omega)).mono ?_
 rintro e w' ⟨rfl,rfl⟩
 go_wp2_with fail
 go_ret
 refine⟨Gn ?_,rfl⟩
 rw[show(x:Int) / 8=((x / 8:Nat):Int) by omega,Kl _ _ ha hb,Kl _ _ (Hz ha hb) hq]
 rfl
theorem eA (x:Nat) (w:World) (hx:x<4294967296):
  Calls Tryz.prog 247 #[.int .u32 x] w fun e w'=>e= .returned (.int .u32 ((twoN x 17 19 1024:Nat):Int))∧w=w':=by
 have ha:=Fc 17 hx
 have hb:=Fc 19 hx
 have hq:x / 1024<4294967296:=by omega
 go_enter Tryz.func247, Tryz.ntmps247
 go_wp2_with fail
 refine(Ei x 17 _ hx (by omega) (by omega)).mono ?_
 rintro e w' ⟨rfl,rfl⟩
 go_wp2_with fail
 refine(Ei x 19 _ hx (by omega) (by omega)).mono ?_
 rintro e w' ⟨rfl,rfl⟩
 go_wp2_with fail
 go_ret
 refine⟨Gn ?_,rfl⟩
 rw[show(x:Int) / 1024=((x / 1024:Nat):Int) by omega,Kl _ _ ha hb,Kl _ _ (Hz ha hb) hq]
 rfl
theorem jL (x:Nat) (w:World) (hx:x<4294967296):
  Calls Tryz.prog 248 #[.int .u32 x] w fun e w'=>e= .returned (.int .u32 ((threeN x 6 11 25:Nat):Int))∧w=w':=by
 have ha:=Fc 6 hx
 have hb:=Fc 11 hx
 have hc:=Fc 25 hx
 go_enter Tryz.func248, Tryz.ntmps248
 go_wp2_with fail
 refine(Ei x 6 _ hx (by omega) (by omega)).mono ?_
 rintro e w' ⟨rfl,rfl⟩
 go_wp2_with fail
 refine(Ei x 11 _ hx (by omega) (by omega)).mono ?_
 rintro e w' ⟨rfl,rfl⟩
 go_wp2_with fail
 refine(Ei x 25 _ hx (by omega) (by omega)).mono ?_
 rintro e w' ⟨rfl,rfl⟩
 go_wp2_with fail
 go_ret
 refine⟨Gn ?_,rfl⟩
 rw[Kl _ _ ha hb,Kl _ _ (Hz ha hb) hc]
 rfl
theorem eB (x:Nat) (w:World) (hx:x<4294967296):
  Calls Tryz.prog 250 #[.int .u32 x] w fun e w'=>e= .returned (.int .u32 ((threeN x 2 13 22:Nat):Int))∧w=w':=by
 have ha:=Fc 2 hx
 have hb:=Fc 13 hx
 have hc:=Fc 22 hx
 go_enter Tryz.func250, Tryz.ntmps250
 go_wp2_with fail
 refine(Ei x 2 _ hx (by omega) (by omega)).mono ?_
 rintro e w' ⟨rfl,rfl⟩
 go_wp2_with fail
 refine(Ei x 13 _ hx (by omega) (by omega)).mono ?_
 rintro e w' ⟨rfl,rfl⟩
 go_wp2_with fail
 refine(Ei x 22 _ hx (by omega) (by omega)).mono ?_
 rintro e w' ⟨rfl,rfl⟩
 go_wp2_with fail
 go_ret
 refine⟨Gn ?_,rfl⟩
 rw[Kl _ _ ha hb,Kl _ _ (Hz ha hb) hc]
 rfl
theorem oE (e f g:Nat) (he:e<4294967296) (hf:f<4294967296) (hg:g<4294967296):(e&&&f)|||((4294967295^^^e)&&&g)=pk e f g 32:=by
 apply Nat.eq_of_testBit_eq
 intro j
 rw[nY,Nat.testBit_or,Nat.testBit_and,Nat.testBit_and,Nat.testBit_xor,show 4294967295=2^32 - 1 by rfl,Nat.testBit_two_pow_sub_one]
 by_cases h:j<32
 ·simp only[h,decide_true,Bool.true_and]
  cases e.testBit j<;>simp
 ·have z: ∀x:Nat,x<4294967296→x.testBit j=false:=fun x hx=>Nat.testBit_lt_two_pow (Nat.lt_of_lt_of_le hx (Nat.pow_le_pow_right (n:=2) (by omega) (show 32≤j by omega)))
  simp[h,z e he,z f hf,z g hg]
theorem Aay (a b c:Nat) (ha:a<4294967296) (hb:b<4294967296) (hc:c<4294967296):(a&&&b)|||(a&&&c)|||(b&&&c)=mj a b c 32:=by
 apply Nat.eq_of_testBit_eq
 intro j
 rw[nZ]
 simp only[Nat.testBit_or,Nat.testBit_and]
 by_cases h:j<32
 ·simp only[h,decide_true,Bool.true_and]
 ·have z: ∀x:Nat,x<4294967296→x.testBit j=false:=fun x hx=>Nat.testBit_lt_two_pow (Nat.lt_of_lt_of_le hx (Nat.pow_le_pow_right (n:=2) (by omega) (show 32≤j by omega)))
  simp[h,z a ha,z b hb,z c hc]
theorem Jc {a b:Nat} (ha:a<4294967296):a&&&b<4294967296:=Nat.lt_of_le_of_lt Nat.and_le_left ha
theorem Adb {a b:Nat} (ha:a<4294967296) (hb:b<4294967296):a|||b<4294967296:=Nat.or_lt_two_pow (n:=32) ha hb
theorem oF (e f g:Nat) (w:World) (he:e<4294967296) (hf:f<4294967296) (hg:g<4294967296):
  Calls Tryz.prog 249 #[.int .u32 e, .int .u32 f, .int .u32 g] w fun en w'=>en= .returned (.int .u32 ((pk e f g 32:Nat):Int))∧w=w':=by
 go_enter Tryz.func249, Tryz.ntmps249
 go_wp2
 go_ret
 refine⟨Gn ?_,rfl⟩
 have hm:IntKind.u32.max=((4294967295:Nat):Int):=rfl
 rw[hm,Kl _ _ (by omega) he,u32_and_nat _ _ he hf,u32_and_nat _ _ (Hz (by omega) he) hg,u32_or_nat _ _ (Jc he) (Jc (Hz (by omega) he)),oE e f g he hf hg]
theorem uU (a b c:Nat) (w:World) (ha:a<4294967296) (hb:b<4294967296) (hc:c<4294967296):
  Calls Tryz.prog 251 #[.int .u32 a, .int .u32 b, .int .u32 c] w fun en w'=>en= .returned (.int .u32 ((mj a b c 32:Nat):Int))∧w=w':=by
 go_enter Tryz.func251, Tryz.ntmps251
 go_wp2
 go_ret
 refine⟨Gn ?_,rfl⟩
 rw[u32_and_nat _ _ ha hb,u32_and_nat _ _ ha hc,u32_and_nat _ _ hb hc,u32_or_nat _ _ (Jc ha) (Jc ha),u32_or_nat _ _ (Adb (Jc ha) (Jc ha)) (Jc hb),Aay a b c ha hb hc]
def St.val (v:St):Value:= .agg #[.int .u32 v.a, .int .u32 v.b, .int .u32 v.c, .int .u32 v.d, .int .u32 v.e, .int .u32 v.f, .int .u32 v.g, .int .u32 v.h]
def Cr:St:=⟨1779033703,3144134277,1013904242,2773480762,1359893119,2600822924,528734635,1541459225⟩
theorem oG (w:World):Calls Tryz.prog 235 #[] w fun e w'=> ∃g cap,e= .returned (.slice (some ⟨g,0,none⟩) 64 cap)∧w'.ownsRow w.heap.size 192 1 (.slice (some ⟨g,0,none⟩) 64 cap) 64 (U32 kTab)∧Below w.heap.size w w':=by
 go_enter Tryz.func235, Tryz.ntmps235
 go_wp2
 go_ret
 exact⟨_,_,rfl,World.ownsRow_lit w (U32 kTab).toArray 64 (Nat.le_refl _) (by decide) rfl,(Below.refl _ _).alloc (Nat.le_refl _) _⟩
theorem uV (w:World):Calls Tryz.prog 206 #[] w fun e w'=>e= .returned Cr.val∧Below w.heap.size w w':=by
 go_enter Tryz.func206, Tryz.ntmps206
 go_wp2
 exact bodyPost_ret (v:=Cr.val) (by simp[results, Tryz.results206,go_sem,St.val,Cr]) rfl ⟨rfl,(Below.refl _ _).alloc (Nat.le_refl _) _⟩
def jM (v:St) (kw:Nat):St:=
 ⟨(v.h+threeN v.e 6 11 25+pk v.e v.f v.g 32+kw+(threeN v.a 2 13 22+mj v.a v.b v.c 32)) % 4294967296,v.a,v.b,v.c,(v.d+(v.h+threeN v.e 6 11 25+pk v.e v.f v.g 32+kw)) % 4294967296,v.e,v.f,v.g⟩
theorem Adc (v:St) (k w:Nat):jM v ((k+w) % 4294967296)=rnd v k w:=by
 unfold jM rnd t1N t2N
 congr 1
 ·omega
 ·omega
theorem uW (V:St) (kw:Nat) (w:World) (hV:V.ok) (hk:kw<4294967296):
  Calls Tryz.prog 231 #[V.val, .int .u32 kw] w fun e w'=>e= .returned (jM V kw).val∧Below w.heap.size w w':=by
 obtain⟨ba,bb,bc,bd,be,bf,bg,bh⟩:=hV
 unfold St.val
 go_enter Tryz.func231, Tryz.ntmps231
 go_wp2_with fail
 go_quiet (fail)
 go_wp2_with fail
 refine(jL _ _ be).mono ?_
 rintro e w' ⟨rfl,rfl⟩
 go_wp2_with fail
 refine(oF _ _ _ _ be bf bg).mono ?_
 rintro e w' ⟨rfl,rfl⟩
 go_wp2_with fail
 refine(eB _ _ ba).mono ?_
 rintro e w' ⟨rfl,rfl⟩
 go_wp2_with fail
 refine(uU _ _ _ _ ba bb bc).mono ?_
 rintro e w' ⟨rfl,rfl⟩
 go_wp2_with fail
 have ea:((V.h:Int)+(threeN V.e 6 11 25:Nat)+(pk V.e V.f V.g 32:Nat)+(kw:Int)+((threeN V.a 2 13 22:Nat)+(mj V.a V.b V.c 32:Nat))) % 4294967296=(((jM V kw).a:Nat):Int):=by
  show _=(((_:Nat) % 4294967296:Nat):Int);omega
 have ee:((V.d:Int)+((V.h:Int)+(threeN V.e 6 11 25:Nat)+(pk V.e V.f V.g 32:Nat)+(kw:Int))) % 4294967296=(((jM V kw).e:Nat):Int):=by
  show _=(((_:Nat) % 4294967296:Nat):Int);omega
 rw[ea,ee]
 have hle:w.heap.size≤w.heap.size+1:=by omega
 refine bodyPost_ret (v:=(jM V kw).val) (by simp[results, Tryz.results231,go_sem,St.val,jM]) rfl ⟨rfl, ?_⟩
 exact(((((((((Ae (((Below.refl _ _).alloc (Nat.le_refl _) _).alloc (by simp) _) _).setCell hle _).setCell hle _).setCell hle _).setCell hle _).setCell hle _).setCell hle _).setCell hle _).setCell hle _)
end Go.Proofs.YtmdbfogjfbbpjaaGreatDoor
end
