import Derived.Test.YtcnglbliidjnfaaGreatDoorRingIs
import Derived.Test.YtcnglbliidjnfaaGreatDoorMem
import Derived.Test.YtcnglbliidjnfaaGreatDoorFieldsMath
section
namespace Go.Proofs.YtcnglbliidjnfaaGreatDoor
set_option linter.unusedVariables false
open Go.ChangeShapes Go.WideShapes Go.ChangeAt Go.RowKit
def findK (l:List K) (id:Int):K:=if isR l=true then(l.find? fun k=>k.id==id).getD K0 else K0
def findE (l:List K) (id:Int):Int:=if isR l=true then(if(l.find? fun k=>k.id==id).isSome then 0 else 10)else 1
theorem find_at {l:List K} {p:K→Bool} (k:Nat) (hk:k<l.length) (h: ∀j,j<k→p (l.getD j K0)=false) (hp:p (l.getD k K0)=true):l.find? p=some (l.getD k K0):=by
 induction l generalizing k with
 |nil=>simp at hk
 |cons x l ih=>
  cases k with
  |zero=>simp at hp;simp[hp]
  |succ k=>
   have h0:=h 0 (by omega)
   simp at h0
   rw[List.find?_cons_of_neg (by simp[h0])]
   have:=ih k (by simpa using hk) (fun j hj=>by have:=h (j+1) (by omega);simpa using this) (by simpa using hp)
   simpa using this
theorem find_none {l:List K} {p:K→Bool} (h: ∀j,j<l.length→p (l.getD j K0)=false):l.find? p=none:=by
 rw[List.find?_eq_none]
 intro x hx
 obtain⟨j,hj,rfl⟩:=List.getElem_of_mem hx
 have:=h j hj
 rw[List.getD_eq_getElem?_getD,List.getElem?_eq_getElem hj]at this
 simpa using this
theorem refis_named (l:List K) (n:Nat) (hn:n=l.length) (b:Bool) (hb:isR l=b) (A:Option Addr) (c:Nat) (w:World) (hA:Ks w w.heap.size A l) (h1:n≤9223372036854775807):
  Calls Tryz.prog 29 #[.slice A n c] w fun e w'=>e= .returned (.bool b)∧Below w.heap.size w w':=by
 subst hb
 exact refis_any l n hn A c w hA h1
set_option maxRecDepth 20000 in
theorem reffind_any (l:List K) (n:Nat) (hn:n=l.length) (id:Int) (A:Option Addr) (c:Nat) (w:World) (hA:Ks w w.heap.size A l) (h1:n≤9223372036854775807)
  (r:K) (E:Int) (hr:r=findK l id) (hE:E=findE l id):
  Calls Tryz.prog 31 #[.slice A n c, .int .i64 id] w fun e w'=> ∃S cc,e= .returned (.tuple #[.agg #[.int .i64 r.id, .slice S r.sec.length cc, .int .i64 r.frm, .int .i64 r.til], .int .i64 E])∧Bs w' w'.heap.size r.sec S cc∧Below w.heap.size w w':=by
 have HN:=Lib.hid hn
 have HA:=Lib.hid hA
 have HR:=Lib.hid hr
 have HE:=Lib.hid hE
 clear hn hA hr hE
 have HA1:=Lib.hid (HA.out.next (below_lit w #[.int .i64 0, .slice none 0 0, .int .i64 0, .int .i64 0] 48))
 cases his:isR l with
 |false=>
  have hr:r=K0:=by rw[HR.out,findK,his];rfl
  have hE:E=1:=by rw[HE.out,findE,his];rfl
  subst hr hE
  go_enter Tryz.func31, Tryz.ntmps31
  go_wp2_with fail
  refine(refis_named l n HN.out false his A c _ HA1.out h1).mono ?_
  rintro e w1 ⟨rfl,hb1⟩
  have HBX:=Lib.hid (show w1.heap[w.heap.size]?=some (.cells #[.int .i64 0, .slice none 0 0, .int .i64 0, .int .i64 0] 48 (0,0))from(hb1.block _ (by simp)).trans (heap_alloc_new w _))
  have HB1:=Lib.hid (below_after _ _ hb1)
  clear hb1
  go_wp2_with ((with_reducible refine at_store 4 ?_);refine wpList_store_named (o:=⟨none, .store 48 (.tmp 4) (.tmp 10),_,_,_,_⟩) rfl 48 (.tmp 4) (.tmp 10) rfl w.heap.size #[.int .i64 0, .slice none 0 0, .int .i64 0, .int .i64 0] rfl rfl 48 #[.int .i64 0, .slice none 0 0, .int .i64 0, .int .i64 0] HBX.out infoKey rfl (kc_one _ _ _ _ _ _) ?_;intro w5 hw5)
  have hr5:=setRow_heap w1 w.heap.size #[.int .i64 0, .slice none 0 0, .int .i64 0, .int .i64 0] #[.int .i64 0, .slice none 0 0, .int .i64 0, .int .i64 0] 48 (0,0) HBX.out
  rw[←hw5.out]at hr5
  have hb5:=below_row hw5.out (Nat.le_refl w.heap.size)
  refine bodyPost_ret (results_row_tmp Tryz.results31 _ w5 w.heap.size 48 #[.int .i64 0, .slice none 0 0, .int .i64 0, .int .i64 0] (0,0) _ rfl hr5 Tryz.underlying48 rfl infoKey) rfl ⟨none,0,rfl,Bs.empty _ _,HB1.out.trans hb5⟩
 |true=>
  go_enter Tryz.func31, Tryz.ntmps31
  go_wp2_with fail
  refine(refis_named l n HN.out true his A c _ HA1.out h1).mono ?_
  rintro e w1 ⟨rfl,hb1⟩
  have HBX:=Lib.hid (show w1.heap[w.heap.size]?=some (.cells #[.int .i64 0, .slice none 0 0, .int .i64 0, .int .i64 0] 48 (0,0))from(hb1.block _ (by simp)).trans (heap_alloc_new w _))
  have HB1:=Lib.hid (below_after _ _ hb1)
  have HK1:=Lib.hid (HA.out.below (below_after _ _ hb1))
  clear hb1
  go_wp2
  go_loop [6] (fun i=> ∃k:Nat,k≤n∧i= .int .i64 k∧ ∀j,j<k→((fun q:K=>q.id==id) (l.getD j K0))=false) (fun i=>n - (intOf i).toNat)
  case atStart=>exact⟨0,Nat.zero_le _,rfl,by omega⟩
  case round=>
   obtain⟨k,hk,rfl,hall⟩:=hrel
   by_cases hlt:k<n
   ·obtain⟨ad,S,cc,rfl,had,hk4⟩:=HK1.out k (by rw[←HN.out];exact hlt)
    have HKL:=Lib.hid (show k<l.length by rw[←HN.out];exact hlt)
    have HH:=Lib.hid hall
    obtain⟨x,hx⟩: ∃x,x=l.getD k K0:=⟨_,rfl⟩
    rw[←hx]at hk4
    have HX:=Lib.hid hx
    have HBS:=Lib.hid hk4.bs
    have hc0:=hk4.c0
    have hc1:=hk4.c1
    have hc2:=hk4.c2
    have hc3:=hk4.c3
    have b1:(0:Int)≤(k:Int):=by omega
    have b2:(k:Int)<(n:Int):=by omega
    clear hall hx hk4
    by_cases hid:x.id=id
    ·have hf:(l.find? fun q=>q.id==id)=some x:=by rw[HX.out];exact find_at k HKL.out HH.out (by rw[←HX.out];simpa using hid)
     have hr:r=x:=by rw[HR.out,findK,his,hf];rfl
     have hE:E=0:=by rw[HE.out,findE,his,hf];rfl
     subst hr hE
     have e1:(r.id==id)=true:=by simpa using hid
     clear hf hid
     go_wp2_with ((with_reducible refine at_store 4 ?_);refine wpList_store_named (o:=⟨none, .store 48 (.tmp 4) (.tmp 27),_,_,_,_⟩) rfl 48 (.tmp 4) (.tmp 27) rfl w.heap.size #[.int .i64 r.id, .slice S r.sec.length cc, .int .i64 r.frm, .int .i64 r.til] rfl rfl 48 #[.int .i64 0, .slice none 0 0, .int .i64 0, .int .i64 0] HBX.out infoKey rfl (kc_one _ _ _ _ _ _) ?_;intro w5 hw5)
     have hr5:=setRow_heap w1 w.heap.size #[.int .i64 0, .slice none 0 0, .int .i64 0, .int .i64 0] #[.int .i64 r.id, .slice S r.sec.length cc, .int .i64 r.frm, .int .i64 r.til] 48 (0,0) HBX.out
     rw[←hw5.out]at hr5
     have hb5:=below_row hw5.out (Nat.le_refl w.heap.size)
     refine bodyPost_ret (results_row_tmp Tryz.results31 _ w5 w.heap.size 48 #[.int .i64 r.id, .slice S r.sec.length cc, .int .i64 r.frm, .int .i64 r.til] (0,0) _ rfl hr5 Tryz.underlying48 rfl infoKey) rfl ⟨S,cc,rfl,(HBS.out.below hb5).more (HB1.out.trans hb5).size,HB1.out.trans hb5⟩
    ·have HST:=Lib.hid (show∀j,j<k+1→((fun q:K=>q.id==id) (l.getD j K0))=false from by
      intro j hj
      rcases Nat.lt_or_ge j k with h|h
      ·exact HH.out j h
      ·have e:j=k:=by omega
       subst e
       rw[←HX.out]
       simpa using hid)
     go_wp2
     go_round
     case rel=>exact⟨k+1,by omega,by go_num,HST.out⟩
     case measure=>simp[intOf];omega
   ·have e:k=n:=by omega
    have hf:(l.find? fun q=>q.id==id)=none:=find_none (by rw[←HN.out, ←e];exact hall)
    have hr:r=K0:=by rw[HR.out,findK,his,hf];rfl
    have hE:E=10:=by rw[HE.out,findE,his,hf];rfl
    subst hr hE
    clear hf hall
    go_wp2_with ((with_reducible refine at_store 4 ?_);refine wpList_store_named (o:=⟨none, .store 48 (.tmp 4) (.tmp 28),_,_,_,_⟩) rfl 48 (.tmp 4) (.tmp 28) rfl w.heap.size #[.int .i64 0, .slice none 0 0, .int .i64 0, .int .i64 0] rfl rfl 48 #[.int .i64 0, .slice none 0 0, .int .i64 0, .int .i64 0] HBX.out infoKey rfl (kc_one _ _ _ _ _ _) ?_;intro w5 hw5)
    have hr5:=setRow_heap w1 w.heap.size #[.int .i64 0, .slice none 0 0, .int .i64 0, .int .i64 0] #[.int .i64 0, .slice none 0 0, .int .i64 0, .int .i64 0] 48 (0,0) HBX.out
    rw[←hw5.out]at hr5
    have hb5:=below_row hw5.out (Nat.le_refl w.heap.size)
    refine bodyPost_ret (results_row_tmp Tryz.results31 _ w5 w.heap.size 48 #[.int .i64 0, .slice none 0 0, .int .i64 0, .int .i64 0] (0,0) _ rfl hr5 Tryz.underlying48 rfl infoKey) rfl ⟨none,0,rfl,Bs.empty _ _,HB1.out.trans hb5⟩
end Go.Proofs.YtcnglbliidjnfaaGreatDoor
end
section
namespace Go.Proofs.YtcnglbliidjnfaaGreatDoor
set_option linter.unusedVariables false
open Go.ChangeShapes Go.WideShapes Go.ChangeAt Go.RowKit
structure KV where
 k:K
 S:Option Addr
 c:Nat
def KV.cells (q:KV):List Value:=[.int .i64 q.k.id, .slice q.S q.k.sec.length q.c, .int .i64 q.k.frm, .int .i64 q.k.til]
def flatK (L:List KV):List Value:=L.flatMap KV.cells
theorem flatK_cons (q:KV) (L:List KV):flatK (q::L)=q.cells++flatK L:=rfl
theorem flatK_append (L M:List KV):flatK (L++M)=flatK L++flatK M:=by simp[flatK]
theorem flatK_one (q:KV):flatK [q]=q.cells:=by simp[flatK]
theorem length_flatK (L:List KV):(flatK L).length=L.length*4:=by
 induction L with
 |nil=>rfl
 |cons q L ih=>rw[flatK_cons,List.length_append,ih,List.length_cons];simp[KV.cells];omega
theorem flatK_at (L:List KV) (i j:Nat) (q:KV) (hq:L[i]?=some q) (hj:j<4):(flatK L)[i*4+j]?=q.cells[j]?:=by
 induction L generalizing i with
 |nil=>simp at hq
 |cons x L ih=>
  cases i with
  |zero=>
   simp at hq
   subst hq
   rw[flatK_cons,Nat.zero_mul,Nat.zero_add,List.getElem?_append_left (by simp[KV.cells];omega)]
  |succ i=>
   rw[flatK_cons,List.getElem?_append_right (by simp[KV.cells];omega)]
   have:(i+1)*4+j - x.cells.length=i*4+j:=by simp[KV.cells];omega
   rw[this]
   exact ih i (by simpa using hq)
theorem cells_one (q:KV): ∀u∈q.cells,u.oneCell'=true:=by
 intro u hu
 simp[KV.cells]at hu
 rcases hu with rfl|rfl|rfl|rfl<;>rfl
theorem infoKey3:(Tryz.prog.info? 48).map (fun i=>(i.zero,i.size,i.bytes))=some (some (.agg #[.int .i64 0, .slice none 0 0, .int .i64 0, .int .i64 0]),4,48):=by kernel_rfl
theorem ks_of_own {w:World} {base g n cap:Nat} {L:List KV} (h:w.ownsRow base 48 4 (.slice (some ⟨g,0,none⟩) n cap) n (flatK L)) (hs: ∀q∈L,Bs w w.heap.size q.k.sec q.S q.c):Ks w w.heap.size (some ⟨g,0,none⟩) (L.map (·.k)):=by
 have hn:L.length=n:=by
  have:=h.1
  rw[length_flatK]at this
  omega
 have hg:g<w.heap.size:=by
  rcases h.2 with⟨h',_⟩|⟨g',cap',cur,h',_,hg,_⟩
  ·simp at h'
  ·simp only[Value.slice.injEq,Option.some.injEq,Addr.mk.injEq,and_true,true_and]at h'
   obtain⟨rfl,rfl⟩:=h'
   exact(Array.getElem?_eq_some_iff.1 hg).1
 intro i hi
 have hi':i<L.length:=by simpa using hi
 have hq:L[i]?=some L[i]:=List.getElem?_eq_getElem hi'
 have hk:(L.map (·.k)).getD i K0=L[i].k:=by
  rw[List.getD_eq_getElem?_getD,List.getElem?_map,hq];rfl
 have hc: ∀j,j<4→w.cell? ⟨g,i*4+j,none⟩=(L[i]).cells[j]?:=by
  intro j hj
  rw[h.cellAt _ (by omega),flatK_at L i j _ hq hj]
 rw[hk]
 refine⟨_,(L[i]).S,(L[i]).c,rfl,hg, ?_⟩
 rw[at_add]
 exact⟨hc 0 (by omega),hc 1 (by omega),hc 2 (by omega),hc 3 (by omega),hs _ (List.getElem_mem hi')⟩
def KVs (w:World) (B:Nat) (A:Option Addr) (L:List KV):Prop:= ∀i q,L[i]?=some q→ ∃ad,A=some ad∧ad.block<B∧KAt w B (ad.add (i*4)) q.k q.S q.c
theorem kvs_upto {w:World} {B:Nat} {A:Option Addr} {l:List K} (h:Ks w B A l) (n:Nat):n≤l.length→ ∃L:List KV,L.length=n∧L.map (·.k)=l.take n∧KVs w B A L:=by
 induction n with
 |zero=>intro _;exact⟨[],rfl,rfl,by intro i q hq;simp at hq⟩
 |succ n ih=>
  intro hn
  obtain⟨L,h1,h2,h3⟩:=ih (by omega)
  obtain⟨ad,S,c,e,hlt,hk⟩:=h n (by omega)
  refine⟨L++ [⟨l.getD n K0,S,c⟩],by simp[h1], ?_, ?_⟩
  ·rw[List.map_append,h2,List.take_succ_eq_append_getElem (by omega),List.getD_eq_getElem?_getD,List.getElem?_eq_getElem (by omega)];rfl
  ·intro i q hq
   rcases Nat.lt_or_ge i n with hi|hi
   ·rw[List.getElem?_append_left (by omega)]at hq
    exact h3 i q hq
   ·rw[List.getElem?_append_right (by omega),h1]at hq
    have:i - n=0:=by
     rcases Nat.eq_zero_or_pos (i - n)with h0|h0
     ·exact h0
     ·rw[List.getElem?_eq_none (by simp;omega)]at hq;cases hq
    rw[this]at hq
    have e2:i=n:=by omega
    simp at hq
    subst hq e2
    exact⟨ad,e,hlt,hk⟩
theorem kvs_of_ks {w:World} {B:Nat} {A:Option Addr} {l:List K} (h:Ks w B A l): ∃L:List KV,L.map (·.k)=l∧KVs w B A L∧ ∀q∈L,Bs w B q.k.sec q.S q.c:=by
 obtain⟨L,_,h2,h3⟩:=kvs_upto h l.length (Nat.le_refl _)
 refine⟨L,by rw[h2,List.take_length],h3, ?_⟩
 intro q hq
 obtain⟨i,hi⟩:=List.mem_iff_getElem?.1 hq
 obtain⟨_,_,_,hk⟩:=h3 i q hi
 exact hk.bs
theorem own_key_lit (w:World) (q:KV): ∀j u,q.cells[j]?=some u→(w.alloc (.cells q.cells.toArray 48)).cell? ((⟨w.heap.size,0,none⟩:Addr).add j)=some u:=by
 intro j u hu
 rw[at_add,cell_of_row (w.alloc (.cells q.cells.toArray 48)) w.heap.size j _ _ (0,0) (heap_alloc_new w _)]
 simpa using hu
end Go.Proofs.YtcnglbliidjnfaaGreatDoor
end
section
namespace Go.Proofs.YtcnglbliidjnfaaGreatDoor
def placeN (l:List K) (id:Int):Nat:=(l.takeWhile fun q=>decide (q.id<id)).length
def addK (l:List K) (k:K):List K:=if(isR l&&k.right)=true then(if l.any (fun q=>q.id==k.id)=true then []else l.take (placeN l k.id)++k::l.drop (placeN l k.id))else []
def addE (l:List K) (k:K):Int:=if(isR l&&k.right)=true then(if l.any (fun q=>q.id==k.id)=true then 10 else 0)else 1
theorem place_at {l:List K} {id:Int} (j:Nat) (hj:j≤l.length) (h: ∀t,t<j→(l.getD t K0).id<id) (h2:j<l.length→ ¬((l.getD j K0).id<id)):placeN l id=j:=by
 induction l generalizing j with
 |nil=>simp at hj;subst hj;rfl
 |cons x l ih=>
  unfold placeN at*
  cases j with
  |zero=>
   have:=h2 (by simp)
   simp at this
   rw[List.takeWhile_cons_of_neg (by simp;exact this)];rfl
  |succ j=>
   have h0:=h 0 (by omega)
   simp at h0
   rw[List.takeWhile_cons_of_pos (by simpa using h0),List.length_cons,ih j (by simpa using hj) (fun t ht=>by have:=h (t+1) (by omega);simpa using this) (fun hl=>by have:=h2 (by simpa using hl);simpa using this)]
theorem any_false {l:List K} {id:Int} (h: ∀t,t<l.length→(l.getD t K0).id≠id):l.any (fun q=>q.id==id)=false:=by
 rw[List.any_eq_false]
 intro x hx
 obtain⟨j,hj,rfl⟩:=List.getElem_of_mem hx
 have:=h j hj
 rw[List.getD_eq_getElem?_getD,List.getElem?_eq_getElem hj]at this
 simpa using this
theorem any_true {l:List K} {id:Int} (t:Nat) (ht:t<l.length) (h:(l.getD t K0).id=id):l.any (fun q=>q.id==id)=true:=by
 rw[List.any_eq_true]
 refine⟨l[t],List.getElem_mem ht, ?_⟩
 rw[List.getD_eq_getElem?_getD,List.getElem?_eq_getElem ht]at h
 simpa using h
theorem ring_len {l:List K} (h:isR l=true):l.length≤100:=by
 have hg:=isR_true.1 h
 have hlow: ∀i,i<l.length→(i:Int)≤(l.getD i K0).id∧(l.getD i K0).id≤99:=by
  intro i
  induction i with
  |zero=>
   intro hi
   have:=hg 0 hi
   simp only[goodAt,Bool.and_eq_true]at this
   have:=(rightN_iff _ _ _ _).1 this.1
   omega
  |succ i ih=>
   intro hi
   have:=hg (i+1) hi
   simp only[goodAt,Bool.and_eq_true,Bool.or_eq_true,decide_eq_true_eq,beq_iff_eq,Nat.add_sub_cancel]at this
   have h1:=(rightN_iff _ _ _ _).1 this.1
   have h2:=ih (by omega)
   omega
 rcases Nat.lt_or_ge 100 l.length with h|h
 ·have:=hlow 100 h;omega
 ·exact h
end Go.Proofs.YtcnglbliidjnfaaGreatDoor
end
section
namespace Go.Proofs.YtcnglbliidjnfaaGreatDoor
set_option linter.unusedVariables false
open Go.ChangeShapes Go.WideShapes Go.ChangeAt Go.RowKit
end Go.Proofs.YtcnglbliidjnfaaGreatDoor
end
section
namespace Go.Proofs.YtcnglbliidjnfaaGreatDoor
def Lt (a b:K):Prop:=a.id<b.id
theorem isR_iff (l:List K):isR l=true↔(∀x∈l,x.right=true)∧l.Pairwise Lt:=by
 constructor
 ·intro h
  have hg:=isR_true.1 h
  have hd: ∀i (hi:i<l.length),l.getD i K0=l[i]:=fun i hi=>by rw[List.getD_eq_getElem?_getD,List.getElem?_eq_getElem hi];rfl
  constructor
  ·intro x hx
   obtain⟨i,hi,rfl⟩:=List.getElem_of_mem hx
   have:=hg i hi
   simp only[goodAt,Bool.and_eq_true]at this
   rw[←hd i hi];exact this.1
  ·rw[List.pairwise_iff_getElem]
   intro i j hi hj hij
   induction j with
   |zero=>omega
   |succ j ih=>
    have:=hg (j+1) hj
    simp only[goodAt,Bool.and_eq_true,Bool.or_eq_true,decide_eq_true_eq,beq_iff_eq,Nat.add_sub_cancel]at this
    have h2:(l.getD j K0).id<(l.getD (j+1) K0).id:=by
     rcases this.2 with h|h
     ·omega
     ·exact h
    rw[hd j (by omega),hd (j+1) hj]at h2
    rcases Nat.lt_or_ge i j with h|h
    ·have:=ih (by omega) h
     unfold Lt at*
     omega
    ·have e:i=j:=by omega
     subst e
     exact h2
 ·rintro⟨h1,h2⟩
  rw[isR_true]
  intro i hi
  have hd: ∀i (hi:i<l.length),l.getD i K0=l[i]:=fun i hi=>by rw[List.getD_eq_getElem?_getD,List.getElem?_eq_getElem hi];rfl
  rw[List.pairwise_iff_getElem]at h2
  rw[goodAt,hd i hi,h1 _ (List.getElem_mem hi),Bool.true_and]
  rcases Nat.eq_zero_or_pos i with h|h
  ·subst h;rfl
  ·have:=h2 (i - 1) i (by omega) hi (by omega)
   rw[hd (i - 1) (by omega)]
   unfold Lt at this
   simp[this]
def ins (k:K):List K→List K
 |[]=>[k]
 |x::l=>if x.id<k.id then x::ins k l else k::x::l
theorem ins_place (k:K) (l:List K):l.take (placeN l k.id)++k::l.drop (placeN l k.id)=ins k l:=by
 induction l with
 |nil=>rfl
 |cons x l ih=>
  unfold placeN at*
  by_cases h:x.id<k.id
  ·rw[List.takeWhile_cons_of_pos (by simpa using h),ins,if_pos h, ←ih]
   rfl
  ·rw[List.takeWhile_cons_of_neg (by simpa using h),ins,if_neg h]
   rfl
theorem mem_ins (k:K) (l:List K) (x:K):x∈ins k l↔x=k∨x∈l:=by
 induction l with
 |nil=>simp[ins]
 |cons y l ih=>
  unfold ins
  split
  ·rw[List.mem_cons,ih,List.mem_cons]
   constructor
   ·rintro(h|h|h)<;>simp[h]
   ·rintro(h|h|h)<;>simp[h]
  ·simp
theorem pw_ins (k:K) (l:List K) (h:l.Pairwise Lt) (hne: ∀x∈l,x.id≠k.id):(ins k l).Pairwise Lt:=by
 induction l with
 |nil=>simp[ins]
 |cons y l ih=>
  rw[List.pairwise_cons]at h
  unfold ins
  split
  ·next hy=>
   rw[List.pairwise_cons]
   refine⟨?_,ih h.2 (fun x hx=>hne x (by simp[hx]))⟩
   intro x hx
   rcases(mem_ins k l x).1 hx with h'|h'
   ·rw[h'];exact hy
   ·exact h.1 x h'
  ·next hy=>
   have hlt:k.id<y.id:=by have:=hne y (by simp);omega
   rw[List.pairwise_cons]
   refine⟨?_,by rw[List.pairwise_cons];exact h⟩
   intro x hx
   rcases List.mem_cons.1 hx with h'|h'
   ·rw[h'];exact hlt
   ·have:=h.1 x h'
    unfold Lt at*
    omega
theorem find_ins_same (k:K) (l:List K) (hne: ∀x∈l,x.id≠k.id):(ins k l).find? (fun q=>q.id==k.id)=some k:=by
 induction l with
 |nil=>simp[ins]
 |cons y l ih=>
  unfold ins
  split
  ·rw[List.find?_cons_of_neg (by simpa using hne y (by simp))]
   exact ih (fun x hx=>hne x (by simp[hx]))
  ·rw[List.find?_cons_of_pos (by simp)]
theorem find_ins_other (k:K) (l:List K) (id:Int) (h:k.id≠id):(ins k l).find? (fun q=>q.id==id)=l.find? (fun q=>q.id==id):=by
 induction l with
 |nil=>simp[ins,h]
 |cons y l ih=>
  unfold ins
  split
  ·by_cases hy:y.id=id
   ·rw[List.find?_cons_of_pos (by simpa using hy),List.find?_cons_of_pos (by simpa using hy)]
   ·rw[List.find?_cons_of_neg (by simpa using hy),List.find?_cons_of_neg (by simpa using hy),ih]
  ·rw[List.find?_cons_of_neg (by simpa using h)]
theorem add_zero {l:List K} {k:K} (h:0=addE l k):isR l=true∧k.right=true∧l.any (fun q=>q.id==k.id)=false∧addK l k=ins k l∧isR (ins k l)=true:=by
 unfold addE at h
 split at h
 ·next h1=>
  split at h
  ·exact absurd h (by decide)
  ·next h2=>
   have h3:isR l=true∧k.right=true:=by simpa using h1
   have h4:l.any (fun q=>q.id==k.id)=false:=by simpa using h2
   have hne: ∀x∈l,x.id≠k.id:=by
    intro x hx e
    rw[List.any_eq_false]at h4
    have:=h4 x hx
    simp[e]at this
   refine⟨h3.1,h3.2,h4, ?_, ?_⟩
   ·rw[addK,if_pos h1,h4, ←ins_place];rfl
   ·have:=(isR_iff l).1 h3.1
    rw[isR_iff]
    refine⟨?_,pw_ins k l this.2 hne⟩
    intro x hx
    rcases(mem_ins k l x).1 hx with h'|h'
    ·rw[h'];exact h3.2
    ·exact this.1 x h'
 ·exact absurd h (by decide)
theorem any_ne {l:List K} {k:K} (h:l.any (fun q=>q.id==k.id)=false): ∀x∈l,x.id≠k.id:=by
 intro x hx e
 rw[List.any_eq_false]at h
 have:=h x hx
 simp[e]at this
end Go.Proofs.YtcnglbliidjnfaaGreatDoor
end
section
namespace Go.Proofs.YtcnglbliidjnfaaGreatDoor
set_option linter.unusedVariables false
open Go.ChangeShapes Go.WideShapes Go.ChangeAt Go.RowKit
theorem ret_int {k:IntKind} {a b:Int} (h:a=b):Ending.returned (.int k a)= .returned (.int k b):=by rw[h]
theorem rot_bits (x:Nat) (n:Int) (hx:x<4294967296):
  bits BinOp.or IntKind.u32 ((x:Int) / 2^(n % 32).toNat) ((x:Int)*2^(32 - n % 32).toNat % 4294967296)=((itr (n % 32).toNat x:Nat):Int):=by
 obtain⟨k,hk⟩: ∃k:Nat,k=(n % 32).toNat:=⟨_,rfl⟩
 have e2:(32 - n % 32).toNat=32 - k:=by omega
 rw[←hk,e2]
 have h1:(x:Int) / 2^k=((x / 2^k:Nat):Int):=by simp
 have h2:(x:Int)*2^(32 - k) % 4294967296=((x*2^(32 - k) % 4294967296:Nat):Int):=by simp
 rw[h1,h2,u32_or_nat _ _ (Nat.lt_of_le_of_lt (Nat.div_le_self _ _) hx) (Nat.mod_lt _ (by omega)),or_rot x k hx (by omega)]
theorem rot_any (x:Nat) (n:Int) (w:World) (hx:x<4294967296) (hn0: -9223372036854775808≤n) (hn1:n≤9223372036854775807):
  Calls Tryz.prog 162 #[.int .u32 x, .int .i64 n] w fun e w'=>e= .returned (.int .u32 ((itr (n % 32).toNat x:Nat):Int))∧w=w':=by
 have hx':(x:Int)≤4294967295:=by omega
 go_enter Tryz.func162, Tryz.ntmps162
 go_wp2
 go_ret
 refine⟨ret_int ?_,rfl⟩
 exact rot_bits x n hx
theorem stp_one {y:Nat} (h:((y:Int) % 2==1)=true):(y:Int) / 2+2147483648=((stp y:Nat):Int):=by
 simp only[beq_iff_eq]at h
 unfold stp
 omega
theorem stp_zero {y:Nat} (h:((y:Int) % 2==1)=false):(y:Int) / 2=((stp y:Nat):Int):=by
 simp only[beq_eq_false_iff_ne,ne_eq]at h
 unfold stp
 omega
theorem refrot_any (x:Nat) (n:Int) (w:World) (hx:x<4294967296) (hn0: -9223372036854775808≤n) (hn1:n≤9223372036854775807):
  Calls Tryz.prog 154 #[.int .u32 x, .int .i64 n] w fun e w'=>e= .returned (.int .u32 ((itr (n % 32).toNat x:Nat):Int))∧w=w':=by
 have ht:=Int.tmod_lt_of_pos n (show(0:Int)<32 by omega)
 have ht2:=Int.lt_tmod_of_pos n (show(0:Int)<32 by omega)
 have hd:=Int.mul_tdiv_add_tmod n 32
 have hK0: ∀K:Nat,(K:Int)=n.tmod 32∨(K:Int)=n.tmod 32+32∧n.tmod 32<0→K<32→(n % 32).toNat=K:=by intro K h hk;omega
 have HK:=Lib.hid hK0
 clear hd hK0
 by_cases hneg:n.tmod 32<0
 ·obtain⟨K,hK⟩: ∃K:Nat,(K:Int)=n.tmod 32+32:=⟨(n.tmod 32+32).toNat,by omega⟩
  have eK:=HK.out K (.inr ⟨hK,hneg⟩) (by omega)
  have hK31:K<32:=by omega
  rw[eK]
  clear eK HK
  have HK':=Lib.hid hK
  clear hK
  go_enter Tryz.func154, Tryz.ntmps154
  go_wp2
  rw[←HK'.out]
  go_loop [0,6] (fun y i=> ∃k:Nat,k≤K∧i= .int .i64 k∧y= .int .u32 ((itr k x:Nat):Int)) (fun _ i=>K - (intOf i).toNat)
  case atStart=>exact⟨0,Nat.zero_le _,rfl,rfl⟩
  case round=>
   obtain⟨k,hk,rfl,rfl⟩:=hrel
   have hlt:=itr_lt k hx
   obtain⟨y,hy⟩: ∃y,y=itr k x:=⟨_,rfl⟩
   have HS:Hid (itr (k+1) x=stp y):=by rw[hy];rfl
   have HY:=Lib.hid hy
   rw[←hy]at hlt⊢
   clear hy
   go_wp2
   ·go_round
    case rel=>exact⟨k+1,by omega,by go_num,by rw[HS.out, ←stp_one (by assumption)]⟩
    case measure=>simp[intOf];omega
   ·go_round
    case rel=>exact⟨k+1,by omega,by go_num,by rw[HS.out, ←stp_zero (by assumption)]⟩
    case measure=>simp[intOf];omega
   ·have hlt: ¬k<K:=by assumption
    have hkk:k=K:=by omega
    go_ret
    exact⟨ret_int (by rw[HY.out,hkk]),rfl⟩
 ·obtain⟨K,hK⟩: ∃K:Nat,(K:Int)=n.tmod 32:=⟨(n.tmod 32).toNat,by omega⟩
  have eK:=HK.out K (.inl hK) (by omega)
  have hK31:K<32:=by omega
  rw[eK]
  clear eK HK
  have HK':=Lib.hid hK
  clear hK
  have hneg':0≤n.tmod 32:=by omega
  go_enter Tryz.func154, Tryz.ntmps154
  go_wp2
  rw[←HK'.out]
  go_loop [0,6] (fun y i=> ∃k:Nat,k≤K∧i= .int .i64 k∧y= .int .u32 ((itr k x:Nat):Int)) (fun _ i=>K - (intOf i).toNat)
  case atStart=>exact⟨0,Nat.zero_le _,rfl,rfl⟩
  case round=>
   obtain⟨k,hk,rfl,rfl⟩:=hrel
   have hlt:=itr_lt k hx
   obtain⟨y,hy⟩: ∃y,y=itr k x:=⟨_,rfl⟩
   have HS:Hid (itr (k+1) x=stp y):=by rw[hy];rfl
   have HY:=Lib.hid hy
   rw[←hy]at hlt⊢
   clear hy
   go_wp2
   ·go_round
    case rel=>exact⟨k+1,by omega,by go_num,by rw[HS.out, ←stp_one (by assumption)]⟩
    case measure=>simp[intOf];omega
   ·go_round
    case rel=>exact⟨k+1,by omega,by go_num,by rw[HS.out, ←stp_zero (by assumption)]⟩
    case measure=>simp[intOf];omega
   ·have hlt: ¬k<K:=by assumption
    have hkk:k=K:=by omega
    go_ret
    exact⟨ret_int (by rw[HY.out,hkk]),rfl⟩
end Go.Proofs.YtcnglbliidjnfaaGreatDoor
end
section
namespace Go.Proofs.YtcnglbliidjnfaaGreatDoor
set_option linter.unusedVariables false
open Go.ChangeShapes Go.WideShapes Go.ChangeAt Go.RowKit
theorem xor32 (a b:Nat) (ha:a<4294967296) (hb:b<4294967296):bits BinOp.xor IntKind.u32 (a:Int) (b:Int)=((a^^^b:Nat):Int):=u32_xor_nat a b ha hb
theorem three_any (x:Nat) (i j k:Int) (w:World) (hx:x<4294967296) (hi0:0≤i) (hi:i<32) (hj0:0≤j) (hj:j<32) (hk0:0≤k) (hk:k<32):
  Calls Tryz.prog 137 #[.int .u32 x, .int .i64 i, .int .i64 j, .int .i64 k] w fun e w'=>e= .returned (.int .u32 ((threeN x i.toNat j.toNat k.toNat:Nat):Int))∧w=w':=by
 have ei:(i % 32).toNat=i.toNat:=by omega
 have ej:(j % 32).toNat=j.toNat:=by omega
 have ek:(k % 32).toNat=k.toNat:=by omega
 have EI:=Lib.hid ei
 have EJ:=Lib.hid ej
 have EK:=Lib.hid ek
 clear ei ej ek
 have ha:=itr_lt i.toNat hx
 have hb:=itr_lt j.toNat hx
 have hc:=itr_lt k.toNat hx
 go_enter Tryz.func137, Tryz.ntmps137
 go_wp2_with fail
 refine(refrot_any x i _ hx (by omega) (by omega)).mono ?_
 rintro e w' ⟨rfl,rfl⟩
 rw[EI.out]
 go_wp2_with fail
 refine(refrot_any x j _ hx (by omega) (by omega)).mono ?_
 rintro e w' ⟨rfl,rfl⟩
 rw[EJ.out]
 go_wp2_with fail
 refine(refrot_any x k _ hx (by omega) (by omega)).mono ?_
 rintro e w' ⟨rfl,rfl⟩
 rw[EK.out]
 go_wp2_with fail
 go_ret
 refine⟨ret_int ?_,rfl⟩
 rw[xor32 _ _ ha hb,xor32 _ _ (xor_lt32 ha hb) hc]
 rfl
theorem refrot_small (x:Nat) (n:Int) (W:World) (hx:x<4294967296) (h0:0≤n) (h:n<32):
  Calls Tryz.prog 154 #[.int .u32 x, .int .i64 n] W fun e w'=>e= .returned (.int .u32 ((itr n.toNat x:Nat):Int))∧w'=W:=by
 have h:=refrot_any x n W hx (by omega) (by omega)
 rw[show(n % 32).toNat=n.toNat by omega]at h
 exact h.mono fun _ _ ⟨a,b⟩=>⟨a,b.symm⟩
theorem two_any (x:Nat) (i j:Int) (d:Nat) (w:World) (hx:x<4294967296) (hi0:0≤i) (hi:i<32) (hj0:0≤j) (hj:j<32) (hd:1≤d) (hd2:d<4294967296):
  Calls Tryz.prog 135 #[.int .u32 x, .int .i64 i, .int .i64 j, .int .u32 d] w fun e w'=>e= .returned (.int .u32 ((twoN x i.toNat j.toNat d:Nat):Int))∧ ∃n,w'=w.drewN n:=by
 have ha:=itr_lt i.toNat hx
 have hb:=itr_lt j.toNat hx
 have hq:x / d<4294967296:=Nat.lt_of_le_of_lt (Nat.div_le_self _ _) hx
 have hd0: ¬(d:Int)=0:=by omega
 go_enter Tryz.func135, Tryz.ntmps135
 go_wp2_with fail
 go_quiet ((go_at_call 154;exact Calls.quiet_of_same (refrot_small _ _ _ hx (by assumption) (by assumption))))
 go_wp2_with fail
 go_ret
 refine⟨ret_int ?_,_,rfl⟩
 have e:(x:Int) / (d:Int) % 4294967296=((x / d:Nat):Int):=by
  rw[←Int.natCast_ediv];exact Int.emod_eq_of_lt (Int.natCast_nonneg _) (Int.ofNat_lt.2 hq)
 rw[xor32 _ _ ha hb,e,xor32 _ _ (xor_lt32 ha hb) hq]
 rfl
def bitOf (k:Nat):Nat:=if k=32 then 0 else 2^k
def leftN (n:Nat):Nat:=if n=0 then 0 else 4294967296 - n
def left (v:Value):Nat:=leftN (intOf v).toNat
theorem left_nat (k:IntKind) (n:Nat):left (.int k (n:Int))=leftN n:=rfl
theorem bitOf_lt {k:Nat} (h:k<32):bitOf k=2^k:=by unfold bitOf;rw[if_neg (by omega)]
theorem pow_le31 {k:Nat} (h:k<32):1≤2^k∧2^k≤2147483648:=⟨Nat.one_le_two_pow,Nat.pow_le_pow_right (n:=2) (by omega) (show k≤31 by omega)⟩
theorem bit_next {k:Nat} (h:k<32):2*((2^k:Nat):Int) % 4294967296=((bitOf (k+1):Nat):Int):=by
 have e:2^(k+1)=2*2^k:=by rw[Nat.pow_succ,Nat.mul_comm]
 unfold bitOf
 by_cases h1:k+1=32
 ·have:k=31:=by omega
  subst this
  decide
 ·rw[if_neg h1,e]
  have:=(pow_le31 (k:=k+1) (by omega)).2
  omega
theorem left_next {k:Nat} (h:k<32):left (.int .u32 ((bitOf (k+1):Nat):Int))<left (.int .u32 ((2^k:Nat):Int)):=by
 have hp:=pow_le31 h
 have e:2^(k+1)=2*2^k:=by rw[Nat.pow_succ,Nat.mul_comm]
 rw[left_nat,left_nat]
 unfold leftN bitOf
 by_cases h1:k+1=32
 ·rw[if_pos h1,if_pos rfl,if_neg (by omega)]
  omega
 ·rw[if_neg h1,if_neg (by omega),if_neg (by omega)]
  omega
theorem cast_bit (x k:Nat):(x:Int) / ((2^k:Nat):Int) % 2=((x / 2^k % 2:Nat):Int):=by simp
set_option maxRecDepth 20000 in
theorem pick_any (e f g:Nat) (w:World) (he:e<4294967296) (hf:f<4294967296) (hg:g<4294967296):
  Calls Tryz.prog 138 #[.int .u32 e, .int .u32 f, .int .u32 g] w fun en w'=>en= .returned (.int .u32 ((pk e f g 32:Nat):Int))∧w=w':=by
 go_enter Tryz.func138, Tryz.ntmps138
 go_wp2
 go_loop [7,8] (fun o b=> ∃k:Nat,k≤32∧b= .int .u32 ((bitOf k:Nat):Int)∧o= .int .u32 ((pk e f g k:Nat):Int)) (fun _ b=>left b)
 case atStart=>exact⟨0,Nat.zero_le _,rfl,rfl⟩
 case round=>
  obtain⟨k,hk,rfl,rfl⟩:=hrel
  by_cases hlt:k<32
  ·have hp:=pow_le31 hlt
   have hpk:=pk_lt e f g k
   have hn:=bit_next hlt
   have hl:=left_next hlt
   have ce:=cast_bit e k
   have cf:=cast_bit f k
   have cg:=cast_bit g k
   have hs:pk e f g (k+1)=pk e f g k+(if e / 2^k % 2=1 then f / 2^k % 2 else g / 2^k % 2)*2^k:=by rw[pk];split<;>rfl
   have be:=sbit_le e k
   have bf:=sbit_le f k
   have bg:=sbit_le g k
   rw[bitOf_lt hlt]
   generalize 2^k=p at*
   generalize pk e f g k=y at*
   generalize e / p % 2=be' at*
   generalize f / p % 2=bf' at*
   generalize g / p % 2=bg' at*
   rcases(show be'=0∨be'=1 by omega)with rfl|rfl
   ·rcases(show bg'=0∨bg'=1 by omega)with rfl|rfl
    all_goals
     simp only[Nat.zero_ne_one,if_false,Nat.zero_mul,Nat.one_mul,Nat.add_zero]at hs
     have HS:=Lib.hid hs
     have HN:=Lib.hid hn
     have HL:=Lib.hid hl
     clear hs hn hl
     go_wp2
     go_round
     case rel=>exact⟨k+1,by omega,by rw[HN.out],by rw[HS.out];try go_num⟩
     case measure=>rw[HN.out];exact HL.out
   ·rcases(show bf'=0∨bf'=1 by omega)with rfl|rfl
    all_goals
     simp only[if_true,Nat.zero_mul,Nat.one_mul,Nat.add_zero]at hs
     have HS:=Lib.hid hs
     have HN:=Lib.hid hn
     have HL:=Lib.hid hl
     clear hs hn hl
     go_wp2
     go_round
     case rel=>exact⟨k+1,by omega,by rw[HN.out],by rw[HS.out];try go_num⟩
     case measure=>rw[HN.out];exact HL.out
  ·have ek:k=32:=by omega
   subst ek
   have hz:bitOf 32=0:=rfl
   go_wp2
   go_ret
   exact⟨rfl,rfl⟩
set_option maxRecDepth 20000 in
theorem most_any (a b c:Nat) (w:World) (ha:a<4294967296) (hb:b<4294967296) (hc:c<4294967296):
  Calls Tryz.prog 139 #[.int .u32 a, .int .u32 b, .int .u32 c] w fun en w'=>en= .returned (.int .u32 ((mj a b c 32:Nat):Int))∧ ∃n,w'=w.drewN n:=by
 go_enter Tryz.func139, Tryz.ntmps139
 go_wp2
 go_loopw [7,8] (fun o b' wr=> ∃k n:Nat,k≤32∧b'= .int .u32 ((bitOf k:Nat):Int)∧o= .int .u32 ((mj a b c k:Nat):Int)∧wr=w.drewN n) (fun _ b' _=>left b')
 case atStart=>exact⟨0,0,Nat.zero_le _,rfl,rfl,rfl⟩
 case round=>
  obtain⟨k,n,hk,rfl,rfl,rfl⟩:=hrel
  by_cases hlt:k<32
  ·have hp:=pow_le31 hlt
   have hmj:=mj_lt a b c k
   have hn:=bit_next hlt
   have hl:=left_next hlt
   have ca:=cast_bit a k
   have cb:=cast_bit b k
   have cc:=cast_bit c k
   have hs:mj a b c (k+1)=mj a b c k+if 2≤a / 2^k % 2+b / 2^k % 2+c / 2^k % 2 then 2^k else 0:=rfl
   have ba:=sbit_le a k
   have bb:=sbit_le b k
   have bc:=sbit_le c k
   rw[bitOf_lt hlt]
   generalize 2^k=p at*
   generalize mj a b c k=y at*
   generalize a / p % 2=a' at*
   generalize b / p % 2=b' at*
   generalize c / p % 2=c' at*
   have hp0: ¬(p:Int)=0:=by omega
   have HN:=Lib.hid hn
   have HL:=Lib.hid hl
   clear hn hl
   rcases(show a'=0∨a'=1 by omega)with rfl|rfl<;>rcases(show b'=0∨b'=1 by omega)with rfl|rfl<;>rcases(show c'=0∨c'=1 by omega)with rfl|rfl
   all_goals
    simp only[Nat.reduceAdd,Nat.reduceLeDiff,if_true,if_false,Nat.add_zero]at hs
    have HS:=Lib.hid hs
    clear hs
    go_wp2
    go_quiet (fail)
    go_wp2
    go_roundw
    case rel=>exact⟨k+1,_,by omega,by rw[HN.out],by rw[HS.out];try go_num,rfl⟩
    case measure=>rw[HN.out];exact HL.out
  ·have ek:k=32:=by omega
   subst ek
   have hz:bitOf 32=0:=rfl
   go_wp2
   go_ret
   exact⟨rfl,_,rfl⟩
end Go.Proofs.YtcnglbliidjnfaaGreatDoor
end
