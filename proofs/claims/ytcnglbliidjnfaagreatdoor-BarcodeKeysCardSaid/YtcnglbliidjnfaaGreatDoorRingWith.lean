import Derived.Test.YtcnglbliidjnfaaGreatDoorRingLast
import Derived.Test.YtcnglbliidjnfaaGreatDoorRingPIs
namespace Go.Proofs.YtcnglbliidjnfaaGreatDoor
set_option linter.unusedVariables false
open Go.ChangeShapes Go.WideShapes Go.ChangeAt Go.RowKit
theorem flatK_set: ∀(M:List KV) (i:Nat) (q:KV),i<M.length→flatK (M.set i q)=((((flatK M).set (i*4) (.int .i64 q.k.id)).set (i*4+1) (.slice q.S q.k.sec.length q.c)).set (i*4+2) (.int .i64 q.k.frm)).set (i*4+3) (.int .i64 q.k.til)
 |[],_,_,h=>by simp at h
 |x::M,0,q,_=>by simp[flatK_cons,KV.cells]
 |x::M,i+1,q,h=>by
  have ih:=flatK_set M i q (by simpa using h)
  rw[List.set_cons_succ,flatK_cons,flatK_cons,ih]
  have e:(i+1)*4=i*4+1+1+1+1:=by omega
  have e1:(i+1)*4+1=i*4+1+1+1+1+1:=by omega
  have e2:(i+1)*4+2=i*4+2+1+1+1+1:=by omega
  have e3:(i+1)*4+3=i*4+3+1+1+1+1:=by omega
  rw[e1,e2,e3,e]
  simp only[KV.cells,List.cons_append,List.nil_append,List.set_cons_succ]
theorem own_set {w:World} {base g n cap i:Nat} {e:TypeId} {M:List KV} (h:w.ownsRow base e 4 (.slice (some ⟨g,0,none⟩) n cap) n (flatK M)) (q:KV) (hi:i<M.length):
  (w.setCells g (i*4) q.cells).ownsRow base e 4 (.slice (some ⟨g,0,none⟩) n cap) n (flatK (M.set i q)):=by
 have hl:=h.1
 rcases h.2 with⟨h',_⟩|⟨g',cap',cur,h',hb,hg,hnc,hcm,hcs,htake⟩
 ·simp at h'
 ·simp only[Value.slice.injEq,Option.some.injEq,Addr.mk.injEq,and_true,true_and]at h'
  obtain⟨rfl,rfl⟩:=h'
  refine⟨by rw[length_flatK,List.length_set, ←length_flatK];exact hl, .inr ⟨g,cap,(((cur.setIfInBounds (i*4) (.int .i64 q.k.id)).setIfInBounds (i*4+1) (.slice q.S q.k.sec.length q.c)).setIfInBounds (i*4+2) (.int .i64 q.k.frm)).setIfInBounds (i*4+3) (.int .i64 q.k.til),rfl,hb, ?_,hnc,hcm,by simpa using hcs, ?_⟩⟩
  ·have h1:=heap_setCell_same w g (i*4) cur e (.int .i64 q.k.id) hg
   have h2:=heap_setCell_same _ g (i*4+1) _ e (.slice q.S q.k.sec.length q.c) h1
   have h3:=heap_setCell_same _ g (i*4+2) _ e (.int .i64 q.k.frm) h2
   exact heap_setCell_same _ g (i*4+3) _ e (.int .i64 q.k.til) h3
  ·rw[flatK_set M i q hi, ←htake]
   simp only[Array.toList_setIfInBounds,List.take_set]
theorem below_setCells' {B:Nat} {a:World} (b:Nat) (hb:B≤b): ∀(vs:List Value) (o:Nat) {w:World},Below B a w→Below B a (w.setCells b o vs)
 |[],_,_,h=>h
 |v::r,o,_,h=>below_setCells' b hb r (o+1) (h.setCell (p:=⟨b,o,none⟩) hb v)
theorem size_setCells' (b:Nat): ∀(vs:List Value) (o:Nat) (w:World),(w.setCells b o vs).heap.size=w.heap.size
 |[],_,_=>rfl
 |v::r,o,w=>(size_setCells' b r (o+1) _).trans (by simp)
theorem bs_setCells {w : World} {B g o : Nat} {vs : List Value} {s : List Nat} {A : Option Addr} {c : Nat} (h : Bs w B s A c) (hg : ∀ ad, A = some ad → ad.block ≠ g) : Bs (w.setCells g o vs) B s A c :=
  ⟨fun k u hu => by
    obtain ⟨ad, e, hlt, hc⟩ := h.rd k u hu
    exact ⟨ad, e, hlt, (World.cell?_setCells_out g vs o w _ (fun e2 _ => absurd (by rw [add_block] at e2; exact e2) (hg ad e))).trans hc⟩, h.nil, h.len, h.cap, h.lt⟩
theorem add_add' (ad:Addr) (a b:Nat):(ad.add a).add b=ad.add (a+b):=by
 unfold Addr.add
 by_cases ha:a=0
 ·subst ha;simp
 ·by_cases hb:b=0
  ·subst hb;simp[ha]
  ·simp[ha,hb,Nat.add_assoc]
theorem kvs_below {w w':World} {B:Nat} {A:Option Addr} {L:List KV} (h:KVs w B A L) (hb:Below B w w'):KVs w' B A L:=by
 intro i q hq
 obtain⟨ad,e,hlt,hk⟩:=h i q hq
 exact⟨ad,e,hlt,hk.below (by rw[add_block];exact hlt) (Nat.le_refl _) hb⟩
theorem kvs_cells {w:World} {B:Nat} {ad:Addr} {L:List KV} (h:KVs w B (some ad) L): ∀j u,(flatK L)[j]?=some u→w.cell? (ad.add j)=some u:=by
 intro j u hu
 have hj:j<L.length*4:=by
  have:=(List.getElem?_eq_some_iff.1 hu).1
  rwa[length_flatK]at this
 obtain⟨i,r,hr,rfl⟩: ∃i r,r<4∧j=i*4+r:=⟨j / 4,j % 4,by omega,by omega⟩
 have hi:i<L.length:=by omega
 rw[flatK_at L i r _ (List.getElem?_eq_getElem hi) hr]at hu
 obtain⟨ad',e,_,hk⟩:=h i _ (List.getElem?_eq_getElem hi)
 cases e
 rw[←add_add']
 rcases(show r=0∨r=1∨r=2∨r=3 by omega)with rfl|rfl|rfl|rfl
 ·simp[KV.cells]at hu
  subst hu
  rw[add_zero']
  exact hk.c0
 ·simp[KV.cells]at hu
  subst hu
  exact hk.c1
 ·simp[KV.cells]at hu
  subst hu
  exact hk.c2
 ·simp[KV.cells]at hu
  subst hu
  exact hk.c3
theorem flatK_split (L:List KV) (p:Nat):flatK L=flatK (L.take p)++flatK (L.drop p):=by rw[←flatK_append,List.take_append_drop]
theorem kvs_take {w:World} {B:Nat} {ad:Addr} {L:List KV} (h:KVs w B (some ad) L) (p:Nat): ∀j u,(flatK (L.take p))[j]?=some u→w.cell? (ad.add j)=some u:=by
 intro j u hu
 refine kvs_cells h j u ?_
 rw[flatK_split L p,List.getElem?_append_left (List.getElem?_eq_some_iff.1 hu).1]
 exact hu
theorem kvs_drop {w:World} {B:Nat} {ad:Addr} {L:List KV} (h:KVs w B (some ad) L) (p:Nat) (hp:p≤L.length): ∀j u,(flatK (L.drop p))[j]?=some u→w.cell? ((ad.add (p*4)).add j)=some u:=by
 intro j u hu
 rw[add_add']
 refine kvs_cells h _ u ?_
 have hl:(flatK (L.take p)).length=p*4:=by rw[length_flatK,List.length_take,Nat.min_eq_left hp]
 rw[flatK_split L p,List.getElem?_append_right (by omega),hl,Nat.add_sub_cancel_left]
 exact hu
theorem own_lower {w:World} {base base':Nat} {e:TypeId} {size:Nat} {v:Value} {n:Nat} {xs:List Value} (h:w.ownsRow base e size v n xs) (hb:base'≤base):w.ownsRow base' e size v n xs:=by
 refine⟨h.1, ?_⟩
 rcases h.2 with hn|⟨g,cap,cur,rfl,h1,rest⟩
 ·exact .inl hn
 ·exact .inr ⟨g,cap,cur,rfl,Nat.le_trans hb h1,rest⟩
theorem flatK_one' (L:List KV): ∀u∈flatK L,u.oneCell'=true:=by
 intro u hu
 simp only[flatK,List.mem_flatMap]at hu
 obtain⟨q,_,hq⟩:=hu
 exact cells_one q u hq
theorem wpList_store_elem {P:Program} {ops:Array Oper} {rest:List Oper} {op:Oper} {a:Act} {w:World} {Q:Exit→Act→World→Prop} (hgd:op.guard=none) (ty:TypeId) (x y:Operand) (ho:op.op= .store ty x y)
  (b o:Nat) (cells:Array Value) (hx:a.eval x= .pointer (some ⟨b,o,none⟩)) (hy:a.eval y= .agg cells)
  (ht:w.there b o cells.size) (hi:(P.info? ty).map (·.size)=some cells.size) (h1:cells.all (·.oneCell')=true)
  (h: ∀w',Hid (w'=w.setCells b o cells.toList)→wpList P ops Q rest (a.put op.dst undef) w'):wpList P ops Q (op::rest) a w:=
 wpList_store_mid hgd ty x y ho b o cells hx hy ht hi h1 (h _ (Lib.hid rfl))
theorem own_there {w:World} {base g n cap i:Nat} {M:List KV} (h:w.ownsRow base 48 4 (.slice (some ⟨g,0,none⟩) n cap) n (flatK M)) (hi:i<M.length):w.there g (i*4) 4:=by
 have hl:=h.1
 rw[length_flatK]at hl
 have hcell:=fun j hj=>h.cellAt j hj
 rcases h.2 with⟨h',_⟩|⟨g',cap',cur,h',hb,hg,hnc,hcm,hcs,htake⟩
 ·simp at h'
 ·simp only[Value.slice.injEq,Option.some.injEq,Addr.mk.injEq,and_true,true_and]at h'
  obtain⟨rfl,rfl⟩:=h'
  intro j hj
  refine⟨?_,frozen_of_row w g _ cur _ hg⟩
  rw[hcell _ (by omega),List.getElem?_eq_getElem (by rw[length_flatK];omega)]
  rfl
theorem own_at {w:World} {base g n cap i:Nat} {e:TypeId} {M:List KV} (h:w.ownsRow base e 4 (.slice (some ⟨g,0,none⟩) n cap) n (flatK M)) {q:KV} (hq:M[i]?=some q):
  w.cell? ⟨g,i*4,none⟩=some (.int .i64 q.k.id)∧w.cell? ⟨g,i*4+1,none⟩=some (.slice q.S q.k.sec.length q.c)∧w.cell? ⟨g,i*4+2,none⟩=some (.int .i64 q.k.frm)∧w.cell? ⟨g,i*4+3,none⟩=some (.int .i64 q.k.til):=by
 have hl:=h.1
 rw[length_flatK]at hl
 have hi:=(List.getElem?_eq_some_iff.1 hq).1
 have c0:=h.cellAt (i*4) (by omega)
 have c1:=h.cellAt (i*4+1) (by omega)
 have c2:=h.cellAt (i*4+2) (by omega)
 have c3:=h.cellAt (i*4+3) (by omega)
 have e0:=flatK_at M i 0 q hq (by omega)
 rw[Nat.add_zero]at e0
 rw[e0]at c0
 rw[flatK_at M i 1 q hq (by omega)]at c1
 rw[flatK_at M i 2 q hq (by omega)]at c2
 rw[flatK_at M i 3 q hq (by omega)]at c3
 exact⟨c0,c1,c2,c3⟩
theorem own_sl {w:World} {base g n cap:Nat} {e:TypeId} {size:Nat} {xs:List Value} (h:w.ownsRow base e size (.slice (some ⟨g,0,none⟩) n cap) n xs):Sl (some ⟨g,0,none⟩) n cap:=by
 rcases h.2 with⟨h',_⟩|⟨g',cap',cur,h',hb,hg,hnc,hcm,_⟩
 ·simp at h'
 ·simp only[Value.slice.injEq,Option.some.injEq,Addr.mk.injEq,and_true,true_and]at h'
  obtain⟨rfl,rfl⟩:=h'
  unfold maxLen at hcm
  exact⟨hnc,hcm,fun e=>by cases e⟩
theorem map_set_k (M:List KV) (i:Nat) (q:KV) (S:Option Addr) (c:Nat) (hq:M[i]?=some q):(M.set i ⟨q.k,S,c⟩).map (·.k)=M.map (·.k):=by
 rw[List.map_set]
 apply List.ext_getElem?
 intro j
 by_cases e:i=j
 ·subst e
  have hi:=(List.getElem?_eq_some_iff.1 hq).1
  rw[List.getElem?_set_self (by simpa using hi),List.getElem?_map,hq];rfl
 ·rw[List.getElem?_set_ne e]
def Apart (w:World) (g:Nat) (M:List KV):Prop:= ∀q∈M,Bs w w.heap.size q.k.sec q.S q.c∧ ∀ad,q.S=some ad→ad.block≠g
theorem apart_start {w w':World} {g:Nat} {M:List KV} (h: ∀q∈M,Bs w w.heap.size q.k.sec q.S q.c) (hl: ∀q∈M,1≤q.k.sec.length) (hb:Below w.heap.size w w') (hg:w.heap.size≤g):Apart w' g M:=by
 intro q hq
 refine⟨(h q hq).next hb,fun ad e=> ?_⟩
 have:0<(U8 q.k.sec).length:=by have:=hl q hq;simp[U8];omega
 obtain⟨ad',e',hlt,_⟩:=(h q hq).rd 0 _ (List.getElem?_eq_getElem this)
 rw[e]at e'
 cases e'
 omega
theorem apart_step {w w3:World} {g o i:Nat} {M:List KV} {vs:List Value} {q:KV} {S:Option Addr} {c:Nat} (h:Apart w g M) (hb:Below w.heap.size w w3) (hs:Bs w3 w3.heap.size q.k.sec S c) (hS: ∀ad,S=some ad→w.heap.size≤ad.block) (hg:g<w.heap.size):
  Apart (w3.setCells g o vs) g (M.set i ⟨q.k,S,c⟩):=by
 intro x hx
 rw[size_setCells']
 rcases List.mem_or_eq_of_mem_set hx with hx|rfl
 ·exact⟨bs_setCells ((h x hx).1.next hb) (h x hx).2,(h x hx).2⟩
 ·have hne: ∀ad,S=some ad→ad.block≠g:=fun ad e=>by have:=hS ad e;omega
  exact⟨bs_setCells hs hne,hne⟩
theorem mem_lens {M0 M:List KV} (h:M.map (·.k)=M0.map (·.k)) (hl: ∀q∈M0,1≤q.k.sec.length∧q.k.sec.length≤64) {i:Nat} {q:KV} (hq:M[i]?=some q):1≤q.k.sec.length∧q.k.sec.length≤64:=by
 have:q.k∈M.map (·.k):=List.mem_map.2 ⟨q,List.mem_of_getElem? hq,rfl⟩
 rw[h]at this
 obtain⟨x,hx,e⟩:=List.mem_map.1 this
 rw[←e]
 exact hl x hx
theorem with_map {l:List K} {L:List KV} (h:L.map (·.k)=l) (kv:KV) (p:Nat):(L.take p++kv::L.drop p).map (·.k)=l.take p++kv.k::l.drop p:=by
 subst h
 simp[List.map_take,List.map_drop]
set_option maxRecDepth 20000 in
set_option maxHeartbeats 1600000 in
theorem with_any (kv:KV) (l:List K) (n place:Nat) (hn:n=l.length) (h100:n≤100) (hpl:place≤n) (A:Option Addr) (c:Nat) (w:World) (hA:Ks w w.heap.size A l) (hsl:Sl A n c) (hB:Bs w w.heap.size kv.k.sec kv.S kv.c)
  (hs: ∀k∈l,1≤k.sec.length∧k.sec.length≤64) (hks:1≤kv.k.sec.length∧kv.k.sec.length≤64):
  Calls Tryz.prog 60 #[.slice A n c, .int .i64 (place:Int), .agg #[.int .i64 kv.k.id, .slice kv.S kv.k.sec.length kv.c, .int .i64 kv.k.frm, .int .i64 kv.k.til]] w fun e w'=> ∃A' c',e= .returned (.slice A' (n+1) c')∧Ks w' w'.heap.size A' (l.take place++kv.k::l.drop place)∧Sl A' (n+1) c'∧Below w.heap.size w w':=by
 obtain⟨i0,hi,hz0,hz1,hz2⟩:=info_parts infoKey3
 obtain⟨L,hL,hKV,hLB⟩:=kvs_of_ks hA
 have hnL:L.length=n:=by rw[hn, ←hL,List.length_map]
 have HN:=Lib.hid hnL
 have HL:=Lib.hid hL
 have HKV:=Lib.hid hKV
 have HLB:=Lib.hid hLB
 have HS:=Lib.hid hs
 have HB:=Lib.hid hB
 have HKS:=Lib.hid hks
 obtain⟨hs1,hs2,hs3⟩:=hsl
 have HS3:=Lib.hid hs3
 have HTL:=Lib.hid (show(flatK (L.take place)).length=place*4 by rw[length_flatK,List.length_take,hnL,Nat.min_eq_left hpl])
 have HDL:=Lib.hid (show(flatK (L.drop place)).length=(n - place)*4 by rw[length_flatK,List.length_drop,hnL])
 clear hn hnL hL hKV hLB hs hA hB hs3 hks
 have hp0:(0:Int)≤(place:Int):=by omega
 have hp1:(place:Int)≤(n:Int):=by omega
 have hp2:(place:Int)≤(c:Int):=by omega
 have hn1:place+1≤maxLen:=by unfold maxLen;omega
 have hn2:(place+1)*48≤140737488355328:=by omega
 have hn3:place+1+(n - place)≤maxLen:=by unfold maxLen;omega
 have hn4:(place+1+(n - place))*48≤140737488355328:=by omega
 rcases A with _|ad
 ·have hc0:=HS3.out rfl
  obtain rfl:c=0:=hc0
  obtain rfl:n=0:=by omega
  obtain rfl:place=0:=by omega
  have hL0:=Lib.hid (List.eq_nil_of_length_eq_zero HN.out)
  clear HTL HDL
  go_enter Tryz.func60, Tryz.ntmps60
  go_wp2
  obtain⟨wx,hwx⟩: ∃wx,wx=w.alloc (.cells #[.int .i64 kv.k.id, .slice kv.S kv.k.sec.length kv.c, .int .i64 kv.k.frm, .int .i64 kv.k.til] 48):=⟨_,rfl⟩
  have hX:wx.heap[w.heap.size]?=some (.cells #[.int .i64 kv.k.id, .slice kv.S kv.k.sec.length kv.c, .int .i64 kv.k.frm, .int .i64 kv.k.til] 48 (0,0)):=by rw[hwx];exact heap_alloc_new w _
  have hbx:Below w.heap.size w wx:=by rw[hwx];exact below_lit w _ _
  rw[←hwx]
  clear hwx
  have HBX:=Lib.hid (show InBox wx.drew w.heap.size kv.k kv.S kv.c from inBox_of hX)
  have hby:Below w.heap.size w (wx.alloc (.cells kv.cells.toArray 48)).drew:=(hbx.trans ((below_lit wx _ _).mono hbx.size)).drew
  have HBY:=Lib.hid hby
  have HLX:=Lib.hid (Array.getElem?_eq_some_iff.1 hX).1
  have HLY:Hid (w.heap.size<(wx.alloc (.cells kv.cells.toArray 48)).drew.heap.size):=Lib.hid (by have:=HLX.out;show _<(wx.alloc _).heap.size;simp;omega)
  clear hX hbx hby
  refine wp_region_held_drew (S:=fun w'=>InBox w' w.heap.size kv.k kv.S kv.c) (by kernel_rfl) HBX.out (fun hHeld=> ?_)
  refine wpAnyH_take (i:=0) (oi:=⟨some 9,_,_,_,_,_⟩) (v:= ?_) rfl (by kernel_rfl) (by kernel_rfl) (by kernel_rfl) (fun _ _ _ h=>h) (Or.inl ⟨by rfl, ?_⟩) hHeld ?_
  rotate_left
  ·intro w hSw
   go_simp
   first|done|with_reducible rfl
  try simp only[Act.put,List.setIfInBounds_toArray,List.set_cons_zero,List.set_cons_succ]
  refine wpAnyH_take (i:=1) (oi:=⟨some 10,_,_,_,_,_⟩) (v:= ?_) rfl (by kernel_rfl) (by kernel_rfl) (by kernel_rfl) (fun _ _ _ h=>h) (Or.inl ⟨by rfl, ?_⟩) hHeld ?_
  rotate_left
  ·intro w hSw
   go_simp
   first|done|with_reducible rfl
  try simp only[Act.put,List.setIfInBounds_toArray,List.set_cons_zero,List.set_cons_succ]
  refine wpAnyH_take (i:=2) (oi:=⟨some 11,_,_,_,_,_⟩) (v:= ?_) rfl (by kernel_rfl) (by kernel_rfl) (by kernel_rfl) (fun _ _ _ h=>h) (Or.inl ⟨by rfl, ?_⟩) hHeld ?_
  rotate_left
  ·intro w hSw
   go_simp
   first|done|with_reducible rfl
  try simp only[Act.put,List.setIfInBounds_toArray,List.set_cons_zero,List.set_cons_succ]
  refine wpAnyH_take (i:=3) (oi:=⟨some 12,_,_,_,_,_⟩) (v:= ?_) rfl (by kernel_rfl) (by kernel_rfl) (by kernel_rfl) (fun _ _ _ h=>h) (Or.inl ⟨by rfl, ?_⟩) hHeld ?_
  rotate_left
  ·intro w hSw
   go_simp
   first|done|with_reducible rfl
  try simp only[Act.put,List.setIfInBounds_toArray,List.set_cons_zero,List.set_cons_succ]
  refine wpAnyH_take (i:=4) (oi:=⟨some 13,_,_,_,_,_⟩) (v:= ?_) rfl (by kernel_rfl) (by kernel_rfl) (by kernel_rfl) (fun _ _ _ h=>h) (Or.inl ⟨by rfl, ?_⟩) hHeld ?_
  rotate_left
  ·intro w hSw
   obtain⟨h0,h1,h2,h3⟩:=hSw
   go_simp
   first|done|with_reducible rfl
  try simp only[Act.put,List.setIfInBounds_toArray,List.set_cons_zero,List.set_cons_succ]
  refine wpAnyH_ready (rs:=[5]) (by kernel_rfl) (by simp) ?_
  refine AllReadyH.cons (o:=⟨some 14, .buildSlice _ _ _,_,_,_,_⟩) rfl (fun K hK=> ?_) AllReadyH.nil
  go_simp
  have HBZ:=Lib.hid ((show InBox wx w.heap.size kv.k kv.S kv.c from HBX.out).below (B:=wx.heap.size) HLX.out ((below_lit wx kv.cells.toArray 48).drew))
  refine hK.out _ _ HBZ.out (fun hHeld=> ?_)
  clear hK K
  try simp only[Act.put,List.setIfInBounds_toArray,List.set_cons_zero,List.set_cons_succ]
  refine wpAnyH_ready (rs:=[6]) (by kernel_rfl) (by simp) ?_
  refine AllReadyH.cons (o:=⟨some 15, .call _,_,_,_,_⟩) rfl (fun K hK=> ?_) AllReadyH.nil
  refine step_append_full _ (by rfl) (.tmp 12) (.tmp 14) 22 rfl 48 i0 _ 4 48 Tryz.underlying22 hi hz0 hz1 hz2 rfl (by omega) none 0 0 [] rfl (fun h=>⟨rfl,rfl⟩) rfl (fun b hb j u hu=>by cases hb) ⟨wx.heap.size,0,none⟩ 1 1 kv.cells rfl rfl (own_key_lit wx kv) (cells_one kv) (by omega) hn1 hn2 ?_
  intro v1 w1 hown1 hg1
  obtain⟨g,cap,e,hgb⟩:=hown1.form (by omega)
  subst e
  have hb1:Below w.heap.size w w1:=HBY.out.grown hg1 HBY.out.size (fun k e=>by cases e)
  have hown2:=own_lower (base':=w.heap.size) hown1 (by have:=HBY.out.size;simpa using this)
  have HB1:=Lib.hid hb1
  have HOW:=Lib.hid hown2
  have HIB:=Lib.hid (HBZ.out.below (B:=(wx.alloc (.cells kv.cells.toArray 48)).drew.heap.size) HLY.out ((Below.refl _ _).grown hg1 (Nat.le_refl _) (fun k e=>by cases e)))
  clear hown1 hown2 hg1 hb1 hgb
  refine hK.out _ _ HIB.out (fun hHeld=> ?_)
  clear hK K
  try simp only[Act.put,List.setIfInBounds_toArray,List.set_cons_zero,List.set_cons_succ]
  refine wpAnyH_take (i:=7) (oi:=⟨some 7,_,_,_,_,_⟩) (v:= ?_) rfl (by kernel_rfl) (by kernel_rfl) (by kernel_rfl) (fun _ _ _ h=>h) (Or.inl ⟨by rfl, ?_⟩) hHeld ?_
  rotate_left
  ·intro w hSw
   go_simp
   first|done|with_reducible rfl
  try simp only[Act.put,List.setIfInBounds_toArray,List.set_cons_zero,List.set_cons_succ]
  refine wpAnyH_done (by kernel_rfl) ?_ _
  go_wp2_with (at_builtin;refine wpList_append_own_none rfl (.tmp 16) (.tmp 19) 22 rfl w.heap.size 48 i0 4 Tryz.underlying22 hi _ _ _ rfl HOW.out rfl ?_)
  obtain⟨w2,hw2⟩: ∃w2,w2=w1:=⟨_,rfl⟩
  rw[←hw2]
  have hown3:w2.ownsRow w.heap.size 48 4 (.slice (some ⟨g,0,none⟩) 1 cap) 1 (flatK (L.take 0++kv::L.drop 0)):=by
   rw[hw2]
   have:=HOW.out
   rw[hL0.out]
   simpa[flatK_one]using this
  have hb2:Below w.heap.size w w2:=by rw[hw2];exact HB1.out
  obtain⟨g2,hg2⟩: ∃g2,g2=g:=⟨_,rfl⟩
  obtain⟨cap2,hcap2⟩: ∃cap2,cap2=cap:=⟨_,rfl⟩
  rw[←hg2, ←hcap2]at hown3⊢
  clear hw2 hg2 hcap2
  obtain⟨M0,hM0⟩: ∃M0,M0=L.take 0++kv::L.drop 0:=⟨_,rfl⟩
  rw[←hM0]at hown3
  have hmem: ∀q∈M0,q=kv∨q∈L:=by
   intro q hq
   rw[hM0]at hq
   rcases List.mem_append.1 hq with h|h
   ·exact .inr (List.mem_of_mem_take h)
   ·rcases List.mem_cons.1 h with h|h
    ·exact .inl h
    ·exact .inr (List.mem_of_mem_drop h)
  have hlen0: ∀q∈M0,1≤q.k.sec.length∧q.k.sec.length≤64:=by
   intro q hq
   rcases hmem q hq with h|h
   ·rw[h];exact HKS.out
   ·exact HS.out _ (by rw[←HL.out];exact List.mem_map.2 ⟨q,h,rfl⟩)
  have hap0:Apart w2 g2 M0:=apart_start (fun q hq=>by
   rcases hmem q hq with h|h
   ·rw[h];exact HB.out
   ·exact HLB.out q h) (fun q hq=>(hlen0 q hq).1) hb2 (own_ge hown3 rfl)
  have HR:=Lib.hid (show M0.map (·.k)=l.take 0++kv.k::l.drop 0 by rw[hM0];exact with_map HL.out kv 0)
  have HLEN:=Lib.hid hlen0
  have HG:=Lib.hid (show w.heap.size≤g2 from own_ge hown3 rfl)
  have HOWN:=Lib.hid hown3
  have HB2:=Lib.hid hb2
  have HAP:=Lib.hid hap0
  clear hM0 hmem hlen0 hap0 hb2 hown3
  go_wp2
  go_loopw [23] (fun i wr=> ∃(k:Nat) (M:List KV),k≤1∧i= .int .i64 k∧M.map (·.k)=M0.map (·.k)∧wr.ownsRow w.heap.size 48 4 (.slice (some ⟨g2,0,none⟩) 1 cap2) 1 (flatK M)∧Apart wr g2 M∧Below w.heap.size w wr) (fun i _=>1 - (intOf i).toNat)
  case atStart=>exact⟨0,M0,Nat.zero_le _,rfl,rfl,HOWN.out,HAP.out,HB2.out⟩
  case round=>
   obtain⟨k,M,hk,rfl,hmap,hown,hap,hbel⟩:=hrel
   have hlM:M.length=1:=by have:=hown.1;rw[length_flatK]at this;omega
   by_cases hlt:k<1
   ·obtain⟨q,hq⟩: ∃q,M[k]?=some q:=⟨_,List.getElem?_eq_getElem (by rw[hlM];exact hlt)⟩
    obtain⟨hc0,hc1,hc2,hc3⟩:=own_at hown hq
    have HQ:=Lib.hid hq
    have HMAP:=Lib.hid hmap
    have HOW2:=Lib.hid hown
    have HAP2:=Lib.hid hap
    have HBL:=Lib.hid hbel
    have HLQ:=Lib.hid (mem_lens hmap HLEN.out hq)
    have HMQ:=Lib.hid (List.mem_of_getElem? hq)
    have hgl:g2<wr.heap.size:=by
     obtain⟨g',cap',e,_,h2⟩:=hown.form (by omega)
     cases e;exact h2
    have b1:(0:Int)≤(k:Int):=by omega
    have b2:(k:Int)<((1:Nat):Int):=by omega
    have HLM:=Lib.hid hlM
    clear hq hmap hown hap hbel hlM
    go_wp2_with (first|(go_at_call 70;refine(apart_any q q.k.sec.length rfl wr (HAP2.out q HMQ.out).1 HLQ.out.1 HLQ.out.2).mono ?_;rintro e w3 ⟨S3,c3,rfl,hbs3,hge3,hb3⟩;have hth:w3.there g2 (k*4) 4:=own_there (own_below HOW2.out hb3) (by rw[HLM.out];exact hlt);have HTH:=Lib.hid hth;have HBS3:=Lib.hid hbs3;have HGE3:=Lib.hid hge3;have HB3:=Lib.hid hb3;clear hth hbs3 hge3 hb3)|((with_reducible refine at_store 33 ?_);refine wpList_store_elem (op:=⟨none, .store 48 (.tmp 33) (.tmp 32),_,_,_,_⟩) rfl 48 (.tmp 33) (.tmp 32) rfl g2 (k*4) #[.int .i64 q.k.id, .slice S3 q.k.sec.length c3, .int .i64 q.k.frm, .int .i64 q.k.til] rfl rfl HTH.out infoKey (kc_one _ _ _ _ _ _) ?_))
    intro w4 hw4
    have HA4:=Lib.hid (show Apart w4 g2 (M.set k ⟨q.k,S3,c3⟩) by rw[hw4.out];exact apart_step HAP2.out HB3.out HBS3.out HGE3.out hgl)
    have HO4:=Lib.hid (show w4.ownsRow w.heap.size 48 4 _ _ (flatK (M.set k ⟨q.k,S3,c3⟩)) by rw[hw4.out];exact own_set (own_below HOW2.out HB3.out) ⟨q.k,S3,c3⟩ (by rw[HLM.out];exact hlt))
    have HB4:=Lib.hid (show Below w.heap.size w w4 by rw[hw4.out];exact below_setCells' g2 HG.out _ _ (HBL.out.trans (HB3.out.mono HBL.out.size)))
    have HM4:=Lib.hid ((map_set_k M k q S3 c3 HQ.out).trans HMAP.out)
    go_wp2
    go_roundw
    case rel=>exact⟨k+1,M.set k ⟨q.k,S3,c3⟩,by omega,by go_num,HM4.out,HO4.out,HA4.out,HB4.out⟩
    case measure=>simp[intOf];omega
   ·have HKS2:=Lib.hid (show Ks wr wr.heap.size (some ⟨g2,0,none⟩) _ from by have:=ks_of_own hown (fun q hq=>(hap q hq).1);rw[hmap,HR.out]at this;exact this)
    have HSL:=Lib.hid (own_sl hown)
    have HBL:=Lib.hid hbel
    have e:k=1:=by omega
    clear hown hap hmap hbel hlM
    go_wp2
    go_ret
    exact⟨_,cap2,rfl,HKS2.out,HSL.out,HBL.out⟩
 ·by_cases hcp:c=place
  ·obtain rfl:place=n:=by omega
   obtain rfl:place=c:=hcp.symm
   go_enter Tryz.func60, Tryz.ntmps60
   go_wp2
   obtain⟨wx,hwx⟩: ∃wx,wx=w.alloc (.cells #[.int .i64 kv.k.id, .slice kv.S kv.k.sec.length kv.c, .int .i64 kv.k.frm, .int .i64 kv.k.til] 48):=⟨_,rfl⟩
   have hX:wx.heap[w.heap.size]?=some (.cells #[.int .i64 kv.k.id, .slice kv.S kv.k.sec.length kv.c, .int .i64 kv.k.frm, .int .i64 kv.k.til] 48 (0,0)):=by rw[hwx];exact heap_alloc_new w _
   have hbx:Below w.heap.size w wx:=by rw[hwx];exact below_lit w _ _
   rw[←hwx]
   clear hwx
   have HBX:=Lib.hid (show InBox wx.drew w.heap.size kv.k kv.S kv.c from inBox_of hX)
   have hby:Below w.heap.size w (wx.alloc (.cells kv.cells.toArray 48)).drew:=(hbx.trans ((below_lit wx _ _).mono hbx.size)).drew
   have HBY:=Lib.hid hby
   have HLX:=Lib.hid (Array.getElem?_eq_some_iff.1 hX).1
   have HLY:Hid (w.heap.size<(wx.alloc (.cells kv.cells.toArray 48)).drew.heap.size):=Lib.hid (by have:=HLX.out;show _<(wx.alloc _).heap.size;simp;omega)
   have HTC:=Lib.hid (kvs_take (kvs_below HKV.out hby) place)
   clear hX hbx hby
   refine wp_region_held_drew (S:=fun w'=>InBox w' w.heap.size kv.k kv.S kv.c) (by kernel_rfl) HBX.out (fun hHeld=> ?_)
   refine wpAnyH_take (i:=0) (oi:=⟨some 9,_,_,_,_,_⟩) (v:= ?_) rfl (by kernel_rfl) (by kernel_rfl) (by kernel_rfl) (fun _ _ _ h=>h) (Or.inl ⟨by rfl, ?_⟩) hHeld ?_
   rotate_left
   ·intro w hSw
    go_simp
    first|done|with_reducible rfl
   try simp only[Act.put,List.setIfInBounds_toArray,List.set_cons_zero,List.set_cons_succ]
   refine wpAnyH_take (i:=1) (oi:=⟨some 10,_,_,_,_,_⟩) (v:= ?_) rfl (by kernel_rfl) (by kernel_rfl) (by kernel_rfl) (fun _ _ _ h=>h) (Or.inl ⟨by rfl, ?_⟩) hHeld ?_
   rotate_left
   ·intro w hSw
    go_simp
    first|done|with_reducible rfl
   try simp only[Act.put,List.setIfInBounds_toArray,List.set_cons_zero,List.set_cons_succ]
   refine wpAnyH_take (i:=2) (oi:=⟨some 11,_,_,_,_,_⟩) (v:= ?_) rfl (by kernel_rfl) (by kernel_rfl) (by kernel_rfl) (fun _ _ _ h=>h) (Or.inl ⟨by rfl, ?_⟩) hHeld ?_
   rotate_left
   ·intro w hSw
    go_simp
    first|done|with_reducible rfl
   try simp only[Act.put,List.setIfInBounds_toArray,List.set_cons_zero,List.set_cons_succ]
   refine wpAnyH_take (i:=3) (oi:=⟨some 12,_,_,_,_,_⟩) (v:= ?_) rfl (by kernel_rfl) (by kernel_rfl) (by kernel_rfl) (fun _ _ _ h=>h) (Or.inl ⟨by rfl, ?_⟩) hHeld ?_
   rotate_left
   ·intro w hSw
    go_simp
    first|done|with_reducible rfl
   try simp only[Act.put,List.setIfInBounds_toArray,List.set_cons_zero,List.set_cons_succ]
   refine wpAnyH_take (i:=4) (oi:=⟨some 13,_,_,_,_,_⟩) (v:= ?_) rfl (by kernel_rfl) (by kernel_rfl) (by kernel_rfl) (fun _ _ _ h=>h) (Or.inl ⟨by rfl, ?_⟩) hHeld ?_
   rotate_left
   ·intro w hSw
    obtain⟨h0,h1,h2,h3⟩:=hSw
    go_simp
    first|done|with_reducible rfl
   try simp only[Act.put,List.setIfInBounds_toArray,List.set_cons_zero,List.set_cons_succ]
   refine wpAnyH_ready (rs:=[5]) (by kernel_rfl) (by simp) ?_
   refine AllReadyH.cons (o:=⟨some 14, .buildSlice _ _ _,_,_,_,_⟩) rfl (fun K hK=> ?_) AllReadyH.nil
   go_simp
   have HBZ:=Lib.hid ((show InBox wx w.heap.size kv.k kv.S kv.c from HBX.out).below (B:=wx.heap.size) HLX.out ((below_lit wx kv.cells.toArray 48).drew))
   refine hK.out _ _ HBZ.out (fun hHeld=> ?_)
   clear hK K
   try simp only[Act.put,List.setIfInBounds_toArray,List.set_cons_zero,List.set_cons_succ]
   refine wpAnyH_ready (rs:=[6]) (by kernel_rfl) (by simp) ?_
   refine AllReadyH.cons (o:=⟨some 15, .call _,_,_,_,_⟩) rfl (fun K hK=> ?_) AllReadyH.nil
   refine step_append_full _ (by rfl) (.tmp 12) (.tmp 14) 22 rfl 48 i0 _ 4 48 Tryz.underlying22 hi hz0 hz1 hz2 rfl (by omega) (some ad) place place (flatK (L.take place)) rfl (fun h=>by cases h) HTL.out (fun b hb j u hu=>by cases hb;exact HTC.out j u hu) ⟨wx.heap.size,0,none⟩ 1 1 kv.cells rfl rfl (own_key_lit wx kv) (cells_one kv) (by omega) hn1 hn2 ?_
   intro v1 w1 hown1 hg1
   obtain⟨g,cap,e,hgb⟩:=hown1.form (by omega)
   subst e
   have hb1:Below w.heap.size w w1:=HBY.out.grown hg1 HBY.out.size (fun k e=>by cases e)
   have hown2:=own_lower (base':=w.heap.size) hown1 (by have:=HBY.out.size;simpa using this)
   have HB1:=Lib.hid hb1
   have HOW:=Lib.hid hown2
   have HIB:=Lib.hid (HBZ.out.below (B:=(wx.alloc (.cells kv.cells.toArray 48)).drew.heap.size) HLY.out ((Below.refl _ _).grown hg1 (Nat.le_refl _) (fun k e=>by cases e)))
   clear hown1 hown2 hg1 hb1 hgb
   refine hK.out _ _ HIB.out (fun hHeld=> ?_)
   clear hK K
   try simp only[Act.put,List.setIfInBounds_toArray,List.set_cons_zero,List.set_cons_succ]
   refine wpAnyH_take (i:=7) (oi:=⟨some 7,_,_,_,_,_⟩) (v:= ?_) rfl (by kernel_rfl) (by kernel_rfl) (by kernel_rfl) (fun _ _ _ h=>h) (Or.inl ⟨by rfl, ?_⟩) hHeld ?_
   rotate_left
   ·intro w hSw
    go_simp
    first|done|with_reducible rfl
   try simp only[Act.put,List.setIfInBounds_toArray,List.set_cons_zero,List.set_cons_succ]
   refine wpAnyH_done (by kernel_rfl) ?_ _
   go_wp2_with (at_builtin;refine wpList_append_own _ rfl (.tmp 16) (.tmp 19) 22 rfl w.heap.size 48 i0 _ 4 48 Tryz.underlying22 hi hz0 hz1 hz2 rfl (by omega) _ (place+1) _ rfl HOW.out ad 0 0 [] rfl rfl (fun j u hu=>by simp at hu) (fun u hu=>by simp at hu) hn1 hn2 HB1.out.size ?_)
   intro v2 w2 hown2 hg2 _
   have hown3:w2.ownsRow w.heap.size 48 4 v2 (place+1) (flatK (L.take place++kv::L.drop place)):=by
    have e1:L.drop place=[]:=List.drop_eq_nil_of_le (by rw[HN.out];exact Nat.le_refl _)
    rw[e1,flatK_append,flatK_one]
    simpa using hown2
   have hb2:Below w.heap.size w w2:=HB1.out.grown hg2 HB1.out.size (fun j hj=>own_ge HOW.out hj)
   obtain⟨g2,cap2,e,_⟩:=hown3.form (by omega)
   subst e
   clear hown2 hg2
   obtain⟨M0,hM0⟩: ∃M0,M0=L.take place++kv::L.drop place:=⟨_,rfl⟩
   rw[←hM0]at hown3
   have hmem: ∀q∈M0,q=kv∨q∈L:=by
    intro q hq
    rw[hM0]at hq
    rcases List.mem_append.1 hq with h|h
    ·exact .inr (List.mem_of_mem_take h)
    ·rcases List.mem_cons.1 h with h|h
     ·exact .inl h
     ·exact .inr (List.mem_of_mem_drop h)
   have hlen0: ∀q∈M0,1≤q.k.sec.length∧q.k.sec.length≤64:=by
    intro q hq
    rcases hmem q hq with h|h
    ·rw[h];exact HKS.out
    ·exact HS.out _ (by rw[←HL.out];exact List.mem_map.2 ⟨q,h,rfl⟩)
   have hap0:Apart w2 g2 M0:=apart_start (fun q hq=>by
    rcases hmem q hq with h|h
    ·rw[h];exact HB.out
    ·exact HLB.out q h) (fun q hq=>(hlen0 q hq).1) hb2 (own_ge hown3 rfl)
   have HR:=Lib.hid (show M0.map (·.k)=l.take place++kv.k::l.drop place by rw[hM0];exact with_map HL.out kv place)
   have HLEN:=Lib.hid hlen0
   have HG:=Lib.hid (show w.heap.size≤g2 from own_ge hown3 rfl)
   have HOWN:=Lib.hid hown3
   have HB2:=Lib.hid hb2
   have HAP:=Lib.hid hap0
   clear hM0 hmem hlen0 hap0 hb2 hown3
   go_wp2
   go_loopw [23] (fun i wr=> ∃(k:Nat) (M:List KV),k≤(place+1)∧i= .int .i64 k∧M.map (·.k)=M0.map (·.k)∧wr.ownsRow w.heap.size 48 4 (.slice (some ⟨g2,0,none⟩) (place+1) cap2) (place+1) (flatK M)∧Apart wr g2 M∧Below w.heap.size w wr) (fun i _=>(place+1) - (intOf i).toNat)
   case atStart=>exact⟨0,M0,Nat.zero_le _,rfl,rfl,HOWN.out,HAP.out,HB2.out⟩
   case round=>
    obtain⟨k,M,hk,rfl,hmap,hown,hap,hbel⟩:=hrel
    have hlM:M.length=(place+1):=by have:=hown.1;rw[length_flatK]at this;omega
    by_cases hlt:k<(place+1)
    ·obtain⟨q,hq⟩: ∃q,M[k]?=some q:=⟨_,List.getElem?_eq_getElem (by rw[hlM];exact hlt)⟩
     obtain⟨hc0,hc1,hc2,hc3⟩:=own_at hown hq
     have HQ:=Lib.hid hq
     have HMAP:=Lib.hid hmap
     have HOW2:=Lib.hid hown
     have HAP2:=Lib.hid hap
     have HBL:=Lib.hid hbel
     have HLQ:=Lib.hid (mem_lens hmap HLEN.out hq)
     have HMQ:=Lib.hid (List.mem_of_getElem? hq)
     have hgl:g2<wr.heap.size:=by
      obtain⟨g',cap',e,_,h2⟩:=hown.form (by omega)
      cases e;exact h2
     have b1:(0:Int)≤(k:Int):=by omega
     have b2:(k:Int)<(((place+1):Nat):Int):=by omega
     have HLM:=Lib.hid hlM
     clear hq hmap hown hap hbel hlM
     go_wp2_with (first|(go_at_call 70;refine(apart_any q q.k.sec.length rfl wr (HAP2.out q HMQ.out).1 HLQ.out.1 HLQ.out.2).mono ?_;rintro e w3 ⟨S3,c3,rfl,hbs3,hge3,hb3⟩;have hth:w3.there g2 (k*4) 4:=own_there (own_below HOW2.out hb3) (by rw[HLM.out];exact hlt);have HTH:=Lib.hid hth;have HBS3:=Lib.hid hbs3;have HGE3:=Lib.hid hge3;have HB3:=Lib.hid hb3;clear hth hbs3 hge3 hb3)|((with_reducible refine at_store 33 ?_);refine wpList_store_elem (op:=⟨none, .store 48 (.tmp 33) (.tmp 32),_,_,_,_⟩) rfl 48 (.tmp 33) (.tmp 32) rfl g2 (k*4) #[.int .i64 q.k.id, .slice S3 q.k.sec.length c3, .int .i64 q.k.frm, .int .i64 q.k.til] rfl rfl HTH.out infoKey (kc_one _ _ _ _ _ _) ?_))
     intro w4 hw4
     have HA4:=Lib.hid (show Apart w4 g2 (M.set k ⟨q.k,S3,c3⟩) by rw[hw4.out];exact apart_step HAP2.out HB3.out HBS3.out HGE3.out hgl)
     have HO4:=Lib.hid (show w4.ownsRow w.heap.size 48 4 _ _ (flatK (M.set k ⟨q.k,S3,c3⟩)) by rw[hw4.out];exact own_set (own_below HOW2.out HB3.out) ⟨q.k,S3,c3⟩ (by rw[HLM.out];exact hlt))
     have HB4:=Lib.hid (show Below w.heap.size w w4 by rw[hw4.out];exact below_setCells' g2 HG.out _ _ (HBL.out.trans (HB3.out.mono HBL.out.size)))
     have HM4:=Lib.hid ((map_set_k M k q S3 c3 HQ.out).trans HMAP.out)
     go_wp2
     go_roundw
     case rel=>exact⟨k+1,M.set k ⟨q.k,S3,c3⟩,by omega,by go_num,HM4.out,HO4.out,HA4.out,HB4.out⟩
     case measure=>simp[intOf];omega
    ·have HKS2:=Lib.hid (show Ks wr wr.heap.size (some ⟨g2,0,none⟩) _ from by have:=ks_of_own hown (fun q hq=>(hap q hq).1);rw[hmap,HR.out]at this;exact this)
     have HSL:=Lib.hid (own_sl hown)
     have HBL:=Lib.hid hbel
     have e:k=place+1:=by omega
     clear hown hap hmap hbel hlM
     go_wp2
     go_ret
     exact⟨_,cap2,rfl,HKS2.out,HSL.out,HBL.out⟩
  ·skip
   go_enter Tryz.func60, Tryz.ntmps60
   go_wp2
   obtain⟨wx,hwx⟩: ∃wx,wx=w.alloc (.cells #[.int .i64 kv.k.id, .slice kv.S kv.k.sec.length kv.c, .int .i64 kv.k.frm, .int .i64 kv.k.til] 48):=⟨_,rfl⟩
   have hX:wx.heap[w.heap.size]?=some (.cells #[.int .i64 kv.k.id, .slice kv.S kv.k.sec.length kv.c, .int .i64 kv.k.frm, .int .i64 kv.k.til] 48 (0,0)):=by rw[hwx];exact heap_alloc_new w _
   have hbx:Below w.heap.size w wx:=by rw[hwx];exact below_lit w _ _
   rw[←hwx]
   clear hwx
   have HBX:=Lib.hid (show InBox wx.drew w.heap.size kv.k kv.S kv.c from inBox_of hX)
   have hby:Below w.heap.size w (wx.alloc (.cells kv.cells.toArray 48)).drew:=(hbx.trans ((below_lit wx _ _).mono hbx.size)).drew
   have HBY:=Lib.hid hby
   have HLX:=Lib.hid (Array.getElem?_eq_some_iff.1 hX).1
   have HLY:Hid (w.heap.size<(wx.alloc (.cells kv.cells.toArray 48)).drew.heap.size):=Lib.hid (by have:=HLX.out;show _<(wx.alloc _).heap.size;simp;omega)
   have HTC:=Lib.hid (kvs_take (kvs_below HKV.out hby) place)
   clear hX hbx hby
   refine wp_region_held_drew (S:=fun w'=>InBox w' w.heap.size kv.k kv.S kv.c) (by kernel_rfl) HBX.out (fun hHeld=> ?_)
   refine wpAnyH_take (i:=0) (oi:=⟨some 9,_,_,_,_,_⟩) (v:= ?_) rfl (by kernel_rfl) (by kernel_rfl) (by kernel_rfl) (fun _ _ _ h=>h) (Or.inl ⟨by rfl, ?_⟩) hHeld ?_
   rotate_left
   ·intro w hSw
    go_simp
    first|done|with_reducible rfl
   try simp only[Act.put,List.setIfInBounds_toArray,List.set_cons_zero,List.set_cons_succ]
   refine wpAnyH_take (i:=1) (oi:=⟨some 10,_,_,_,_,_⟩) (v:= ?_) rfl (by kernel_rfl) (by kernel_rfl) (by kernel_rfl) (fun _ _ _ h=>h) (Or.inl ⟨by rfl, ?_⟩) hHeld ?_
   rotate_left
   ·intro w hSw
    go_simp
    first|done|with_reducible rfl
   try simp only[Act.put,List.setIfInBounds_toArray,List.set_cons_zero,List.set_cons_succ]
   refine wpAnyH_take (i:=2) (oi:=⟨some 11,_,_,_,_,_⟩) (v:= ?_) rfl (by kernel_rfl) (by kernel_rfl) (by kernel_rfl) (fun _ _ _ h=>h) (Or.inl ⟨by rfl, ?_⟩) hHeld ?_
   rotate_left
   ·intro w hSw
    go_simp
    first|done|with_reducible rfl
   try simp only[Act.put,List.setIfInBounds_toArray,List.set_cons_zero,List.set_cons_succ]
   refine wpAnyH_take (i:=3) (oi:=⟨some 12,_,_,_,_,_⟩) (v:= ?_) rfl (by kernel_rfl) (by kernel_rfl) (by kernel_rfl) (fun _ _ _ h=>h) (Or.inl ⟨by rfl, ?_⟩) hHeld ?_
   rotate_left
   ·intro w hSw
    go_simp
    first|done|with_reducible rfl
   try simp only[Act.put,List.setIfInBounds_toArray,List.set_cons_zero,List.set_cons_succ]
   refine wpAnyH_take (i:=4) (oi:=⟨some 13,_,_,_,_,_⟩) (v:= ?_) rfl (by kernel_rfl) (by kernel_rfl) (by kernel_rfl) (fun _ _ _ h=>h) (Or.inl ⟨by rfl, ?_⟩) hHeld ?_
   rotate_left
   ·intro w hSw
    obtain⟨h0,h1,h2,h3⟩:=hSw
    go_simp
    first|done|with_reducible rfl
   try simp only[Act.put,List.setIfInBounds_toArray,List.set_cons_zero,List.set_cons_succ]
   refine wpAnyH_ready (rs:=[5]) (by kernel_rfl) (by simp) ?_
   refine AllReadyH.cons (o:=⟨some 14, .buildSlice _ _ _,_,_,_,_⟩) rfl (fun K hK=> ?_) AllReadyH.nil
   go_simp
   have HBZ:=Lib.hid ((show InBox wx w.heap.size kv.k kv.S kv.c from HBX.out).below (B:=wx.heap.size) HLX.out ((below_lit wx kv.cells.toArray 48).drew))
   refine hK.out _ _ HBZ.out (fun hHeld=> ?_)
   clear hK K
   try simp only[Act.put,List.setIfInBounds_toArray,List.set_cons_zero,List.set_cons_succ]
   refine wpAnyH_ready (rs:=[6]) (by kernel_rfl) (by simp) ?_
   refine AllReadyH.cons (o:=⟨some 15, .call _,_,_,_,_⟩) rfl (fun K hK=> ?_) AllReadyH.nil
   refine step_append_full _ (by rfl) (.tmp 12) (.tmp 14) 22 rfl 48 i0 _ 4 48 Tryz.underlying22 hi hz0 hz1 hz2 rfl (by omega) (some ad) place place (flatK (L.take place)) rfl (fun h=>by cases h) HTL.out (fun b hb j u hu=>by cases hb;exact HTC.out j u hu) ⟨wx.heap.size,0,none⟩ 1 1 kv.cells rfl rfl (own_key_lit wx kv) (cells_one kv) (by omega) hn1 hn2 ?_
   intro v1 w1 hown1 hg1
   obtain⟨g,cap,e,hgb⟩:=hown1.form (by omega)
   subst e
   have hb1:Below w.heap.size w w1:=HBY.out.grown hg1 HBY.out.size (fun k e=>by cases e)
   have hown2:=own_lower (base':=w.heap.size) hown1 (by have:=HBY.out.size;simpa using this)
   have HB1:=Lib.hid hb1
   have HOW:=Lib.hid hown2
   have HDC:=Lib.hid (kvs_drop (kvs_below HKV.out hb1) place (by rw[HN.out];exact hpl))
   have HIB:=Lib.hid (HBZ.out.below (B:=(wx.alloc (.cells kv.cells.toArray 48)).drew.heap.size) HLY.out ((Below.refl _ _).grown hg1 (Nat.le_refl _) (fun k e=>by cases e)))
   clear hown1 hown2 hg1 hb1 hgb
   refine hK.out _ _ HIB.out (fun hHeld=> ?_)
   clear hK K
   try simp only[Act.put,List.setIfInBounds_toArray,List.set_cons_zero,List.set_cons_succ]
   refine wpAnyH_take (i:=7) (oi:=⟨some 7,_,_,_,_,_⟩) (v:= ?_) rfl (by kernel_rfl) (by kernel_rfl) (by kernel_rfl) (fun _ _ _ h=>h) (Or.inl ⟨by rfl, ?_⟩) hHeld ?_
   rotate_left
   ·intro w hSw
    go_simp
    first|done|with_reducible rfl
   try simp only[Act.put,List.setIfInBounds_toArray,List.set_cons_zero,List.set_cons_succ]
   refine wpAnyH_done (by kernel_rfl) ?_ _
   go_wp2_with (at_builtin;refine wpList_append_own _ rfl (.tmp 16) (.tmp 19) 22 rfl w.heap.size 48 i0 _ 4 48 Tryz.underlying22 hi hz0 hz1 hz2 rfl (by omega) _ (place+1) _ rfl HOW.out (ad.add (place*4)) (n - place) (c - place) (flatK (L.drop place)) rfl HDL.out HDC.out (flatK_one' _) hn3 hn4 HB1.out.size ?_)
   intro v2 w2 hown2 hg2 _
   have hown3:w2.ownsRow w.heap.size 48 4 v2 (n+1) (flatK (L.take place++kv::L.drop place)):=by
    have e1:place+1+(n - place)=n+1:=by omega
    rw[e1]at hown2
    rw[flatK_append,flatK_cons]
    exact hown2
   have hb2:Below w.heap.size w w2:=HB1.out.grown hg2 HB1.out.size (fun j hj=>own_ge HOW.out hj)
   obtain⟨g2,cap2,e,_⟩:=hown3.form (by omega)
   subst e
   clear hown2 hg2
   obtain⟨M0,hM0⟩: ∃M0,M0=L.take place++kv::L.drop place:=⟨_,rfl⟩
   rw[←hM0]at hown3
   have hmem: ∀q∈M0,q=kv∨q∈L:=by
    intro q hq
    rw[hM0]at hq
    rcases List.mem_append.1 hq with h|h
    ·exact .inr (List.mem_of_mem_take h)
    ·rcases List.mem_cons.1 h with h|h
     ·exact .inl h
     ·exact .inr (List.mem_of_mem_drop h)
   have hlen0: ∀q∈M0,1≤q.k.sec.length∧q.k.sec.length≤64:=by
    intro q hq
    rcases hmem q hq with h|h
    ·rw[h];exact HKS.out
    ·exact HS.out _ (by rw[←HL.out];exact List.mem_map.2 ⟨q,h,rfl⟩)
   have hap0:Apart w2 g2 M0:=apart_start (fun q hq=>by
    rcases hmem q hq with h|h
    ·rw[h];exact HB.out
    ·exact HLB.out q h) (fun q hq=>(hlen0 q hq).1) hb2 (own_ge hown3 rfl)
   have HR:=Lib.hid (show M0.map (·.k)=l.take place++kv.k::l.drop place by rw[hM0];exact with_map HL.out kv place)
   have HLEN:=Lib.hid hlen0
   have HG:=Lib.hid (show w.heap.size≤g2 from own_ge hown3 rfl)
   have HOWN:=Lib.hid hown3
   have HB2:=Lib.hid hb2
   have HAP:=Lib.hid hap0
   clear hM0 hmem hlen0 hap0 hb2 hown3
   go_wp2
   go_loopw [23] (fun i wr=> ∃(k:Nat) (M:List KV),k≤(n+1)∧i= .int .i64 k∧M.map (·.k)=M0.map (·.k)∧wr.ownsRow w.heap.size 48 4 (.slice (some ⟨g2,0,none⟩) (n+1) cap2) (n+1) (flatK M)∧Apart wr g2 M∧Below w.heap.size w wr) (fun i _=>(n+1) - (intOf i).toNat)
   case atStart=>exact⟨0,M0,Nat.zero_le _,rfl,rfl,HOWN.out,HAP.out,HB2.out⟩
   case round=>
    obtain⟨k,M,hk,rfl,hmap,hown,hap,hbel⟩:=hrel
    have hlM:M.length=(n+1):=by have:=hown.1;rw[length_flatK]at this;omega
    by_cases hlt:k<(n+1)
    ·obtain⟨q,hq⟩: ∃q,M[k]?=some q:=⟨_,List.getElem?_eq_getElem (by rw[hlM];exact hlt)⟩
     obtain⟨hc0,hc1,hc2,hc3⟩:=own_at hown hq
     have HQ:=Lib.hid hq
     have HMAP:=Lib.hid hmap
     have HOW2:=Lib.hid hown
     have HAP2:=Lib.hid hap
     have HBL:=Lib.hid hbel
     have HLQ:=Lib.hid (mem_lens hmap HLEN.out hq)
     have HMQ:=Lib.hid (List.mem_of_getElem? hq)
     have hgl:g2<wr.heap.size:=by
      obtain⟨g',cap',e,_,h2⟩:=hown.form (by omega)
      cases e;exact h2
     have b1:(0:Int)≤(k:Int):=by omega
     have b2:(k:Int)<(((n+1):Nat):Int):=by omega
     have HLM:=Lib.hid hlM
     clear hq hmap hown hap hbel hlM
     go_wp2_with (first|(go_at_call 70;refine(apart_any q q.k.sec.length rfl wr (HAP2.out q HMQ.out).1 HLQ.out.1 HLQ.out.2).mono ?_;rintro e w3 ⟨S3,c3,rfl,hbs3,hge3,hb3⟩;have hth:w3.there g2 (k*4) 4:=own_there (own_below HOW2.out hb3) (by rw[HLM.out];exact hlt);have HTH:=Lib.hid hth;have HBS3:=Lib.hid hbs3;have HGE3:=Lib.hid hge3;have HB3:=Lib.hid hb3;clear hth hbs3 hge3 hb3)|((with_reducible refine at_store 33 ?_);refine wpList_store_elem (op:=⟨none, .store 48 (.tmp 33) (.tmp 32),_,_,_,_⟩) rfl 48 (.tmp 33) (.tmp 32) rfl g2 (k*4) #[.int .i64 q.k.id, .slice S3 q.k.sec.length c3, .int .i64 q.k.frm, .int .i64 q.k.til] rfl rfl HTH.out infoKey (kc_one _ _ _ _ _ _) ?_))
     intro w4 hw4
     have HA4:=Lib.hid (show Apart w4 g2 (M.set k ⟨q.k,S3,c3⟩) by rw[hw4.out];exact apart_step HAP2.out HB3.out HBS3.out HGE3.out hgl)
     have HO4:=Lib.hid (show w4.ownsRow w.heap.size 48 4 _ _ (flatK (M.set k ⟨q.k,S3,c3⟩)) by rw[hw4.out];exact own_set (own_below HOW2.out HB3.out) ⟨q.k,S3,c3⟩ (by rw[HLM.out];exact hlt))
     have HB4:=Lib.hid (show Below w.heap.size w w4 by rw[hw4.out];exact below_setCells' g2 HG.out _ _ (HBL.out.trans (HB3.out.mono HBL.out.size)))
     have HM4:=Lib.hid ((map_set_k M k q S3 c3 HQ.out).trans HMAP.out)
     go_wp2
     go_roundw
     case rel=>exact⟨k+1,M.set k ⟨q.k,S3,c3⟩,by omega,by go_num,HM4.out,HO4.out,HA4.out,HB4.out⟩
     case measure=>simp[intOf];omega
    ·have HKS2:=Lib.hid (show Ks wr wr.heap.size (some ⟨g2,0,none⟩) _ from by have:=ks_of_own hown (fun q hq=>(hap q hq).1);rw[hmap,HR.out]at this;exact this)
     have HSL:=Lib.hid (own_sl hown)
     have HBL:=Lib.hid hbel
     have e:k=n+1:=by omega
     clear hown hap hmap hbel hlM
     go_wp2
     go_ret
     exact⟨_,cap2,rfl,HKS2.out,HSL.out,HBL.out⟩
end Go.Proofs.YtcnglbliidjnfaaGreatDoor
