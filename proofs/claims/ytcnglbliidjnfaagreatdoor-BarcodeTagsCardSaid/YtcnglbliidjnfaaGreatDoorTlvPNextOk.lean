import Derived.Test.YtcnglbliidjnfaaGreatDoorFortyPGet
import Derived.Deep.Heap
import Derived.Test.YtcnglbliidjnfaaGreatDoorMem
import Derived.Laws.Cover3
import Derived.Test.YtcnglbliidjnfaaGreatDoorTlvPPut
import Derived.Laws.EntriesVeiled
import Derived.Test.YtcnglbliidjnfaaGreatDoorBarPEnc
import Derived.Test.YtcnglbliidjnfaaGreatDoorShaPSum
import Derived.Test.YtcnglbliidjnfaaGreatDoorFortyPPut
import Derived.BigRegion
import Derived.Deep.RegionWith
section
namespace Go.Proofs.YtcnglbliidjnfaaGreatDoor
set_option linter.unusedVariables false
open Go.ChangeShapes Go.WideShapes Go.ChangeAt Go.RowKit
theorem read_world {w:World} {X m c a nq:Nat} {A:Option Addr} (hK:RdBox w X A m c a) (z0 z1 V T r0 r1:Value) (o:Array Value) (ty:TypeId) {W:World}
  (hW:W=((((((w.alloc (.cells #[z0,z1] ty)).drewN nq).setCell ⟨X,0,none⟩ V).setCell ⟨X,1,none⟩ T).setCell ⟨w.heap.size,0,none⟩ r0).setCell ⟨w.heap.size,1,none⟩ r1).alloc (.cells o ty)):
  W.heap[w.heap.size]?=some (.cells #[r0,r1] ty (0,0))∧W.heap[X]?=some (.cells #[V,T] 134 (0,0))∧w.grownBy W (some X):=by
 have hX:=hK.lt
 have hne:X≠w.heap.size:=by omega
 have h1:((w.alloc (.cells #[z0,z1] ty)).drewN nq).heap[w.heap.size]?=some (.cells #[z0,z1] ty (0,0)):=heap_alloc_new w _
 have h2:((w.alloc (.cells #[z0,z1] ty)).drewN nq).heap[X]?=some (.cells #[.slice A m c, .int .i64 (a:Int)] 134 (0,0)):=((below_lit w _ ty).block X hX).trans hK
 obtain⟨w1,hw1⟩: ∃w1,w1=(w.alloc (.cells #[z0,z1] ty)).drewN nq:=⟨_,rfl⟩
 have hb1:Below w.heap.size w w1:=by rw[hw1];exact below_drewN (below_lit w _ _) _
 rw[←hw1]at h1 h2 hW
 have h3:((w1.setCell ⟨X,0,none⟩ V).setCell ⟨X,1,none⟩ T).heap[X]?=some (.cells #[V,T] 134 (0,0)):=fld_cells h2
 have h4:((w1.setCell ⟨X,0,none⟩ V).setCell ⟨X,1,none⟩ T).heap[w.heap.size]?=some (.cells #[z0,z1] ty (0,0)):=
  (Go.Deep.blk_setCell_other _ _ _ _ (Ne.symm hne)).trans ((Go.Deep.blk_setCell_other _ _ _ _ (Ne.symm hne)).trans h1)
 obtain⟨w2,hw2⟩: ∃w2,w2=(w1.setCell ⟨X,0,none⟩ V).setCell ⟨X,1,none⟩ T:=⟨_,rfl⟩
 have hb2:Below X w w2:=by rw[hw2];exact((hb1.mono (Nat.le_of_lt hX)).setCell (Nat.le_refl _) _).setCell (Nat.le_refl _) _
 have hk2: ∀k,k<w.heap.size→k≠X→w2.heap[k]?=w.heap[k]?:=fun k hk hne=>by rw[hw2];exact(Go.Deep.blk_setCell_other _ _ _ _ hne).trans ((Go.Deep.blk_setCell_other _ _ _ _ hne).trans (hb1.block k hk))
 rw[←hw2]at h3 h4 hW
 have h5:((w2.setCell ⟨w.heap.size,0,none⟩ r0).setCell ⟨w.heap.size,1,none⟩ r1).heap[w.heap.size]?=some (.cells #[r0,r1] ty (0,0)):=fld_cells h4
 have h6:((w2.setCell ⟨w.heap.size,0,none⟩ r0).setCell ⟨w.heap.size,1,none⟩ r1).heap[X]?=some (.cells #[V,T] 134 (0,0)):=
  (Go.Deep.blk_setCell_other _ _ _ _ hne).trans ((Go.Deep.blk_setCell_other _ _ _ _ hne).trans h3)
 obtain⟨w3,hw3⟩: ∃w3,w3=(w2.setCell ⟨w.heap.size,0,none⟩ r0).setCell ⟨w.heap.size,1,none⟩ r1:=⟨_,rfl⟩
 have hb3:Below X w w3:=by rw[hw3];exact(hb2.setCell (Nat.le_of_lt hX) _).setCell (Nat.le_of_lt hX) _
 have hk3: ∀k,k<w.heap.size→k≠X→w3.heap[k]?=w.heap[k]?:=fun k hk hne=>by rw[hw3];exact(Go.Deep.blk_setCell_other _ _ _ _ (Nat.ne_of_lt hk)).trans ((Go.Deep.blk_setCell_other _ _ _ _ (Nat.ne_of_lt hk)).trans (hk2 k hk hne))
 rw[←hw3]at h5 h6 hW
 have l5:=(Array.getElem?_eq_some_iff.1 h5).1
 have l6:=(Array.getElem?_eq_some_iff.1 h6).1
 subst hW
 have hb4:=hb3.trans ((below_lit w3 o ty).mono (Nat.le_of_lt l6))
 exact⟨((below_lit w3 o ty).block _ l5).trans h5,((below_lit w3 o ty).block _ l6).trans h6,hb4.os,hb4.tape,hb4.output,hb4.size,fun k hk hne=>((below_lit w3 o ty).block k (by omega)).trans (hk3 k hk (fun e=>hne (by rw[e])))⟩
theorem below_of_box {w w':World} {X:Nat} (h:w.grownBy w' (some X)) (hX:X<w.heap.size):Below X w w':=⟨h.os,h.tape,h.output,h.size,fun k hk=>h.block k (by omega) (by simp;omega)⟩
theorem behind_two {w:World} {X t n c:Nat} {r:List Nat} {ad:Addr} (h:Bs w X (t::n::r) (some ad) c) (hn:n≤r.length):
  Bs w X (r.take n) (some ⟨ad.block,ad.off+2,none⟩) n∧Bs w X (r.drop n) (some (ad.add (n+2))) (c - (n+2)):=by
 have hl:=h.len
 have hc:=h.cap
 simp only[List.length_cons]at hl
 have e2:(⟨ad.block,ad.off+2,none⟩:Addr)=ad.add 2:=by unfold Addr.add;simp
 refine⟨⟨fun k u hu=> ?_,by simp,by rw[List.length_take];omega,by omega,fun x hx=>h.lt x (by simp[List.mem_of_mem_take hx])⟩,⟨fun k u hu=> ?_,by simp,by rw[List.length_drop];omega,by omega,fun x hx=>h.lt x (by simp[List.mem_of_mem_drop hx])⟩⟩
 ·have hk:k<n:=by
   have:=(List.getElem?_eq_some_iff.1 hu).1
   simp[U8]at this;omega
  obtain⟨ad',e,hlt,hcl⟩:=h.rd (2+k) u (by
   rw[Nat.add_comm]
   simp only[U8,List.map_take,List.map_cons,List.getElem?_cons_succ]at hu⊢
   rwa[List.getElem?_take_of_lt hk]at hu)
  cases e
  exact⟨_,rfl,hlt,by rw[e2,Addr.add_add];exact hcl⟩
 ·obtain⟨ad',e,hlt,hcl⟩:=h.rd (n+2+k) u (by
   rw[show n+2+k=n+k+2 by omega]
   simp only[U8,List.map_drop,List.map_cons,List.getElem?_cons_succ]at hu⊢
   rwa[List.getElem?_drop]at hu)
  cases e
  exact⟨_,rfl,by rw[add_block];exact hlt,by rw[Addr.add_add];exact hcl⟩
set_option maxRecDepth 100000 in
set_option maxHeartbeats 1600000 in
theorem pnext_ok (t n:Nat) (r:List Nat) (m:Nat) (hm:m=r.length+2) (c a X:Nat) (A:Option Addr) (w:World) (hK:RdBox w X A m c a) (hA:Bs w X (t::n::r) A c) (h:a<t) (h2:n≤r.length):
  Calls Tryz.prog 109 #[.pointer (some ⟨X,0,none⟩)] w fun e w'=> ∃S cs A' c',e= .returned (.tuple #[.agg #[.int .i64 (t:Int), .slice S n cs], .int .i64 0])∧RdBox w' X A' (r.length - n) c' t∧Bs w' X (r.take n) S cs∧Bs w' X (r.drop n) A' c'∧w.grownBy w' (some X):=by
 obtain⟨ad,rfl,hlt,ht,hn,ht2,hn2⟩:=two_ahead hA
 have hX:=hK.lt
 have c0:=hK.c0
 have c1:=hK.c1
 have z0:=hK.fz 0
 have z1:=hK.fz 1
 have lk:=World.block_lt_of_cell? w _ ht
 have lk2:=World.block_lt_of_cell? w _ hn
 have hmc:m≤c:=by have:=hA.len;simp only[List.length_cons]at this;omega
 have hcc:=hA.cap
 have m2:(2:Int)≤(m:Int):=by omega
 have m0:((m:Int)==0)=false:=by rw[beq_eq_false_iff_ne];omega
 have m0':(m==0)=false:=by rw[beq_eq_false_iff_ne];omega
 have m0n:0<m:=by omega
 have m1n:1<m:=by omega
 have m1i:(1:Int)<(m:Int):=by omega
 have wt:IntKind.i64.wrap (t:Int)=(t:Int):=IntWalk.i64_in _ (by omega)
 have wn:IntKind.i64.wrap (n:Int)=(n:Int):=IntWalk.i64_in _ (by omega)
 obtain⟨q,hq⟩: ∃q,q=n+2:=⟨_,rfl⟩
 have wn2:IntKind.i64.wrap (2+(n:Int))=(q:Int):=by rw[IntWalk.i64_in _ (by omega)];omega
 have hta: ¬(t:Int)≤(a:Int):=by omega
 have hov: ¬(m:Int)<(q:Int):=by omega
 have q2:(2:Int)≤(q:Int):=by omega
 have qm:(q:Int)≤(m:Int):=by omega
 have qc:(q:Int)≤(c:Int):=by omega
 have q2n:2≤q:=by omega
 have qmn:q≤m:=by omega
 have qcn:q≤c:=by omega
 have q0:(0:Int)≤(q:Int):=by omega
 have hne: ¬X=w.heap.size:=by omega
 have hne2: ¬X=w.heap.size+1:=by omega
 have HK:=Lib.hid hK
 have HA:=Lib.hid hA
 have HM:=Lib.hid hm
 have HQ:=Lib.hid hq
 clear hK hA hm hq
 have hbt:=behind_two HA.out h2
 rw[←HQ.out]at hbt
 have HV:=Lib.hid hbt.1
 have HD:=Lib.hid hbt.2
 have hmq:m - q=r.length - n:=by rw[HM.out,HQ.out];omega
 have hq2:q - 2=n:=by rw[HQ.out];omega
 have HMQ:=Lib.hid hmq
 have HQ2:=Lib.hid hq2
 clear hbt hmq hq2
 by_cases e1:q=2
 ·have hn0:n=0:=by rw[←HQ2.out];omega
  by_cases e2:c=q
  ·have hd0:r.drop n=[]:=List.drop_eq_nil_of_le (by have h1:=HMQ.out;have h3:=HM.out;have h4:=HQ.out;omega)
   have HD0:=Lib.hid hd0
   clear hd0
   subst e1
   subst hn0
   go_enter Tryz.func109, Tryz.ntmps109
   go_wp2
   go_quiet (fail)
   go_wp2
   obtain⟨W,hW⟩: ∃W,W=((((((w.alloc (.cells #[.int .i64 0, .slice none 0 0] 77)).drewN nq).setCell ⟨X,0,none⟩ (.slice (some ad) (m - 2) 0)).setCell ⟨X,1,none⟩ (.int .i64 (t:Int))).setCell ⟨w.heap.size,0,none⟩ (.int .i64 (t:Int))).setCell ⟨w.heap.size,1,none⟩ (.slice (some ad) 0 0)).alloc (.cells #[.int .i64 (t:Int), .slice (some ad) 0 0] 77):=⟨_,rfl⟩
   rw[←hW]
   obtain⟨h1,h3,hg⟩:=read_world HK.out _ _ _ _ _ _ _ _ hW
   have hb:=below_of_box hg hX
   rw[HMQ.out]at h3
   exact bodyPost_ret (results_row_tmp' Tryz.results109 _ W w.heap.size 77 #[.int .i64 (t:Int), .slice (some ad) 0 0] (0,0) _ rfl h1 Tryz.underlying77 rfl info_fld) rfl ⟨some ad,0,some ad,0,rfl,h3,bs_none _ _ _,by rw[HD0.out];exact bs_none _ _ _,hg⟩
  ·subst e1
   subst hn0
   have e3:ad.add 2=⟨ad.block,ad.off+2,none⟩:=by unfold Addr.add;simp
   have hd:=HD.out
   rw[e3]at hd
   replace HD:=Lib.hid hd
   clear hd e3
   go_enter Tryz.func109, Tryz.ntmps109
   go_wp2
   go_quiet (fail)
   go_wp2
   obtain⟨W,hW⟩: ∃W,W=((((((w.alloc (.cells #[.int .i64 0, .slice none 0 0] 77)).drewN nq).setCell ⟨X,0,none⟩ (.slice (some ⟨ad.block,ad.off+2,none⟩) (m - 2) (c - 2))).setCell ⟨X,1,none⟩ (.int .i64 (t:Int))).setCell ⟨w.heap.size,0,none⟩ (.int .i64 (t:Int))).setCell ⟨w.heap.size,1,none⟩ (.slice (some ad) 0 0)).alloc (.cells #[.int .i64 (t:Int), .slice (some ad) 0 0] 77):=⟨_,rfl⟩
   rw[←hW]
   obtain⟨h1,h3,hg⟩:=read_world HK.out _ _ _ _ _ _ _ _ hW
   have hb:=below_of_box hg hX
   rw[HMQ.out]at h3
   exact bodyPost_ret (results_row_tmp' Tryz.results109 _ W w.heap.size 77 #[.int .i64 (t:Int), .slice (some ad) 0 0] (0,0) _ rfl h1 Tryz.underlying77 rfl info_fld) rfl ⟨some ad,0,some ⟨ad.block,ad.off+2,none⟩,(c - 2),rfl,h3,bs_none _ _ _,HD.out.below hb,hg⟩
 ·by_cases e2:c=q
  ·have hd0:r.drop n=[]:=List.drop_eq_nil_of_le (by have h3:=HM.out;have h4:=HQ.out;omega)
   have HD0:=Lib.hid hd0
   clear hd0
   go_enter Tryz.func109, Tryz.ntmps109
   go_wp2
   go_quiet (fail)
   go_wp2
   obtain⟨W,hW⟩: ∃W,W=((((((w.alloc (.cells #[.int .i64 0, .slice none 0 0] 77)).drewN nq).setCell ⟨X,0,none⟩ (.slice (some ad) (m - q) 0)).setCell ⟨X,1,none⟩ (.int .i64 (t:Int))).setCell ⟨w.heap.size,0,none⟩ (.int .i64 (t:Int))).setCell ⟨w.heap.size,1,none⟩ (.slice (some ⟨ad.block,ad.off+2,none⟩) (q - 2) (q - 2))).alloc (.cells #[.int .i64 (t:Int), .slice (some ⟨ad.block,ad.off+2,none⟩) (q - 2) (q - 2)] 77):=⟨_,rfl⟩
   rw[←hW]
   obtain⟨h1,h3,hg⟩:=read_world HK.out _ _ _ _ _ _ _ _ hW
   have hb:=below_of_box hg hX
   rw[HMQ.out]at h3
   rw[HQ2.out]at h1
   exact bodyPost_ret (results_row_tmp' Tryz.results109 _ W w.heap.size 77 #[.int .i64 (t:Int), .slice (some ⟨ad.block,ad.off+2,none⟩) n n] (0,0) _ rfl h1 Tryz.underlying77 rfl info_fld) rfl ⟨some ⟨ad.block,ad.off+2,none⟩,n,some ad,0,rfl,h3,HV.out.below hb,by rw[HD0.out];exact bs_none _ _ _,hg⟩
  ·go_enter Tryz.func109, Tryz.ntmps109
   go_wp2
   go_quiet (fail)
   go_wp2
   obtain⟨W,hW⟩: ∃W,W=((((((w.alloc (.cells #[.int .i64 0, .slice none 0 0] 77)).drewN nq).setCell ⟨X,0,none⟩ (.slice (some (ad.add q)) (m - q) (c - q))).setCell ⟨X,1,none⟩ (.int .i64 (t:Int))).setCell ⟨w.heap.size,0,none⟩ (.int .i64 (t:Int))).setCell ⟨w.heap.size,1,none⟩ (.slice (some ⟨ad.block,ad.off+2,none⟩) (q - 2) (q - 2))).alloc (.cells #[.int .i64 (t:Int), .slice (some ⟨ad.block,ad.off+2,none⟩) (q - 2) (q - 2)] 77):=⟨_,rfl⟩
   rw[←hW]
   obtain⟨h1,h3,hg⟩:=read_world HK.out _ _ _ _ _ _ _ _ hW
   have hb:=below_of_box hg hX
   rw[HMQ.out]at h3
   rw[HQ2.out]at h1
   exact bodyPost_ret (results_row_tmp' Tryz.results109 _ W w.heap.size 77 #[.int .i64 (t:Int), .slice (some ⟨ad.block,ad.off+2,none⟩) n n] (0,0) _ rfl h1 Tryz.underlying77 rfl info_fld) rfl ⟨some ⟨ad.block,ad.off+2,none⟩,n,some (ad.add q),(c - q),rfl,h3,HV.out.below hb,HD.out.below hb,hg⟩
theorem pnext_fld (t n:Nat) (r:List Nat) (f:Tf) (hf:f=⟨t,r.take n⟩) (p:List Nat) (hp:p=r.drop n) (m:Nat) (hm:m=r.length+2) (c a X:Nat) (A:Option Addr) (w:World) (hK:RdBox w X A m c a) (hA:Bs w X (t::n::r) A c) (h:a<t) (h2:n≤r.length):
  Calls Tryz.prog 109 #[.pointer (some ⟨X,0,none⟩)] w fun e w'=> ∃S cs A' c',e= .returned (.tuple #[.agg #[.int .i64 f.tag, .slice S f.val.length cs], .int .i64 0])∧RdBox w' X A' p.length c' t∧Bs w' X f.val S cs∧Bs w' X p A' c'∧w.grownBy w' (some X):=by
 have hl:(r.take n).length=n:=by rw[List.length_take];omega
 refine(pnext_ok t n r m hm c a X A w hK hA h h2).mono ?_
 rintro e w' ⟨S,cs,A',c',rfl,h1,h2,h3,h4⟩
 subst hf hp
 exact⟨S,cs,A',c',by rw[hl],by rw[List.length_drop];exact h1,h2,h3,h4⟩
end Go.Proofs.YtcnglbliidjnfaaGreatDoor
end
section
namespace Go.Proofs.YtcnglbliidjnfaaGreatDoor
set_option linter.unusedVariables false
open Go.ChangeShapes Go.WideShapes Go.ChangeAt Go.RowKit
theorem eql_nil_bytes (A:Option Addr) (n c:Nat) (w:World):(binOp .eql 30 (.slice A n c) (.slice none 0 0)).run Tryz.prog w= .ok (.bool A.isNone) w:=by
 simp[binOp,run_equal_slice_nil w 30 5 A n c Tryz.underlying30]
set_option maxRecDepth 20000 in
theorem clone_any (s:List Nat) (n:Nat) (hn:n=s.length) (A:Option Addr) (c:Nat) (w:World) (h:Bs w w.heap.size s A c) (h1:n≤140737488355328):
  Calls Tryz.prog 107 #[.slice A n c] w fun e w'=> ∃A' c',e= .returned (.slice A' n c')∧Bs w' w'.heap.size s A' c'∧Below w.heap.size w w':=by
 obtain⟨i0,hi,hz0,hz1,hz2⟩:=info_parts infoU8
 rcases A with _|ad
 ·have hc:c=0:=h.nil rfl
  have hl:=h.len
  have h0:n=0:=by omega
  subst hc h0
  have hs:s=[]:=List.eq_nil_of_length_eq_zero (by omega)
  have HH:=Lib.hid h
  have hnil:=eql_nil_bytes none 0 0
  clear h hl hn
  go_enter Tryz.func107, Tryz.ntmps107
  go_wp2
  go_ret
  exact⟨none,0,rfl,HH.out,Below.refl _ _⟩
 ·have hbase:w.heap.size≤(w.alloc (.cells #[] 5)).heap.size:=by simp
  have hown0:(w.alloc (.cells #[] 5)).ownsRow w.heap.size 5 1 (.slice (some ⟨w.heap.size,0,none⟩) 0 0) 0 []:=World.ownsRow_lit w #[] 0 (Nat.le_refl _) (by decide) rfl
  have HE:=Lib.hid hown0
  have HAE:=Lib.hid (h.rd.next (below_lit w #[] 5))
  have HUL:=Lib.hid (show(U8 s).length=n by simp[U8,hn])
  have HLT:=Lib.hid h.lt
  have hn0:0+n≤maxLen:=by unfold maxLen;omega
  have hn1:(0+n)*1≤140737488355328:=by omega
  have hnil:=eql_nil_bytes (some ad) n c
  clear h hn hown0
  go_enter Tryz.func107, Tryz.ntmps107
  go_wp2_with (at_builtin;refine wpList_append_rd _ rfl (.tmp 5) (.tmp 6) 30 rfl w.heap.size 5 i0 (.int .u8 0) 1 Tryz.underlying30 hi hz0 hz1 hz2 rfl (.slice (some ⟨w.heap.size,0,none⟩) 0 0) 0 [] rfl HE.out (w.alloc (.cells #[] 5)).heap.size (some ad) n c (U8 s) rfl HAE.out HUL.out (fun h=>by cases h) (U8_one s) hn0 hn1 hbase ?_)
  intro v1 w1 hown1 hg1
  have hb1:Below w.heap.size w w1:=(below_lit w #[] 5).grown hg1 hbase (fun j hj=>own_ge HE.out hj)
  have hown1':w1.ownsRow w.heap.size 5 1 v1 n (U8 s):=by simpa using hown1
  obtain⟨A',c',e,hbs⟩:=bs_of_own hown1' HLT.out
  subst e
  have HBS:=Lib.hid hbs
  have HB1:=Lib.hid hb1
  clear hown1 hown1' hg1 hbs hb1
  go_wp2
  go_ret
  exact⟨A',c',rfl,HBS.out,HB1.out⟩
end Go.Proofs.YtcnglbliidjnfaaGreatDoor
end
section
namespace Go.Proofs.YtcnglbliidjnfaaGreatDoor
set_option linter.unusedVariables false
open Go.ChangeShapes Go.WideShapes Go.ChangeAt Go.RowKit
theorem town_kept {w w':World} {X base:Nat} {e:TypeId} {size:Nat} {v:Value} {n:Nat} {xs:List Value} (h:w.ownsRow base e size v n xs) (hg:w.grownBy w' (some X)) (hX:X<base):w'.ownsRow base e size v n xs:=by
 refine⟨h.1, ?_⟩
 rcases h.2 with hn|⟨g,cap,cur,rfl,h1,hh,rest⟩
 ·exact .inl hn
 ·refine .inr ⟨g,cap,cur,rfl,h1, ?_,rest⟩
  rw[hg.block g (Array.getElem?_eq_some_iff.1 hh).1 (by simp;omega)]
  exact hh
def leftIn (X:Nat) (w:World):Nat:=match w.cell? ⟨X,0,none⟩with
 |some (.slice _ n _)=>n
 |_=>0
theorem RdBox.left {w:World} {X:Nat} {A:Option Addr} {m c a:Nat} (h:RdBox w X A m c a):leftIn X w=m:=by rw[leftIn,h.c0]
set_option maxRecDepth 100000 in
set_option maxHeartbeats 1600000 in
theorem pfieldsOf_any (b:List Nat) (hb6:b.length≤140737488355328) (E:Nat) (L:List Tf) (hg:gotT b=(E,L)) (c X:Nat) (A:Option Addr) (w:World) (hK:RdBox w X A b.length c 0) (hA:Bs w X b A c):
  Calls Tryz.prog 108 #[.func (.func 109) #[.pointer (some ⟨X,0,none⟩)] #[]] w fun e w'=> ∃A' c',e= .returned (.tuple #[.slice A' (L.length:Nat) c', .int .i64 (E:Int)])∧Ts w' w'.heap.size L A' c'∧Below X w w':=by
 have hX:=hK.lt
 have HG:=Lib.hid hg
 have HK:=Lib.hid hK
 have HA:=Lib.hid hA
 have HB6:=Lib.hid hb6
 clear hg hK hA hb6
 go_enter Tryz.func108, Tryz.ntmps108
 go_wp2
 have hwx:X≤w.heap.size:=Nat.le_of_lt hX
 go_loopw [4] (fun v wr=> ∃(k a:Nat) (p:List Nat) (M:List TV) (A c m:_),p.length≤k∧preT (M.map (·.f)) (getT k a p)=(E,L)∧m=p.length∧RdBox wr X A m c a∧Bs wr X p A c∧wr.ownsRow w.heap.size 77 2 v M.length (flatV M)∧(∀q∈M,Bs wr X q.f.val q.S q.c)∧Below X w wr∧M.length≤a∧a≤255) (fun _ wr=>leftIn X wr)
 case atStart=>
  have hb1:=below_lit w #[] 77
  exact⟨b.length,0,b,[],A,c,b.length,Nat.le_refl _,by rw[show List.map (·.f) ([]:List TV)=[]from rfl,preT_nil];exact HG.out,rfl,HK.out.next hb1,HA.out.below (hb1.mono hwx),World.ownsRow_lit w #[] 0 (Nat.le_refl _) (by decide) rfl,by simp,hb1.mono hwx,by simp,by omega⟩
 case round=>
  obtain⟨k,a,p,M,A1,c1,m,hk,hpre,hm,hbox,hbs,hown,hvals,hbel,hlen⟩:=hrel
  have hXr:=hbox.lt
  have hsz:=hbel.size
  have HPRE:=Lib.hid hpre
  have HM:=Lib.hid hm
  have HBOX:=Lib.hid hbox
  have HBS:=Lib.hid hbs
  have HOW:=Lib.hid hown
  have HV:=Lib.hid hvals
  have HBL:=Lib.hid hbel
  have HLEN:=Lib.hid hlen
  have HKK:=Lib.hid hk
  clear hpre hm hbox hbs hown hvals hbel hlen hk HG HK HA
  rcases p with _|⟨x,_|⟨y,r⟩⟩
  ·obtain rfl:m=0:=by simpa using HM.out
   have hpre:=HPRE.out
   rw[getT_end,preT_end]at hpre
   cases hpre
   obtain⟨A2,c2,e2,hts⟩:=ts_of_own HOW.out (fun q hq=>(HV.out q hq).more (Nat.le_of_lt hXr))
   have HTS:=Lib.hid hts
   clear HPRE HOW hts
   subst e2
   go_wp2_with fail
   refine(pnext_none c1 a X A1 wr HBOX.out).mono ?_
   rintro e w1 ⟨rfl,hb1⟩
   have hb2:=hb1.trans ((below_lit w1 #[.int .i64 0, .slice none 0 0] 77).mono hb1.size)
   have HBE:=Lib.hid (HBL.out.trans (hb2.mono (Nat.le_of_lt hXr)))
   have HTE:=Lib.hid (HTS.out.next hb2)
   clear hb1 hb2
   go_wp2
   go_ret2
   exact⟨A2,c2,by rw[List.length_map];rfl,HTE.out,HBE.out⟩
  ·obtain rfl:m=1:=by simpa using HM.out
   have hpre:=HPRE.out
   rw[getT_one (by simpa using HKK.out),preT_bad _ (by decide)]at hpre
   cases hpre
   clear HPRE HKK
   go_wp2_with fail
   refine(pnext_one c1 a X A1 wr HBOX.out).mono ?_
   rintro e w1 ⟨rfl,hb1⟩
   have HBE:=Lib.hid (HBL.out.trans ((hb1.trans ((below_lit w1 #[.int .i64 0, .slice none 0 0] 77).mono hb1.size)).mono (Nat.le_of_lt hXr)))
   clear hb1
   go_wp2
   go_ret2
   exact⟨none,0,rfl,Ts.empty _ _,HBE.out⟩
  ·have hm2:m=r.length+2:=by simpa using HM.out
   have hkk:1≤k:=by have:=HKK.out;simp only[List.length_cons]at this;omega
   have HM2:=Lib.hid hm2
   clear hm2
   by_cases q1:x≤a
   ·have hpre:=HPRE.out
    rw[getT_order hkk q1,preT_bad _ (by decide)]at hpre
    cases hpre
    clear HPRE HKK
    go_wp2_with fail
    refine(pnext_order x y r m HM2.out c1 a X A1 wr HBOX.out HBS.out q1).mono ?_
    rintro e w1 ⟨rfl,hb1⟩
    have HBE:=Lib.hid (HBL.out.trans ((hb1.trans ((below_lit w1 #[.int .i64 0, .slice none 0 0] 77).mono hb1.size)).mono (Nat.le_of_lt hXr)))
    clear hb1
    go_wp2
    go_ret2
    exact⟨none,0,rfl,Ts.empty _ _,HBE.out⟩
   by_cases q2:r.length<y
   ·have hpre:=HPRE.out
    rw[getT_over hkk (by omega) q2,preT_bad _ (by decide)]at hpre
    cases hpre
    clear HPRE HKK
    go_wp2_with fail
    refine(pnext_over x y r m HM2.out c1 a X A1 wr HBOX.out HBS.out (by omega) q2).mono ?_
    rintro e w1 ⟨rfl,hb1⟩
    have HBE:=Lib.hid (HBL.out.trans ((hb1.trans ((below_lit w1 #[.int .i64 0, .slice none 0 0] 77).mono hb1.size)).mono (Nat.le_of_lt hXr)))
    clear hb1
    go_wp2
    go_ret2
    exact⟨none,0,rfl,Ts.empty _ _,HBE.out⟩
   obtain⟨j,rfl⟩: ∃j,k=j+1:=⟨k - 1,by omega⟩
   have hpre:=HPRE.out
   rw[getT_step (by omega) (by omega)]at hpre
   obtain⟨f,hf⟩: ∃f:Tf,f=⟨x,r.take y⟩:=⟨_,rfl⟩
   obtain⟨p,hp⟩: ∃p,p=r.drop y:=⟨_,rfl⟩
   rw[←hf, ←hp]at hpre
   have hpl:p.length≤j:=by have:=HKK.out;simp only[List.length_cons]at this;rw[hp,List.length_drop];omega
   have hpl2:p.length<m:=by rw[HM2.out,hp,List.length_drop];omega
   have hpm:M.length+1≤x∧x≤255:=by have:=HLEN.out;have:=HBS.out.lt x (by simp);omega
   have HF:=Lib.hid hf
   have HP:=Lib.hid hp
   have HPL:=Lib.hid hpl
   have HPL2:=Lib.hid hpl2
   have HPM:=Lib.hid hpm
   replace HPRE:=Lib.hid hpre
   have hM6:M.length≤1000000:=by have:=HLEN.out;omega
   have HQ:=Lib.hid (show a<x∧y≤r.length by omega)
   have HLF:=Lib.hid HBOX.out.left
   clear hpre hf hp hpl hpl2 hpm q1 q2
   go_wp2_with fail
   refine(pnext_fld x y r f HF.out p HP.out m HM2.out c1 a X A1 wr HBOX.out HBS.out HQ.out.1 HQ.out.2).mono ?_
   rintro e w1 ⟨S,cs,A2,c2,rfl,hb1,hb2,hb3,hb4⟩
   have HO1:=Lib.hid (town_kept HOW.out hb4 hX)
   have hbx:=below_of_box hb4 hXr
   have hbl:=below_lit w1 #[.int .i64 f.tag, .slice S f.val.length cs] 77
   have hs1:w.heap.size≤w1.heap.size:=Nat.le_trans hsz hb4.size
   have hs2:w.heap.size≤(w1.alloc (.cells #[.int .i64 f.tag, .slice S f.val.length cs] 77)).heap.size:=Nat.le_trans hs1 hbl.size
   have HO2:=Lib.hid (own_below HO1.out hbl)
   have HBX:=Lib.hid (HBL.out.trans hbx)
   have HK1:=Lib.hid hb1
   have HV1:=Lib.hid hb2
   have HR1:=Lib.hid hb3
   have HVS:=Lib.hid (fun q hq=>(HV.out q hq).below hbx)
   have HBX1:=Lib.hid hbl
   clear hb1 hb2 hb3 hb4 hbx hbl
   go_wp2_with (at_builtin;refine wpList_append_field rfl (.tmp 17) (.tmp 19) rfl (w1.alloc (.cells #[.int .i64 f.tag, .slice S f.val.length cs] 77)) w.heap.size M.length u4 M ⟨f,S,cs⟩ rfl HO2.out (w1.heap.size+1) (World.size_alloc _ _) rfl hM6 hs2 ?_;intro v3 w3 hown3 hg3)
   have hge: ∀g,u4.ownBlock=some g→w.heap.size≤g:=fun g hg=>own_ge HO2.out hg
   have hb3:Below w.heap.size w1 w3:=(HBX1.out.mono hs1).grown hg3 hs2 hge
   have HB3:=Lib.hid hb3
   have HO3:=Lib.hid hown3
   have HK3:=Lib.hid (show RdBox w3 X A2 p.length c2 x from(hb3.block X hX).trans HK1.out)
   have HR3:=Lib.hid (HR1.out.below (hb3.mono hwx))
   have HV3:=Lib.hid (show∀q∈M++ [(⟨f,S,cs⟩:TV)],Bs w3 X q.f.val q.S q.c from fun q hq=>by
    rcases List.mem_append.1 hq with h|h
    ·exact(HVS.out q h).below (hb3.mono hwx)
    ·rw[List.mem_singleton]at h
     subst h
     exact HV1.out.below (hb3.mono hwx))
   have HBE:=Lib.hid (HBX.out.trans (hb3.mono hwx))
   clear hown3 hg3 hge hb3 HO1 HO2 HK1 HR1 HV1 HVS HBX
   go_wp2
   go_roundw
   case rel=>exact⟨j,x,p,M++ [⟨f,S,cs⟩],A2,c2,p.length,HPL.out,by rw[List.map_append];exact HPRE.out,rfl,HK3.out,HR3.out,by rw[List.length_append];exact HO3.out,HV3.out,HBE.out,by rw[List.length_append];exact HPM.out⟩
   case measure=>rw[HK3.out.left,HLF.out];exact HPL2.out
set_option maxRecDepth 100000 in
set_option maxHeartbeats 1600000 in
theorem pget_tlv (b:List Nat) (n:Nat) (hn:n=b.length) (hn6:n≤140737488355328) (E:Nat) (L:List Tf) (hg:gotT b=(E,L)) (A:Option Addr) (c:Nat) (w:World) (hA:Bs w w.heap.size b A c):
  Calls Tryz.prog 87 #[.slice A n c] w fun e w'=> ∃A' c',e= .returned (.tuple #[.slice A' (L.length:Nat) c', .int .i64 (E:Int)])∧Ts w' w'.heap.size L A' c'∧Below w.heap.size w w':=by
 have hmf: ∀(fn:Fn) (first cap:Array Value) (w:World),(Instr.makeFunc fn first cap).run Tryz.prog w= .ok (.func fn first cap) w:=fun _ _ _ _=>rfl
 have HN:=Lib.hid hn
 have HG:=Lib.hid hg
 have HA:=Lib.hid hA
 clear hn hg hA
 go_enter Tryz.func87, Tryz.ntmps87
 go_wp2_with fail
 refine(clone_any b n HN.out A c w HA.out (by omega)).mono ?_
 rintro e w1 ⟨A1,c1,rfl,h1,h2⟩
 have hbl:=below_lit w1 #[.slice A1 n c1, .int .i64 (0:Int)] 134
 have HK:=Lib.hid (show RdBox (w1.alloc (.cells #[.slice A1 n c1, .int .i64 (0:Int)] 134)) w1.heap.size A1 b.length c1 0 by rw[←HN.out];exact heap_alloc_new w1 _)
 have HR:=Lib.hid (h1.below hbl)
 have HB:=Lib.hid (h2.trans (hbl.mono h2.size))
 have HS:=Lib.hid h2.size
 clear h1 h2 hbl
 go_wp2_with fail
 refine(pfieldsOf_any b (by rw[←HN.out];exact hn6) E L HG.out c1 w1.heap.size A1 _ HK.out HR.out).mono ?_
 rintro e w3 ⟨A2,c2,rfl,h3,h4⟩
 have HT:=Lib.hid h3
 have HBE:=Lib.hid (HB.out.trans (h4.mono HS.out))
 clear h3 h4
 go_wp2
 go_ret2
 exact⟨_,_,rfl,HT.out,HBE.out⟩
end Go.Proofs.YtcnglbliidjnfaaGreatDoor
end
section
namespace Go.Proofs.YtcnglbliidjnfaaGreatDoor
set_option maxRecDepth 100000
set_option linter.unusedVariables false
open Go.ChangeShapes Go.WideShapes Go.ChangeAt Go.RowKit
set_option maxHeartbeats 1600000 in
theorem bstep1 (s:List Nat) (n:Nat) (hn:n=s.length) (hn4:n≤140737488355328) (E:Nat) (P:List Nat) (hE:fgetX s=(E,P)) (A:Option Addr) (c SB AB:Nat) (w:World) (hS:Blk w SB #[.slice A n c] 30) (hA:Bs w w.heap.size s A c) (hX:Blk w AB #[.slice none 0 0] 30):
  Calls Tryz.prog 84 #[.pointer (some ⟨SB,0,none⟩), .pointer (some ⟨AB,0,none⟩)] w fun e w'=>e= .returned (.int .i64 (E:Int))∧ ∃A' c',w.grownBy w' (some AB)∧Bs w' w'.heap.size P A' c'∧Blk w' AB #[.slice A' P.length c'] 30 :=by
 have HN:=Lib.hid hn
 have HE:=Lib.hid hE
 have HA:=Lib.hid hA
 have HX:=Lib.hid hX
 have cS:=hS.cell 0 rfl
 clear hn hE hA hX hS
 go_enter Tryz.func84, Tryz.ntmps84
 go_wp2_with fail
 refine(pget_forty s n HN.out hn4 E P HE.out A c w HA.out).mono ?_
 rintro e w1 ⟨A1,c1,rfl,hs,hb⟩
 clear cS
 have X1:=HX.out.next hb
 have cX:=X1.cell 0 rfl
 have zX:=X1.frozen 0
 have HX1:=Lib.hid X1
 have HS:=Lib.hid hs
 have HG:=Lib.hid (grownR_below (some AB) hb)
 clear hs hb X1
 go_wp2
 go_ret
 have hg:=grown_cell w1 AB 0 (.slice A1 P.length c1)
 exact⟨rfl,A1,c1,grownR_trans HG.out hg,kbs_grown HS.out HX1.out hg (by simp),HX1.out.put 0 _⟩
theorem bstep2_yes (k:Nat) (hk:32≤k) (A:Option Addr) (c AB:Nat) (w:World) (hX:Blk w AB #[.slice A k c] 30):
  Calls Tryz.prog 85 #[.pointer (some ⟨AB,0,none⟩)] w fun e w'=>e= .returned (.int .i64 0)∧w=w':=by
 have cX:=hX.cell 0 rfl
 have b1:decide ((32:Int)≤(k:Int))=true:=decide_eq_true (by omega)
 clear hX
 go_enter Tryz.func85, Tryz.ntmps85
 go_wp2_with fail
 refine(punless_yes 14 w).mono ?_
 rintro e w1 ⟨rfl,rfl⟩
 go_wp2
 go_ret
 exact⟨rfl,rfl⟩
theorem bstep2_no (k:Nat) (hk:k<32) (A:Option Addr) (c AB:Nat) (w:World) (hX:Blk w AB #[.slice A k c] 30):
  Calls Tryz.prog 85 #[.pointer (some ⟨AB,0,none⟩)] w fun e w'=>e= .returned (.int .i64 14)∧w=w':=by
 have cX:=hX.cell 0 rfl
 have b1:decide ((32:Int)≤(k:Int))=false:=decide_eq_false (by omega)
 clear hX
 go_enter Tryz.func85, Tryz.ntmps85
 go_wp2_with fail
 refine(punless_no 14 w).mono ?_
 rintro e w1 ⟨rfl,rfl⟩
 go_wp2
 go_ret
 exact⟨rfl,rfl⟩
set_option maxHeartbeats 1600000 in
theorem bstep3 (P:List Nat) (k j:Nat) (hk:k=P.length) (hj:k=j+32) (h47:k≤140737488355328) (E:Nat) (L:List Tf) (hg:gotT (restB P)=(E,L)) (A:Option Addr) (c AB PB XB:Nat) (w:World) (hA:Blk w AB #[.slice A k c] 30) (hP:Blk w PB #[.pointer (some ⟨XB,0,none⟩)] 109) (hX:Blk w XB #[.slice none 0 0, .slice none 0 0, .slice none 0 0] 62) (hB:Bs w w.heap.size P A c) (hne1:XB≠AB) (hne2:XB≠PB):
  Calls Tryz.prog 86 #[.pointer (some ⟨AB,0,none⟩), .pointer (some ⟨PB,0,none⟩)] w fun e w'=>e= .returned (.int .i64 (E:Int))∧ ∃A1 c1 A2 c2 A3 c3,w.grownBy w' (some XB)∧Bs w' w'.heap.size (restB P) A1 c1∧Bs w' w'.heap.size (sealB P) A2 c2∧Ts w' w'.heap.size L A3 c3∧Blk w' XB #[.slice A1 j c1, .slice A2 32 c2, .slice A3 L.length c3] 62 :=by
 have e32:P.length - 32=j:=by omega
 obtain⟨a,rfl⟩: ∃a,A=some a:=by
  rcases A with _|a
  ·have h1:=hB.nil rfl
   have h2:=hB.len
   omega
  ·exact⟨a,rfl⟩
 have hcap:=hB.cap
 have hlen:=hB.len
 obtain⟨hs1,hs2⟩:=Bs.split hB j (by omega)
 have HS1:=Lib.hid (show Bs w w.heap.size (restB P) (some a) c by rw[restB,e32];exact hs1)
 have HS2:=Lib.hid (show Bs w w.heap.size (sealB P) (some (a.add j)) (c - j) by rw[sealB,e32];exact hs2)
 have HJ:=Lib.hid (show j=(restB P).length by rw[restB,List.length_take];omega)
 have HG:=Lib.hid hg
 have HA:=Lib.hid hA
 have HP:=Lib.hid hP
 have HX:=Lib.hid hX
 have n1: ¬XB=AB:=hne1
 have n2: ¬XB=PB:=hne2
 have n3: ¬AB=XB:=fun e=>hne1 e.symm
 have n4: ¬PB=XB:=fun e=>hne2 e.symm
 have cA:=hA.cell 0 rfl
 have cP:=hP.cell 0 rfl
 have cX0:=hX.cell 0 rfl
 have cX1:=hX.cell 1 rfl
 have zX0:=hX.frozen 0
 have zX1:=hX.frozen 1
 have wz:IntKind.i64.wrap ((k:Int) - 32)=(j:Int):=by
  rw[show(k:Int) - 32=(j:Int) by omega]
  exact IntWalk.i64_in _ (by omega)
 have mc:j≤c:=by omega
 have mk:j≤k:=by omega
 have nc: ¬c=j:=by omega
 have m0:(0:Int)≤(j:Int):=by omega
 have mci:(j:Int)≤(c:Int):=by omega
 have mki:(j:Int)≤(k:Int):=by omega
 have HKJ:=Lib.hid hj
 clear hs1 hs2 hg hA hP hX hB hk e32 hj hlen hcap hne1 hne2
 go_enter Tryz.func86, Tryz.ntmps86
 go_wp2
 go_region
 rw[show k - j=32 by have:=HKJ.out;omega]
 obtain⟨w2,hw2⟩: ∃w2,w2=((w.setCell ⟨XB,0,none⟩ (.slice (some a) j c)).setCell ⟨XB,1,none⟩ (.slice (some (a.add j)) 32 (c - j))).drew:=⟨_,rfl⟩
 rw[←hw2]
 have g1:=grown_cell w XB 0 (.slice (some a) j c)
 have g2:=grown_cell (w.setCell ⟨XB,0,none⟩ (.slice (some a) j c)) XB 1 (.slice (some (a.add j)) 32 (c - j))
 have X1:=HX.out.put 0 (.slice (some a) j c)
 have X2:=X1.put 1 (.slice (some (a.add j)) 32 (c - j))
 have hd:Below ((w.setCell ⟨XB,0,none⟩ (.slice (some a) j c)).setCell ⟨XB,1,none⟩ (.slice (some (a.add j)) 32 (c - j))).heap.size ((w.setCell ⟨XB,0,none⟩ (.slice (some a) j c)).setCell ⟨XB,1,none⟩ (.slice (some (a.add j)) 32 (c - j))) w2:=by rw[hw2];exact below_drewN (Below.refl _ _) 1
 have S1:=Lib.hid ((kbs_grown (kbs_grown HS1.out HX.out g1 (by simp)) X1 g2 (by simp)).next hd)
 have S2:=Lib.hid ((kbs_grown (kbs_grown HS2.out HX.out g1 (by simp)) X1 g2 (by simp)).next hd)
 have HX2:=Lib.hid (show Blk w2 XB #[.slice (some a) j c, .slice (some (a.add j)) 32 (c - j), .slice none 0 0] 62 from X2.next hd)
 have HP2:=Lib.hid (((HP.out.grown g1 n4).grown g2 n4).next hd)
 have HGR:=Lib.hid (grownR_trans (grownR_trans g1 g2) (grownR_below (some XB) hd))
 clear hw2 g1 g2 X1 X2 hd cA cP cX0 cX1 zX0 zX1 HS1 HS2 HX HP HA wz mc mk nc m0 mci mki
 have hdr:Below w2.heap.size w2 w2.drew:=below_drewN (Below.refl _ _) 1
 have HPD:=Lib.hid (HP2.out.next hdr)
 have HXD:=Lib.hid (HX2.out.next hdr)
 have cP:w2.drew.cell? ⟨PB,0,none⟩=some (.pointer (some ⟨XB,0,none⟩)):=HPD.out.cell 0 rfl
 have cX:w2.drew.cell? ⟨XB,0,none⟩=some (.slice (some a) j c):=HXD.out.cell 0 rfl
 have cX2:w2.drew.cell? ⟨XB,2,none⟩=some (.slice none 0 0):=HXD.out.cell 2 rfl
 have zX2:w2.drew.frozen? ⟨XB,2,none⟩=false:=HXD.out.frozen 2
 go_wp2_with fail
 go_region_with (go_at_call 87;refine(pget_tlv (restB P) j HJ.out (by have:=HKJ.out;omega) E L HG.out (some a) c _ (S1.out.next hdr)).mono ?_;rintro e w3 ⟨A3,c3,rfl,hs,hb⟩;have HB3:=Lib.hid hb;have HS3:=Lib.hid hs;have HP3:=Lib.hid (HPD.out.next hb);have HX3:=Lib.hid (HXD.out.next hb);have dP:w3.cell? ⟨PB,0,none⟩=some (.pointer (some ⟨XB,0,none⟩)):=HP3.out.cell 0 rfl;have dX2:w3.cell? ⟨XB,2,none⟩=some (.slice none 0 0):=HX3.out.cell 2 rfl;have dz2:w3.frozen? ⟨XB,2,none⟩=false:=HX3.out.frozen 2;clear hb hs)
 all_goals
  go_wp2
  go_ret
  have hg:=grown_cell w3 XB 2 (.slice A3 L.length c3)
  have hb:Below w2.heap.size w2 w3:=hdr.trans (HB3.out.mono hdr.size)
  exact⟨rfl,some a,c,some (a.add j),c - j,A3,c3,grownR_trans HGR.out (grownR_trans (grownR_below (some XB) hb) hg),kbs_grown (S1.out.next hb) HX3.out hg (by simp),kbs_grown (S2.out.next hb) HX3.out hg (by simp),kts_grown HS3.out HX3.out hg (by simp) (.inl (by simp)),HX3.out.put 2 _⟩
end Go.Proofs.YtcnglbliidjnfaaGreatDoor
end
