import Derived.Test.YtcnglbliidjnfaaGreatDoorMem
import Derived.Test.YtcnglbliidjnfaaGreatDoorBarConst
import Derived.Deep.Slices
import Derived.Deep.Fields
import Derived.Lib.SmallJoins
import Derived.Test.YtcnglbliidjnfaaGreatDoorRingFind
section
namespace Go.Proofs.YtcnglbliidjnfaaGreatDoor
set_option maxRecDepth 100000
set_option linter.unusedVariables false
open Go.ChangeShapes Go.WideShapes Go.ChangeAt Go.RowKit Go.Deep
section
variable {H:Type} {enc:TypeId × Value→H}
theorem bs_of_cells {W:World} {fuel:Nat} {v:Value} {y:DataW H × List MemPlace} (h:DataW.trod enc Tryz.prog W 0 (fun _=>true) true fuel 30 [v]=some y):
  ∃S s c,v= .slice S (List.length s) c∧Bs W W.heap.size s S c:=by
 rcases open_ints Tryz.underlying30 Tryz.underlying5 Tryz.cellsU8 h with⟨hcs,_⟩|⟨a,len,cap,zs,hcs,_,h1,h2,hz,_,hcell,hwf⟩
 ·simp at hcs
  exact⟨none,[],0,hcs,Bs.empty _ _⟩
 ·simp at hcs hz
  have hl:((zs.take len).map Int.toNat).length=len:=by simp;omega
  refine⟨some a,(zs.take len).map Int.toNat,cap,by rw[hl];exact hcs,⟨?_,by simp,by rw[hl];exact h1,by unfold maxLen at h2;exact h2, ?_⟩⟩
  ·intro j u hu
   simp only[U8,List.getElem?_map,Option.map_eq_some_iff]at hu
   obtain⟨x,⟨z,hz1,rfl⟩,rfl⟩:=hu
   have hj:j<len:=by
    rcases Nat.lt_or_ge j len with h|h
    ·exact h
    ·rw[List.getElem?_eq_none (by simp;omega)]at hz1;cases hz1
   have hcj:=hcell j (by omega)
   rw[List.getElem?_take,if_pos hj]at hz1
   rw[List.getD_eq_getElem?_getD,hz1,Option.getD_some]at hcj
   have hzw:=wf_u8 z (hwf z (List.mem_of_getElem? hz1))
   refine⟨a,rfl, ?_, ?_⟩
   ·have:=lt_of_cell hcj
    rwa[add_block]at this
   ·rw[hcj]
    congr 2
    omega
  ·intro x hx
   simp only[List.mem_map]at hx
   obtain⟨z,hz1,rfl⟩:=hx
   have:=wf_u8 z (hwf z (List.mem_of_mem_take hz1))
   omega
theorem int_of_cells {W:World} {fuel:Nat} {v:Value} {y:DataW H × List MemPlace} (h:DataW.trod enc Tryz.prog W 0 (fun _=>true) true fuel 3 [v]=some y): ∃z:Int,v= .int .i64 z∧ -9223372036854775808≤z∧z≤9223372036854775807:=by
 obtain⟨z,e1,_,wz⟩:=DataW.trod_int Tryz.underlying3 h
 simp at e1
 exact⟨z,e1,wf_i64 z wz⟩
end
end Go.Proofs.YtcnglbliidjnfaaGreatDoor
end
section
namespace Go.Proofs.YtcnglbliidjnfaaGreatDoor
set_option maxRecDepth 100000
set_option linter.unusedVariables false
open Go.ChangeShapes Go.WideShapes Go.ChangeAt Go.RowKit Go.Deep
section
variable {H:Type} {enc:TypeId × Value→H}
theorem cellsKey: Tryz.prog.cellsOf 48 =4:=by kernel_rfl
theorem open_key {W:World} {r:Reach} {b0:Nat} {v:Value} {d:DataW H} {ps:List MemPlace} (hval:Value.okWide Tryz.prog W r b0 48 v) (hd:DataW.Trod enc Tryz.prog W 0 (fun _=>true) true 48 v d ps):
  ∃q:KV,v= .agg #[.int .i64 q.k.id, .slice q.S q.k.sec.length q.c, .int .i64 q.k.frm, .int .i64 q.k.til]∧Bs W W.heap.size q.k.sec q.S q.c:=by
 obtain⟨v0,v1,v2,v3,y0,y1,y2,y3,n,rfl,_,_,h0,h1,h2,h3⟩:=Go.Joins.open_agg4 Tryz.underlying48 (by kernel_rfl) cellsKey hval hd
 obtain⟨z0,rfl,_,_⟩:=int_of_cells h0
 obtain⟨S,s,c,rfl,hb⟩:=bs_of_cells h1
 obtain⟨z2,rfl,_,_⟩:=int_of_cells h2
 obtain⟨z3,rfl,_,_⟩:=int_of_cells h3
 exact⟨⟨⟨z0,s,z2,z3⟩,S,c⟩,rfl,hb⟩
theorem open_keys {W:World} {r:Reach} {b0:Nat} {v:Value} {d:DataW H} {ps:List MemPlace} (hval:Value.okWide Tryz.prog W r b0 22 v) (hd:DataW.Trod enc Tryz.prog W 0 (fun _=>true) true 22 v d ps):
  ∃(A:Option Addr) (l:List K) (c:Nat),v= .slice A l.length c∧Ks W W.heap.size A l∧l.length≤c∧c≤9223372036854775807∧(A=none→c=0):=by
 obtain⟨a0,len,cap,rfl⟩:=okWide_slice Tryz.underlying22 hval
 obtain⟨fuel,hf⟩:=hd
 rcases open_slice Tryz.underlying22 hf with⟨hcs,_⟩|⟨a,len',cap',m,n,D,Pl,hcs,_,hl,hm,hmm,_,hel⟩
 ·simp[Value.cells]at hcs
  obtain⟨rfl,rfl,rfl⟩:=hcs
  exact⟨none,[],0,rfl,by intro i hi;simp at hi,by simp,by simp,by simp⟩
 ·simp[Value.cells]at hcs
  obtain⟨rfl,rfl,rfl⟩:=hcs
  simp at hmm
  have hone: ∀i,i<len→ ∃(k:K) (S:Option Addr) (c:Nat),a.block<W.heap.size∧KAt W W.heap.size (a.add (i*4)) k S c:=by
   intro i hi
   obtain⟨cs',hc,ht⟩:=hel i (by omega)
   rw[cellsKey]at hc
   obtain⟨_,hcl,hat⟩:=World.cells?_some hc
   obtain⟨y0,y1,y2,y3,n',_,_,h0,h1,h2,h3⟩:=Go.Joins.trod_struct4 Tryz.underlying48 ht
   match cs',hcl with
   |[c0,c1,c2,c3],_=>
    have e3: Tryz.prog.cellsOf 3 =1:=by kernel_rfl
    have e24: Tryz.prog.cellsOf 30 =1:=by kernel_rfl
    simp only[e3,e24,List.drop_zero,List.drop_succ_cons,List.take_succ_cons,List.take_zero]at h0 h1 h2 h3
    obtain⟨z0,rfl,_,_⟩:=int_of_cells h0
    obtain⟨S,s,c,rfl,hb⟩:=bs_of_cells h1
    obtain⟨z2,rfl,_,_⟩:=int_of_cells h2
    obtain⟨z3,rfl,_,_⟩:=int_of_cells h3
    have g0:=hat 0 (by omega)
    have g1:=hat 1 (by omega)
    have g2:=hat 2 (by omega)
    have g3:=hat 3 (by omega)
    simp at g0 g1 g2 g3
    refine⟨⟨z0,s,z2,z3⟩,S,c, ?_,⟨g0,g1,g2,g3,hb⟩⟩
    have:=lt_of_cell g0
    rwa[add_block,add_block]at this
  have hall: ∀k,k≤len→ ∃l:List K,l.length=k∧Ks W W.heap.size (some a) l:=by
   intro k
   induction k with
   |zero=>intro _;exact⟨[],rfl,by intro i hi;simp at hi⟩
   |succ k ih=>
    intro hk
    obtain⟨l,h1,h2⟩:=ih (by omega)
    obtain⟨x,S,c,hlt,hx⟩:=hone k (by omega)
    refine⟨l++ [x],by simp[h1], ?_⟩
    intro i hi
    rcases Nat.lt_or_ge i k with h|h
    ·obtain⟨ad,S',c',e,hlt',hk'⟩:=h2 i (by omega)
     refine⟨ad,S',c',e,hlt', ?_⟩
     have:(l++ [x]).getD i K0=l.getD i K0:=by rw[List.getD_eq_getElem?_getD,List.getD_eq_getElem?_getD,List.getElem?_append_left (by omega)]
     rw[this];exact hk'
    ·have e:i=k:=by simp[h1]at hi;omega
     subst e
     have:(l++ [x]).getD i K0=x:=by rw[List.getD_eq_getElem?_getD,List.getElem?_append_right (by omega),h1];simp
     exact⟨a,S,c,rfl,hlt,by rw[this];exact hx⟩
  obtain⟨l,h1,h2⟩:=hall len (Nat.le_refl _)
  unfold maxLen at hm
  exact⟨some a,l,cap,by rw[h1],h2,by omega,hm,by simp⟩
end
end Go.Proofs.YtcnglbliidjnfaaGreatDoor
end
