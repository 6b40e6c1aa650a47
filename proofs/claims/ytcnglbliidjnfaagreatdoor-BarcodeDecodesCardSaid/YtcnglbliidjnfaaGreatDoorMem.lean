import Derived.Test.YtcnglbliidjnfaaGreatDoorRows
import Derived.Test.YtcnglbliidjnfaaGreatDoorMath
import Derived.WalkKit
import Derived.ProofKit
import Derived.OpenShut
import Derived.Laws.BitsAllLaws
import Derived.Lib.Hide
import Derived.Below
import Derived.Deep.Draws
import Derived.OwnWalk
import Derived.RegionTactic
import Derived.BigRegion
import Derived.Deep.QuietTactic
import Derived.BigQuiet
import Derived.Deep.AppendLies
import Derived.Deep.RegionHeld3
import Derived.Laws.AppendOwnNone
import Derived.Test.YtcnglbliidjnfaaGreatDoorFieldsMath
import Derived.Laws.Rows
import Derived.Laws.CopyOwn
import Derived.StillTailTactics
import Derived.Laws.StructEq
section
namespace Go.Proofs.YtcnglbliidjnfaaGreatDoor
set_option linter.unusedVariables false
open Go.ChangeShapes Go.WideShapes Go.ChangeAt Go.RowKit
theorem infoU32:(Tryz.prog.info? 138).map (fun i=>(i.zero,i.size,i.bytes))=some (some (.int .u32 0),1,4):=by kernel_rfl
theorem infoU8:(Tryz.prog.info? 5).map (fun i=>(i.zero,i.size,i.bytes))=some (some (.int .u8 0),1,1):=by kernel_rfl
def Rd (w:World) (B:Nat) (A:Option Addr) (xs:List Value):Prop:=
 ∀k u,xs[k]?=some u→ ∃ad,A=some ad∧ad.block<B∧w.cell? (ad.add k)=some u
theorem add_block (a:Addr) (n:Nat):(a.add n).block=a.block:=by unfold Addr.add;split<;>rfl
theorem Rd.below {w w':World} {B:Nat} {A:Option Addr} {xs:List Value} (h:Rd w B A xs) (hb:Below B w w'):Rd w' B A xs:=by
 intro k u hu
 obtain⟨ad,e,hlt,hc⟩:=h k u hu
 exact⟨ad,e,hlt,(hb.cell (by rw[add_block];exact hlt)).trans hc⟩
theorem Rd.more {w:World} {B B':Nat} {A:Option Addr} {xs:List Value} (h:Rd w B A xs) (hB:B≤B'):Rd w B' A xs:=by
 intro k u hu
 obtain⟨ad,e,hlt,hc⟩:=h k u hu
 exact⟨ad,e,by omega,hc⟩
theorem below_drewN {B:Nat} {a w:World} (h:Below B a w) (n:Nat):Below B a (w.drewN n):=⟨h.os,h.tape,h.output,h.size,h.block⟩
def U8 (l:List Nat):List Value:=l.map fun x:Nat=>Value.int .u8 (x:Int)
def U32 (l:List Nat):List Value:=l.map fun x:Nat=>Value.int .u32 (x:Int)
theorem U8_at (l:List Nat) (k:Nat) (h:k<l.length):(U8 l)[k]?=some (.int .u8 ((l[k]:Nat):Int)):=by simp[U8,h]
theorem U32_at (l:List Nat) (k:Nat) (h:k<l.length):(U32 l)[k]?=some (.int .u32 ((l[k]:Nat):Int)):=by simp[U32,h]
theorem at_add (g k:Nat):(⟨g,0,none⟩:Addr).add k=⟨g,k,none⟩:=by
 unfold Addr.add
 split
 ·next h=>subst h;rfl
 ·simp
theorem Rd.of_own {w:World} {base:Nat} {e:TypeId} {g n cap:Nat} {xs:List Value} (h:w.ownsRow base e 1 (.slice (some ⟨g,0,none⟩) n cap) n xs):Rd w w.heap.size (some ⟨g,0,none⟩) xs:=by
 intro k u hu
 refine⟨_,rfl, ?_, ?_⟩
 ·rcases h.2 with⟨h',_⟩|⟨g',cap',cur,h',_,hg,_⟩
  ·simp at h'
  ·simp only[Value.slice.injEq,Option.some.injEq,Addr.mk.injEq,and_true,true_and]at h'
   obtain⟨rfl,rfl⟩:=h'
   rcases Nat.lt_or_ge g w.heap.size with hlt|hge
   ·exact hlt
   ·rw[Array.getElem?_eq_none hge]at hg;cases hg
 ·have hk:k<xs.length:=by
   rcases Nat.lt_or_ge k xs.length with hlt|hge
   ·exact hlt
   ·rw[List.getElem?_eq_none hge]at hu;cases hu
  have h1:=h.1
  rw[at_add,h.cellAt k (by omega)]
  exact hu
theorem rd_lit (w:World) (cs:Array Value) (t:TypeId):Rd (w.alloc (.cells cs t)) (w.alloc (.cells cs t)).heap.size (some ⟨w.heap.size,0,none⟩) cs.toList:=by
 intro k u hu
 refine⟨_,rfl,by simp, ?_⟩
 rw[at_add,cell_of_row (w.alloc (.cells cs t)) w.heap.size k cs t (0,0) (heap_alloc_new w _)]
 simpa using hu
theorem below_lit (w:World) (cs:Array Value) (t:TypeId):Below w.heap.size w (w.alloc (.cells cs t)):=(Below.refl _ _).alloc (Nat.le_refl _) _
theorem Rd.next {w w':World} {A:Option Addr} {xs:List Value} (h:Rd w w.heap.size A xs) (hb:Below w.heap.size w w'):Rd w' w'.heap.size A xs:=(h.below hb).more hb.size
theorem below_after {w w':World} (cs:Array Value) (t:TypeId) (h:Below (w.alloc (.cells cs t)).heap.size (w.alloc (.cells cs t)) w'):Below w.heap.size w w':=
 (below_lit w cs t).trans (h.mono (by simp))
theorem own_shape {w:World} {base:Nat} {e:TypeId} {v:Value} {n:Nat} {xs:List Value} (h:w.ownsRow base e 1 v n xs): ∃A cap,v= .slice A n cap∧Rd w w.heap.size A xs:=by
 have h0:=h
 rcases h.2 with⟨rfl,hn⟩|⟨g,cap,cur,rfl,_⟩
 ·have hx:xs=[]:=by
   have h1:=h.1
   subst hn
   exact List.eq_nil_of_length_eq_zero (by simpa using h1)
  subst hn hx
  exact⟨none,0,rfl,by intro k u hu;simp at hu⟩
 ·exact⟨_,_,rfl,Rd.of_own h0⟩
theorem own_ge {w:World} {base:Nat} {e:TypeId} {size:Nat} {v:Value} {n:Nat} {xs:List Value} (h:w.ownsRow base e size v n xs) {g:Nat} (hg:v.ownBlock=some g):base≤g:=by
 rcases h.2 with⟨rfl,_⟩|⟨g',cap,cur,rfl,hb,_⟩
 ·simp[Value.ownBlock]at hg
 ·simp[Value.ownBlock]at hg
  omega
theorem add_zero' (ad:Addr):ad.add 0=ad:=by simp[Addr.add]
theorem own_below {w w':World} {base:Nat} {e:TypeId} {size:Nat} {v:Value} {n:Nat} {xs:List Value} (h:w.ownsRow base e size v n xs) (hb:Below w.heap.size w w'):w'.ownsRow base e size v n xs:=by
 refine⟨h.1, ?_⟩
 rcases h.2 with hn|⟨g,cap,cur,rfl,h1,hg,rest⟩
 ·exact .inl hn
 ·refine .inr ⟨g,cap,cur,rfl,h1, ?_,rest⟩
  rw[hb.block g (Array.getElem?_eq_some_iff.1 hg).1]
  exact hg
theorem wpList_append_rd {P:Program} (w:World) {ops:Array Oper} {rest:List Oper} {o:Oper} {a:Act} {Q:Exit→Act→World→Prop} (hgd:o.guard=none) (s x:Operand) (t:TypeId)
  (ho:o.op= .call { callee:= .builtin .append,args:= #[s,x],argTypes:= #[t,t] })
  (base:Nat) (e:TypeId) (i:TypeInfo) (z:Value) (bytes:Nat) (ht:P.underlying t=some (.slice e)) (hi:P.info? e=some i) (hz:i.zero=some z) (hsize:i.size=1) (hby:i.bytes=bytes) (hzs:z.cells.size=1)
  (v:Value) (n:Nat) (xs:List Value) (hs:a.eval s=v) (hown:w.ownsRow base e 1 v n xs)
  (B:Nat) (A:Option Addr) (m c:Nat) (news:List Value) (hx:a.eval x= .slice A m c) (hr:Rd w B A news) (hl:news.length=m) (hnone:A=none→c=0) (h1: ∀u∈news,u.oneCell'=true)
  (h63:n+m≤maxLen) (hbytes:(n+m)*bytes≤140737488355328) (hbase:base≤w.heap.size)
  (h: ∀v' w',w'.ownsRow base e 1 v' (n+m) (xs++news)→w.grownBy w' v.ownBlock→wpList P ops Q rest (a.put o.dst v') w'):wpList P ops Q (o::rest) a w:=by
 rcases A with _|ad
 ·have hn:news=[]:=by
   cases news with
   |nil=>rfl
   |cons u r=>
    obtain⟨ad,he,_⟩:=hr 0 u rfl
    cases he
  subst hn
  have hm:m=0:=by simpa using hl.symm
  subst hm
  obtain rfl:=hnone rfl
  exact wpList_append_own_none hgd s x t ho base e i 1 ht hi v n xs hs hown hx (h v w (by simpa using hown) (World.grownBy.refl w _))
 ·refine wpList_append_own w hgd s x t ho base e i z 1 bytes ht hi hz hsize hby hzs (by omega) v n xs hs hown ad m c news hx (by omega) ?_ h1 h63 hbytes hbase (fun v' w' h2 h3 _=>h v' w' h2 h3)
  intro j u hu
  obtain⟨ad',he,_,hc⟩:=hr j u hu
  cases he
  exact hc
theorem U8_one (l:List Nat): ∀u∈U8 l,u.oneCell'=true:=by
 intro u hu
 simp only[U8,List.mem_map]at hu
 obtain⟨x,_,rfl⟩:=hu
 rfl
theorem U32_one (l:List Nat): ∀u∈U32 l,u.oneCell'=true:=by
 intro u hu
 simp only[U32,List.mem_map]at hu
 obtain⟨x,_,rfl⟩:=hu
 rfl
theorem Rd.alloc {w:World} {B:Nat} {A:Option Addr} {xs:List Value} (h:Rd w B A xs) (hB:B≤w.heap.size) (o:Obj):Rd (w.alloc o) B A xs:=by
 intro k u hu
 obtain⟨ad,e,hlt,hc⟩:=h k u hu
 exact⟨ad,e,hlt,(World.cell?_alloc_lt _ _ _ (by rw[add_block];omega)).trans hc⟩
end Go.Proofs.YtcnglbliidjnfaaGreatDoor
end
section
namespace Go.Proofs.YtcnglbliidjnfaaGreatDoor
set_option linter.unusedVariables false
open Go.ChangeShapes Go.WideShapes Go.ChangeAt Go.RowKit
structure Bs (w:World) (B:Nat) (s:List Nat) (A:Option Addr) (c:Nat):Prop where
 rd:Rd w B A (U8 s)
 nil:A=none→c=0
 len:s.length≤c
 cap:c≤9223372036854775807
 lt: ∀x∈s,x<256
theorem Bs.next {w w':World} {s:List Nat} {A:Option Addr} {c:Nat} (h:Bs w w.heap.size s A c) (hb:Below w.heap.size w w'):Bs w' w'.heap.size s A c:=⟨h.rd.next hb,h.nil,h.len,h.cap,h.lt⟩
theorem Bs.below {w w':World} {B:Nat} {s:List Nat} {A:Option Addr} {c:Nat} (h:Bs w B s A c) (hb:Below B w w'):Bs w' B s A c:=⟨h.rd.below hb,h.nil,h.len,h.cap,h.lt⟩
theorem Bs.more {w:World} {B B':Nat} {s:List Nat} {A:Option Addr} {c:Nat} (h:Bs w B s A c) (hB:B≤B'):Bs w B' s A c:=⟨h.rd.more hB,h.nil,h.len,h.cap,h.lt⟩
theorem bs_of_own {w:World} {base n:Nat} {v:Value} {s:List Nat} (h:w.ownsRow base 5 1 v n (U8 s)) (hs: ∀x∈s,x<256): ∃A c,v= .slice A n c∧Bs w w.heap.size s A c:=by
 have hn:s.length=n:=by have:=h.1;simpa[U8]using this
 rcases h.2 with⟨rfl,h0⟩|⟨g,cap,cur,rfl,_,_,h2,h3,_⟩
 ·subst h0
  have:s=[]:=List.eq_nil_of_length_eq_zero hn
  subst this
  exact⟨none,0,rfl,⟨by intro k u hu;simp[U8]at hu,fun _=>rfl,by simp,by omega,by simp⟩⟩
 ·unfold maxLen at h3
  exact⟨_,cap,rfl,⟨Rd.of_own h,by simp,by omega,h3,hs⟩⟩
end Go.Proofs.YtcnglbliidjnfaaGreatDoor
end
section
namespace Go.Proofs.YtcnglbliidjnfaaGreatDoor
set_option linter.unusedVariables false
open Go.ChangeShapes Go.WideShapes Go.ChangeAt Go.RowKit
structure KAt (w:World) (B:Nat) (p:Addr) (k:K) (S:Option Addr) (c:Nat):Prop where
 c0:w.cell? p=some (.int .i64 k.id)
 c1:w.cell? ⟨p.block,p.off+1,none⟩=some (.slice S k.sec.length c)
 c2:w.cell? ⟨p.block,p.off+2,none⟩=some (.int .i64 k.frm)
 c3:w.cell? ⟨p.block,p.off+3,none⟩=some (.int .i64 k.til)
 bs:Bs w B k.sec S c
theorem KAt.below {w w':World} {B B':Nat} {p:Addr} {k:K} {S:Option Addr} {c:Nat} (h:KAt w B p k S c) (hp:p.block<B') (hB:B≤B') (hb:Below B' w w'):KAt w' B p k S c:=
 ⟨(hb.cell hp).trans h.c0,(hb.cell (p:=⟨p.block,p.off+1,none⟩) hp).trans h.c1,(hb.cell (p:=⟨p.block,p.off+2,none⟩) hp).trans h.c2,(hb.cell (p:=⟨p.block,p.off+3,none⟩) hp).trans h.c3,h.bs.below (hb.mono hB)⟩
theorem KAt.more {w:World} {B B':Nat} {p:Addr} {k:K} {S:Option Addr} {c:Nat} (h:KAt w B p k S c) (hB:B≤B'):KAt w B' p k S c:=⟨h.c0,h.c1,h.c2,h.c3,⟨h.bs.rd.more hB,h.bs.nil,h.bs.len,h.bs.cap,h.bs.lt⟩⟩
def Ks (w:World) (B:Nat) (A:Option Addr) (l:List K):Prop:=
 ∀i,i<l.length→ ∃ad S c,A=some ad∧ad.block<B∧KAt w B (ad.add (i*4)) (l.getD i K0) S c
theorem Ks.below {w w':World} {B:Nat} {A:Option Addr} {l:List K} (h:Ks w B A l) (hb:Below B w w'):Ks w' B A l:=by
 intro i hi
 obtain⟨ad,S,c,e,hlt,hk⟩:=h i hi
 exact⟨ad,S,c,e,hlt,hk.below (by rw[add_block];exact hlt) (Nat.le_refl _) hb⟩
theorem Ks.more {w:World} {B B':Nat} {A:Option Addr} {l:List K} (h:Ks w B A l) (hB:B≤B'):Ks w B' A l:=by
 intro i hi
 obtain⟨ad,S,c,e,hlt,hk⟩:=h i hi
 exact⟨ad,S,c,e,by omega,hk.more hB⟩
theorem Ks.next {w w':World} {A:Option Addr} {l:List K} (h:Ks w w.heap.size A l) (hb:Below w.heap.size w w'):Ks w' w'.heap.size A l:=(h.below hb).more hb.size
end Go.Proofs.YtcnglbliidjnfaaGreatDoor
end
section
namespace Go.Proofs.YtcnglbliidjnfaaGreatDoor
set_option linter.unusedVariables false
open Go.ChangeShapes Go.WideShapes Go.ChangeAt Go.RowKit
set_option maxRecDepth 20000 in
theorem refright_any (id f t:Int) (n:Nat) (A:Option Addr) (c:Nat) (w:World) (hn:n≤9223372036854775807):
  Calls Tryz.prog 73 #[.agg #[.int .i64 id, .slice A n c, .int .i64 f, .int .i64 t]] w fun e w'=>e= .returned (.bool (rightN id n f t))∧Below w.heap.size w w':=by
 go_enter Tryz.func73, Tryz.ntmps73
 go_wp2
 all_goals
  go_ret
  refine⟨congrArg Ending.returned (congrArg Value.bool ?_),(Below.refl _ _).alloc (Nat.le_refl _) _⟩
  rw[Bool.eq_iff_iff]
  simp[rightN]
  try omega
end Go.Proofs.YtcnglbliidjnfaaGreatDoor
end
section
namespace Go.Proofs.YtcnglbliidjnfaaGreatDoor
set_option linter.unusedVariables false
open Go.ChangeShapes Go.WideShapes Go.ChangeAt Go.RowKit
section
variable {P:Program}
theorem at_load (d:Nat) {ops:Array Oper} {rest:List Oper} {ty t:TypeId} {x:Operand} {p:String} {af:Array Edge} {g:Option (Nat × Bool)} {a:Act} {w:World} {Q:Exit→Act→World→Prop} (h:wpList P ops Q (⟨some d, .load ty x,t,p,af,g⟩::rest) a w):wpList P ops Q (⟨some d, .load ty x,t,p,af,g⟩::rest) a w:=h
theorem at_store (d:Nat) {ops:Array Oper} {rest:List Oper} {ty t:TypeId} {y:Operand} {p:String} {af:Array Edge} {g:Option (Nat × Bool)} {a:Act} {w:World} {Q:Exit→Act→World→Prop} (h:wpList P ops Q (⟨none, .store ty (.tmp d) y,t,p,af,g⟩::rest) a w):wpList P ops Q (⟨none, .store ty (.tmp d) y,t,p,af,g⟩::rest) a w:=h
theorem wpList_store_named {ops:Array Oper} {rest:List Oper} {o:Oper} {a:Act} {w:World} {Q:Exit→Act→World→Prop} (hgd:o.guard=none) (ty:TypeId) (x y:Operand) (ho:o.op= .store ty x y)
  (g:Nat) (cells:Array Value) (hx:a.eval x= .pointer (some ⟨g,0,none⟩)) (hy:a.eval y= .agg cells)
  (t:TypeId) (old:Array Value) (hg:w.heap[g]?=some (.cells old t (0,0))) (hi:(P.info? ty).map (·.size)=some cells.size)
  (hold:old.size=cells.size) (h1:cells.all (·.oneCell')=true)
  (h: ∀w',Hid (w'=w.setRow g cells)→wpList P ops Q rest (a.put o.dst undef) w'):wpList P ops Q (o::rest) a w:=
 wpList_store_row hgd ty x y ho g cells hx hy t old hg hi hold h1 (h _ (Lib.hid rfl))
end
section
variable {P:Program} (w:World)
theorem run_equalIn_same (d:Nat) (t e:TypeId) (n:Nat) (k k':IntKind) (ht:P.underlying t=some (.array n e)) (he:P.underlying e=some (.int k')) (hsz: ∀w,(sizeOf e).run P w= .ok 1 w)
  (xs:List Int) (hx:xs.length=n):
  (Op.equalIn (d+2) t (.agg (xs.map (Value.int k)).toArray) (.agg (xs.map (Value.int k)).toArray)).run P w= .ok true w:=by
 rw[Op.equalIn]
 simp only[Sem.run_bind,run_underlying ht,Result.andThen_ok,hsz,Std.Legacy.Range.forIn_eq_forIn_range',Std.Legacy.Range.size,Nat.sub_zero,Nat.add_sub_cancel,Nat.div_one]
 have hl: ∀i∈List.range' 0 n 1,i<n:=fun i hi=>by simpa using(List.mem_range'_1.1 hi).2
 generalize List.range' 0 n 1=l at hl⊢
 induction l with
 |nil=>simp
 |cons i l ih=>
  have hi:i<n:=hl i (by simp)
  have px:(part e (xs.map (Value.int k)).toArray (i*1)).run P w= .ok (.int k (xs.getD i 0)) w:=by
   simp[part,isAgg,run_underlying he,List.getD,List.getElem?_eq_getElem (show i<xs.length by omega)]
  have pe:(Op.equalIn (d+1) e (.int k (xs.getD i 0)) (.int k (xs.getD i 0))).run P w= .ok true w:=by
   rw[run_equalIn_int w d e k k' _ _ he]
   simp
  simp only[List.forIn_cons,Sem.run_bind,px,pe,Result.andThen_ok]
  simp only[Bool.not_true,Bool.false_eq_true,if_false,Sem.run_pure,Result.andThen_ok]
  exact ih fun j hj=>hl j (by simp[hj])
end
theorem below_row {w w':World} {B g:Nat} {cs:Array Value} (h:w'=w.setRow g cs) (hB:B≤g):Below B w w':=by
 subst h
 exact below_setRow (Below.refl _ _) hB cs
theorem all_one32 (l:List Nat):(U32 l).toArray.all (·.oneCell')=true:=by
 rw[Array.all_eq_true_iff_forall_mem]
 intro u hu
 exact U32_one l u (by simpa using hu)
theorem all_one8 (l:List Nat):(U8 l).toArray.all (·.oneCell')=true:=by
 rw[Array.all_eq_true_iff_forall_mem]
 intro u hu
 exact U8_one l u (by simpa using hu)
def z64:Array Value:= #[.int .u32 0, .int .u32 0, .int .u32 0, .int .u32 0, .int .u32 0, .int .u32 0, .int .u32 0, .int .u32 0, .int .u32 0, .int .u32 0, .int .u32 0, .int .u32 0, .int .u32 0, .int .u32 0, .int .u32 0, .int .u32 0, .int .u32 0, .int .u32 0, .int .u32 0, .int .u32 0, .int .u32 0, .int .u32 0, .int .u32 0, .int .u32 0, .int .u32 0, .int .u32 0, .int .u32 0, .int .u32 0, .int .u32 0, .int .u32 0, .int .u32 0, .int .u32 0, .int .u32 0, .int .u32 0, .int .u32 0, .int .u32 0, .int .u32 0, .int .u32 0, .int .u32 0, .int .u32 0, .int .u32 0, .int .u32 0, .int .u32 0, .int .u32 0, .int .u32 0, .int .u32 0, .int .u32 0, .int .u32 0, .int .u32 0, .int .u32 0, .int .u32 0, .int .u32 0, .int .u32 0, .int .u32 0, .int .u32 0, .int .u32 0, .int .u32 0, .int .u32 0, .int .u32 0, .int .u32 0, .int .u32 0, .int .u32 0, .int .u32 0, .int .u32 0]
def z16:Array Value:= #[.int .u32 0, .int .u32 0, .int .u32 0, .int .u32 0, .int .u32 0, .int .u32 0, .int .u32 0, .int .u32 0, .int .u32 0, .int .u32 0, .int .u32 0, .int .u32 0, .int .u32 0, .int .u32 0, .int .u32 0, .int .u32 0]
def z8:Array Value:= #[.int .u32 0, .int .u32 0, .int .u32 0, .int .u32 0, .int .u32 0, .int .u32 0, .int .u32 0, .int .u32 0]
def b32:Array Value:= #[.int .u8 0, .int .u8 0, .int .u8 0, .int .u8 0, .int .u8 0, .int .u8 0, .int .u8 0, .int .u8 0, .int .u8 0, .int .u8 0, .int .u8 0, .int .u8 0, .int .u8 0, .int .u8 0, .int .u8 0, .int .u8 0, .int .u8 0, .int .u8 0, .int .u8 0, .int .u8 0, .int .u8 0, .int .u8 0, .int .u8 0, .int .u8 0, .int .u8 0, .int .u8 0, .int .u8 0, .int .u8 0, .int .u8 0, .int .u8 0, .int .u8 0, .int .u8 0]
theorem z16_eq:z16=(U32 (List.replicate 16 0)).toArray:=rfl
theorem b32_eq:b32=(U8 (List.replicate 32 0)).toArray:=rfl
end Go.Proofs.YtcnglbliidjnfaaGreatDoor
end
section
namespace Go.Proofs.YtcnglbliidjnfaaGreatDoor
set_option linter.unusedVariables false
open Go.ChangeShapes Go.WideShapes Go.ChangeAt Go.RowKit
theorem Bs.empty (w:World) (B:Nat):Bs w B [] none 0:=⟨by intro k u hu;simp[U8]at hu,fun _=>rfl,by simp,by omega,by simp⟩
end Go.Proofs.YtcnglbliidjnfaaGreatDoor
end
section
namespace Go.Proofs.YtcnglbliidjnfaaGreatDoor
set_option linter.unusedVariables false
open Go.ChangeShapes Go.WideShapes Go.ChangeAt Go.RowKit
theorem results_row_tmp {P:Program} {fn:Func} {p u:Tmp} {ty:TypeId} (h:fn.results= #[.cell p ty, .tmp u]) (tmps:Array Value) (w:World) (g:Nat) (t:TypeId) (cs:Array Value) (fr:Nat × Nat) (d:TypeDesc)
  (hp:tmps.getD p undef= .pointer (some ⟨g,0,none⟩)) (hg:w.heap[g]?=some (.cells cs t fr))
  (hu:P.underlying ty=some d) (hd:(match d with| .struct _| .array _ _=>true|_=>false)=true) (hi:(P.info? ty).map (·.size)=some cs.size):
  (results fn tmps).run P w= .ok (.tuple #[.agg cs,tmps.getD u undef]) w:=by
 have hp':tmps[p]?.getD undef= .pointer (some ⟨g,0,none⟩):=by simpa using hp
 simp[results,h,hp',asAddr,run_loadVar_row w g t ty cs fr d hg hu hd hi]
theorem infoKey:(Tryz.prog.info? 48).map (·.size)=some 4:=by kernel_rfl
theorem kc_one (id:Int) (S:Option Addr) (n c:Nat) (f t:Int):(#[Value.int .i64 id, .slice S n c, .int .i64 f, .int .i64 t]:Array Value).all (·.oneCell')=true:=by
 rw[Array.all_eq_true_iff_forall_mem]
 intro u hu
 simp at hu
 rcases hu with rfl|rfl|rfl|rfl<;>rfl
end Go.Proofs.YtcnglbliidjnfaaGreatDoor
end
