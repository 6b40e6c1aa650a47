import Derived.Test.YtmdbfogjfbbpjaaGreatDoorRows
import Derived.Test.YtmdbfogjfbbpjaaGreatDoorLineMath
import Derived.WalkKit
import Derived.ProofKit
import Derived.OpenShut
import Derived.Laws.BitsAllLaws
import Derived.Lib.Hide
import Derived.Below
import Derived.Deep.Draws
import Derived.OwnWalk
import Derived.RegionTactic
import Derived.BigRegion
import Derived.Deep.QuietTactic
import Derived.BigQuiet
import Derived.Deep.AppendLies
import Derived.Deep.RegionHeld3
import Derived.Laws.AppendOwnNone
import Derived.Laws.Rows
import Derived.Laws.CopyOwn
import Derived.StillTailTactics
import Derived.Laws.StructEq
import Derived.Deep.MidRow
import Derived.Carry
import Derived.ChangeSlices
import Derived.SizedLaws
import Derived.Laws.EntriesVeiled
import Derived.Shelf.Abstract
set_option maxHeartbeats 1600000
set_option maxRecDepth 100000
set_option linter.unusedVariables false
section
namespace Go.Proofs.YtmdbfogjfbbpjaaGreatDoor
open Go.ChangeShapes Go.WideShapes Go.ChangeAt Go.RowKit
theorem eJ:(Tryz.prog.info? 192).map (fun i=>(i.zero,i.size,i.bytes))=some (some (.int .u32 0),1,4):=by kernel_rfl
theorem Be:(Tryz.prog.info? 5).map (fun i=>(i.zero,i.size,i.bytes))=some (some (.int .u8 0),1,1):=by kernel_rfl
def Rd (w:World) (B:Nat) (A:Option Addr) (xs:List Value):Prop:=
 ∀k u,xs[k]?=some u→ ∃ad,A=some ad∧ad.block<B∧w.cell? (ad.add k)=some u
theorem add_block (a:Addr) (n:Nat):(a.add n).block=a.block:=by unfold Addr.add;split<;>rfl
theorem Rd.below {w w':World} {B:Nat} {A:Option Addr} {xs:List Value} (h:Rd w B A xs) (hb:Below B w w'):Rd w' B A xs:=by
 intro k u hu
 obtain⟨ad,e,hlt,hc⟩:=h k u hu
 exact⟨ad,e,hlt,(hb.cell (by rw[add_block];exact hlt)).trans hc⟩
theorem Rd.more {w:World} {B B':Nat} {A:Option Addr} {xs:List Value} (h:Rd w B A xs) (hB:B≤B'):Rd w B' A xs:=by
 intro k u hu
 obtain⟨ad,e,hlt,hc⟩:=h k u hu
 exact⟨ad,e,by omega,hc⟩
theorem Ae {B:Nat} {a w:World} (h:Below B a w) (n:Nat):Below B a (w.drewN n):=⟨h.os,h.tape,h.output,h.size,h.block⟩
def U8 (l:List Nat):List Value:=l.map fun x:Nat=>Value.int .u8 (x:Int)
def U32 (l:List Nat):List Value:=l.map fun x:Nat=>Value.int .u32 (x:Int)
theorem Co (l:List Nat) (k:Nat) (h:k<l.length):(U8 l)[k]?=some (.int .u8 ((l[k]:Nat):Int)):=by simp[U8,h]
theorem eL (l:List Nat) (k:Nat) (h:k<l.length):(U32 l)[k]?=some (.int .u32 ((l[k]:Nat):Int)):=by simp[U32,h]
theorem Bu (g k:Nat):(⟨g,0,none⟩:Addr).add k=⟨g,k,none⟩:=by
 unfold Addr.add
 split
 ·next h=>subst h;rfl
 ·simp
theorem Rd.of_own {w:World} {base:Nat} {e:TypeId} {g n cap:Nat} {xs:List Value} (h:w.ownsRow base e 1 (.slice (some ⟨g,0,none⟩) n cap) n xs):Rd w w.heap.size (some ⟨g,0,none⟩) xs:=by
 intro k u hu
 refine⟨_,rfl, ?_, ?_⟩
 ·rcases h.2 with⟨h',_⟩|⟨g',cap',cur,h',_,hg,_⟩
  ·simp at h'
  ·simp only[Value.slice.injEq,Option.some.injEq,Addr.mk.injEq,and_true,true_and]at h'
   obtain⟨rfl,rfl⟩:=h'
   rcases Nat.lt_or_ge g w.heap.size with hlt|hge
   ·exact hlt
   ·rw[Array.getElem?_eq_none hge]at hg;cases hg
 ·have hk:k<xs.length:=by
   rcases Nat.lt_or_ge k xs.length with hlt|hge
   ·exact hlt
   ·rw[List.getElem?_eq_none hge]at hu;cases hu
  have h1:=h.1
  rw[Bu,h.cellAt k (by omega)]
  exact hu
theorem Cm (w:World) (cs:Array Value) (t:TypeId):Rd (w.alloc (.cells cs t)) (w.alloc (.cells cs t)).heap.size (some ⟨w.heap.size,0,none⟩) cs.toList:=by
 intro k u hu
 refine⟨_,rfl,by simp, ?_⟩
 rw[Bu,cell_of_row (w.alloc (.cells cs t)) w.heap.size k cs t (0,0) (heap_alloc_new w _)]
 simpa using hu
theorem Aa (w:World) (cs:Array Value) (t:TypeId):Below w.heap.size w (w.alloc (.cells cs t)):=(Below.refl _ _).alloc (Nat.le_refl _) _
theorem Rd.next {w w':World} {A:Option Addr} {xs:List Value} (h:Rd w w.heap.size A xs) (hb:Below w.heap.size w w'):Rd w' w'.heap.size A xs:=(h.below hb).more hb.size
theorem Ay {w w':World} (cs:Array Value) (t:TypeId) (h:Below (w.alloc (.cells cs t)).heap.size (w.alloc (.cells cs t)) w'):Below w.heap.size w w':=
 (Aa w cs t).trans (h.mono (by simp))
theorem Iq {w:World} {base:Nat} {e:TypeId} {v:Value} {n:Nat} {xs:List Value} (h:w.ownsRow base e 1 v n xs): ∃A cap,v= .slice A n cap∧Rd w w.heap.size A xs:=by
 have h0:=h
 rcases h.2 with⟨rfl,hn⟩|⟨g,cap,cur,rfl,_⟩
 ·have hx:xs=[]:=by
   have h1:=h.1
   subst hn
   exact List.eq_nil_of_length_eq_zero (by simpa using h1)
  subst hn hx
  exact⟨none,0,rfl,by intro k u hu;simp at hu⟩
 ·exact⟨_,_,rfl,Rd.of_own h0⟩
theorem Ak {w:World} {base:Nat} {e:TypeId} {size:Nat} {v:Value} {n:Nat} {xs:List Value} (h:w.ownsRow base e size v n xs) {g:Nat} (hg:v.ownBlock=some g):base≤g:=by
 rcases h.2 with⟨rfl,_⟩|⟨g',cap,cur,rfl,hb,_⟩
 ·simp[Value.ownBlock]at hg
 ·simp[Value.ownBlock]at hg
  omega
theorem Da (ad:Addr):ad.add 0=ad:=by simp[Addr.add]
theorem Aj {w w':World} {base:Nat} {e:TypeId} {size:Nat} {v:Value} {n:Nat} {xs:List Value} (h:w.ownsRow base e size v n xs) (hb:Below w.heap.size w w'):w'.ownsRow base e size v n xs:=by
 refine⟨h.1, ?_⟩
 rcases h.2 with hn|⟨g,cap,cur,rfl,h1,hg,rest⟩
 ·exact .inl hn
 ·refine .inr ⟨g,cap,cur,rfl,h1, ?_,rest⟩
  rw[hb.block g (Array.getElem?_eq_some_iff.1 hg).1]
  exact hg
theorem Af {P:Program} (w:World) {ops:Array Oper} {rest:List Oper} {o:Oper} {a:Act} {Q:Exit→Act→World→Prop} (hgd:o.guard=none) (s x:Operand) (t:TypeId)
  (ho:o.op= .call { callee:= .builtin .append,args:= #[s,x],argTypes:= #[t,t] })
  (base:Nat) (e:TypeId) (i:TypeInfo) (z:Value) (bytes:Nat) (ht:P.underlying t=some (.slice e)) (hi:P.info? e=some i) (hz:i.zero=some z) (hsize:i.size=1) (hby:i.bytes=bytes) (hzs:z.cells.size=1)
  (v:Value) (n:Nat) (xs:List Value) (hs:a.eval s=v) (hown:w.ownsRow base e 1 v n xs)
  (B:Nat) (A:Option Addr) (m c:Nat) (news:List Value) (hx:a.eval x= .slice A m c) (hr:Rd w B A news) (hl:news.length=m) (hnone:A=none→c=0) (h1: ∀u∈news,u.oneCell'=true)
  (h63:n+m≤maxLen) (hbytes:(n+m)*bytes≤140737488355328) (hbase:base≤w.heap.size)
  (h: ∀v' w',w'.ownsRow base e 1 v' (n+m) (xs++news)→w.grownBy w' v.ownBlock→wpList P ops Q rest (a.put o.dst v') w'):wpList P ops Q (o::rest) a w:=by
 rcases A with _|ad
 ·have hn:news=[]:=by
   cases news with
   |nil=>rfl
   |cons u r=>
    obtain⟨ad,he,_⟩:=hr 0 u rfl
    cases he
  subst hn
  have hm:m=0:=by simpa using hl.symm
  subst hm
  obtain rfl:=hnone rfl
  exact wpList_append_own_none hgd s x t ho base e i 1 ht hi v n xs hs hown hx (h v w (by simpa using hown) (World.grownBy.refl w _))
 ·refine wpList_append_own w hgd s x t ho base e i z 1 bytes ht hi hz hsize hby hzs (by omega) v n xs hs hown ad m c news hx (by omega) ?_ h1 h63 hbytes hbase (fun v' w' h2 h3 _=>h v' w' h2 h3)
  intro j u hu
  obtain⟨ad',he,_,hc⟩:=hr j u hu
  cases he
  exact hc
theorem Bd (l:List Nat): ∀u∈U8 l,u.oneCell'=true:=by
 intro u hu
 simp only[U8,List.mem_map]at hu
 obtain⟨x,_,rfl⟩:=hu
 rfl
theorem sG (l:List Nat): ∀u∈U32 l,u.oneCell'=true:=by
 intro u hu
 simp only[U32,List.mem_map]at hu
 obtain⟨x,_,rfl⟩:=hu
 rfl
theorem Rd.alloc {w:World} {B:Nat} {A:Option Addr} {xs:List Value} (h:Rd w B A xs) (hB:B≤w.heap.size) (o:Obj):Rd (w.alloc o) B A xs:=by
 intro k u hu
 obtain⟨ad,e,hlt,hc⟩:=h k u hu
 exact⟨ad,e,hlt,(World.cell?_alloc_lt _ _ _ (by rw[add_block];omega)).trans hc⟩
end Go.Proofs.YtmdbfogjfbbpjaaGreatDoor
end
section
namespace Go.Proofs.YtmdbfogjfbbpjaaGreatDoor
open Go.ChangeShapes Go.WideShapes Go.ChangeAt Go.RowKit
section
variable {P:Program}
theorem Dl (d:Nat) {ops:Array Oper} {rest:List Oper} {ty t:TypeId} {x:Operand} {p:String} {af:Array Edge} {g:Option (Nat × Bool)} {a:Act} {w:World} {Q:Exit→Act→World→Prop} (h:wpList P ops Q (⟨some d, .load ty x,t,p,af,g⟩::rest) a w):wpList P ops Q (⟨some d, .load ty x,t,p,af,g⟩::rest) a w:=h
theorem Ac (d:Nat) {ops:Array Oper} {rest:List Oper} {ty t:TypeId} {y:Operand} {p:String} {af:Array Edge} {g:Option (Nat × Bool)} {a:Act} {w:World} {Q:Exit→Act→World→Prop} (h:wpList P ops Q (⟨none, .store ty (.tmp d) y,t,p,af,g⟩::rest) a w):wpList P ops Q (⟨none, .store ty (.tmp d) y,t,p,af,g⟩::rest) a w:=h
theorem Ad {ops:Array Oper} {rest:List Oper} {o:Oper} {a:Act} {w:World} {Q:Exit→Act→World→Prop} (hgd:o.guard=none) (ty:TypeId) (x y:Operand) (ho:o.op= .store ty x y)
  (g:Nat) (cells:Array Value) (hx:a.eval x= .pointer (some ⟨g,0,none⟩)) (hy:a.eval y= .agg cells)
  (t:TypeId) (old:Array Value) (hg:w.heap[g]?=some (.cells old t (0,0))) (hi:(P.info? ty).map (·.size)=some cells.size)
  (hold:old.size=cells.size) (h1:cells.all (·.oneCell')=true)
  (h: ∀w',Hid (w'=w.setRow g cells)→wpList P ops Q rest (a.put o.dst undef) w'):wpList P ops Q (o::rest) a w:=
 wpList_store_row hgd ty x y ho g cells hx hy t old hg hi hold h1 (h _ (Lib.hid rfl))
theorem Al {ops:Array Oper} {rest:List Oper} {ty t0 t:TypeId} {k1 k2 n b:Nat} {pos:String} {aft:Array Edge} {a:Act} {w:World} {Q:Exit→Act→World→Prop} {old cells:Array Value} (hg:w.heap[b]?=some (.cells old t (0,0)))
  (hi:(P.info? ty).map (·.size)=some n) (h1:cells.all (·.oneCell')=true) (h: ∀w',Hid (w'=w.setRow b cells)→wpList P ops Q rest (a.put none undef) w')
  (hx:a.eval (.tmp k1)= .pointer (some ⟨b,0,none⟩):=by rfl) (hy:a.eval (.tmp k2)= .agg cells:=by rfl) (hn:cells.size=n:=by rfl) (hold:old.size=n:=by rfl):wpList P ops Q (⟨none, .store ty (.tmp k1) (.tmp k2),t0,pos,aft,none⟩::rest) a w:=
 Ad (o:=⟨none, .store ty (.tmp k1) (.tmp k2),t0,pos,aft,none⟩) rfl ty (.tmp k1) (.tmp k2) rfl b cells hx hy t old hg (by rw[hi,hn]) (by rw[hold,hn]) h1 h
end
section
variable {P:Program} (w:World)
end
theorem An {w w':World} {B g:Nat} {cs:Array Value} (h:w'=w.setRow g cs) (hB:B≤g):Below B w w':=by
 subst h
 exact below_setRow (Below.refl _ _) hB cs
theorem Ds (l:List Nat):(U32 l).toArray.all (·.oneCell')=true:=by
 rw[Array.all_eq_true_iff_forall_mem]
 intro u hu
 exact sG l u (by simpa using hu)
theorem Bv (l:List Nat):(U8 l).toArray.all (·.oneCell')=true:=by
 rw[Array.all_eq_true_iff_forall_mem]
 intro u hu
 exact Bd l u (by simpa using hu)
def z64:Array Value:= #[.int .u32 0, .int .u32 0, .int .u32 0, .int .u32 0, .int .u32 0, .int .u32 0, .int .u32 0, .int .u32 0, .int .u32 0, .int .u32 0, .int .u32 0, .int .u32 0, .int .u32 0, .int .u32 0, .int .u32 0, .int .u32 0, .int .u32 0, .int .u32 0, .int .u32 0, .int .u32 0, .int .u32 0, .int .u32 0, .int .u32 0, .int .u32 0, .int .u32 0, .int .u32 0, .int .u32 0, .int .u32 0, .int .u32 0, .int .u32 0, .int .u32 0, .int .u32 0, .int .u32 0, .int .u32 0, .int .u32 0, .int .u32 0, .int .u32 0, .int .u32 0, .int .u32 0, .int .u32 0, .int .u32 0, .int .u32 0, .int .u32 0, .int .u32 0, .int .u32 0, .int .u32 0, .int .u32 0, .int .u32 0, .int .u32 0, .int .u32 0, .int .u32 0, .int .u32 0, .int .u32 0, .int .u32 0, .int .u32 0, .int .u32 0, .int .u32 0, .int .u32 0, .int .u32 0, .int .u32 0, .int .u32 0, .int .u32 0, .int .u32 0, .int .u32 0]
def z16:Array Value:= #[.int .u32 0, .int .u32 0, .int .u32 0, .int .u32 0, .int .u32 0, .int .u32 0, .int .u32 0, .int .u32 0, .int .u32 0, .int .u32 0, .int .u32 0, .int .u32 0, .int .u32 0, .int .u32 0, .int .u32 0, .int .u32 0]
def z8:Array Value:= #[.int .u32 0, .int .u32 0, .int .u32 0, .int .u32 0, .int .u32 0, .int .u32 0, .int .u32 0, .int .u32 0]
def b32:Array Value:= #[.int .u8 0, .int .u8 0, .int .u8 0, .int .u8 0, .int .u8 0, .int .u8 0, .int .u8 0, .int .u8 0, .int .u8 0, .int .u8 0, .int .u8 0, .int .u8 0, .int .u8 0, .int .u8 0, .int .u8 0, .int .u8 0, .int .u8 0, .int .u8 0, .int .u8 0, .int .u8 0, .int .u8 0, .int .u8 0, .int .u8 0, .int .u8 0, .int .u8 0, .int .u8 0, .int .u8 0, .int .u8 0, .int .u8 0, .int .u8 0, .int .u8 0, .int .u8 0]
theorem AeQ:z16=(U32 (List.replicate 16 0)).toArray:=rfl
theorem AeR:b32=(U8 (List.replicate 32 0)).toArray:=rfl
end Go.Proofs.YtmdbfogjfbbpjaaGreatDoor
end
section
namespace Go.Proofs.YtmdbfogjfbbpjaaGreatDoor
open Go.ChangeShapes Go.WideShapes Go.ChangeAt Go.RowKit
theorem Ra {P : Program} (w : World) (b o : Nat) (ty : TypeId) (v : Value) (h1 : v.oneCell' = true) (hc : (w.cell? ⟨b, o, none⟩).isSome = true) (hf : w.frozen? ⟨b, o, none⟩ = false) (hi : (P.info? ty).map (·.size) = some 1) :
    (storeVar ty ⟨b, o, none⟩ v).run P w = .ok () (w.setCell ⟨b, o, none⟩ v) := by
  have := run_storeCells_cells (P := P) b o [v] 0 w (fun j hj => by have : j = 0 := by simpa using hj
                                                                    subst this; simpa using hc) (fun j hj => by have : j = 0 := by simpa using hj
                                                                                                                subst this; simpa using hf) (fun x hx => by simp at hx; subst hx; exact h1)
  have he : v.cells = #[v] := by cases v <;> first | rfl | cases h1
  cases hq : P.info? ty with
  | none => simp [hq] at hi
  | some i =>
    have hs : i.size = 1 := by simpa [hq] using hi
    simp only [Nat.add_zero] at this
    simp [storeVar, sizeOf, typeInfo, hq, he, hs, this]
    rfl
theorem Rb {P:Program} {ops:Array Oper} {rest:List Oper} {op:Oper} {a:Act} {w:World} {Q:Exit→Act→World→Prop} (hgd:op.guard=none) (ty:TypeId) (x y:Operand) (ho:op.op= .store ty x y)
  (b o:Nat) (v:Value) (hx:a.eval x= .pointer (some ⟨b,o,none⟩)) (hy:a.eval y=v) (h1:v.oneCell'=true)
  (hc:(w.cell? ⟨b,o,none⟩).isSome=true) (hf:w.frozen? ⟨b,o,none⟩=false) (hi:(P.info? ty).map (·.size)=some 1)
  (h: ∀w',Hid (w'=w.setCell ⟨b,o,none⟩ v)→wpList P ops Q rest (a.put op.dst undef) w'):wpList P ops Q (op::rest) a w:=
 wpList_plain hgd fun _ hK=>by
  unfold Oper.wp execOp
  simp only[ho,hx,hy,Instr.storeAt,Instr.sureAddr,Sem.run_bind,Sem.run_pure,Result.andThen_ok,Ra w b o ty v h1 hc hf hi]
  exact hK _ _ (h _ (Lib.hid rfl))
theorem Ic {P:Program} {fn:Func} {p:Tmp} {ty:TypeId} (h:fn.results= #[.cell p ty]) (tmps:Array Value) (w:World) (g:Nat) (t:TypeId) (cs:Array Value) (fr:Nat × Nat) (d:TypeDesc)
  (hp:tmps.getD p undef= .pointer (some ⟨g,0,none⟩)) (hg:w.heap[g]?=some (.cells cs t fr))
  (hu:P.underlying ty=some d) (hd:(match d with| .struct _| .array _ _=>true|_=>false)=true) (hi:(P.info? ty).map (·.size)=some cs.size):
  (results fn tmps).run P w= .ok (.agg cs) w:=by
 have hp':tmps[p]?.getD undef= .pointer (some ⟨g,0,none⟩):=by simpa using hp
 simp[results,h,hp',asAddr,run_loadVar_row w g t ty cs fr d hg hu hd hi]
theorem Ab {P:Program} {fn:Func} {p u:Tmp} {ty:TypeId} (h:fn.results= #[.cell p ty, .tmp u]) (tmps:Array Value) (w:World) (g:Nat) (t:TypeId) (cs:Array Value) (fr:Nat × Nat) (d:TypeDesc)
  (hp:tmps.getD p undef= .pointer (some ⟨g,0,none⟩)) (hg:w.heap[g]?=some (.cells cs t fr))
  (hu:P.underlying ty=some d) (hd:(match d with| .struct _| .array _ _=>true|_=>false)=true) (hi:(P.info? ty).map (·.size)=some cs.size):
  (results fn tmps).run P w= .ok (.tuple #[.agg cs,tmps.getD u undef]) w:=by
 have hp':tmps[p]?.getD undef= .pointer (some ⟨g,0,none⟩):=by simpa using hp
 simp[results,h,hp',asAddr,run_loadVar_row w g t ty cs fr d hg hu hd hi]
theorem Bl (W:World) (b o:Nat) (v:Value):W.grownBy (W.setCell ⟨b,o,none⟩ v) (some b):=
 ⟨rfl,rfl,rfl,by simp,fun k _ hk=>Below.heap_setCell W _ v k (fun e=>hk (by rw[e]))⟩
theorem aY (W:World) (b:Nat) (c:Array Value):W.grownBy (W.setRow b c) (some b):=
 ⟨rfl,rfl,rfl,by simp,fun k _ hk=>setRow_other W b k c (fun e=>hk (by rw[e]))⟩
end Go.Proofs.YtmdbfogjfbbpjaaGreatDoor
end
section
namespace Go.Proofs.YtmdbfogjfbbpjaaGreatDoor
open Go.ChangeShapes Go.WideShapes Go.ChangeAt Go.RowKit
theorem AeS:(Tryz.prog.info? 37).map (·.size)=some 11:=by kernel_rfl
def Cp (w:World) (b:Nat) (t:Tk):Prop:=w.heap[b]?=some (.cells #[.int .i64 t.ser, .int .i64 t.kind, .int .i64 t.frm, .int .i64 t.till, .int .i64 t.cls, .int .i64 t.card, .int .i64 t.seat, .int .i64 t.day, .int .i64 t.days, .int .i64 t.uses, .int .i64 t.epoch] 37 (0,0))
theorem Cp.lt {w:World} {b:Nat} {t:Tk} (h:Cp w b t):b<w.heap.size:=(Array.getElem?_eq_some_iff.1 h).1
theorem Cp.next {w w':World} {b:Nat} {t:Tk} (h:Cp w b t) (hb:Below w.heap.size w w'):Cp w' b t:=(hb.block _ h.lt).trans h
theorem Cp.cells {w:World} {b:Nat} {t:Tk} (h:Cp w b t):w.cell? ⟨b,0,none⟩=some (.int .i64 t.ser)∧w.cell? ⟨b,1,none⟩=some (.int .i64 t.kind)∧w.cell? ⟨b,2,none⟩=some (.int .i64 t.frm)∧w.cell? ⟨b,3,none⟩=some (.int .i64 t.till)∧w.cell? ⟨b,4,none⟩=some (.int .i64 t.cls)∧w.cell? ⟨b,5,none⟩=some (.int .i64 t.card)∧w.cell? ⟨b,6,none⟩=some (.int .i64 t.seat)∧w.cell? ⟨b,7,none⟩=some (.int .i64 t.day)∧w.cell? ⟨b,8,none⟩=some (.int .i64 t.days)∧w.cell? ⟨b,9,none⟩=some (.int .i64 t.uses)∧w.cell? ⟨b,10,none⟩=some (.int .i64 t.epoch):=
 ⟨by rw[cell_of_row w b 0 _ _ (0,0) h];rfl,by rw[cell_of_row w b 1 _ _ (0,0) h];rfl,by rw[cell_of_row w b 2 _ _ (0,0) h];rfl,by rw[cell_of_row w b 3 _ _ (0,0) h];rfl,by rw[cell_of_row w b 4 _ _ (0,0) h];rfl,by rw[cell_of_row w b 5 _ _ (0,0) h];rfl,by rw[cell_of_row w b 6 _ _ (0,0) h];rfl,by rw[cell_of_row w b 7 _ _ (0,0) h];rfl,by rw[cell_of_row w b 8 _ _ (0,0) h];rfl,by rw[cell_of_row w b 9 _ _ (0,0) h];rfl,by rw[cell_of_row w b 10 _ _ (0,0) h];rfl⟩
theorem Cp.frozen {w:World} {b:Nat} {t:Tk} (h:Cp w b t) (j:Nat):w.frozen? ⟨b,j,none⟩=false:=frozen_of_row w b j _ _ h
theorem Cp.new (w:World) (t:Tk):Cp (w.alloc (.cells #[.int .i64 t.ser, .int .i64 t.kind, .int .i64 t.frm, .int .i64 t.till, .int .i64 t.cls, .int .i64 t.card, .int .i64 t.seat, .int .i64 t.day, .int .i64 t.days, .int .i64 t.uses, .int .i64 t.epoch] 37)) w.heap.size t:=heap_alloc_new w _
theorem AeT (w:World) (t:Tk): ∃w1,w1=w.alloc (.cells #[.int .i64 t.ser, .int .i64 t.kind, .int .i64 t.frm, .int .i64 t.till, .int .i64 t.cls, .int .i64 t.card, .int .i64 t.seat, .int .i64 t.day, .int .i64 t.days, .int .i64 t.uses, .int .i64 t.epoch] 37)∧Cp w1 w.heap.size t∧Below w.heap.size w w1:=⟨_,rfl,Cp.new w t,Aa w _ _⟩
end Go.Proofs.YtmdbfogjfbbpjaaGreatDoor
end
section
namespace Go.Proofs.YtmdbfogjfbbpjaaGreatDoor
open Go.ChangeShapes Go.WideShapes Go.ChangeAt Go.RowKit
theorem Tryz.own:ownKnob Tryz.prog.godebug=none:=by kernel_rfl
theorem Tryz.laidOut:laidOutB Tryz.prog=true:=by kernel_rfl
theorem Tryz.cellsU8: Tryz.prog.cellsOf 5 =1:=by kernel_rfl
theorem Tryz.cellsU32: Tryz.prog.cellsOf 192 =1:=by kernel_rfl
section
variable {H:Type} {enc:TypeId × Value→H} {P:Program}
theorem Rc (hl:laidOutB P=true) {W W':World} (hb:Below W.heap.size W W'): ∀ {ts:List TypeId} {vs:List Value} {ds:List (DataW H)} {ps:List MemPlace},
  ts.all (fun t=>P.readableRec t&&decide (t<P.types.size))=true→(∀x∈ps,x.block<W.heap.size)→
  DataW.TrodAll enc P W 0 (fun _=>true) true ts vs ds ps→DataW.TrodAll enc P W' 0 (fun b=>decide (b<W.heap.size)) true ts vs ds ps
 |[],[],[],_,_,_,h=>h
 |[],_::_,_,_,_,_,h=>h.elim
 |[],[],_::_,_,_,_,h=>h.elim
 |_::_,[],_,_,_,_,h=>h.elim
 |_::_,_::_,[],_,_,_,h=>h.elim
 |t::ts,v::vs,d::ds,ps,hr,hlt,h=>by
  obtain⟨p,q,hp,hq,rfl⟩:=h
  simp only[List.all_cons,Bool.and_eq_true,decide_eq_true_eq]at hr
  exact⟨p,q,Below.trod hl hr.1.1 hr.1.2 hp hb (fun x hx=>hlt x (by simp[hx])),Rc hl hb (by simpa using hr.2) (fun x hx=>hlt x (by simp[hx])) hq,rfl⟩
theorem Mv (hl:laidOutB P=true) {fn:Func} {s:ChangeSpec} {W W':World} {args:Array Value} {ds gs:List (DataW H)} {before:List MemPlace} {b:TypeId} (hb4:P.underlying b=some .bool)
  (hW:DataW.Whole enc P fn.params.toList s.vars false W args.toList ds gs before) (hv:s.vars=[]) (hr:fn.resultTypes= #[b])
  (hp:fn.params.toList.all (fun t=>P.readableRec t&&decide (t<P.types.size))=true)
  (hf:s.fn H ds= { results:=[.lit (.bool true)],args:=ds }) (hb:Below W.heap.size W W'):
  s.post enc P fn false true false false W args (.bool true) W':=by
 have hlt:=hW.lt
 have hW':=hW
 obtain⟨p,q,hA,hV,rfl,_,_⟩:=hW'
 have hV':=hV
 rw[hv]at hV'
 obtain⟨rfl,rfl⟩:=trodVars_none hV'
 refine⟨ds,[],p++ [],[],p,[],hW, ?_, ?_, ?_,hb.frame _,fun h=>by cases h⟩
 ·rw[List.append_nil,hf,hr]
  exact trodAll_cons_mk (shut_bool hb4 _) trodAll_mk0
 ·rw[List.append_nil,hf]
  exact Rc hl hb hp (fun x hx=>by simpa using hlt x (by simp[hx])) hA
 ·rw[List.append_nil,hf,hv]
  rfl
theorem Ll {w:World} {a:Addr} {u:Value} (h:w.cell? a=some u):a.block<w.heap.size:=by
 rcases Nat.lt_or_ge a.block w.heap.size with hlt|hge
 ·exact hlt
 ·rw[World.cell?,Array.getElem?_eq_none hge]at h
  simp at h
end
theorem jZ (z:Int) (h:(Lit.int .u8 z).wf=true):0≤z∧z<(256:Nat):=by
 simp[Lit.wf,IntKind.min,IntKind.max,IntKind.signed,IntKind.bits]at h;omega
theorem Lm (z:Int) (h:(Lit.int .i64 z).wf=true): -9223372036854775808≤z∧z≤9223372036854775807:=by
 simp[Lit.wf,IntKind.min,IntKind.max,IntKind.signed,IntKind.bits]at h;omega
end Go.Proofs.YtmdbfogjfbbpjaaGreatDoor
end
section
namespace Go.Proofs.YtmdbfogjfbbpjaaGreatDoor
open Go.ChangeShapes Go.WideShapes Go.ChangeAt Go.RowKit
theorem Gp:(Tryz.prog.info? 3).map (fun i=>(i.zero,i.size,i.bytes))=some (some (.int .i64 0),1,8):=by kernel_rfl
def I64 (l:List Int):List Value:=l.map fun x:Int=>Value.int .i64 x
theorem Ba (a b:List Int):I64 (a++b)=I64 a++I64 b:=by simp[I64]
theorem AeU {l:List Int} {k:Nat} {x:Int} (h:l[k]?=some x):(I64 l)[k]?=some (.int .i64 x):=by simp[I64,h]
theorem Fw (l:List Int): ∀u∈I64 l,u.oneCell'=true:=by
 intro u hu
 simp only[I64,List.mem_map]at hu
 obtain⟨x,_,rfl⟩:=hu
 rfl
structure Zs (w:World) (B:Nat) (l:List Int) (A:Option Addr) (c:Nat):Prop where
 rd:Rd w B A (I64 l)
 nil:A=none→c=0
 len:l.length≤c
 cap:c≤9223372036854775807
theorem Zs.next {w w':World} {l:List Int} {A:Option Addr} {c:Nat} (h:Zs w w.heap.size l A c) (hb:Below w.heap.size w w'):Zs w' w'.heap.size l A c:=⟨h.rd.next hb,h.nil,h.len,h.cap⟩
theorem Zs.drew {w:World} {l:List Int} {A:Option Addr} {c:Nat} (h:Zs w w.heap.size l A c) (q:Nat):Zs (w.drewN q) (w.drewN q).heap.size l A c:=h.next (Ae (Below.refl _ _) q)
theorem Bo {w:World} {base n:Nat} {v:Value} {l:List Int} (h:w.ownsRow base 3 1 v n (I64 l)): ∃A c,v= .slice A n c∧n=l.length∧Zs w w.heap.size l A c:=by
 have hn:l.length=n:=by have:=h.1;simpa[I64]using this
 rcases h.2 with⟨rfl,h0⟩|⟨g,cap,cur,rfl,_,_,h2,h3,_⟩
 ·subst h0
  have:l=[]:=List.eq_nil_of_length_eq_zero hn
  subst this
  exact⟨none,0,rfl,rfl,⟨by intro k u hu;simp[I64]at hu,fun _=>rfl,by simp,by omega⟩⟩
 ·unfold maxLen at h3
  exact⟨_,cap,rfl,hn.symm,⟨Rd.of_own h,by simp,by omega,h3⟩⟩
theorem Zs.at {w:World} {B:Nat} {l:List Int} {A:Option Addr} {c k:Nat} {x:Int} (h:Zs w B l A c) (hx:l[k]?=some x): ∃ad,A=some ad∧ad.block<B∧w.cell? (ad.add k)=some (.int .i64 x):=h.rd k _ (AeU hx)
theorem eM (w:World) (cs:Array Value) (l:List Int) (n:Nat) (h:cs.toList=I64 l) (hn:n=l.length) (h1:n≤1000):Zs (w.alloc (.cells cs 3)) (w.alloc (.cells cs 3)).heap.size l (some ⟨w.heap.size,0,none⟩) n:=
 ⟨by rw[←h];exact Cm w cs _,by simp,by omega,by omega⟩
section
variable {H:Type} {enc:TypeId × Value→H} {P:Program}
end
end Go.Proofs.YtmdbfogjfbbpjaaGreatDoor
end
section
namespace Go.Proofs.YtmdbfogjfbbpjaaGreatDoor
open Go.ChangeShapes Go.WideShapes Go.ChangeAt Go.RowKit
theorem Ai:(Tryz.prog.info? 39).map (·.size)=some 15:=by kernel_rfl
theorem AeV:(Tryz.prog.info? 26).map (·.size)=some 2:=by kernel_rfl
theorem Bh (a0 a1 a2 a3 a4 a5 a6 a7 a8 a9 a10 a11 a12 a13 a14:Int):(#[.int .i64 a0, .int .i64 a1, .int .i64 a2, .int .i64 a3, .int .i64 a4, .int .i64 a5, .int .i64 a6, .int .i64 a7, .int .i64 a8, .int .i64 a9, .int .i64 a10, .int .i64 a11, .int .i64 a12, .int .i64 a13, .int .i64 a14]:Array Value).all (·.oneCell')=true:=by
 rw[Array.all_eq_true_iff_forall_mem]
 intro u hu
 simp at hu
 rcases hu with rfl|rfl|rfl|rfl|rfl|rfl|rfl|rfl|rfl|rfl|rfl|rfl|rfl|rfl|rfl<;>rfl
def Am (w:World) (b:Nat) (r:Rg):Prop:=w.heap[b]?=some (.cells #[.int .i64 r.t.ser, .int .i64 r.t.kind, .int .i64 r.t.frm, .int .i64 r.t.till, .int .i64 r.t.cls, .int .i64 r.t.card, .int .i64 r.t.seat, .int .i64 r.t.day, .int .i64 r.t.days, .int .i64 r.t.uses, .int .i64 r.t.epoch, .int .i64 r.key, .int .i64 r.left, .int .i64 r.inn, .int .i64 r.ver] 39 (0,0))
theorem Am.lt {w:World} {b:Nat} {r:Rg} (h:Am w b r):b<w.heap.size:=(Array.getElem?_eq_some_iff.1 h).1
theorem Am.next {w w':World} {b:Nat} {r:Rg} (h:Am w b r) (hb:Below w.heap.size w w'):Am w' b r:=(hb.block _ h.lt).trans h
theorem Am.below {w w':World} {b B:Nat} {r:Rg} (h:Am w b r) (hlt:b<B) (hb:Below B w w'):Am w' b r:=(hb.block _ hlt).trans h
theorem Am.cells {w:World} {b:Nat} {r:Rg} (h:Am w b r):w.cell? ⟨b,0,none⟩=some (.int .i64 r.t.ser)∧w.cell? ⟨b,1,none⟩=some (.int .i64 r.t.kind)∧w.cell? ⟨b,2,none⟩=some (.int .i64 r.t.frm)∧w.cell? ⟨b,3,none⟩=some (.int .i64 r.t.till)∧w.cell? ⟨b,4,none⟩=some (.int .i64 r.t.cls)∧w.cell? ⟨b,5,none⟩=some (.int .i64 r.t.card)∧w.cell? ⟨b,6,none⟩=some (.int .i64 r.t.seat)∧w.cell? ⟨b,7,none⟩=some (.int .i64 r.t.day)∧w.cell? ⟨b,8,none⟩=some (.int .i64 r.t.days)∧w.cell? ⟨b,9,none⟩=some (.int .i64 r.t.uses)∧w.cell? ⟨b,10,none⟩=some (.int .i64 r.t.epoch)∧w.cell? ⟨b,11,none⟩=some (.int .i64 r.key)∧w.cell? ⟨b,12,none⟩=some (.int .i64 r.left)∧w.cell? ⟨b,13,none⟩=some (.int .i64 r.inn)∧w.cell? ⟨b,14,none⟩=some (.int .i64 r.ver):=
 ⟨by rw[cell_of_row w b 0 _ _ (0,0) h];rfl,by rw[cell_of_row w b 1 _ _ (0,0) h];rfl,by rw[cell_of_row w b 2 _ _ (0,0) h];rfl,by rw[cell_of_row w b 3 _ _ (0,0) h];rfl,by rw[cell_of_row w b 4 _ _ (0,0) h];rfl,by rw[cell_of_row w b 5 _ _ (0,0) h];rfl,by rw[cell_of_row w b 6 _ _ (0,0) h];rfl,by rw[cell_of_row w b 7 _ _ (0,0) h];rfl,by rw[cell_of_row w b 8 _ _ (0,0) h];rfl,by rw[cell_of_row w b 9 _ _ (0,0) h];rfl,by rw[cell_of_row w b 10 _ _ (0,0) h];rfl,by rw[cell_of_row w b 11 _ _ (0,0) h];rfl,by rw[cell_of_row w b 12 _ _ (0,0) h];rfl,by rw[cell_of_row w b 13 _ _ (0,0) h];rfl,by rw[cell_of_row w b 14 _ _ (0,0) h];rfl⟩
theorem Am.frozen {w:World} {b:Nat} {r:Rg} (h:Am w b r) (j:Nat):w.frozen? ⟨b,j,none⟩=false:=frozen_of_row w b j _ _ h
theorem Am.new (w:World) (r:Rg):Am (w.alloc (.cells #[.int .i64 r.t.ser, .int .i64 r.t.kind, .int .i64 r.t.frm, .int .i64 r.t.till, .int .i64 r.t.cls, .int .i64 r.t.card, .int .i64 r.t.seat, .int .i64 r.t.day, .int .i64 r.t.days, .int .i64 r.t.uses, .int .i64 r.t.epoch, .int .i64 r.key, .int .i64 r.left, .int .i64 r.inn, .int .i64 r.ver] 39)) w.heap.size r:=heap_alloc_new w _
theorem Am.alloc {w:World} {b:Nat} {r:Rg} (h:Am w b r) (o:Obj):Am (w.alloc o) b r:=(heap_alloc_old w o h.lt).trans h
theorem Am.made {w1 w2:World} {cc:Array Value} {r:Rg} (h:w2=(w1.alloc (.cells cc 39)).setRow w1.heap.size #[.int .i64 r.t.ser, .int .i64 r.t.kind, .int .i64 r.t.frm, .int .i64 r.t.till, .int .i64 r.t.cls, .int .i64 r.t.card, .int .i64 r.t.seat, .int .i64 r.t.day, .int .i64 r.t.days, .int .i64 r.t.uses, .int .i64 r.t.epoch, .int .i64 r.key, .int .i64 r.left, .int .i64 r.inn, .int .i64 r.ver]):Am w2 w1.heap.size r∧Below w1.heap.size w1 w2:=by
 subst h
 exact⟨setRow_heap _ _ _ _ _ _ (heap_alloc_new w1 _),below_setRow ((Below.refl _ _).alloc (Nat.le_refl _) _) (Nat.le_refl _) _⟩
def Cd (w:World) (b:Nat) (l i:Int):Prop:=w.heap[b]?=some (.cells #[.int .i64 l, .int .i64 i] 26 (0,0))
theorem Cd.lt {w:World} {b:Nat} {l i:Int} (h:Cd w b l i):b<w.heap.size:=(Array.getElem?_eq_some_iff.1 h).1
theorem Cd.next {w w':World} {b:Nat} {l i:Int} (h:Cd w b l i) (hb:Below w.heap.size w w'):Cd w' b l i:=(hb.block _ h.lt).trans h
theorem Cd.below {w w':World} {b B:Nat} {l i:Int} (h:Cd w b l i) (hlt:b<B) (hb:Below B w w'):Cd w' b l i:=(hb.block _ hlt).trans h
theorem Cd.cells {w:World} {b:Nat} {l i:Int} (h:Cd w b l i):w.cell? ⟨b,0,none⟩=some (.int .i64 l)∧w.cell? ⟨b,1,none⟩=some (.int .i64 i):=
 ⟨by rw[cell_of_row w b 0 _ _ (0,0) h];rfl,by rw[cell_of_row w b 1 _ _ (0,0) h];rfl⟩
theorem Cd.frozen {w:World} {b:Nat} {l i:Int} (h:Cd w b l i) (j:Nat):w.frozen? ⟨b,j,none⟩=false:=frozen_of_row w b j _ _ h
theorem Cd.new (w:World) (l i:Int):Cd (w.alloc (.cells #[.int .i64 l, .int .i64 i] 26)) w.heap.size l i:=heap_alloc_new w _
theorem Cd.alloc {w:World} {b:Nat} {l i:Int} (h:Cd w b l i) (o:Obj):Cd (w.alloc o) b l i:=(heap_alloc_old w o h.lt).trans h
theorem Cd.made {w1 w2:World} {cc:Array Value} {l i:Int} (h:w2=(w1.alloc (.cells cc 26)).setRow w1.heap.size #[.int .i64 l, .int .i64 i]):Cd w2 w1.heap.size l i∧Below w1.heap.size w1 w2:=by
 subst h
 exact⟨setRow_heap _ _ _ _ _ _ (heap_alloc_new w1 _),below_setRow ((Below.refl _ _).alloc (Nat.le_refl _) _) (Nat.le_refl _) _⟩
theorem El (w:World) (r:Rg): ∃w1,w1=w.alloc (.cells #[.int .i64 r.t.ser, .int .i64 r.t.kind, .int .i64 r.t.frm, .int .i64 r.t.till, .int .i64 r.t.cls, .int .i64 r.t.card, .int .i64 r.t.seat, .int .i64 r.t.day, .int .i64 r.t.days, .int .i64 r.t.uses, .int .i64 r.t.epoch, .int .i64 r.key, .int .i64 r.left, .int .i64 r.inn, .int .i64 r.ver] 39)∧Am w1 w.heap.size r∧Below w.heap.size w w1:=⟨_,rfl,Am.new w r,Aa w _ _⟩
end Go.Proofs.YtmdbfogjfbbpjaaGreatDoor
end
section
namespace Go.Proofs.YtmdbfogjfbbpjaaGreatDoor
open Go.ChangeShapes Go.WideShapes Go.ChangeAt Go.RowKit
theorem AeW:(Tryz.prog.info? 143).map (fun i=>(i.zero,i.size,i.bytes))=some (some (.agg #[.pointer none, .int .i64 0]),2,16):=by kernel_rfl
def Ie (w:World) (b:Nat) (r:Rg):Prop:=w.heap[b]?=some (.cells #[.int .i64 r.t.ser, .int .i64 r.t.kind, .int .i64 r.t.frm, .int .i64 r.t.till, .int .i64 r.t.cls, .int .i64 r.t.card, .int .i64 r.t.seat, .int .i64 r.t.day, .int .i64 r.t.days, .int .i64 r.t.uses, .int .i64 r.t.epoch, .int .i64 r.key, .int .i64 r.left, .int .i64 r.inn, .int .i64 r.ver] 138 (0,0))
theorem Ie.lt {w:World} {b:Nat} {r:Rg} (h:Ie w b r):b<w.heap.size:=(Array.getElem?_eq_some_iff.1 h).1
theorem Ie.next {w w':World} {b:Nat} {r:Rg} (h:Ie w b r) (hb:Below w.heap.size w w'):Ie w' b r:=(hb.block _ h.lt).trans h
theorem Ie.below {w w':World} {b B:Nat} {r:Rg} (h:Ie w b r) (hlt:b<B) (hb:Below B w w'):Ie w' b r:=(hb.block _ hlt).trans h
theorem Ie.cells {w:World} {b:Nat} {r:Rg} (h:Ie w b r):w.cell? ⟨b,0,none⟩=some (.int .i64 r.t.ser)∧w.cell? ⟨b,1,none⟩=some (.int .i64 r.t.kind)∧w.cell? ⟨b,2,none⟩=some (.int .i64 r.t.frm)∧w.cell? ⟨b,3,none⟩=some (.int .i64 r.t.till)∧w.cell? ⟨b,4,none⟩=some (.int .i64 r.t.cls)∧w.cell? ⟨b,5,none⟩=some (.int .i64 r.t.card)∧w.cell? ⟨b,6,none⟩=some (.int .i64 r.t.seat)∧w.cell? ⟨b,7,none⟩=some (.int .i64 r.t.day)∧w.cell? ⟨b,8,none⟩=some (.int .i64 r.t.days)∧w.cell? ⟨b,9,none⟩=some (.int .i64 r.t.uses)∧w.cell? ⟨b,10,none⟩=some (.int .i64 r.t.epoch)∧w.cell? ⟨b,11,none⟩=some (.int .i64 r.key)∧w.cell? ⟨b,12,none⟩=some (.int .i64 r.left)∧w.cell? ⟨b,13,none⟩=some (.int .i64 r.inn)∧w.cell? ⟨b,14,none⟩=some (.int .i64 r.ver):=
 ⟨by rw[cell_of_row w b 0 _ _ (0,0) h];rfl,by rw[cell_of_row w b 1 _ _ (0,0) h];rfl,by rw[cell_of_row w b 2 _ _ (0,0) h];rfl,by rw[cell_of_row w b 3 _ _ (0,0) h];rfl,by rw[cell_of_row w b 4 _ _ (0,0) h];rfl,by rw[cell_of_row w b 5 _ _ (0,0) h];rfl,by rw[cell_of_row w b 6 _ _ (0,0) h];rfl,by rw[cell_of_row w b 7 _ _ (0,0) h];rfl,by rw[cell_of_row w b 8 _ _ (0,0) h];rfl,by rw[cell_of_row w b 9 _ _ (0,0) h];rfl,by rw[cell_of_row w b 10 _ _ (0,0) h];rfl,by rw[cell_of_row w b 11 _ _ (0,0) h];rfl,by rw[cell_of_row w b 12 _ _ (0,0) h];rfl,by rw[cell_of_row w b 13 _ _ (0,0) h];rfl,by rw[cell_of_row w b 14 _ _ (0,0) h];rfl⟩
theorem Ie.frozen {w:World} {b:Nat} {r:Rg} (h:Ie w b r) (j:Nat):w.frozen? ⟨b,j,none⟩=false:=frozen_of_row w b j _ _ h
theorem Ie.new (w:World) (r:Rg):Ie (w.alloc (.cells #[.int .i64 r.t.ser, .int .i64 r.t.kind, .int .i64 r.t.frm, .int .i64 r.t.till, .int .i64 r.t.cls, .int .i64 r.t.card, .int .i64 r.t.seat, .int .i64 r.t.day, .int .i64 r.t.days, .int .i64 r.t.uses, .int .i64 r.t.epoch, .int .i64 r.key, .int .i64 r.left, .int .i64 r.inn, .int .i64 r.ver] 138)) w.heap.size r:=heap_alloc_new w _
theorem Ie.alloc {w:World} {b:Nat} {r:Rg} (h:Ie w b r) (o:Obj):Ie (w.alloc o) b r:=(heap_alloc_old w o h.lt).trans h
theorem Ie.made {w1 w2:World} {cc:Array Value} {r:Rg} (h:w2=(w1.alloc (.cells cc 138)).setRow w1.heap.size #[.int .i64 r.t.ser, .int .i64 r.t.kind, .int .i64 r.t.frm, .int .i64 r.t.till, .int .i64 r.t.cls, .int .i64 r.t.card, .int .i64 r.t.seat, .int .i64 r.t.day, .int .i64 r.t.days, .int .i64 r.t.uses, .int .i64 r.t.epoch, .int .i64 r.key, .int .i64 r.left, .int .i64 r.inn, .int .i64 r.ver]):Ie w2 w1.heap.size r∧Below w1.heap.size w1 w2:=by
 subst h
 exact⟨setRow_heap _ _ _ _ _ _ (heap_alloc_new w1 _),below_setRow ((Below.refl _ _).alloc (Nat.le_refl _) _) (Nat.le_refl _) _⟩
def FL (X:Nat) (l:List (Nat × Int)):List Value:=l.flatMap fun p=>[.pointer (some ⟨X,p.1,none⟩), .int .i64 p.2]
theorem vP (X:Nat) (a b:List (Nat × Int)):FL X (a++b)=FL X a++FL X b:=by simp[FL]
theorem eN (X:Nat): ∀(l:List (Nat × Int)),(FL X l).length=l.length*2
 |[]=>rfl
 |p::l=>by rw[FL,List.flatMap_cons,List.length_append, ←FL,eN X l,List.length_cons];simp;omega
theorem AeX (X:Nat) (l:List (Nat × Int)): ∀u∈FL X l,u.oneCell'=true:=by
 intro u hu
 simp only[FL,List.mem_flatMap]at hu
 obtain⟨p,_,hp⟩:=hu
 simp at hp
 rcases hp with rfl|rfl<;>rfl
theorem Aev (X:Nat): ∀(l:List (Nat × Int)) (k:Nat) (p:Nat × Int),l[k]?=some p→(FL X l)[k*2]?=some (.pointer (some ⟨X,p.1,none⟩))∧(FL X l)[k*2+1]?=some (.int .i64 p.2)
 |[],k,p,h=>by simp at h
 |q::l,0,p,h=>by
  simp at h;subst h
  exact⟨rfl,rfl⟩
 |q::l,k+1,p,h=>by
  have:=Aev X l k p (by simpa using h)
  rw[FL,List.flatMap_cons, ←FL,show(k+1)*2=k*2+1+1 by omega]
  exact this
def AaD:List (Nat × Int):=[(1,1),(0,7),(4,1),(5,1),(7,5),(8,3),(10,1)]
def AeY:List (Nat × Int):=[(2,1),(3,1)]
def Adr:List (Nat × Int):=[(2,2),(3,2)]
def AeZ:List (Nat × Int):=[(9,2)]
def AaE:List (Nat × Int):=[(12,2),(13,2),(11,2)]
def Cj (k:Int):List (List (Nat × Int)):=if k=1∨k=2 then [AaD,Adr,AaE]else if k=3 then [AaD,AeY,AaE]else if k=4 then [AaD,Adr,AeZ,AaE]else []
def fieldsL (k:Int):List (Nat × Int):=(Cj k).flatten
theorem Mw (k:Int):(fieldsL k).map (·.2)=Au k:=by
 unfold fieldsL Cj Au Qb
 by_cases h1:k=1∨k=2
 ·rw[if_pos h1,if_pos (by omega),if_neg (by omega),if_neg (by omega)];rfl
 ·by_cases h3:k=3
  ·rw[if_neg h1,if_pos h3,if_pos (by omega),if_pos h3];rfl
  ·by_cases h4:k=4
   ·rw[if_neg h1,if_neg h3,if_pos h4,if_pos (by omega),if_neg h3,if_pos h4];rfl
   ·rw[if_neg h1,if_neg h3,if_neg h4,if_neg (by omega)];rfl
theorem Ge (k:Int):(fieldsL k).length=(Au k).length:=by rw[←Mw,List.length_map]
theorem Vd (k:Int):(Au k).length≤13:=by
 by_cases h:1≤k∧k≤4
 ·rw[If h];split<;>omega
 ·rw[Au,if_neg h];simp
end Go.Proofs.YtmdbfogjfbbpjaaGreatDoor
end
section
namespace Go.Proofs.YtmdbfogjfbbpjaaGreatDoor
open Go.ChangeShapes Go.WideShapes Go.ChangeAt Go.RowKit
theorem Ln (w:World) (cs:Array Value) (t:TypeId):Below w.heap.size w (w.drew.alloc (.cells cs t)):=(show Below w.heap.size w w.drew from(Ae (Below.refl _ _) 1)).alloc (Nat.le_refl _) _
theorem vQ (X:Nat) (w:World):Calls Tryz.prog 214 #[.pointer (some ⟨X,0,none⟩)] w fun e w'=> ∃A,e= .returned (.slice (some A) 1 1)∧Rd w' w'.heap.size (some A) (FL X AeZ)∧Below w.heap.size w w':=by
 go_enter Tryz.func214, Tryz.ntmps214
 go_wp2
 all_goals go_ret
 all_goals exact⟨_,rfl,Cm _ _ _,Aa _ _ _⟩
theorem oQ (X:Nat) (w:World):Calls Tryz.prog 213 #[.pointer (some ⟨X,0,none⟩)] w fun e w'=> ∃A,e= .returned (.slice (some A) 2 2)∧Rd w' w'.heap.size (some A) (FL X AeY)∧Below w.heap.size w w':=by
 go_enter Tryz.func213, Tryz.ntmps213
 go_wp2
 go_region
 all_goals go_wp2
 all_goals go_ret
 all_goals exact⟨_,rfl,Cm _ _ _,Ln _ _ _⟩
theorem Zf (X:Nat) (w:World):Calls Tryz.prog 211 #[.pointer (some ⟨X,0,none⟩)] w fun e w'=> ∃A,e= .returned (.slice (some A) 2 2)∧Rd w' w'.heap.size (some A) (FL X Adr)∧Below w.heap.size w w':=by
 go_enter Tryz.func211, Tryz.ntmps211
 go_wp2
 go_region
 all_goals go_wp2
 all_goals go_ret
 all_goals exact⟨_,rfl,Cm _ _ _,Ln _ _ _⟩
theorem AaF (X:Nat) (w:World):Calls Tryz.prog 212 #[.pointer (some ⟨X,0,none⟩)] w fun e w'=> ∃A,e= .returned (.slice (some A) 3 3)∧Rd w' w'.heap.size (some A) (FL X AaE)∧Below w.heap.size w w':=by
 go_enter Tryz.func212, Tryz.ntmps212
 go_wp2
 go_region
 all_goals go_wp2
 all_goals go_ret
 all_goals exact⟨_,rfl,Cm _ _ _,Ln _ _ _⟩
theorem Wy (X:Nat) (w:World):Calls Tryz.prog 210 #[.pointer (some ⟨X,0,none⟩)] w fun e w'=> ∃A,e= .returned (.slice (some A) 7 7)∧Rd w' w'.heap.size (some A) (FL X AaD)∧Below w.heap.size w w':=by
 go_enter Tryz.func210, Tryz.ntmps210
 go_wp2
 go_region
 all_goals go_wp2
 all_goals go_ret
 all_goals exact⟨_,rfl,Cm _ _ _,Ln _ _ _⟩
end Go.Proofs.YtmdbfogjfbbpjaaGreatDoor
end
section
namespace Go.Proofs.YtmdbfogjfbbpjaaGreatDoor
open Go.ChangeShapes Go.WideShapes Go.ChangeAt Go.RowKit
def Bi (k:Int):List Value:=if k=1∨k=2 then [.func (.func 210) #[] #[], .func (.func 211) #[] #[], .func (.func 212) #[] #[]]else if k=3 then [.func (.func 210) #[] #[], .func (.func 213) #[] #[], .func (.func 212) #[] #[]]else if k=4 then [.func (.func 210) #[] #[], .func (.func 211) #[] #[], .func (.func 214) #[] #[], .func (.func 212) #[] #[]]else []
theorem Wz (k:Int):(Bi k).length=(Cj k).length:=by
 unfold Bi Cj
 by_cases h1:k=1∨k=2
 ·rw[if_pos h1,if_pos h1];rfl
 ·by_cases h3:k=3
  ·rw[if_neg h1,if_neg h1,if_pos h3,if_pos h3];rfl
  ·by_cases h4:k=4
   ·rw[if_neg h1,if_neg h1,if_neg h3,if_neg h3,if_pos h4,if_pos h4];rfl
   ·rw[if_neg h1,if_neg h1,if_neg h3,if_neg h3,if_neg h4,if_neg h4];rfl
def Sx (v:Value) (l:List (Nat × Int)):Prop:= ∃K,v= .func (.func K) #[] #[]∧l.length≤7∧(∀args w,(callFunc K args).run Tryz.prog w= .ok (.enter K args) w)∧ ∀(X:Nat) (w:World),Calls Tryz.prog K #[.pointer (some ⟨X,0,none⟩)] w fun e w'=> ∃A,e= .returned (.slice (some A) l.length l.length)∧Rd w' w'.heap.size (some A) (FL X l)∧Below w.heap.size w w'
theorem eQ:Sx (.func (.func 210) #[] #[]) AaD:=⟨_,rfl,by decide,enters_of Tryz.func210 (by kernel_rfl) rfl,fun X w=>Wy X w⟩
theorem sH:Sx (.func (.func 211) #[] #[]) Adr:=⟨_,rfl,by decide,enters_of Tryz.func211 (by kernel_rfl) rfl,fun X w=>Zf X w⟩
theorem Ads:Sx (.func (.func 213) #[] #[]) AeY:=⟨_,rfl,by decide,enters_of Tryz.func213 (by kernel_rfl) rfl,fun X w=>oQ X w⟩
theorem Adt:Sx (.func (.func 214) #[] #[]) AeZ:=⟨_,rfl,by decide,enters_of Tryz.func214 (by kernel_rfl) rfl,fun X w=>vQ X w⟩
theorem eR:Sx (.func (.func 212) #[] #[]) AaE:=⟨_,rfl,by decide,enters_of Tryz.func212 (by kernel_rfl) rfl,fun X w=>AaF X w⟩
theorem AaG (k:Int) (j:Nat) (v:Value) (l:List (Nat × Int)) (h1:(Bi k)[j]?=some v) (h2:(Cj k)[j]?=some l):Sx v l:=by
 unfold Bi at h1
 unfold Cj at h2
 by_cases q1:k=1∨k=2
 ·rw[if_pos q1]at h1 h2
  match j,h1,h2 with
  |0,h1,h2=>cases h1;cases h2;exact eQ
  |1,h1,h2=>cases h1;cases h2;exact sH
  |2,h1,h2=>cases h1;cases h2;exact eR
  |j+3,h1,h2=>cases h1
 ·by_cases q3:k=3
  ·rw[if_neg q1,if_pos q3]at h1 h2
   match j,h1,h2 with
   |0,h1,h2=>cases h1;cases h2;exact eQ
   |1,h1,h2=>cases h1;cases h2;exact Ads
   |2,h1,h2=>cases h1;cases h2;exact eR
   |j+3,h1,h2=>cases h1
  ·by_cases q4:k=4
   ·rw[if_neg q1,if_neg q3,if_pos q4]at h1 h2
    match j,h1,h2 with
    |0,h1,h2=>cases h1;cases h2;exact eQ
    |1,h1,h2=>cases h1;cases h2;exact sH
    |2,h1,h2=>cases h1;cases h2;exact Adt
    |3,h1,h2=>cases h1;cases h2;exact eR
    |j+4,h1,h2=>cases h1
   ·rw[if_neg q1,if_neg q3,if_neg q4]at h1
    cases h1
theorem oR (k:Int) (hk:k=1) (w:World):Calls Tryz.prog 168 #[.int .i64 k] w fun e w'=> ∃A c,e= .returned (.slice A 3 c)∧Rd w' w'.heap.size A (Bi k)∧Below w.heap.size w w':=by
 have hp:Bi k=[.func (.func 210) #[] #[], .func (.func 211) #[] #[], .func (.func 212) #[] #[]]:=by rw[Bi,if_pos (by omega)]
 have q1:(k==1)=true:=by rw[beq_iff_eq];omega
 rw[hp]
 clear hp hk
 go_enter Tryz.func168, Tryz.ntmps168
 go_wp2
 go_ret
 exact⟨_,_,rfl,Cm _ _ _,Aa _ _ _⟩
theorem oS (k:Int) (hk:k=2) (w:World):Calls Tryz.prog 168 #[.int .i64 k] w fun e w'=> ∃A c,e= .returned (.slice A 3 c)∧Rd w' w'.heap.size A (Bi k)∧Below w.heap.size w w':=by
 have hp:Bi k=[.func (.func 210) #[] #[], .func (.func 211) #[] #[], .func (.func 212) #[] #[]]:=by rw[Bi,if_pos (by omega)]
 have q1:(k==1)=false:=by rw[beq_eq_false_iff_ne];omega
 have q2:(k==2)=true:=by rw[beq_iff_eq];omega
 rw[hp]
 clear hp hk
 go_enter Tryz.func168, Tryz.ntmps168
 go_wp2
 go_ret
 exact⟨_,_,rfl,Cm _ _ _,Aa _ _ _⟩
theorem oT (k:Int) (hk:k=3) (w:World):Calls Tryz.prog 168 #[.int .i64 k] w fun e w'=> ∃A c,e= .returned (.slice A 3 c)∧Rd w' w'.heap.size A (Bi k)∧Below w.heap.size w w':=by
 have hp:Bi k=[.func (.func 210) #[] #[], .func (.func 213) #[] #[], .func (.func 212) #[] #[]]:=by rw[Bi,if_neg (by omega),if_pos hk]
 have q1:(k==1)=false:=by rw[beq_eq_false_iff_ne];omega
 have q2:(k==2)=false:=by rw[beq_eq_false_iff_ne];omega
 have q3:(k==3)=true:=by rw[beq_iff_eq];omega
 rw[hp]
 clear hp hk
 go_enter Tryz.func168, Tryz.ntmps168
 go_wp2
 go_ret
 exact⟨_,_,rfl,Cm _ _ _,Aa _ _ _⟩
theorem oU (k:Int) (hk:k=4) (w:World):Calls Tryz.prog 168 #[.int .i64 k] w fun e w'=> ∃A c,e= .returned (.slice A 4 c)∧Rd w' w'.heap.size A (Bi k)∧Below w.heap.size w w':=by
 have hp:Bi k=[.func (.func 210) #[] #[], .func (.func 211) #[] #[], .func (.func 214) #[] #[], .func (.func 212) #[] #[]]:=by rw[Bi,if_neg (by omega),if_neg (by omega),if_pos hk]
 have q1:(k==1)=false:=by rw[beq_eq_false_iff_ne];omega
 have q2:(k==2)=false:=by rw[beq_eq_false_iff_ne];omega
 have q3:(k==3)=false:=by rw[beq_eq_false_iff_ne];omega
 have q4:(k==4)=true:=by rw[beq_iff_eq];omega
 rw[hp]
 clear hp hk
 go_enter Tryz.func168, Tryz.ntmps168
 go_wp2
 go_ret
 exact⟨_,_,rfl,Cm _ _ _,Aa _ _ _⟩
theorem oV (k:Int) (hk:k<1∨4<k) (w:World):Calls Tryz.prog 168 #[.int .i64 k] w fun e w'=> ∃A c,e= .returned (.slice A 0 c)∧Rd w' w'.heap.size A (Bi k)∧Below w.heap.size w w':=by
 have hp:Bi k=[]:=by rw[Bi,if_neg (by omega),if_neg (by omega),if_neg (by omega)]
 have q1:(k==1)=false:=by rw[beq_eq_false_iff_ne];omega
 have q2:(k==2)=false:=by rw[beq_eq_false_iff_ne];omega
 have q3:(k==3)=false:=by rw[beq_eq_false_iff_ne];omega
 have q4:(k==4)=false:=by rw[beq_eq_false_iff_ne];omega
 rw[hp]
 clear hp hk
 go_enter Tryz.func168, Tryz.ntmps168
 go_wp2
 go_ret
 exact⟨none,0,rfl,by intro j u hu;simp at hu,Below.refl _ _⟩
theorem eS (k:Int) (m:Nat) (hm:m=(Cj k).length) (w:World):Calls Tryz.prog 168 #[.int .i64 k] w fun e w'=> ∃A c,e= .returned (.slice A m c)∧Rd w' w'.heap.size A (Bi k)∧Below w.heap.size w w':=by
 rw[hm, ←Wz]
 by_cases h1:k=1
 ·have:=oR k h1 w
  rwa[show(Bi k).length=3 by rw[Bi,if_pos (by omega)];rfl]
 ·by_cases h2:k=2
  ·have:=oS k h2 w
   rwa[show(Bi k).length=3 by rw[Bi,if_pos (by omega)];rfl]
  ·by_cases h3:k=3
   ·have:=oT k h3 w
    rwa[show(Bi k).length=3 by rw[Bi,if_neg (by omega),if_pos h3];rfl]
   ·by_cases h4:k=4
    ·have:=oU k h4 w
     rwa[show(Bi k).length=4 by rw[Bi,if_neg (by omega),if_neg h3,if_pos h4];rfl]
    ·have:=oV k (by omega) w
     rwa[show(Bi k).length=0 by rw[Bi,if_neg (by omega),if_neg h3,if_neg h4];rfl]
structure Fs (w:World) (B X:Nat) (l:List (Nat × Int)) (A:Option Addr) (c:Nat):Prop where
 rd:Rd w B A (FL X l)
 nil:A=none→c=0
 len:l.length≤c
 cap:c≤9223372036854775807
 lay: ∀ad,A=some ad→ ∃g,ad=⟨g,0,none⟩
theorem Fs.next {w w':World} {X:Nat} {l:List (Nat × Int)} {A:Option Addr} {c:Nat} (h:Fs w w.heap.size X l A c) (hb:Below w.heap.size w w'):Fs w' w'.heap.size X l A c:=⟨h.rd.next hb,h.nil,h.len,h.cap,h.lay⟩
theorem vR {w:World} {base n X:Nat} {v:Value} {l:List (Nat × Int)} (h:w.ownsRow base 143 2 v n (FL X l)): ∃A c,v= .slice A n c∧n=l.length∧Fs w w.heap.size X l A c∧ ∀ad,A=some ad→base≤ad.block:=by
 have hn:l.length=n:=by have:=h.1;rw[eN]at this;omega
 rcases h.2 with⟨rfl,h0⟩|⟨g,cap,cur,rfl,hgb,hg,h2,h3,_⟩
 ·subst h0
  have:l=[]:=List.eq_nil_of_length_eq_zero hn
  subst this
  exact⟨none,0,rfl,rfl,⟨by intro k u hu;simp[FL]at hu,fun _=>rfl,by simp,by omega,by simp⟩,by simp⟩
 ·unfold maxLen at h3
  refine⟨_,cap,rfl,hn.symm,⟨?_,by simp,by omega,h3,fun ad e=>⟨g,by cases e;rfl⟩⟩,fun ad e=>by cases e;exact hgb⟩
  intro k u hu
  refine⟨_,rfl,(Array.getElem?_eq_some_iff.1 hg).1, ?_⟩
  rw[Bu,h.cellAt k (by have:=(List.getElem?_eq_some_iff.1 hu).1;rw[eN]at this;omega)]
  exact hu
theorem Fs.at {w:World} {B X:Nat} {l:List (Nat × Int)} {A:Option Addr} {c k:Nat} {p:Nat × Int} (h:Fs w B X l A c) (hp:l[k]?=some p): ∃g,A=some ⟨g,0,none⟩∧g<B∧w.cell? ⟨g,k*2,none⟩=some (.pointer (some ⟨X,p.1,none⟩))∧w.cell? ⟨g,k*2+1,none⟩=some (.int .i64 p.2):=by
 obtain⟨h1,h2⟩:=Aev X l k p hp
 obtain⟨ad,e0,hb,hc⟩:=h.rd _ _ h1
 obtain⟨ad',e,_,hc'⟩:=h.rd _ _ h2
 obtain⟨g,rfl⟩:=h.lay _ e0
 rw[e0]at e
 cases e
 rw[Bu]at hc hc'
 exact⟨g,e0,hb,hc,hc'⟩
end Go.Proofs.YtmdbfogjfbbpjaaGreatDoor
end
