/-
  What it means that a slice reads as a list of numbers, and how such readings are kept from call to call. Conditions: none.
  Arrays that are stored whole: laws for a walk that names the new world instead of writing it out. No program of its own; conditions: the block is there and has as many cells.
  One cell that is stored into the middle of a block, by a law that names the world behind it; a struct handed back out of its block. No program of its own; conditions: the cell is there and may be written.
  A ticket in a box of its own. No program of its own; conditions: the block is there.
  A ticket at work in a box of its own. No program of its own; conditions: the block is there.
  Contracts for the landed method that tells a ticket's kind. Conditions: the kind's number.
  Contracts for the landed Is and for the function that tells the stations of a way, from the lower to the higher, whatever the loop's body does that keeps what lay. Conditions: the way's ends are stations.
  Contract for the landed Between. Conditions: none.
  Contract for the landed function that builds the map of the zones. Conditions: none.
  Contract for the landed Zone. Conditions: none.
  Contracts for the landed within, hasWay, hasZones, onWay and inZones. Conditions: none.
  Contract for the landed holdsBounds. Conditions: none.
  Contracts for the landed function that tells a ticket's kind, if it is right. Conditions: none.
  Contract for the landed leastTelling of two numbers. Conditions: the two lie side by side in memory.
-/
import Derived.Test.YtaokhkbfiplfmaaDoorRows
import Derived.Test.YtaokhkbfiplfmaaDoorMath
import Derived.WalkKit
import Derived.ProofKit
import Derived.OpenShut
import Derived.Laws.BitsAllLaws
import Derived.Lib.Hide
import Derived.Below
import Derived.Deep.Draws
import Derived.OwnWalk
import Derived.RegionTactic
import Derived.BigRegion
import Derived.Deep.QuietTactic
import Derived.BigQuiet
import Derived.Deep.AppendLies
import Derived.Deep.RegionHeld3
import Derived.Laws.AppendOwnNone
import Derived.Laws.Rows
import Derived.Laws.CopyOwn
import Derived.StillTailTactics
import Derived.Laws.StructEq
import Derived.Deep.MidRow
import Derived.Laws.EntriesVeiled
import Derived.RangeFuncNested
import Derived.RangeFuncBound
import Derived.RangeFuncLeaves
import Derived.RangeFuncBox
import Derived.Shelf.Abstract
import Derived.OwnWalkIn
import Derived.TacticsInMore
import Derived.LoopNIn
import Derived.LoopIn
import Derived.Maps.OwnIn
import Derived.Maps.AppendAt
import Derived.Maps.Views
section
namespace Go.Proofs.YtaokhkbfiplfmaaDoor
set_option linter.unusedVariables false
open Go.ChangeShapes Go.WideShapes Go.ChangeAt Go.RowKit

theorem infoU32 : (Tryd.prog.info? 100).map (fun i => (i.zero, i.size, i.bytes)) = some (some (.int .u32 0), 1, 4) := by kernel_rfl
theorem infoU8 : (Tryd.prog.info? 5).map (fun i => (i.zero, i.size, i.bytes)) = some (some (.int .u8 0), 1, 1) := by kernel_rfl


/-- From the address A on lie the cells xs, one behind the other, below block B. -/
def Rd (w : World) (B : Nat) (A : Option Addr) (xs : List Value) : Prop :=
  ∀ k u, xs[k]? = some u → ∃ ad, A = some ad ∧ ad.block < B ∧ w.cell? (ad.add k) = some u

theorem add_block (a : Addr) (n : Nat) : (a.add n).block = a.block := by unfold Addr.add; split <;> rfl
theorem Rd.below {w w' : World} {B : Nat} {A : Option Addr} {xs : List Value} (h : Rd w B A xs) (hb : Below B w w') : Rd w' B A xs := by
  intro k u hu
  obtain ⟨ad, e, hlt, hc⟩ := h k u hu
  exact ⟨ad, e, hlt, (hb.cell (by rw [add_block]; exact hlt)).trans hc⟩
theorem Rd.more {w : World} {B B' : Nat} {A : Option Addr} {xs : List Value} (h : Rd w B A xs) (hB : B ≤ B') : Rd w B' A xs := by
  intro k u hu
  obtain ⟨ad, e, hlt, hc⟩ := h k u hu
  exact ⟨ad, e, by omega, hc⟩
theorem below_drewN {B : Nat} {a w : World} (h : Below B a w) (n : Nat) : Below B a (w.drewN n) := ⟨h.os, h.tape, h.output, h.size, h.block⟩

def U8 (l : List Nat) : List Value := l.map fun x : Nat => Value.int .u8 (x : Int)
def U32 (l : List Nat) : List Value := l.map fun x : Nat => Value.int .u32 (x : Int)
theorem U8_at (l : List Nat) (k : Nat) (h : k < l.length) : (U8 l)[k]? = some (.int .u8 ((l[k] : Nat) : Int)) := by simp [U8, h]
theorem U32_at (l : List Nat) (k : Nat) (h : k < l.length) : (U32 l)[k]? = some (.int .u32 ((l[k] : Nat) : Int)) := by simp [U32, h]


theorem at_add (g k : Nat) : (⟨g, 0, none⟩ : Addr).add k = ⟨g, k, none⟩ := by
  unfold Addr.add
  split
  · next h => subst h; rfl
  · simp
/-- What a call owns can be read. -/
theorem Rd.of_own {w : World} {base : Nat} {e : TypeId} {g n cap : Nat} {xs : List Value} (h : w.ownsRow base e 1 (.slice (some ⟨g, 0, none⟩) n cap) n xs) : Rd w w.heap.size (some ⟨g, 0, none⟩) xs := by
  intro k u hu
  refine ⟨_, rfl, ?_, ?_⟩
  · rcases h.2 with ⟨h', _⟩ | ⟨g', cap', cur, h', _, hg, _⟩
    · simp at h'
    · simp only [Value.slice.injEq, Option.some.injEq, Addr.mk.injEq, and_true, true_and] at h'
      obtain ⟨rfl, rfl⟩ := h'
      rcases Nat.lt_or_ge g w.heap.size with hlt | hge
      · exact hlt
      · rw [Array.getElem?_eq_none hge] at hg; cases hg
  · have hk : k < xs.length := by
      rcases Nat.lt_or_ge k xs.length with hlt | hge
      · exact hlt
      · rw [List.getElem?_eq_none hge] at hu; cases hu
    have h1 := h.1
    rw [at_add, h.cellAt k (by omega)]
    exact hu
/-- A literal that was just laid can be read. -/
theorem rd_lit (w : World) (cs : Array Value) (t : TypeId) : Rd (w.alloc (.cells cs t)) (w.alloc (.cells cs t)).heap.size (some ⟨w.heap.size, 0, none⟩) cs.toList := by
  intro k u hu
  refine ⟨_, rfl, by simp, ?_⟩
  rw [at_add, cell_of_row (w.alloc (.cells cs t)) w.heap.size k cs t (0, 0) (heap_alloc_new w _)]
  simpa using hu
theorem below_lit (w : World) (cs : Array Value) (t : TypeId) : Below w.heap.size w (w.alloc (.cells cs t)) := (Below.refl _ _).alloc (Nat.le_refl _) _
theorem Rd.next {w w' : World} {A : Option Addr} {xs : List Value} (h : Rd w w.heap.size A xs) (hb : Below w.heap.size w w') : Rd w' w'.heap.size A xs := (h.below hb).more hb.size
theorem below_after {w w' : World} (cs : Array Value) (t : TypeId) (h : Below (w.alloc (.cells cs t)).heap.size (w.alloc (.cells cs t)) w') : Below w.heap.size w w' :=
  (below_lit w cs t).trans (h.mono (by simp))


theorem own_shape {w : World} {base : Nat} {e : TypeId} {v : Value} {n : Nat} {xs : List Value} (h : w.ownsRow base e 1 v n xs) : ∃ A cap, v = .slice A n cap ∧ Rd w w.heap.size A xs := by
  have h0 := h
  rcases h.2 with ⟨rfl, hn⟩ | ⟨g, cap, cur, rfl, _⟩
  · have hx : xs = [] := by
      have h1 := h.1
      subst hn
      exact List.eq_nil_of_length_eq_zero (by simpa using h1)
    subst hn hx
    exact ⟨none, 0, rfl, by intro k u hu; simp at hu⟩
  · exact ⟨_, _, rfl, Rd.of_own h0⟩

theorem own_ge {w : World} {base : Nat} {e : TypeId} {size : Nat} {v : Value} {n : Nat} {xs : List Value} (h : w.ownsRow base e size v n xs) {g : Nat} (hg : v.ownBlock = some g) : base ≤ g := by
  rcases h.2 with ⟨rfl, _⟩ | ⟨g', cap, cur, rfl, hb, _⟩
  · simp [Value.ownBlock] at hg
  · simp [Value.ownBlock] at hg
    omega


/-- What a call owns it owns still, behind a call that turned nothing old. -/
theorem own_below {w w' : World} {base : Nat} {e : TypeId} {size : Nat} {v : Value} {n : Nat} {xs : List Value} (h : w.ownsRow base e size v n xs) (hb : Below w.heap.size w w') : w'.ownsRow base e size v n xs := by
  refine ⟨h.1, ?_⟩
  rcases h.2 with hn | ⟨g, cap, cur, rfl, h1, hg, rest⟩
  · exact .inl hn
  · refine .inr ⟨g, cap, cur, rfl, h1, ?_, rest⟩
    rw [hb.block g (Array.getElem?_eq_some_iff.1 hg).1]
    exact hg

/-- append onto a row of the call's own, from whatever slice can be read, nil too. -/
theorem wpList_append_rd {P : Program} (w : World) {ops : Array Oper} {rest : List Oper} {o : Oper} {a : Act} {Q : Exit → Act → World → Prop} (hgd : o.guard = none) (s x : Operand) (t : TypeId)
    (ho : o.op = .call { callee := .builtin .append, args := #[s, x], argTypes := #[t, t] })
    (base : Nat) (e : TypeId) (i : TypeInfo) (z : Value) (bytes : Nat) (ht : P.underlying t = some (.slice e)) (hi : P.info? e = some i) (hz : i.zero = some z) (hsize : i.size = 1) (hby : i.bytes = bytes) (hzs : z.cells.size = 1)
    (v : Value) (n : Nat) (xs : List Value) (hs : a.eval s = v) (hown : w.ownsRow base e 1 v n xs)
    (B : Nat) (A : Option Addr) (m c : Nat) (news : List Value) (hx : a.eval x = .slice A m c) (hr : Rd w B A news) (hl : news.length = m) (hnone : A = none → c = 0) (h1 : ∀ u ∈ news, u.oneCell' = true)
    (h63 : n + m ≤ maxLen) (hbytes : (n + m) * bytes ≤ 140737488355328) (hbase : base ≤ w.heap.size)
    (h : ∀ v' w', w'.ownsRow base e 1 v' (n + m) (xs ++ news) → w.grownBy w' v.ownBlock → wpList P ops Q rest (a.put o.dst v') w') : wpList P ops Q (o :: rest) a w := by
  rcases A with _ | ad
  · have hn : news = [] := by
      cases news with
      | nil => rfl
      | cons u r =>
        obtain ⟨ad, he, _⟩ := hr 0 u rfl
        cases he
    subst hn
    have hm : m = 0 := by simpa using hl.symm
    subst hm
    obtain rfl := hnone rfl
    exact wpList_append_own_none hgd s x t ho base e i 1 ht hi v n xs hs hown hx (h v w (by simpa using hown) (World.grownBy.refl w _))
  · refine wpList_append_own w hgd s x t ho base e i z 1 bytes ht hi hz hsize hby hzs (by omega) v n xs hs hown ad m c news hx (by omega) ?_ h1 h63 hbytes hbase (fun v' w' h2 h3 _ => h v' w' h2 h3)
    intro j u hu
    obtain ⟨ad', he, _, hc⟩ := hr j u hu
    cases he
    exact hc
theorem U8_one (l : List Nat) : ∀ u ∈ U8 l, u.oneCell' = true := by
  intro u hu
  simp only [U8, List.mem_map] at hu
  obtain ⟨x, _, rfl⟩ := hu
  rfl
theorem U32_one (l : List Nat) : ∀ u ∈ U32 l, u.oneCell' = true := by
  intro u hu
  simp only [U32, List.mem_map] at hu
  obtain ⟨x, _, rfl⟩ := hu
  rfl
theorem Rd.alloc {w : World} {B : Nat} {A : Option Addr} {xs : List Value} (h : Rd w B A xs) (hB : B ≤ w.heap.size) (o : Obj) : Rd (w.alloc o) B A xs := by
  intro k u hu
  obtain ⟨ad, e, hlt, hc⟩ := h k u hu
  exact ⟨ad, e, hlt, (World.cell?_alloc_lt _ _ _ (by rw [add_block]; omega)).trans hc⟩
end Go.Proofs.YtaokhkbfiplfmaaDoor
end
section
namespace Go.Proofs.YtaokhkbfiplfmaaDoor
set_option linter.unusedVariables false
open Go.ChangeShapes Go.WideShapes Go.ChangeAt Go.RowKit

section
variable {P : Program}
/-- The walk stands at a load into slot d. -/
theorem at_load (d : Nat) {ops : Array Oper} {rest : List Oper} {ty t : TypeId} {x : Operand} {p : String} {af : Array Edge} {g : Option (Nat × Bool)} {a : Act} {w : World} {Q : Exit → Act → World → Prop} (h : wpList P ops Q (⟨some d, .load ty x, t, p, af, g⟩ :: rest) a w) : wpList P ops Q (⟨some d, .load ty x, t, p, af, g⟩ :: rest) a w := h
/-- The walk stands at a store through slot d. -/
theorem at_store (d : Nat) {ops : Array Oper} {rest : List Oper} {ty t : TypeId} {y : Operand} {p : String} {af : Array Edge} {g : Option (Nat × Bool)} {a : Act} {w : World} {Q : Exit → Act → World → Prop} (h : wpList P ops Q (⟨none, .store ty (.tmp d) y, t, p, af, g⟩ :: rest) a w) : wpList P ops Q (⟨none, .store ty (.tmp d) y, t, p, af, g⟩ :: rest) a w := h
/-- A whole array is stored; the world behind it bears a name. -/
theorem wpList_store_named {ops : Array Oper} {rest : List Oper} {o : Oper} {a : Act} {w : World} {Q : Exit → Act → World → Prop} (hgd : o.guard = none) (ty : TypeId) (x y : Operand) (ho : o.op = .store ty x y)
    (g : Nat) (cells : Array Value) (hx : a.eval x = .pointer (some ⟨g, 0, none⟩)) (hy : a.eval y = .agg cells)
    (t : TypeId) (old : Array Value) (hg : w.heap[g]? = some (.cells old t (0, 0))) (hi : (P.info? ty).map (·.size) = some cells.size)
    (hold : old.size = cells.size) (h1 : cells.all (·.oneCell') = true)
    (h : ∀ w', Hid (w' = w.setRow g cells) → wpList P ops Q rest (a.put o.dst undef) w') : wpList P ops Q (o :: rest) a w :=
  wpList_store_row hgd ty x y ho g cells hx hy t old hg hi hold h1 (h _ (Lib.hid rfl))
end

section
variable {P : Program} (w : World)
end

theorem below_row {w w' : World} {B g : Nat} {cs : Array Value} (h : w' = w.setRow g cs) (hB : B ≤ g) : Below B w w' := by
  subst h
  exact below_setRow (Below.refl _ _) hB cs
theorem all_one32 (l : List Nat) : (U32 l).toArray.all (·.oneCell') = true := by
  rw [Array.all_eq_true_iff_forall_mem]
  intro u hu
  exact U32_one l u (by simpa using hu)
theorem all_one8 (l : List Nat) : (U8 l).toArray.all (·.oneCell') = true := by
  rw [Array.all_eq_true_iff_forall_mem]
  intro u hu
  exact U8_one l u (by simpa using hu)
def z64 : Array Value := #[.int .u32 0, .int .u32 0, .int .u32 0, .int .u32 0, .int .u32 0, .int .u32 0, .int .u32 0, .int .u32 0, .int .u32 0, .int .u32 0, .int .u32 0, .int .u32 0, .int .u32 0, .int .u32 0, .int .u32 0, .int .u32 0, .int .u32 0, .int .u32 0, .int .u32 0, .int .u32 0, .int .u32 0, .int .u32 0, .int .u32 0, .int .u32 0, .int .u32 0, .int .u32 0, .int .u32 0, .int .u32 0, .int .u32 0, .int .u32 0, .int .u32 0, .int .u32 0, .int .u32 0, .int .u32 0, .int .u32 0, .int .u32 0, .int .u32 0, .int .u32 0, .int .u32 0, .int .u32 0, .int .u32 0, .int .u32 0, .int .u32 0, .int .u32 0, .int .u32 0, .int .u32 0, .int .u32 0, .int .u32 0, .int .u32 0, .int .u32 0, .int .u32 0, .int .u32 0, .int .u32 0, .int .u32 0, .int .u32 0, .int .u32 0, .int .u32 0, .int .u32 0, .int .u32 0, .int .u32 0, .int .u32 0, .int .u32 0, .int .u32 0, .int .u32 0]
def z16 : Array Value := #[.int .u32 0, .int .u32 0, .int .u32 0, .int .u32 0, .int .u32 0, .int .u32 0, .int .u32 0, .int .u32 0, .int .u32 0, .int .u32 0, .int .u32 0, .int .u32 0, .int .u32 0, .int .u32 0, .int .u32 0, .int .u32 0]
def z8 : Array Value := #[.int .u32 0, .int .u32 0, .int .u32 0, .int .u32 0, .int .u32 0, .int .u32 0, .int .u32 0, .int .u32 0]
def b32 : Array Value := #[.int .u8 0, .int .u8 0, .int .u8 0, .int .u8 0, .int .u8 0, .int .u8 0, .int .u8 0, .int .u8 0, .int .u8 0, .int .u8 0, .int .u8 0, .int .u8 0, .int .u8 0, .int .u8 0, .int .u8 0, .int .u8 0, .int .u8 0, .int .u8 0, .int .u8 0, .int .u8 0, .int .u8 0, .int .u8 0, .int .u8 0, .int .u8 0, .int .u8 0, .int .u8 0, .int .u8 0, .int .u8 0, .int .u8 0, .int .u8 0, .int .u8 0, .int .u8 0]
end Go.Proofs.YtaokhkbfiplfmaaDoor
end
section
namespace Go.Proofs.YtaokhkbfiplfmaaDoor
set_option linter.unusedVariables false
open Go.ChangeShapes Go.WideShapes Go.ChangeAt Go.RowKit

theorem run_storeVar_cell {P : Program} (w : World) (b o : Nat) (ty : TypeId) (v : Value) (h1 : v.oneCell' = true) (hc : (w.cell? ⟨b, o, none⟩).isSome = true) (hf : w.frozen? ⟨b, o, none⟩ = false) (hi : (P.info? ty).map (·.size) = some 1) :
    (storeVar ty ⟨b, o, none⟩ v).run P w = .ok () (w.setCell ⟨b, o, none⟩ v) := by
  have := run_storeCells_cells (P := P) b o [v] 0 w (fun j hj => by have : j = 0 := by simpa using hj
                                                                    subst this; simpa using hc) (fun j hj => by have : j = 0 := by simpa using hj
                                                                                                                subst this; simpa using hf) (fun x hx => by simp at hx; subst hx; exact h1)
  have he : v.cells = #[v] := by cases v <;> first | rfl | cases h1
  cases hq : P.info? ty with
  | none => simp [hq] at hi
  | some i =>
    have hs : i.size = 1 := by simpa [hq] using hi
    simp only [Nat.add_zero] at this
    simp [storeVar, sizeOf, typeInfo, hq, he, hs, this]
    rfl
theorem wpList_store_cell {P : Program} {ops : Array Oper} {rest : List Oper} {op : Oper} {a : Act} {w : World} {Q : Exit → Act → World → Prop} (hgd : op.guard = none) (ty : TypeId) (x y : Operand) (ho : op.op = .store ty x y)
    (b o : Nat) (v : Value) (hx : a.eval x = .pointer (some ⟨b, o, none⟩)) (hy : a.eval y = v) (h1 : v.oneCell' = true)
    (hc : (w.cell? ⟨b, o, none⟩).isSome = true) (hf : w.frozen? ⟨b, o, none⟩ = false) (hi : (P.info? ty).map (·.size) = some 1)
    (h : ∀ w', Hid (w' = w.setCell ⟨b, o, none⟩ v) → wpList P ops Q rest (a.put op.dst undef) w') : wpList P ops Q (op :: rest) a w :=
  wpList_plain hgd fun _ hK => by
    unfold Oper.wp execOp
    simp only [ho, hx, hy, Instr.storeAt, Instr.sureAddr, Sem.run_bind, Sem.run_pure, Result.andThen_ok, run_storeVar_cell w b o ty v h1 hc hf hi]
    exact hK _ _ (h _ (Lib.hid rfl))
theorem results_row {P : Program} {fn : Func} {p : Tmp} {ty : TypeId} (h : fn.results = #[.cell p ty]) (tmps : Array Value) (w : World) (g : Nat) (t : TypeId) (cs : Array Value) (fr : Nat × Nat) (d : TypeDesc)
    (hp : tmps.getD p undef = .pointer (some ⟨g, 0, none⟩)) (hg : w.heap[g]? = some (.cells cs t fr))
    (hu : P.underlying ty = some d) (hd : (match d with | .struct _ | .array _ _ => true | _ => false) = true) (hi : (P.info? ty).map (·.size) = some cs.size) :
    (results fn tmps).run P w = .ok (.agg cs) w := by
  have hp' : tmps[p]?.getD undef = .pointer (some ⟨g, 0, none⟩) := by simpa using hp
  simp [results, h, hp', asAddr, run_loadVar_row w g t ty cs fr d hg hu hd hi]
theorem results_row_tmp' {P : Program} {fn : Func} {p u : Tmp} {ty : TypeId} (h : fn.results = #[.cell p ty, .tmp u]) (tmps : Array Value) (w : World) (g : Nat) (t : TypeId) (cs : Array Value) (fr : Nat × Nat) (d : TypeDesc)
    (hp : tmps.getD p undef = .pointer (some ⟨g, 0, none⟩)) (hg : w.heap[g]? = some (.cells cs t fr))
    (hu : P.underlying ty = some d) (hd : (match d with | .struct _ | .array _ _ => true | _ => false) = true) (hi : (P.info? ty).map (·.size) = some cs.size) :
    (results fn tmps).run P w = .ok (.tuple #[.agg cs, tmps.getD u undef]) w := by
  have hp' : tmps[p]?.getD undef = .pointer (some ⟨g, 0, none⟩) := by simpa using hp
  simp [results, h, hp', asAddr, run_loadVar_row w g t ty cs fr d hg hu hd hi]
theorem grown_cell (W : World) (b o : Nat) (v : Value) : W.grownBy (W.setCell ⟨b, o, none⟩ v) (some b) :=
  ⟨rfl, rfl, rfl, by simp, fun k _ hk => Below.heap_setCell W _ v k (fun e => hk (by rw [e]))⟩
theorem grown_row (W : World) (b : Nat) (c : Array Value) : W.grownBy (W.setRow b c) (some b) :=
  ⟨rfl, rfl, rfl, by simp, fun k _ hk => setRow_other W b k c (fun e => hk (by rw [e]))⟩
end Go.Proofs.YtaokhkbfiplfmaaDoor
end
section
namespace Go.Proofs.YtaokhkbfiplfmaaDoor
set_option linter.unusedVariables false
open Go.ChangeShapes Go.WideShapes Go.ChangeAt Go.RowKit

theorem infoTk : (Tryd.prog.info? 23).map (·.size) = some 11 := by kernel_rfl
def TBox (w : World) (b : Nat) (t : Tk) : Prop := w.heap[b]? = some (.cells #[.int .i64 t.ser, .int .i64 t.kind, .int .i64 t.frm, .int .i64 t.till, .int .i64 t.cls, .int .i64 t.card, .int .i64 t.seat, .int .i64 t.day, .int .i64 t.days, .int .i64 t.uses, .int .i64 t.epoch] 23 (0, 0))
theorem TBox.lt {w : World} {b : Nat} {t : Tk} (h : TBox w b t) : b < w.heap.size := (Array.getElem?_eq_some_iff.1 h).1
theorem TBox.next {w w' : World} {b : Nat} {t : Tk} (h : TBox w b t) (hb : Below w.heap.size w w') : TBox w' b t := (hb.block _ h.lt).trans h
theorem TBox.cells {w : World} {b : Nat} {t : Tk} (h : TBox w b t) : w.cell? ⟨b, 0, none⟩ = some (.int .i64 t.ser) ∧ w.cell? ⟨b, 1, none⟩ = some (.int .i64 t.kind) ∧ w.cell? ⟨b, 2, none⟩ = some (.int .i64 t.frm) ∧ w.cell? ⟨b, 3, none⟩ = some (.int .i64 t.till) ∧ w.cell? ⟨b, 4, none⟩ = some (.int .i64 t.cls) ∧ w.cell? ⟨b, 5, none⟩ = some (.int .i64 t.card) ∧ w.cell? ⟨b, 6, none⟩ = some (.int .i64 t.seat) ∧ w.cell? ⟨b, 7, none⟩ = some (.int .i64 t.day) ∧ w.cell? ⟨b, 8, none⟩ = some (.int .i64 t.days) ∧ w.cell? ⟨b, 9, none⟩ = some (.int .i64 t.uses) ∧ w.cell? ⟨b, 10, none⟩ = some (.int .i64 t.epoch) :=
  ⟨by rw [cell_of_row w b 0 _ _ (0, 0) h]; rfl, by rw [cell_of_row w b 1 _ _ (0, 0) h]; rfl, by rw [cell_of_row w b 2 _ _ (0, 0) h]; rfl, by rw [cell_of_row w b 3 _ _ (0, 0) h]; rfl, by rw [cell_of_row w b 4 _ _ (0, 0) h]; rfl, by rw [cell_of_row w b 5 _ _ (0, 0) h]; rfl, by rw [cell_of_row w b 6 _ _ (0, 0) h]; rfl, by rw [cell_of_row w b 7 _ _ (0, 0) h]; rfl, by rw [cell_of_row w b 8 _ _ (0, 0) h]; rfl, by rw [cell_of_row w b 9 _ _ (0, 0) h]; rfl, by rw [cell_of_row w b 10 _ _ (0, 0) h]; rfl⟩
theorem TBox.frozen {w : World} {b : Nat} {t : Tk} (h : TBox w b t) (j : Nat) : w.frozen? ⟨b, j, none⟩ = false := frozen_of_row w b j _ _ h
theorem TBox.new (w : World) (t : Tk) : TBox (w.alloc (.cells #[.int .i64 t.ser, .int .i64 t.kind, .int .i64 t.frm, .int .i64 t.till, .int .i64 t.cls, .int .i64 t.card, .int .i64 t.seat, .int .i64 t.day, .int .i64 t.days, .int .i64 t.uses, .int .i64 t.epoch] 23)) w.heap.size t := heap_alloc_new w _
end Go.Proofs.YtaokhkbfiplfmaaDoor
end
section
namespace Go.Proofs.YtaokhkbfiplfmaaDoor
set_option linter.unusedVariables false
open Go.ChangeShapes Go.WideShapes Go.ChangeAt Go.RowKit


def WBox (w : World) (b : Nat) (t : Tk) : Prop := w.heap[b]? = some (.cells #[.int .i64 t.ser, .int .i64 t.kind, .int .i64 t.frm, .int .i64 t.till, .int .i64 t.cls, .int .i64 t.card, .int .i64 t.seat, .int .i64 t.day, .int .i64 t.days, .int .i64 t.uses, .int .i64 t.epoch] 95 (0, 0))
theorem WBox.lt {w : World} {b : Nat} {t : Tk} (h : WBox w b t) : b < w.heap.size := (Array.getElem?_eq_some_iff.1 h).1
theorem WBox.next {w w' : World} {b : Nat} {t : Tk} (h : WBox w b t) (hb : Below w.heap.size w w') : WBox w' b t := (hb.block _ h.lt).trans h
theorem WBox.cells {w : World} {b : Nat} {t : Tk} (h : WBox w b t) : w.cell? ⟨b, 0, none⟩ = some (.int .i64 t.ser) ∧ w.cell? ⟨b, 1, none⟩ = some (.int .i64 t.kind) ∧ w.cell? ⟨b, 2, none⟩ = some (.int .i64 t.frm) ∧ w.cell? ⟨b, 3, none⟩ = some (.int .i64 t.till) ∧ w.cell? ⟨b, 4, none⟩ = some (.int .i64 t.cls) ∧ w.cell? ⟨b, 5, none⟩ = some (.int .i64 t.card) ∧ w.cell? ⟨b, 6, none⟩ = some (.int .i64 t.seat) ∧ w.cell? ⟨b, 7, none⟩ = some (.int .i64 t.day) ∧ w.cell? ⟨b, 8, none⟩ = some (.int .i64 t.days) ∧ w.cell? ⟨b, 9, none⟩ = some (.int .i64 t.uses) ∧ w.cell? ⟨b, 10, none⟩ = some (.int .i64 t.epoch) :=
  ⟨by rw [cell_of_row w b 0 _ _ (0, 0) h]; rfl, by rw [cell_of_row w b 1 _ _ (0, 0) h]; rfl, by rw [cell_of_row w b 2 _ _ (0, 0) h]; rfl, by rw [cell_of_row w b 3 _ _ (0, 0) h]; rfl, by rw [cell_of_row w b 4 _ _ (0, 0) h]; rfl, by rw [cell_of_row w b 5 _ _ (0, 0) h]; rfl, by rw [cell_of_row w b 6 _ _ (0, 0) h]; rfl, by rw [cell_of_row w b 7 _ _ (0, 0) h]; rfl, by rw [cell_of_row w b 8 _ _ (0, 0) h]; rfl, by rw [cell_of_row w b 9 _ _ (0, 0) h]; rfl, by rw [cell_of_row w b 10 _ _ (0, 0) h]; rfl⟩
theorem WBox.frozen {w : World} {b : Nat} {t : Tk} (h : WBox w b t) (j : Nat) : w.frozen? ⟨b, j, none⟩ = false := frozen_of_row w b j _ _ h
theorem WBox.new (w : World) (t : Tk) : WBox (w.alloc (.cells #[.int .i64 t.ser, .int .i64 t.kind, .int .i64 t.frm, .int .i64 t.till, .int .i64 t.cls, .int .i64 t.card, .int .i64 t.seat, .int .i64 t.day, .int .i64 t.days, .int .i64 t.uses, .int .i64 t.epoch] 95)) w.heap.size t := heap_alloc_new w _
end Go.Proofs.YtaokhkbfiplfmaaDoor
end
section
namespace Go.Proofs.YtaokhkbfiplfmaaDoor
set_option linter.unusedVariables false
open Go.ChangeShapes Go.WideShapes Go.ChangeAt Go.RowKit


set_option maxRecDepth 20000 in
set_option maxHeartbeats 1600000 in
theorem pkind_1 (t : Tk) (hk : t.kind = 1) (w : World) : Calls Tryd.prog 46 #[.agg #[.int .i64 t.ser, .int .i64 t.kind, .int .i64 t.frm, .int .i64 t.till, .int .i64 t.cls, .int .i64 t.card, .int .i64 t.seat, .int .i64 t.day, .int .i64 t.days, .int .i64 t.uses, .int .i64 t.epoch]] w fun e w' => e = .returned (.tuple #[.agg #[.int .i64 1, .int .i64 1, .func (.func 56) #[.agg #[.int .i64 t.ser, .int .i64 t.kind, .int .i64 t.frm, .int .i64 t.till, .int .i64 t.cls, .int .i64 t.card, .int .i64 t.seat, .int .i64 t.day, .int .i64 t.days, .int .i64 t.uses, .int .i64 t.epoch]] #[], .func (.func 57) #[.agg #[.int .i64 t.ser, .int .i64 t.kind, .int .i64 t.frm, .int .i64 t.till, .int .i64 t.cls, .int .i64 t.card, .int .i64 t.seat, .int .i64 t.day, .int .i64 t.days, .int .i64 t.uses, .int .i64 t.epoch]] #[], .func (.func 58) #[.agg #[.int .i64 t.ser, .int .i64 t.kind, .int .i64 t.frm, .int .i64 t.till, .int .i64 t.cls, .int .i64 t.card, .int .i64 t.seat, .int .i64 t.day, .int .i64 t.days, .int .i64 t.uses, .int .i64 t.epoch]] #[]], .bool true]) ∧ Below w.heap.size w w' := by
  have q1 : (t.kind == 1) = true := by rw [beq_iff_eq]; omega
  clear hk
  go_enter Tryd.func46, Tryd.ntmps46
  go_wp2
  exact bodyPost_ret (v := .tuple #[.agg #[.int .i64 1, .int .i64 1, .func (.func 56) #[.agg #[.int .i64 t.ser, .int .i64 t.kind, .int .i64 t.frm, .int .i64 t.till, .int .i64 t.cls, .int .i64 t.card, .int .i64 t.seat, .int .i64 t.day, .int .i64 t.days, .int .i64 t.uses, .int .i64 t.epoch]] #[], .func (.func 57) #[.agg #[.int .i64 t.ser, .int .i64 t.kind, .int .i64 t.frm, .int .i64 t.till, .int .i64 t.cls, .int .i64 t.card, .int .i64 t.seat, .int .i64 t.day, .int .i64 t.days, .int .i64 t.uses, .int .i64 t.epoch]] #[], .func (.func 58) #[.agg #[.int .i64 t.ser, .int .i64 t.kind, .int .i64 t.frm, .int .i64 t.till, .int .i64 t.cls, .int .i64 t.card, .int .i64 t.seat, .int .i64 t.day, .int .i64 t.days, .int .i64 t.uses, .int .i64 t.epoch]] #[]], .bool true]) (by simp [results, Tryd.results46, go_sem]) rfl ⟨rfl, ((Below.refl _ _).alloc (Nat.le_refl _) _).alloc (by simp) _⟩
set_option maxRecDepth 20000 in
set_option maxHeartbeats 1600000 in
theorem pkind_2 (t : Tk) (hk : t.kind = 2) (w : World) : Calls Tryd.prog 46 #[.agg #[.int .i64 t.ser, .int .i64 t.kind, .int .i64 t.frm, .int .i64 t.till, .int .i64 t.cls, .int .i64 t.card, .int .i64 t.seat, .int .i64 t.day, .int .i64 t.days, .int .i64 t.uses, .int .i64 t.epoch]] w fun e w' => e = .returned (.tuple #[.agg #[.int .i64 2, .int .i64 2, .func (.func 56) #[.agg #[.int .i64 t.ser, .int .i64 t.kind, .int .i64 t.frm, .int .i64 t.till, .int .i64 t.cls, .int .i64 t.card, .int .i64 t.seat, .int .i64 t.day, .int .i64 t.days, .int .i64 t.uses, .int .i64 t.epoch]] #[], .func (.func 57) #[.agg #[.int .i64 t.ser, .int .i64 t.kind, .int .i64 t.frm, .int .i64 t.till, .int .i64 t.cls, .int .i64 t.card, .int .i64 t.seat, .int .i64 t.day, .int .i64 t.days, .int .i64 t.uses, .int .i64 t.epoch]] #[], .func (.func 59) #[.agg #[.int .i64 t.ser, .int .i64 t.kind, .int .i64 t.frm, .int .i64 t.till, .int .i64 t.cls, .int .i64 t.card, .int .i64 t.seat, .int .i64 t.day, .int .i64 t.days, .int .i64 t.uses, .int .i64 t.epoch]] #[]], .bool true]) ∧ Below w.heap.size w w' := by
  have q1 : (t.kind == 1) = false := by rw [beq_eq_false_iff_ne]; omega
  have q2 : (t.kind == 2) = true := by rw [beq_iff_eq]; omega
  clear hk
  go_enter Tryd.func46, Tryd.ntmps46
  go_wp2
  exact bodyPost_ret (v := .tuple #[.agg #[.int .i64 2, .int .i64 2, .func (.func 56) #[.agg #[.int .i64 t.ser, .int .i64 t.kind, .int .i64 t.frm, .int .i64 t.till, .int .i64 t.cls, .int .i64 t.card, .int .i64 t.seat, .int .i64 t.day, .int .i64 t.days, .int .i64 t.uses, .int .i64 t.epoch]] #[], .func (.func 57) #[.agg #[.int .i64 t.ser, .int .i64 t.kind, .int .i64 t.frm, .int .i64 t.till, .int .i64 t.cls, .int .i64 t.card, .int .i64 t.seat, .int .i64 t.day, .int .i64 t.days, .int .i64 t.uses, .int .i64 t.epoch]] #[], .func (.func 59) #[.agg #[.int .i64 t.ser, .int .i64 t.kind, .int .i64 t.frm, .int .i64 t.till, .int .i64 t.cls, .int .i64 t.card, .int .i64 t.seat, .int .i64 t.day, .int .i64 t.days, .int .i64 t.uses, .int .i64 t.epoch]] #[]], .bool true]) (by simp [results, Tryd.results46, go_sem]) rfl ⟨rfl, ((Below.refl _ _).alloc (Nat.le_refl _) _).alloc (by simp) _⟩
set_option maxRecDepth 20000 in
set_option maxHeartbeats 1600000 in
theorem pkind_3 (t : Tk) (hk : t.kind = 3) (w : World) : Calls Tryd.prog 46 #[.agg #[.int .i64 t.ser, .int .i64 t.kind, .int .i64 t.frm, .int .i64 t.till, .int .i64 t.cls, .int .i64 t.card, .int .i64 t.seat, .int .i64 t.day, .int .i64 t.days, .int .i64 t.uses, .int .i64 t.epoch]] w fun e w' => e = .returned (.tuple #[.agg #[.int .i64 0, .int .i64 0, .func (.func 60) #[.agg #[.int .i64 t.ser, .int .i64 t.kind, .int .i64 t.frm, .int .i64 t.till, .int .i64 t.cls, .int .i64 t.card, .int .i64 t.seat, .int .i64 t.day, .int .i64 t.days, .int .i64 t.uses, .int .i64 t.epoch]] #[], .func (.func 61) #[.agg #[.int .i64 t.ser, .int .i64 t.kind, .int .i64 t.frm, .int .i64 t.till, .int .i64 t.cls, .int .i64 t.card, .int .i64 t.seat, .int .i64 t.day, .int .i64 t.days, .int .i64 t.uses, .int .i64 t.epoch]] #[], .func (.func 62) #[.agg #[.int .i64 t.ser, .int .i64 t.kind, .int .i64 t.frm, .int .i64 t.till, .int .i64 t.cls, .int .i64 t.card, .int .i64 t.seat, .int .i64 t.day, .int .i64 t.days, .int .i64 t.uses, .int .i64 t.epoch]] #[]], .bool true]) ∧ Below w.heap.size w w' := by
  have q1 : (t.kind == 1) = false := by rw [beq_eq_false_iff_ne]; omega
  have q2 : (t.kind == 2) = false := by rw [beq_eq_false_iff_ne]; omega
  have q3 : (t.kind == 3) = true := by rw [beq_iff_eq]; omega
  clear hk
  go_enter Tryd.func46, Tryd.ntmps46
  go_wp2
  exact bodyPost_ret (v := .tuple #[.agg #[.int .i64 0, .int .i64 0, .func (.func 60) #[.agg #[.int .i64 t.ser, .int .i64 t.kind, .int .i64 t.frm, .int .i64 t.till, .int .i64 t.cls, .int .i64 t.card, .int .i64 t.seat, .int .i64 t.day, .int .i64 t.days, .int .i64 t.uses, .int .i64 t.epoch]] #[], .func (.func 61) #[.agg #[.int .i64 t.ser, .int .i64 t.kind, .int .i64 t.frm, .int .i64 t.till, .int .i64 t.cls, .int .i64 t.card, .int .i64 t.seat, .int .i64 t.day, .int .i64 t.days, .int .i64 t.uses, .int .i64 t.epoch]] #[], .func (.func 62) #[.agg #[.int .i64 t.ser, .int .i64 t.kind, .int .i64 t.frm, .int .i64 t.till, .int .i64 t.cls, .int .i64 t.card, .int .i64 t.seat, .int .i64 t.day, .int .i64 t.days, .int .i64 t.uses, .int .i64 t.epoch]] #[]], .bool true]) (by simp [results, Tryd.results46, go_sem]) rfl ⟨rfl, ((Below.refl _ _).alloc (Nat.le_refl _) _).alloc (by simp) _⟩
set_option maxRecDepth 20000 in
set_option maxHeartbeats 1600000 in
theorem pkind_4 (t : Tk) (hk : t.kind = 4) (w : World) : Calls Tryd.prog 46 #[.agg #[.int .i64 t.ser, .int .i64 t.kind, .int .i64 t.frm, .int .i64 t.till, .int .i64 t.cls, .int .i64 t.card, .int .i64 t.seat, .int .i64 t.day, .int .i64 t.days, .int .i64 t.uses, .int .i64 t.epoch]] w fun e w' => e = .returned (.tuple #[.agg #[.int .i64 2, .int .i64 20, .func (.func 56) #[.agg #[.int .i64 t.ser, .int .i64 t.kind, .int .i64 t.frm, .int .i64 t.till, .int .i64 t.cls, .int .i64 t.card, .int .i64 t.seat, .int .i64 t.day, .int .i64 t.days, .int .i64 t.uses, .int .i64 t.epoch]] #[], .func (.func 57) #[.agg #[.int .i64 t.ser, .int .i64 t.kind, .int .i64 t.frm, .int .i64 t.till, .int .i64 t.cls, .int .i64 t.card, .int .i64 t.seat, .int .i64 t.day, .int .i64 t.days, .int .i64 t.uses, .int .i64 t.epoch]] #[], .func (.func 63) #[.agg #[.int .i64 t.ser, .int .i64 t.kind, .int .i64 t.frm, .int .i64 t.till, .int .i64 t.cls, .int .i64 t.card, .int .i64 t.seat, .int .i64 t.day, .int .i64 t.days, .int .i64 t.uses, .int .i64 t.epoch]] #[]], .bool true]) ∧ Below w.heap.size w w' := by
  have q1 : (t.kind == 1) = false := by rw [beq_eq_false_iff_ne]; omega
  have q2 : (t.kind == 2) = false := by rw [beq_eq_false_iff_ne]; omega
  have q3 : (t.kind == 3) = false := by rw [beq_eq_false_iff_ne]; omega
  have q4 : (t.kind == 4) = true := by rw [beq_iff_eq]; omega
  clear hk
  go_enter Tryd.func46, Tryd.ntmps46
  go_wp2
  exact bodyPost_ret (v := .tuple #[.agg #[.int .i64 2, .int .i64 20, .func (.func 56) #[.agg #[.int .i64 t.ser, .int .i64 t.kind, .int .i64 t.frm, .int .i64 t.till, .int .i64 t.cls, .int .i64 t.card, .int .i64 t.seat, .int .i64 t.day, .int .i64 t.days, .int .i64 t.uses, .int .i64 t.epoch]] #[], .func (.func 57) #[.agg #[.int .i64 t.ser, .int .i64 t.kind, .int .i64 t.frm, .int .i64 t.till, .int .i64 t.cls, .int .i64 t.card, .int .i64 t.seat, .int .i64 t.day, .int .i64 t.days, .int .i64 t.uses, .int .i64 t.epoch]] #[], .func (.func 63) #[.agg #[.int .i64 t.ser, .int .i64 t.kind, .int .i64 t.frm, .int .i64 t.till, .int .i64 t.cls, .int .i64 t.card, .int .i64 t.seat, .int .i64 t.day, .int .i64 t.days, .int .i64 t.uses, .int .i64 t.epoch]] #[]], .bool true]) (by simp [results, Tryd.results46, go_sem]) rfl ⟨rfl, ((Below.refl _ _).alloc (Nat.le_refl _) _).alloc (by simp) _⟩
set_option maxRecDepth 20000 in
set_option maxHeartbeats 1600000 in
theorem pkind_0 (t : Tk) (hk : t.kind < 1 ∨ 4 < t.kind) (w : World) : Calls Tryd.prog 46 #[.agg #[.int .i64 t.ser, .int .i64 t.kind, .int .i64 t.frm, .int .i64 t.till, .int .i64 t.cls, .int .i64 t.card, .int .i64 t.seat, .int .i64 t.day, .int .i64 t.days, .int .i64 t.uses, .int .i64 t.epoch]] w fun e w' => e = .returned (.tuple #[.agg #[.int .i64 0, .int .i64 0, .nilFunc, .nilFunc, .nilFunc], .bool false]) ∧ Below w.heap.size w w' := by
  have q1 : (t.kind == 1) = false := by rw [beq_eq_false_iff_ne]; omega
  have q2 : (t.kind == 2) = false := by rw [beq_eq_false_iff_ne]; omega
  have q3 : (t.kind == 3) = false := by rw [beq_eq_false_iff_ne]; omega
  have q4 : (t.kind == 4) = false := by rw [beq_eq_false_iff_ne]; omega
  clear hk
  go_enter Tryd.func46, Tryd.ntmps46
  go_wp2
  exact bodyPost_ret (v := .tuple #[.agg #[.int .i64 0, .int .i64 0, .nilFunc, .nilFunc, .nilFunc], .bool false]) (by simp [results, Tryd.results46, go_sem]) rfl ⟨rfl, ((Below.refl _ _).alloc (Nat.le_refl _) _).alloc (by simp) _⟩
end Go.Proofs.YtaokhkbfiplfmaaDoor
end
section
namespace Go.Proofs.YtaokhkbfiplfmaaDoor
set_option linter.unusedVariables false
open Go.ChangeShapes Go.WideShapes Go.ChangeAt Go.RowKit Go.Shelf
attribute [local go_sem] Oper.semAt_some

theorem pisn_any (s : Int) (b : Bool) (hb : isN s = b) (w : World) : Calls Tryd.prog 69 #[.int .i64 s] w fun e w' => e = .returned (.bool b) ∧ w' = w := by
  have HB := Lib.hid hb
  clear hb
  cases h0 : decide (0 ≤ s) <;> cases h1 : decide (s ≤ 39)
  all_goals
    have H0 := Lib.hid h0
    have H1 := Lib.hid h1
    go_enter Tryd.func69, Tryd.ntmps69
    go_wp2
    go_ret
    refine ⟨congrArg Ending.returned (congrArg Value.bool ?_), rfl⟩
    rw [← HB.out, isN, H0.out, H1.out]
    rfl

/-- The two boxes that the function value has captured hold what they held. -/
def KpAB (BA BB : Nat) (W W' : World) : Prop := ∀ k v, (k = BA ∨ k = BB) → W.cell? ⟨k, 0, none⟩ = some v → W'.cell? ⟨k, 0, none⟩ = some v
theorem KpAB.refl (BA BB : Nat) (W : World) : KpAB BA BB W W := fun _ _ _ h => h
theorem KpAB.trans {BA BB : Nat} {X Y Z : World} (h : KpAB BA BB X Y) (g : KpAB BA BB Y Z) : KpAB BA BB X Z := fun k v hk hv => g k v hk (h k v hk hv)
theorem KpAB.below {BA BB n₀ : Nat} {W W' : World} (hA : BA < n₀) (hB : BB < n₀) (h : Below n₀ W W') : KpAB BA BB W W' := fun k v hk hv => (h.cell (p := ⟨k, 0, none⟩) (by show k < n₀; rcases hk with rfl | rfl <;> omega)).trans hv
theorem KpAB.put {BA BB : Nat} (W : World) (l : Nat) (o o' : Obj) (hl : W.heap[l]? = some o) (ho : o.isCells = false) : KpAB BA BB W (W.putObj l o') := fun k v _ hv => cell_kept hv (grownBy_putObj' W l o') (fun r e => by cases e; exact ⟨o, hl, ho⟩)
end Go.Proofs.YtaokhkbfiplfmaaDoor
end
section
namespace Go.Proofs.YtaokhkbfiplfmaaDoor
set_option linter.unusedVariables false
set_option linter.unusedSimpArgs false
open Go.ChangeShapes Go.WideShapes Go.ChangeAt Go.RowKit
end Go.Proofs.YtaokhkbfiplfmaaDoor
end
section
namespace Go.Proofs.YtaokhkbfiplfmaaDoor
set_option linter.unusedVariables false
set_option linter.unusedSimpArgs false
open Go.ChangeShapes Go.WideShapes Go.ChangeAt Go.RowKit Go.Shelf
attribute [local go_sem] Oper.semAt_some
end Go.Proofs.YtaokhkbfiplfmaaDoor
end
section
namespace Go.Proofs.YtaokhkbfiplfmaaDoor
set_option linter.unusedVariables false
set_option linter.unusedSimpArgs false
open Go.ChangeShapes Go.WideShapes Go.ChangeAt Go.RowKit Go.Shelf
attribute [local go_sem] Oper.semAt_some
end Go.Proofs.YtaokhkbfiplfmaaDoor
end
section
namespace Go.Proofs.YtaokhkbfiplfmaaDoor
set_option linter.unusedVariables false
open Go.ChangeShapes Go.WideShapes Go.ChangeAt Go.RowKit


theorem pwithin_any (n a b : Int) (v : Bool) (hv : (decide (a ≤ n) && decide (n ≤ b)) = v) (w : World) : Calls Tryd.prog 48 #[.int .i64 n, .int .i64 a, .int .i64 b] w fun e w' => e = .returned (.bool v) ∧ w' = w := by
  have HB := Lib.hid hv
  clear hv
  cases h0 : decide (a ≤ n) <;> cases h1 : decide (n ≤ b)
  all_goals
    have H0 := Lib.hid h0
    have H1 := Lib.hid h1
    go_enter Tryd.func48, Tryd.ntmps48
    go_wp2
    go_ret
    refine ⟨congrArg Ending.returned (congrArg Value.bool ?_), rfl⟩
    rw [← HB.out, H0.out, H1.out]
    rfl
def wayB (t : Tk) : Bool := isN t.frm && (isN t.till && (t.frm != t.till))
def zonesB (t : Tk) : Bool := decide (1 ≤ t.frm) && (decide (t.frm ≤ t.till) && decide (t.till ≤ 6))
set_option maxHeartbeats 1600000 in
theorem phasway_any (t : Tk) (b : Bool) (hb : wayB t = b) (w : World) : Calls Tryd.prog 56 #[.agg #[.int .i64 t.ser, .int .i64 t.kind, .int .i64 t.frm, .int .i64 t.till, .int .i64 t.cls, .int .i64 t.card, .int .i64 t.seat, .int .i64 t.day, .int .i64 t.days, .int .i64 t.uses, .int .i64 t.epoch]] w fun e w' => e = .returned (.bool b) ∧ Below w.heap.size w w' := by
  have HV := Lib.hid hb
  clear hb
  obtain ⟨w0, hw0⟩ : ∃ w0, w0 = w.alloc (.cells #[.int .i64 t.ser, .int .i64 t.kind, .int .i64 t.frm, .int .i64 t.till, .int .i64 t.cls, .int .i64 t.card, .int .i64 t.seat, .int .i64 t.day, .int .i64 t.days, .int .i64 t.uses, .int .i64 t.epoch] 95) := ⟨_, rfl⟩
  have HX : Hid (WBox w0 w.heap.size t) := Lib.hid (by rw [hw0]; exact WBox.new w t)
  have HB : Hid (Below w.heap.size w w0) := Lib.hid (by rw [hw0]; exact below_lit w _ _)
  have HW := Lib.hid hw0
  clear hw0
  obtain ⟨c0, c1, c2, c3, c4, c5, c6, c7, c8, c9, c10⟩ := HX.out.cells
  cases q1 : isN t.frm <;> cases q2 : isN t.till <;> cases q3 : (t.frm != t.till)
  all_goals
    have hb : (isN t.frm && (isN t.till && (t.frm != t.till))) = b := HV.out
    rw [q1, q2, q3] at hb
    subst hb
    have HI := Lib.hid q1
    have HJ := Lib.hid q2
    clear q1 q2
    go_enter Tryd.func56, Tryd.ntmps56
    go_wp2_with (go_at_call 69; refine (pisn_any _ _ (by first | exact HI.out | exact HJ.out) _).mono ?_; rintro e w1 ⟨rfl, rfl⟩)
    go_ret
    refine ⟨rfl, ?_⟩
    rw [← HW.out]
    exact HB.out
set_option maxHeartbeats 1600000 in
theorem phaszones_any (t : Tk) (b : Bool) (hb : zonesB t = b) (w : World) : Calls Tryd.prog 60 #[.agg #[.int .i64 t.ser, .int .i64 t.kind, .int .i64 t.frm, .int .i64 t.till, .int .i64 t.cls, .int .i64 t.card, .int .i64 t.seat, .int .i64 t.day, .int .i64 t.days, .int .i64 t.uses, .int .i64 t.epoch]] w fun e w' => e = .returned (.bool b) ∧ Below w.heap.size w w' := by
  have HV := Lib.hid hb
  clear hb
  obtain ⟨w0, hw0⟩ : ∃ w0, w0 = w.alloc (.cells #[.int .i64 t.ser, .int .i64 t.kind, .int .i64 t.frm, .int .i64 t.till, .int .i64 t.cls, .int .i64 t.card, .int .i64 t.seat, .int .i64 t.day, .int .i64 t.days, .int .i64 t.uses, .int .i64 t.epoch] 95) := ⟨_, rfl⟩
  have HX : Hid (WBox w0 w.heap.size t) := Lib.hid (by rw [hw0]; exact WBox.new w t)
  have HB : Hid (Below w.heap.size w w0) := Lib.hid (by rw [hw0]; exact below_lit w _ _)
  have HW := Lib.hid hw0
  clear hw0
  obtain ⟨c0, c1, c2, c3, c4, c5, c6, c7, c8, c9, c10⟩ := HX.out.cells
  obtain ⟨x, hx⟩ : ∃ x, (decide (1 ≤ t.frm) && decide (t.frm ≤ t.till)) = x := ⟨_, rfl⟩
  have hb : (x && decide (t.till ≤ 6)) = b := by rw [← hx, ← HV.out, zonesB, Bool.and_assoc]
  have HX2 := Lib.hid hx
  have HV2 := Lib.hid hb
  clear hx hb
  cases x <;> cases q3 : decide (t.till ≤ 6)
  all_goals
    have hb := HV2.out
    rw [q3] at hb
    subst hb
    go_enter Tryd.func60, Tryd.ntmps60
    go_wp2_with (go_at_call 48; refine (pwithin_any _ _ _ _ HX2.out _).mono ?_; rintro e w1 ⟨rfl, rfl⟩)
    go_ret
    refine ⟨rfl, ?_⟩
    rw [← HW.out]
    exact HB.out
end Go.Proofs.YtaokhkbfiplfmaaDoor
end
section
namespace Go.Proofs.YtaokhkbfiplfmaaDoor
set_option linter.unusedVariables false
open Go.ChangeShapes Go.WideShapes Go.ChangeAt Go.RowKit


def inB (n a b : Int) : Bool := decide (a ≤ n) && decide (n ≤ b)
theorem inB_iff {n a b : Int} : inB n a b = true ↔ a ≤ n ∧ n ≤ b := by simp [inB]
def hbB (t : Tk) : Bool := inB t.ser 1 1099511627776 && (inB t.cls 1 2 && (inB t.card 0 3 && (inB t.seat 0 999 && (inB t.day 0 99999 && (inB t.days 1 999 && (decide (t.day + t.days - 1 ≤ 99999) && (inB t.epoch 0 9)))))))
set_option maxRecDepth 20000 in
set_option maxHeartbeats 3200000 in
theorem pbounds_any (t : Tk) (b : Bool) (hb : hbB t = b) (w : World) : Calls Tryd.prog 47 #[.agg #[.int .i64 t.ser, .int .i64 t.kind, .int .i64 t.frm, .int .i64 t.till, .int .i64 t.cls, .int .i64 t.card, .int .i64 t.seat, .int .i64 t.day, .int .i64 t.days, .int .i64 t.uses, .int .i64 t.epoch]] w fun e w' => e = .returned (.bool b) ∧ Below w.heap.size w w' := by
  have HV := Lib.hid hb
  clear hb
  obtain ⟨w0, hw0⟩ : ∃ w0, w0 = w.alloc (.cells #[.int .i64 t.ser, .int .i64 t.kind, .int .i64 t.frm, .int .i64 t.till, .int .i64 t.cls, .int .i64 t.card, .int .i64 t.seat, .int .i64 t.day, .int .i64 t.days, .int .i64 t.uses, .int .i64 t.epoch] 95) := ⟨_, rfl⟩
  have HX : Hid (WBox w0 w.heap.size t) := Lib.hid (by rw [hw0]; exact WBox.new w t)
  have HB : Hid (Below w.heap.size w w0) := Lib.hid (by rw [hw0]; exact below_lit w _ _)
  have HW := Lib.hid hw0
  clear hw0
  obtain ⟨c0, c1, c2, c3, c4, c5, c6, c7, c8, c9, c10⟩ := HX.out.cells
  cases q0 : inB t.ser 1 1099511627776
  case false =>
    have Q0 := Lib.hid q0
    clear q0
    have hb : b = false := by rw [← HV.out, hbB, Q0.out]; try rfl
    subst hb
    go_enter Tryd.func47, Tryd.ntmps47
    go_wp2_with (go_at_call 48; refine (pwithin_any _ _ _ _ (by first | exact Q0.out) _).mono ?_; rintro e w1 ⟨rfl, rfl⟩)
    go_ret
    refine ⟨rfl, ?_⟩
    rw [← HW.out]
    exact HB.out
  case true =>
    have Q0 := Lib.hid q0
    clear q0
    cases q1 : inB t.cls 1 2
    case false =>
      have Q1 := Lib.hid q1
      clear q1
      have hb : b = false := by rw [← HV.out, hbB, Q0.out, Q1.out]; try rfl
      subst hb
      go_enter Tryd.func47, Tryd.ntmps47
      go_wp2_with (go_at_call 48; refine (pwithin_any _ _ _ _ (by first | exact Q0.out | exact Q1.out) _).mono ?_; rintro e w1 ⟨rfl, rfl⟩)
      go_ret
      refine ⟨rfl, ?_⟩
      rw [← HW.out]
      exact HB.out
    case true =>
      have Q1 := Lib.hid q1
      clear q1
      cases q2 : inB t.card 0 3
      case false =>
        have Q2 := Lib.hid q2
        clear q2
        have hb : b = false := by rw [← HV.out, hbB, Q0.out, Q1.out, Q2.out]; try rfl
        subst hb
        go_enter Tryd.func47, Tryd.ntmps47
        go_wp2_with (go_at_call 48; refine (pwithin_any _ _ _ _ (by first | exact Q0.out | exact Q1.out | exact Q2.out) _).mono ?_; rintro e w1 ⟨rfl, rfl⟩)
        go_ret
        refine ⟨rfl, ?_⟩
        rw [← HW.out]
        exact HB.out
      case true =>
        have Q2 := Lib.hid q2
        clear q2
        cases q3 : inB t.seat 0 999
        case false =>
          have Q3 := Lib.hid q3
          clear q3
          have hb : b = false := by rw [← HV.out, hbB, Q0.out, Q1.out, Q2.out, Q3.out]; try rfl
          subst hb
          go_enter Tryd.func47, Tryd.ntmps47
          go_wp2_with (go_at_call 48; refine (pwithin_any _ _ _ _ (by first | exact Q0.out | exact Q1.out | exact Q2.out | exact Q3.out) _).mono ?_; rintro e w1 ⟨rfl, rfl⟩)
          go_ret
          refine ⟨rfl, ?_⟩
          rw [← HW.out]
          exact HB.out
        case true =>
          have Q3 := Lib.hid q3
          clear q3
          cases q4 : inB t.day 0 99999
          case false =>
            have Q4 := Lib.hid q4
            clear q4
            have hb : b = false := by rw [← HV.out, hbB, Q0.out, Q1.out, Q2.out, Q3.out, Q4.out]; try rfl
            subst hb
            go_enter Tryd.func47, Tryd.ntmps47
            go_wp2_with (go_at_call 48; refine (pwithin_any _ _ _ _ (by first | exact Q0.out | exact Q1.out | exact Q2.out | exact Q3.out | exact Q4.out) _).mono ?_; rintro e w1 ⟨rfl, rfl⟩)
            go_ret
            refine ⟨rfl, ?_⟩
            rw [← HW.out]
            exact HB.out
          case true =>
            have Q4 := Lib.hid q4
            clear q4
            cases q5 : inB t.days 1 999
            case false =>
              have Q5 := Lib.hid q5
              clear q5
              have hb : b = false := by rw [← HV.out, hbB, Q0.out, Q1.out, Q2.out, Q3.out, Q4.out, Q5.out]; try rfl
              subst hb
              go_enter Tryd.func47, Tryd.ntmps47
              go_wp2_with (go_at_call 48; refine (pwithin_any _ _ _ _ (by first | exact Q0.out | exact Q1.out | exact Q2.out | exact Q3.out | exact Q4.out | exact Q5.out) _).mono ?_; rintro e w1 ⟨rfl, rfl⟩)
              go_ret
              refine ⟨rfl, ?_⟩
              rw [← HW.out]
              exact HB.out
            case true =>
              have Q5 := Lib.hid q5
              clear q5
              have h4 := inB_iff.1 Q4.out
              have h5 := inB_iff.1 Q5.out
              have v1 : IntKind.i64.wrap (t.day + t.days) = t.day + t.days := IntWalk.i64_in _ (by omega)
              have v2 : IntKind.i64.wrap (t.day + t.days - 1) = t.day + t.days - 1 := IntWalk.i64_in _ (by omega)
              clear h4 h5
              cases q6 : decide (t.day + t.days - 1 ≤ 99999)
              case false =>
                have Q6 := Lib.hid q6
                have hb : b = false := by rw [← HV.out, hbB, Q0.out, Q1.out, Q2.out, Q3.out, Q4.out, Q5.out, Q6.out]; try rfl
                subst hb
                go_enter Tryd.func47, Tryd.ntmps47
                go_wp2_with (go_at_call 48; refine (pwithin_any _ _ _ _ (by first | exact Q0.out | exact Q1.out | exact Q2.out | exact Q3.out | exact Q4.out | exact Q5.out) _).mono ?_; rintro e w1 ⟨rfl, rfl⟩)
                go_ret
                refine ⟨rfl, ?_⟩
                rw [← HW.out]
                exact HB.out
              case true =>
                have Q6 := Lib.hid q6
                cases q7 : inB t.epoch 0 9
                case false =>
                  have Q7 := Lib.hid q7
                  clear q7
                  have hb : b = false := by rw [← HV.out, hbB, Q0.out, Q1.out, Q2.out, Q3.out, Q4.out, Q5.out, Q6.out, Q7.out]; try rfl
                  subst hb
                  go_enter Tryd.func47, Tryd.ntmps47
                  go_wp2_with (go_at_call 48; refine (pwithin_any _ _ _ _ (by first | exact Q0.out | exact Q1.out | exact Q2.out | exact Q3.out | exact Q4.out | exact Q5.out | exact Q7.out) _).mono ?_; rintro e w1 ⟨rfl, rfl⟩)
                  go_ret
                  refine ⟨rfl, ?_⟩
                  rw [← HW.out]
                  exact HB.out
                case true =>
                  have Q7 := Lib.hid q7
                  clear q7
                  have hb : b = true := by rw [← HV.out, hbB, Q0.out, Q1.out, Q2.out, Q3.out, Q4.out, Q5.out, Q6.out, Q7.out]; try rfl
                  subst hb
                  go_enter Tryd.func47, Tryd.ntmps47
                  go_wp2_with (go_at_call 48; refine (pwithin_any _ _ _ _ (by first | exact Q0.out | exact Q1.out | exact Q2.out | exact Q3.out | exact Q4.out | exact Q5.out | exact Q7.out) _).mono ?_; rintro e w1 ⟨rfl, rfl⟩)
                  go_ret
                  refine ⟨rfl, ?_⟩
                  rw [← HW.out]
                  exact HB.out
end Go.Proofs.YtaokhkbfiplfmaaDoor
end
section
namespace Go.Proofs.YtaokhkbfiplfmaaDoor
set_option linter.unusedVariables false
open Go.ChangeShapes Go.WideShapes Go.ChangeAt Go.RowKit


theorem bcell {W w1 : World} (hb : Below W.heap.size W w1) : (∀ b o, b < W.heap.size → w1.cell? ⟨b, o, none⟩ = W.cell? ⟨b, o, none⟩) ∧ (∀ b o, b < W.heap.size → w1.frozen? ⟨b, o, none⟩ = W.frozen? ⟨b, o, none⟩) :=
  ⟨fun b o h => hb.cell (p := ⟨b, o, none⟩) h, fun b o h => hb.frozen (p := ⟨b, o, none⟩) h⟩
theorem okT_bounds (t : Tk) : okT t = (hbB t && (inB t.kind 1 4 && (placeB t && usesB t))) := by
  rw [Bool.eq_iff_iff, okT_iff, numsB_iff, daysB_iff]
  simp only [hbB, Bool.and_eq_true, inB_iff, decide_eq_true_eq]
  constructor
  · rintro ⟨h1, h2, h3, h4⟩; exact ⟨by omega, by omega, h3, h4⟩
  · rintro ⟨h1, h2, h3, h4⟩; exact ⟨by omega, by omega, h3, h4⟩
theorem no_of {a b c o : Bool} {P : Prop} (e : o = (a && (b && c))) (h : o = false) (h1 : a = false → P) (h2 : a = true → b = false → P) (h3 : a = true → b = true → c = false → P) : P := by
  cases a
  · exact h1 rfl
  · cases b
    · exact h2 rfl rfl
    · cases c
      · exact h3 rfl rfl rfl
      · rw [h] at e; cases e
theorem infoKd : (Tryd.prog.info? 77).map (·.size) = some 5 := by kernel_rfl
theorem kd_one (x y : Int) (a b c : Value) (ha : a.oneCell' = true) (hb : b.oneCell' = true) (hc : c.oneCell' = true) : (#[Value.int .i64 x, Value.int .i64 y, a, b, c] : Array Value).all (·.oneCell') = true := by
  rw [Array.all_eq_true_iff_forall_mem]
  intro u hu
  simp at hu
  rcases hu with rfl | rfl | rfl | rfl | rfl
  · rfl
  · rfl
  · exact ha
  · exact hb
  · exact hc
theorem okT_1 {t : Tk} (hk : t.kind = 1) : okT t = (hbB t && (inB t.uses 1 1 && wayB t)) := by
  have e1 : inB t.kind 1 4 = true := by rw [inB_iff]; omega
  have e2 : placeB t = wayB t := by rw [placeB, if_neg (by omega)]; rfl
  have e3 : usesB t = inB t.uses 1 1 := by
    rw [Bool.eq_iff_iff, inB_iff, usesB]
    rw [hk]
    simp
    try omega
  rw [okT_bounds, e1, e2, e3, Bool.true_and, Bool.and_comm (wayB t)]
theorem okT_2 {t : Tk} (hk : t.kind = 2) : okT t = (hbB t && (inB t.uses 2 2 && wayB t)) := by
  have e1 : inB t.kind 1 4 = true := by rw [inB_iff]; omega
  have e2 : placeB t = wayB t := by rw [placeB, if_neg (by omega)]; rfl
  have e3 : usesB t = inB t.uses 2 2 := by
    rw [Bool.eq_iff_iff, inB_iff, usesB]
    rw [hk]
    simp
    try omega
  rw [okT_bounds, e1, e2, e3, Bool.true_and, Bool.and_comm (wayB t)]
theorem okT_3 {t : Tk} (hk : t.kind = 3) : okT t = (hbB t && (inB t.uses 0 0 && zonesB t)) := by
  have e1 : inB t.kind 1 4 = true := by rw [inB_iff]; omega
  have e2 : placeB t = zonesB t := by rw [placeB, if_pos hk]; rfl
  have e3 : usesB t = inB t.uses 0 0 := by
    rw [Bool.eq_iff_iff, inB_iff, usesB]
    rw [hk]
    simp
    try omega
  rw [okT_bounds, e1, e2, e3, Bool.true_and, Bool.and_comm (zonesB t)]
theorem okT_4 {t : Tk} (hk : t.kind = 4) : okT t = (hbB t && (inB t.uses 2 20 && wayB t)) := by
  have e1 : inB t.kind 1 4 = true := by rw [inB_iff]; omega
  have e2 : placeB t = wayB t := by rw [placeB, if_neg (by omega)]; rfl
  have e3 : usesB t = inB t.uses 2 20 := by
    rw [Bool.eq_iff_iff, inB_iff, usesB]
    rw [hk]
    simp
    try omega
  rw [okT_bounds, e1, e2, e3, Bool.true_and, Bool.and_comm (wayB t)]
end Go.Proofs.YtaokhkbfiplfmaaDoor
end
section
namespace Go.Proofs.YtaokhkbfiplfmaaDoor
set_option linter.unusedVariables false
open Go.ChangeShapes Go.WideShapes Go.ChangeAt Go.RowKit

set_option maxRecDepth 100000 in
set_option maxHeartbeats 1600000 in
theorem ptell_any (a b v : Int) (hv : (if b ≠ 0 then 3 else if a ≠ 0 then 2 else 1) = v) (X : Nat) (w : World) (c0 : w.cell? ⟨X, 0, none⟩ = some (.int .i64 a)) (c1 : w.cell? ⟨X, 1, none⟩ = some (.int .i64 b)) : Calls Tryd.prog 18 #[.slice (some ⟨X, 0, none⟩) 2 2] w fun e w' => e = .returned (.int .i64 v) ∧ w = w' := by
  have C0 := Lib.hid c0
  have C1 := Lib.hid c1
  clear c0 c1
  cases hx : (a != 0) <;> cases hy : (b != 0)
  all_goals
    simp only [ne_eq, ← bne_iff_ne, hx, hy, if_true, if_false, Bool.false_eq_true] at hv
    subst hv
    go_enter Tryd.func18, Tryd.ntmps18
    go_wp2
    go_loopw [3, 8] (fun l i wr => ((i = .int .i64 0 ∧ l = .int .i64 1) ∨ (i = .int .i64 1 ∧ l = .int .i64 (if (a != 0) = true then 2 else 1)) ∨ (i = .int .i64 2 ∧ l = .int .i64 (if (b != 0) = true then 3 else if (a != 0) = true then 2 else 1))) ∧ w = wr) (fun l i _ => (2 - intOf i).toNat)
    case atStart => exact ⟨.inl ⟨rfl, rfl⟩, rfl⟩
    case round =>
      obtain ⟨h, rfl⟩ := hrel
      have c0 := C0.out
      have c1 := C1.out
      rw [hx, hy] at h
      rcases h with ⟨rfl, rfl⟩ | ⟨rfl, rfl⟩ | ⟨rfl, rfl⟩
      · go_wp2
        go_roundw
        case rel => first | exact ⟨.inr (.inl ⟨rfl, by rw [hx]; rfl⟩), rfl⟩ | simp [hx, hy]
        case measure => simp [intOf]
      · go_wp2
        go_roundw
        case rel => first | exact ⟨.inr (.inr ⟨rfl, by rw [hx, hy]; rfl⟩), rfl⟩ | simp [hx, hy]
        case measure => simp [intOf]
      · go_wp2
        go_ret
        exact ⟨rfl, rfl⟩
end Go.Proofs.YtaokhkbfiplfmaaDoor
end
