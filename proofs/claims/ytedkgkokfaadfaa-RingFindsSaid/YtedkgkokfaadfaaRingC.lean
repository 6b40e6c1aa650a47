/-
  What the laws of layer 5 want of the four functions of package ring: contracts, as one premise. Conditions: none.
-/
import Derived.Test.YtedkgkokfaadfaaRingAdd
import Derived.Test.YtedkgkokfaadfaaRingOn
import Derived.Test.YtedkgkokfaadfaaRingBig
import Derived.Test.YtedkgkokfaadfaaRingSames
import Derived.Test.YtedkgkokfaadfaaRingOpen
namespace Go.Proofs.Ytedkgkokfaadfaa
set_option linter.unusedVariables false
open Go.ChangeShapes Go.WideShapes Go.ChangeAt Go.RowKit

/-- A slice's length, capacity and address, as they can be. -/
def Sl (A : Option Addr) (n c : Nat) : Prop := n ≤ c ∧ c ≤ 9223372036854775807 ∧ (A = none → c = 0)
structure RC : Prop where
  is : ∀ (l : List K) (n : Nat) (b : Bool) (A : Option Addr) (c : Nat) (w : World), n = l.length → isR l = b → Sl A n c → Ks w w.heap.size A l →
    Calls Try.prog 15 #[.slice A n c] w fun e w' => e = .returned (.bool b) ∧ Below w.heap.size w w'
  find : ∀ (l : List K) (n : Nat) (id : Int) (A : Option Addr) (c : Nat) (w : World) (r : K) (E : Int), n = l.length → r = findK l id → E = findE l id → Sl A n c → Ks w w.heap.size A l →
    Calls Try.prog 9 #[.slice A n c, .int .i64 id] w fun e w' => ∃ S cc, e = .returned (.tuple #[.agg #[.int .i64 r.id, .slice S r.sec.length cc, .int .i64 r.frm, .int .i64 r.til], .int .i64 E]) ∧ Bs w' w'.heap.size r.sec S cc ∧ Below w.heap.size w w'
  on : ∀ (l : List K) (n : Nat) (day : Int) (A : Option Addr) (c : Nat) (w : World) (r : K) (E : Int), n = l.length → r = onK l day → E = onE l day → Sl A n c → Ks w w.heap.size A l →
    Calls Try.prog 11 #[.slice A n c, .int .i64 day] w fun e w' => ∃ S cc, e = .returned (.tuple #[.agg #[.int .i64 r.id, .slice S r.sec.length cc, .int .i64 r.frm, .int .i64 r.til], .int .i64 E]) ∧ Bs w' w'.heap.size r.sec S cc ∧ Below w.heap.size w w'
  add : ∀ (l : List K) (kv : KV) (n : Nat) (A : Option Addr) (c : Nat) (w : World) (R : List K) (E : Int) (m : Nat), n = l.length → R = addK l kv.k → E = addE l kv.k → m = R.length → Sl A n c → Ks w w.heap.size A l → Bs w w.heap.size kv.k.sec kv.S kv.c →
    Calls Try.prog 17 #[.slice A n c, .agg #[.int .i64 kv.k.id, .slice kv.S kv.k.sec.length kv.c, .int .i64 kv.k.frm, .int .i64 kv.k.til]] w fun e w' => ∃ A' c', e = .returned (.tuple #[.slice A' m c', .int .i64 E]) ∧ Ks w' w'.heap.size A' R ∧ Sl A' m c' ∧ Below w.heap.size w w'

/-- A key's box. -/
def Box (w : World) (b : Nat) (q : KV) : Prop := w.heap[b]? = some (.cells #[.int .i64 q.k.id, .slice q.S q.k.sec.length q.c, .int .i64 q.k.frm, .int .i64 q.k.til] 26 (0, 0)) ∧ b < w.heap.size ∧ Bs w w.heap.size q.k.sec q.S q.c
theorem Box.next {w w' : World} {b : Nat} {q : KV} (h : Box w b q) (hb : Below w.heap.size w w') : Box w' b q := ⟨(hb.block _ h.2.1).trans h.1, Nat.lt_of_lt_of_le h.2.1 hb.size, h.2.2.next hb⟩
/-- A box that was just made, and stored into. -/
theorem box_made {w1 w2 : World} {cc : Array Value} {q : KV} (h : w2 = (w1.alloc (.cells cc 26)).setRow w1.heap.size #[.int .i64 q.k.id, .slice q.S q.k.sec.length q.c, .int .i64 q.k.frm, .int .i64 q.k.til]) (hs : Bs w1 w1.heap.size q.k.sec q.S q.c) :
    Box w2 w1.heap.size q ∧ Below w1.heap.size w1 w2 := by
  have hb : Below w1.heap.size w1 w2 := by
    subst h
    exact below_setRow ((Below.refl _ _).alloc (Nat.le_refl _) _) (Nat.le_refl _) _
  refine ⟨⟨?_, ?_, hs.next hb⟩, hb⟩
  · subst h
    exact setRow_heap _ _ _ _ _ _ (heap_alloc_new w1 _)
  · subst h; simp
theorem heap_new2 (w : World) (o o' : Obj) : ((w.alloc o).alloc o').heap[w.heap.size + 1]? = some o' := by
  have := heap_alloc_new (w.alloc o) o'
  simpa using this
/-- A box behind a secret of one byte, both just made. -/
theorem box_made2 {w1 w2 : World} {cc : Array Value} (x : Nat) (hx : x < 256) (id f t : Int) (h : w2 = ((w1.alloc (.cells #[.int .u8 (x : Int)] 5)).alloc (.cells cc 26)).setRow (w1.heap.size + 1) #[.int .i64 id, .slice (some ⟨w1.heap.size, 0, none⟩) 1 1, .int .i64 f, .int .i64 t]) :
    Box w2 (w1.heap.size + 1) ⟨⟨id, [x], f, t⟩, some ⟨w1.heap.size, 0, none⟩, 1⟩ ∧ Below w1.heap.size w1 w2 := by
  have hb0 := below_lit w1 #[.int .u8 (x : Int)] 5
  have hs : (w1.alloc (.cells #[.int .u8 (x : Int)] 5)).heap.size = w1.heap.size + 1 := by simp
  have hr : Bs (w1.alloc (.cells #[.int .u8 (x : Int)] 5)) (w1.alloc (.cells #[.int .u8 (x : Int)] 5)).heap.size [x] (some ⟨w1.heap.size, 0, none⟩) 1 :=
    ⟨rd_lit w1 #[.int .u8 (x : Int)] 5, by simp, by simp, by omega, by simpa using hx⟩
  rw [← hs] at h ⊢
  have := box_made (q := ⟨⟨id, [x], f, t⟩, some ⟨w1.heap.size, 0, none⟩, 1⟩) h hr
  exact ⟨this.1, hb0.trans (this.2.mono hb0.size)⟩
/-- A list of keys that was just laid. -/
theorem ks_lit (w : World) (L : List KV) (cs : Array Value) (n : Nat) (hc : cs.toList = flatK L) (hn : L.length = n) (hn2 : n ≤ 1000) (hs : ∀ q ∈ L, Bs w w.heap.size q.k.sec q.S q.c) :
    Ks (w.alloc (.cells cs 26)) (w.alloc (.cells cs 26)).heap.size (some ⟨w.heap.size, 0, none⟩) (L.map (·.k)) := by
  have hsz : cs.size = n * 4 := by
    have := congrArg List.length hc
    rw [length_flatK, hn] at this
    simpa using this
  have hown := World.ownsRow_lit (e := 26) (base := w.heap.size) (size := 4) w cs n (Nat.le_refl _) (by unfold maxLen; omega) hsz
  rw [hc] at hown
  exact ks_of_own hown (fun q hq => (hs q hq).next (below_lit w _ _))
end Go.Proofs.Ytedkgkokfaadfaa
