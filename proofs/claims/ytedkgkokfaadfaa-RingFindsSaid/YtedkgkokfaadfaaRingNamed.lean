/-
  The contracts of layer 5's reference under names, for the laws. Conditions: none of its own.
-/
import Derived.Test.YtedkgkokfaadfaaRingedAny
namespace Go.Proofs.Ytedkgkokfaadfaa
set_option linter.unusedVariables false
open Go.ChangeShapes Go.WideShapes Go.ChangeAt Go.RowKit

theorem refbig_named (l : List K) (n : Nat) (hn : n = l.length) (b : Bool) (hb : bigR l = b) (A : Option Addr) (c : Nat) (w : World) (hA : Ks w w.heap.size A l) (h1 : n ≤ 9223372036854775807) :
    Calls Try.prog 8 #[.slice A n c] w fun e w' => e = .returned (.bool b) ∧ Below w.heap.size w w' := by
  subst hb
  exact refbig_any l n hn A c _ w hA h1
/-- A box that was just made of an argument. -/
theorem box_lit (w : World) (q : KV) (h : Bs w w.heap.size q.k.sec q.S q.c) : Box (w.alloc (.cells #[.int .i64 q.k.id, .slice q.S q.k.sec.length q.c, .int .i64 q.k.frm, .int .i64 q.k.til] 26)) w.heap.size q ∧
    Below w.heap.size w (w.alloc (.cells #[.int .i64 q.k.id, .slice q.S q.k.sec.length q.c, .int .i64 q.k.frm, .int .i64 q.k.til] 26)) :=
  ⟨⟨heap_alloc_new w _, by simp, h.next (below_lit w _ _)⟩, below_lit w _ _⟩
theorem samek_named (a : K) (n : Nat) (hn : n = a.sec.length) (S S' : Option Addr) (c c' : Nat) (w : World) (h : Bs w w.heap.size a.sec S c) (h' : Bs w w.heap.size a.sec S' c') :
    Calls Try.prog 14 #[.agg #[.int .i64 a.id, .slice S n c, .int .i64 a.frm, .int .i64 a.til], .agg #[.int .i64 a.id, .slice S' n c', .int .i64 a.frm, .int .i64 a.til]] w fun e w' => e = .returned (.bool true) ∧ Below w.heap.size w w' :=
  refsame_key a n hn S S' c c' w.heap.size w h.rd h'.rd (by have := h.len; have := h.cap; omega) (Nat.le_refl _)
end Go.Proofs.Ytedkgkokfaadfaa
