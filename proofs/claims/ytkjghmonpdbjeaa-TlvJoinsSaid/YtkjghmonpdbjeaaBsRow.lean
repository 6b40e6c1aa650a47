/-
  A slice value that reads as bytes; what a call owns of them. No program of its own; conditions: none.
-/
import Derived.Test.YtkjghmonpdbjeaaMem
namespace Go.Proofs.Ytkjghmonpdbjeaa
set_option linter.unusedVariables false
open Go.ChangeShapes Go.WideShapes Go.ChangeAt Go.RowKit

/-- A slice value that reads as bytes: where it lies, and its capacity. -/
structure Bs (w : World) (B : Nat) (s : List Nat) (A : Option Addr) (c : Nat) : Prop where
  rd : Rd w B A (U8 s)
  nil : A = none → c = 0
  len : s.length ≤ c
  cap : c ≤ 9223372036854775807
  lt : ∀ x ∈ s, x < 256
theorem Bs.next {w w' : World} {s : List Nat} {A : Option Addr} {c : Nat} (h : Bs w w.heap.size s A c) (hb : Below w.heap.size w w') : Bs w' w'.heap.size s A c := ⟨h.rd.next hb, h.nil, h.len, h.cap, h.lt⟩
theorem Bs.below {w w' : World} {B : Nat} {s : List Nat} {A : Option Addr} {c : Nat} (h : Bs w B s A c) (hb : Below B w w') : Bs w' B s A c := ⟨h.rd.below hb, h.nil, h.len, h.cap, h.lt⟩
theorem Bs.more {w : World} {B B' : Nat} {s : List Nat} {A : Option Addr} {c : Nat} (h : Bs w B s A c) (hB : B ≤ B') : Bs w B' s A c := ⟨h.rd.more hB, h.nil, h.len, h.cap, h.lt⟩
theorem bs_of_own {w : World} {base n : Nat} {v : Value} {s : List Nat} (h : w.ownsRow base 5 1 v n (U8 s)) (hs : ∀ x ∈ s, x < 256) : ∃ A c, v = .slice A n c ∧ Bs w w.heap.size s A c := by
  have hn : s.length = n := by have := h.1; simpa [U8] using this
  rcases h.2 with ⟨rfl, h0⟩ | ⟨g, cap, cur, rfl, _, _, h2, h3, _⟩
  · subst h0
    have : s = [] := List.eq_nil_of_length_eq_zero hn
    subst this
    exact ⟨none, 0, rfl, ⟨by intro k u hu; simp [U8] at hu, fun _ => rfl, by simp, by omega, by simp⟩⟩
  · unfold maxLen at h3
    exact ⟨_, cap, rfl, ⟨Rd.of_own h, by simp, by omega, h3, hs⟩⟩
end Go.Proofs.Ytkjghmonpdbjeaa
