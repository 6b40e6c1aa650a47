/-
  Rows of ints that are no less than 0: how a slice reads as such a row; what a call owns. No program of its own; conditions: none.
-/
import Derived.Test.YtmcdidbcfhgijaaMem
namespace Go.Proofs.Ytmcdidbcfhgijaa
set_option linter.unusedVariables false
open Go.ChangeShapes Go.WideShapes Go.ChangeAt Go.RowKit

theorem infoI64 : (Try.prog.info? 3).map (fun i => (i.zero, i.size, i.bytes)) = some (some (.int .i64 0), 1, 8) := by kernel_rfl
def N64 (l : List Nat) : List Value := l.map fun x : Nat => Value.int .i64 (x : Int)
theorem N64_len (l : List Nat) : (N64 l).length = l.length := by simp [N64]
theorem N64_append (a b : List Nat) : N64 (a ++ b) = N64 a ++ N64 b := by simp [N64]
theorem N64_at {l : List Nat} {k x : Nat} (h : l[k]? = some x) : (N64 l)[k]? = some (.int .i64 (x : Int)) := by simp [N64, h]
theorem N64_one (l : List Nat) : ∀ u ∈ N64 l, u.oneCell' = true := by
  intro u hu
  simp only [N64, List.mem_map] at hu
  obtain ⟨x, _, rfl⟩ := hu
  rfl
/-- A slice value that reads as ints. -/
structure Ns (w : World) (B : Nat) (l : List Nat) (A : Option Addr) (c : Nat) : Prop where
  rd : Rd w B A (N64 l)
  nil : A = none → c = 0
  len : l.length ≤ c
  cap : c ≤ 9223372036854775807
theorem Ns.next {w w' : World} {l : List Nat} {A : Option Addr} {c : Nat} (h : Ns w w.heap.size l A c) (hb : Below w.heap.size w w') : Ns w' w'.heap.size l A c := ⟨h.rd.next hb, h.nil, h.len, h.cap⟩
theorem Ns.drew {w : World} {l : List Nat} {A : Option Addr} {c : Nat} (h : Ns w w.heap.size l A c) (q : Nat) : Ns (w.drewN q) (w.drewN q).heap.size l A c := h.next (below_drewN (Below.refl _ _) q)
theorem ns_of_own {w : World} {base n : Nat} {v : Value} {l : List Nat} (h : w.ownsRow base 3 1 v n (N64 l)) : ∃ A c, v = .slice A n c ∧ n = l.length ∧ Ns w w.heap.size l A c := by
  have hn : l.length = n := by have := h.1; simpa [N64] using this
  rcases h.2 with ⟨rfl, h0⟩ | ⟨g, cap, cur, rfl, _, _, h2, h3, _⟩
  · subst h0
    have : l = [] := List.eq_nil_of_length_eq_zero hn
    subst this
    exact ⟨none, 0, rfl, rfl, ⟨by intro k u hu; simp [N64] at hu, fun _ => rfl, by simp, by omega⟩⟩
  · unfold maxLen at h3
    exact ⟨_, cap, rfl, hn.symm, ⟨Rd.of_own h, by simp, by omega, h3⟩⟩
theorem Ns.at {w : World} {B : Nat} {l : List Nat} {A : Option Addr} {c k x : Nat} (h : Ns w B l A c) (hx : l[k]? = some x) : ∃ ad, A = some ad ∧ ad.block < B ∧ w.cell? (ad.add k) = some (.int .i64 (x : Int)) := h.rd k _ (N64_at hx)
theorem int_lit (w : World) (x : Int) : ∀ j u, ([.int .i64 x] : List Value)[j]? = some u → (w.alloc (.cells #[.int .i64 x] 3)).cell? ((⟨w.heap.size, 0, none⟩ : Addr).add j) = some u := by
  intro j u hu
  rw [at_add, cell_of_row _ _ j _ 3 (0, 0) (heap_alloc_new w _)]
  simpa using hu
theorem int_one (x : Int) : ∀ u ∈ ([.int .i64 x] : List Value), u.oneCell' = true := by
  intro u hu
  simp at hu
  subst hu
  rfl
end Go.Proofs.Ytmcdidbcfhgijaa
