/-
  Rows of bytes and of ints: what a call owns, as a slice that reads; literals. No program of its own; conditions: none.
-/
import Derived.Test.YtpeccmcojocgkaaMem
import Derived.Test.YtpeccmcojocgkaaBsRow
import Derived.Test.YtpeccmcojocgkaaInts
import Derived.Test.YtpeccmcojocgkaaBcdMath
namespace Go.Proofs.Ytpeccmcojocgkaa
set_option linter.unusedVariables false
open Go.ChangeShapes Go.WideShapes Go.ChangeAt Go.RowKit

theorem bs_own {w : World} {base n c : Nat} {A : Option Addr} {s : List Nat} (h : w.ownsRow base 5 1 (.slice A n c) n (U8 s)) (hs : ∀ x ∈ s, x < 256) : Bs w w.heap.size s A c := by
  obtain ⟨A', c', e, hz⟩ := bs_of_own h hs
  cases e
  exact hz
theorem bs_nil (w : World) : Bs w w.heap.size [] none 0 := ⟨by intro j u hu; simp [U8] at hu, fun _ => rfl, by simp, by omega, by simp⟩
theorem zs_own {w : World} {base n c : Nat} {A : Option Addr} {l : List Int} (h : w.ownsRow base 3 1 (.slice A n c) n (I64 l)) : Zs w w.heap.size l A c := by
  obtain ⟨A', c', e, _, hz⟩ := zs_of_own h
  cases e
  exact hz
theorem zs_nil (w : World) : Zs w w.heap.size [] none 0 := ⟨by intro j u hu; simp [I64] at hu, fun _ => rfl, by simp, by omega⟩
theorem bs_lit (w : World) (cs : Array Value) (s : List Nat) (n : Nat) (h : cs.toList = U8 s) (hn : n = s.length) (h1 : n ≤ 1000) (h2 : ∀ x ∈ s, x < 256) : Bs (w.alloc (.cells cs 5)) (w.alloc (.cells cs 5)).heap.size s (some ⟨w.heap.size, 0, none⟩) n :=
  ⟨by rw [← h]; exact rd_lit w cs _, by simp, by omega, by omega, h2⟩
theorem int_lit (w : World) (x : Int) : ∀ j u, (I64 [x])[j]? = some u → (w.alloc (.cells #[.int .i64 x] 3)).cell? ((⟨w.heap.size, 0, none⟩ : Addr).add j) = some u := by
  intro j u hu
  obtain ⟨ad, e, _, hc⟩ := rd_lit w #[.int .i64 x] 3 j u hu
  cases e
  exact hc
end Go.Proofs.Ytpeccmcojocgkaa
