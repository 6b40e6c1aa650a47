/-
  What laws over digests share: the contracts of padding, of the digest and of the reference's, said of a named answer; and how bytes that came in are opened where they may be nil. Conditions: at most 5000 bytes.
-/
import Derived.Test.YtdpijlkhcagfaaaDoorShaLaw
import Derived.Test.YtdpijlkhcagfaaaDoorSame
import Derived.Test.YtdpijlkhcagfaaaDoorShaRefSum
namespace Go.Proofs.YtdpijlkhcagfaaaDoor
set_option linter.unusedVariables false
open Go.ChangeShapes Go.WideShapes Go.ChangeAt Go.RowKit

theorem same_len (l : List Nat) (n : Nat) (hn : n = l.length) (A A' : Option Addr) (c c' B : Nat) (w : World) (hA : Rd w B A (U8 l)) (hA' : Rd w B A' (U8 l)) (hl : n ≤ maxLen) :
    Calls Tryd.prog 12 #[.slice A n c, .slice A' n c'] w fun e w' => e = .returned (.bool true) ∧ Below w.heap.size w w' := by
  subst hn; exact same_eq l A A' c c' B w hA hA' hl
theorem pad_rd (l : List Nat) (n : Nat) (hn : n = l.length) (A : Option Addr) (c : Nat) (w : World) (hA : Rd w w.heap.size A (U8 l)) (hnil : A = none → c = 0) (hl : n ≤ 140737488351232) :
    Calls Tryd.prog 11 #[.slice A n c] w fun e w' => ∃ A' cap, e = .returned (.slice A' (padN l).length cap) ∧ Rd w' w'.heap.size A' (U8 (padN l)) ∧ Below w.heap.size w w' := by
  refine (pad_len l n hn A c w hA hnil hl).mono ?_
  rintro e w' ⟨v, rfl, hown, hb⟩
  obtain ⟨A', cap, rfl, hr⟩ := own_shape hown
  exact ⟨A', cap, rfl, hr, hb⟩
theorem refpad_rd (l : List Nat) (n : Nat) (hn : n = l.length) (A : Option Addr) (c : Nat) (w : World) (hA : Rd w w.heap.size A (U8 l)) (hnil : A = none → c = 0) (hl : n ≤ 5000) :
    Calls Tryd.prog 45 #[.slice A n c] w fun e w' => ∃ A' cap, e = .returned (.slice A' (padN l).length cap) ∧ Rd w' w'.heap.size A' (U8 (padN l)) ∧ Below w.heap.size w w' := by
  subst hn
  refine (refpad_ok l A c w hA hnil hl).mono ?_
  rintro e w' ⟨v, rfl, hown, hb⟩
  obtain ⟨A', cap, rfl, hr⟩ := own_shape hown
  exact ⟨A', cap, rfl, hr, hb⟩

section
variable {H : Type} {enc : TypeId × Value → H} {P : Program}
theorem open_nil {W : World} {t e : TypeId} {k : IntKind} {d : DataW H} {ps : List MemPlace} {c n : Nat} (ht : P.underlying t = some (.slice e)) (he : P.underlying e = some (.int k)) (hc : P.cellsOf e = 1)
    (hd : DataW.Trod enc P W 0 (fun _ => true) true t (.slice none n c) d ps) : c = 0 := by
  obtain ⟨fuel, hf⟩ := hd
  rcases open_ints ht he hc hf with ⟨hcs, _⟩ | ⟨a, len', cap', zs, hcs, _⟩
  · simp [Value.cells] at hcs
    exact hcs.2
  · simp [Value.cells] at hcs
end

theorem sum_arr (l : List Nat) (FD : Array Value) (hF : Hid (FD = (U8 (digestN l)).toArray)) (n : Nat) (hn : n = l.length) (A : Option Addr) (c : Nat) (w : World) (hT : Tabs w) (hA : Rd w w.heap.size A (U8 l)) (hnil : A = none → c = 0) (hb : ∀ x ∈ l, x < 256) (hl : n ≤ 5000) :
    Calls Tryd.prog 15 #[.slice A n c] w fun e w' => e = .returned (.agg FD) ∧ Below w.heap.size w w' := by
  rw [hF.out]
  exact sum_len l n hn A c w hT hA hnil hb hl
theorem refsum_arr (l : List Nat) (FD : Array Value) (hF : Hid (FD = (U8 (digestN l)).toArray)) (n : Nat) (hn : n = l.length) (A : Option Addr) (c : Nat) (w : World) (hA : Rd w w.heap.size A (U8 l)) (hnil : A = none → c = 0) (hb : ∀ x ∈ l, x < 256) (hl : n ≤ 5000) :
    Calls Tryd.prog 35 #[.slice A n c] w fun e w' => e = .returned (.agg FD) ∧ Below w.heap.size w w' := by
  rw [hF.out]
  subst hn
  exact refsum_ok l A c w hA hnil hb hl
theorem length_digestN (l : List Nat) : (digestN l).length = 32 := by unfold digestN; rw [length_bytesOf]; rfl
theorem same_digest (l : List Nat) (FD : Array Value) (hF : FD = (U8 (digestN l)).toArray) (w : World) : (Op.equalIn 10000 36 (.agg FD) (.agg FD)).run Tryd.prog w = .ok true w := by
  have h := run_equalIn_same (P := Tryd.prog) w 9998 36 5 32 .u8 .u8 Tryd.underlying36 Tryd.underlying5 sizeRunU8 ((digestN l).map fun x : Nat => (x : Int)) (by rw [List.length_map, length_digestN])
  rw [List.map_map] at h
  rw [hF]
  exact h

end Go.Proofs.YtdpijlkhcagfaaaDoor
