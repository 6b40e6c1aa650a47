/-
  Contract for the reference's at. Conditions: the slice reads as bits; five of them are there.
-/
import Derived.Test.YtjlcaobffhihhaaTrackVals
import Derived.Test.YtjlcaobffhihhaaParityRefOf
import Derived.Deep.RegionHeld3
namespace Go.Proofs.Ytjlcaobffhihhaa
set_option linter.unusedVariables false
open Go.ChangeShapes Go.WideShapes Go.ChangeAt Go.RowKit

theorem ch_of {l : List Bool} {i : Nat} (h : i + 5 ≤ l.length) : ∃ b : B5, l[i]? = some b.b0 ∧ l[i + 1]? = some b.b1 ∧ l[i + 2]? = some b.b2 ∧ l[i + 3]? = some b.b3 ∧ l[i + 4]? = some b.b4 ∧ ofB b = ((chAt l i : Nat) : Int) := by
  obtain ⟨b0, h0⟩ : ∃ b, l[i]? = some b := ⟨_, List.getElem?_eq_getElem (by omega)⟩
  obtain ⟨b1, h1⟩ : ∃ b, l[i + 1]? = some b := ⟨_, List.getElem?_eq_getElem (by omega)⟩
  obtain ⟨b2, h2⟩ : ∃ b, l[i + 2]? = some b := ⟨_, List.getElem?_eq_getElem (by omega)⟩
  obtain ⟨b3, h3⟩ : ∃ b, l[i + 3]? = some b := ⟨_, List.getElem?_eq_getElem (by omega)⟩
  obtain ⟨b4, h4⟩ : ∃ b, l[i + 4]? = some b := ⟨_, List.getElem?_eq_getElem (by omega)⟩
  refine ⟨⟨b0, b1, b2, b3, b4⟩, h0, h1, h2, h3, h4, ?_⟩
  simp only [chAt, List.getD_eq_getElem?_getD, h0, h1, h2, h3, h4, Option.getD_some, ofB]
  cases b0 <;> cases b1 <;> cases b2 <;> cases b3 <;> cases b4 <;> rfl
set_option maxRecDepth 100000 in
set_option maxHeartbeats 1600000 in
theorem refat_any (l : List Bool) (n : Nat) (hn : n = l.length) (hn2 : n ≤ 10000) (i : Nat) (hi : i + 5 ≤ n) (v : Nat) (hv : chAt l i = v) (A : Option Addr) (c : Nat) (w : World) (hA : Vs w w.heap.size l A c) : Calls Try.prog 30 #[.slice A n c, .int .i64 (i : Int)] w fun e w' => e = .returned (.int .i64 (v : Int)) ∧ Below w.heap.size w w' := by
  obtain ⟨b, h0, h1, h2, h3, h4, hof⟩ := ch_of (l := l) (i := i) (by rw [← hn]; exact hi)
  obtain ⟨ad, rfl, hadl, c0⟩ := hA.at h0
  have c1 := hA.cells _ _ (BL_at h1)
  have c2 := hA.cells _ _ (BL_at h2)
  have c3 := hA.cells _ _ (BL_at h3)
  have c4 := hA.cells _ _ (BL_at h4)
  rw [hv] at hof
  have HOF := Lib.hid hof
  have HAD := Lib.hid hadl
  obtain ⟨i0, hi0⟩ : ∃ i0, i = i0 := ⟨_, rfl⟩
  obtain ⟨i1, hi1⟩ : ∃ i1, i + 1 = i1 := ⟨_, rfl⟩
  obtain ⟨i2, hi2⟩ : ∃ i2, i + 2 = i2 := ⟨_, rfl⟩
  obtain ⟨i3, hi3⟩ : ∃ i3, i + 3 = i3 := ⟨_, rfl⟩
  obtain ⟨i4, hi4⟩ : ∃ i4, i + 4 = i4 := ⟨_, rfl⟩
  rw [hi0] at c0
  rw [hi1] at c1
  rw [hi2] at c2
  rw [hi3] at c3
  rw [hi4] at c4
  have k1 : (i0 : Int) + 1 = (i1 : Int) := by omega
  have k2 : (i0 : Int) + 2 = (i2 : Int) := by omega
  have k3 : (i0 : Int) + 3 = (i3 : Int) := by omega
  have k4 : (i0 : Int) + 4 = (i4 : Int) := by omega
  have b0 : (0 : Int) ≤ (i0 : Int) := by omega
  have b1 : (i0 : Int) < (n : Int) := by omega
  have b2 : (i1 : Int) < (n : Int) := by omega
  have b3 : (i2 : Int) < (n : Int) := by omega
  have b4 : (i3 : Int) < (n : Int) := by omega
  have b5 : (i4 : Int) < (n : Int) := by omega
  have z1 : (0 : Int) ≤ (i1 : Int) := by omega
  have z2 : (0 : Int) ≤ (i2 : Int) := by omega
  have z3 : (0 : Int) ≤ (i3 : Int) := by omega
  have z4 : (0 : Int) ≤ (i4 : Int) := by omega
  have w1 : IntKind.i64.wrap (i1 : Int) = (i1 : Int) := IntWalk.i64_in _ (by omega)
  have w2 : IntKind.i64.wrap (i2 : Int) = (i2 : Int) := IntWalk.i64_in _ (by omega)
  have w3 : IntKind.i64.wrap (i3 : Int) = (i3 : Int) := IntWalk.i64_in _ (by omega)
  have w4 : IntKind.i64.wrap (i4 : Int) = (i4 : Int) := IntWalk.i64_in _ (by omega)
  rw [hi0]
  clear h0 h1 h2 h3 h4 hof hA hn hv hadl hi hi0 hi1 hi2 hi3 hi4 hn2
  go_enter Try.func30, Try.ntmps30
  go_wp2
  go_region_held3 (fun w' => w'.cell? (ad.add i0) = some (.bool b.b0) ∧ w'.cell? (ad.add i1) = some (.bool b.b1) ∧ w'.cell? (ad.add i2) = some (.bool b.b2) ∧ w'.cell? (ad.add i3) = some (.bool b.b3) ∧ w'.cell? (ad.add i4) = some (.bool b.b4))
    (first | exact ⟨(hb8.cell (by rw [add_block]; exact HAD.out)).trans c0, (hb8.cell (by rw [add_block]; exact HAD.out)).trans c1, (hb8.cell (by rw [add_block]; exact HAD.out)).trans c2, (hb8.cell (by rw [add_block]; exact HAD.out)).trans c3, (hb8.cell (by rw [add_block]; exact HAD.out)).trans c4⟩ | go_keep)
    ((go_at_call 38; refine (refof_any b _ HOF.out _).mono ?_; rintro e w8 ⟨rfl, hb8⟩))
  go_wp2
  go_ret
  exact ⟨rfl, (Below.refl w.heap.size w).drew.trans hb8⟩
end Go.Proofs.Ytjlcaobffhihhaa
