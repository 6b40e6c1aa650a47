/-
  Contracts for the landed demand, character and value. Conditions: the reader lies in a box of its own, behind its bits.
-/
import Derived.Test.YtpniolinndlepaaGreatDoorTrackA
import Derived.Test.YtpniolinndlepaaGreatDoorParityP
import Derived.Test.YtpniolinndlepaaGreatDoorBase
import Derived.Laws.CopyOwn
import Derived.Deep.RegionHeld3
import Derived.Deep.RegionWith
import Derived.WalkLawsBesides
import Derived.Defers
import Derived.Recover
namespace Go.Proofs.YtpniolinndlepaaGreatDoor
set_option linter.unusedVariables false
open Go.ChangeShapes Go.WideShapes Go.ChangeAt Go.RowKit

/-- The panic of a number. -/
def told (E : Int) : List PanicEntry := [{ v := .iface 31 (.int .i64 E), recovered := false }]
theorem pdemand_ok (E : Int) (w : World) : Calls Tryz.prog 49 #[.bool true, .int .i64 E] w fun e w' => e = .returned (.tuple #[]) ∧ w' = w := by
  go_enter Tryz.func49, Tryz.ntmps49
  go_wp2
  first | (go_end0; exact ⟨rfl, rfl⟩) | (go_ret; exact ⟨rfl, rfl⟩)
theorem pdemand_no (E : Int) (w : World) : Calls Tryz.prog 49 #[.bool false, .int .i64 E] w fun e w' => e = .panicked (told E) ∧ w' = w := by
  go_enter Tryz.func49, Tryz.ntmps49
  go_wp2
  exact ⟨rfl, rfl, rfl⟩
/-- The reader in its box: the bits' slice, the place. -/
def KBox (w : World) (X : Nat) (a : Addr) (m c i : Nat) : Prop := w.heap[X]? = some (.cells #[.slice (some a) m c, .int .i64 (i : Int)] 71 (0, 0))
theorem KBox.lt {w : World} {X : Nat} {a : Addr} {m c i : Nat} (h : KBox w X a m c i) : X < w.heap.size := (Array.getElem?_eq_some_iff.1 h).1
theorem KBox.bits {w : World} {X : Nat} {a : Addr} {m c i : Nat} (h : KBox w X a m c i) : w.cell? ⟨X, 0, none⟩ = some (.slice (some a) m c) := cell_of_row w X 0 _ _ _ h
theorem KBox.at {w : World} {X : Nat} {a : Addr} {m c i : Nat} (h : KBox w X a m c i) : w.cell? ⟨X, 1, none⟩ = some (.int .i64 (i : Int)) := cell_of_row w X 1 _ _ _ h
theorem KBox.fz {w : World} {X : Nat} {a : Addr} {m c i : Nat} (h : KBox w X a m c i) (j : Nat) : w.frozen? ⟨X, j, none⟩ = false := frozen_of_row w X j _ _ h
theorem KBox.set {w : World} {X : Nat} {a : Addr} {m c i : Nat} (h : KBox w X a m c i) (j : Nat) : KBox (w.setCell ⟨X, 1, none⟩ (.int .i64 (j : Int))) X a m c j := heap_setCell_same w X 1 _ _ _ h
theorem KBox.grown {w w' : World} {X : Nat} {a : Addr} {m c i : Nat} {row : Option Nat} (h : KBox w X a m c i) (hg : w.grownBy w' row) (hne : some X ≠ row) : KBox w' X a m c i := (hg.block X h.lt hne).trans h
theorem KBox.next {w w' : World} {X : Nat} {a : Addr} {m c i : Nat} (h : KBox w X a m c i) (hb : Below w.heap.size w w') : KBox w' X a m c i := (hb.block X h.lt).trans h
theorem grown_below {w w' : World} (row : Option Nat) (h : Below w.heap.size w w') : w.grownBy w' row := ⟨h.os, h.tape, h.output, h.size, fun k hk _ => h.block k hk⟩
theorem grown_trans {w w' w'' : World} {row : Option Nat} (h : w.grownBy w' row) (h' : w'.grownBy w'' row) : w.grownBy w'' row := ⟨h'.os.trans h.os, h'.tape.trans h.tape, h'.output.trans h.output, Nat.le_trans h.size h'.size, fun k hk hne => (h'.block k (Nat.lt_of_lt_of_le hk h.size) hne).trans (h.block k hk hne)⟩
theorem Vs.grown {w w' : World} {X : Nat} {l : List Bool} {A : Option Addr} {c : Nat} (h : Vs w X l A c) (hX : X < w.heap.size) (hg : w.grownBy w' (some X)) : Vs w' X l A c := by
  refine ⟨fun k u hu => ?_, h.nil, h.len, h.cap⟩
  obtain ⟨ad, e, hlt, hc⟩ := h.rd k u hu
  refine ⟨ad, e, hlt, ?_⟩
  have hblk : w'.heap[(ad.add k).block]? = w.heap[(ad.add k).block]? := hg.block _ (by rw [add_block]; omega) (by rw [add_block]; simp; omega)
  exact (World.cell?_of_block hblk).trans hc
set_option linter.unusedVariables false
open Go.ChangeShapes Go.WideShapes Go.ChangeAt Go.RowKit

set_option maxRecDepth 100000 in
set_option maxHeartbeats 1600000 in
theorem pcharacter_no (l : List Bool) (m : Nat) (hm : m = l.length) (hm2 : m ≤ 10000) (i : Nat) (X : Nat) (a : Addr) (c : Nat) (w : World) (hK : KBox w X a m c i) (hV : Vs w X l (some a) c) (him : i ≤ m) (hi : m < i + 5) : Calls Tryz.prog 89 #[.pointer (some ⟨X, 0, none⟩)] w fun e w' => e = .panicked (told 5) ∧ w.grownBy w' (some X) := by
  have c0 := hK.bits
  have c1 := hK.at
  have hdec : decide ((5 : Int) ≤ (m : Int) - (i : Int)) = false := decide_eq_false (by omega)
  have hwr : IntKind.i64.wrap ((m : Int) - (i : Int)) = (m : Int) - (i : Int) := IntWalk.i64_in _ (by omega)
  have HK := Lib.hid hK
  clear hK hV hm
  go_enter Tryz.func89, Tryz.ntmps89
  go_wp2
  refine wp_region_held_drew (S := (fun w' => w'.cell? ⟨X, 0, none⟩ = some (.slice (some a) m c) ∧ w'.cell? ⟨X, 1, none⟩ = some (.int .i64 (i : Int)))) (by kernel_rfl) ⟨c0, c1⟩ (fun hHeld => ?_)
  refine wpAnyH_take (i := 0) (oi := ⟨some 4, _, _, _, _, _⟩) (v := ?_) rfl (by kernel_rfl) (by kernel_rfl) (by kernel_rfl) (fun _ _ _ h => h) (Or.inl ⟨by rfl, ?_⟩) hHeld ?_
  rotate_left
  · intro w hSw
    go_simp
    first | done | with_reducible rfl
  try simp only [Act.put, List.setIfInBounds_toArray, List.set_cons_zero, List.set_cons_succ]
  refine wpAnyH_take (i := 1) (oi := ⟨some 5, _, _, _, _, _⟩) (v := ?_) rfl (by kernel_rfl) (by kernel_rfl) (by kernel_rfl) (fun _ _ _ h => h) (Or.inl ⟨by rfl, ?_⟩) hHeld ?_
  rotate_left
  · intro w hSw
    go_simp
    first | done | with_reducible rfl
  try simp only [Act.put, List.setIfInBounds_toArray, List.set_cons_zero, List.set_cons_succ]
  refine wpAnyH_take (i := 2) (oi := ⟨some 6, _, _, _, _, _⟩) (v := ?_) rfl (by kernel_rfl) (by kernel_rfl) (by kernel_rfl) (fun _ _ _ h => h) (Or.inl ⟨by rfl, ?_⟩) hHeld ?_
  rotate_left
  · intro w hSw
    go_simp
    first | done | with_reducible rfl
  try simp only [Act.put, List.setIfInBounds_toArray, List.set_cons_zero, List.set_cons_succ]
  refine wpAnyH_take (i := 3) (oi := ⟨some 7, _, _, _, _, _⟩) (v := ?_) rfl (by kernel_rfl) (by kernel_rfl) (by kernel_rfl) (fun _ _ _ h => h) (Or.inl ⟨by rfl, ?_⟩) hHeld ?_
  rotate_left
  · intro w hSw
    obtain ⟨h0, h1⟩ := hSw
    go_simp
    first | done | with_reducible rfl
  try simp only [Act.put, List.setIfInBounds_toArray, List.set_cons_zero, List.set_cons_succ]
  refine wpAnyH_take (i := 4) (oi := ⟨some 8, _, _, _, _, _⟩) (v := ?_) rfl (by kernel_rfl) (by kernel_rfl) (by kernel_rfl) (fun _ _ _ h => h) (Or.inl ⟨by rfl, ?_⟩) hHeld ?_
  rotate_left
  · intro w hSw
    go_simp
    first | done | with_reducible rfl
  try simp only [Act.put, List.setIfInBounds_toArray, List.set_cons_zero, List.set_cons_succ]
  refine wpAnyH_take (i := 5) (oi := ⟨some 9, _, _, _, _, _⟩) (v := ?_) rfl (by kernel_rfl) (by kernel_rfl) (by kernel_rfl) (fun _ _ _ h => h) (Or.inl ⟨by rfl, ?_⟩) hHeld ?_
  rotate_left
  · intro w hSw
    go_simp
    first | done | with_reducible rfl
  try simp only [Act.put, List.setIfInBounds_toArray, List.set_cons_zero, List.set_cons_succ]
  refine wpAnyH_take (i := 6) (oi := ⟨some 10, _, _, _, _, _⟩) (v := ?_) rfl (by kernel_rfl) (by kernel_rfl) (by kernel_rfl) (fun _ _ _ h => h) (Or.inl ⟨by rfl, ?_⟩) hHeld ?_
  rotate_left
  · intro w hSw
    go_simp
    first | done | with_reducible rfl
  try simp only [Act.put, List.setIfInBounds_toArray, List.set_cons_zero, List.set_cons_succ]
  refine wpAnyH_take (i := 7) (oi := ⟨some 11, _, _, _, _, _⟩) (v := ?_) rfl (by kernel_rfl) (by kernel_rfl) (by kernel_rfl) (fun _ _ _ h => h) (Or.inl ⟨by rfl, ?_⟩) hHeld ?_
  rotate_left
  · intro w hSw
    go_simp
    first | done | with_reducible rfl
  try simp only [Act.put, List.setIfInBounds_toArray, List.set_cons_zero, List.set_cons_succ]
  refine wpAnyH_take (i := 8) (oi := ⟨some 12, _, _, _, _, _⟩) (v := ?_) rfl (by kernel_rfl) (by kernel_rfl) (by kernel_rfl) (fun _ _ _ h => h) (Or.inl ⟨by rfl, ?_⟩) hHeld ?_
  rotate_left
  · intro w hSw
    obtain ⟨h0, h1⟩ := hSw
    go_simp
    first | done | with_reducible rfl
  try simp only [Act.put, List.setIfInBounds_toArray, List.set_cons_zero, List.set_cons_succ]
  refine wpAnyH_take (i := 9) (oi := ⟨some 13, _, _, _, _, _⟩) (v := ?_) rfl (by kernel_rfl) (by kernel_rfl) (by kernel_rfl) (fun _ _ _ h => h) (Or.inl ⟨by rfl, ?_⟩) hHeld ?_
  rotate_left
  · intro w hSw
    go_simp
    first | done | with_reducible rfl
  try simp only [Act.put, List.setIfInBounds_toArray, List.set_cons_zero, List.set_cons_succ]
  refine wpAnyH_take (i := 10) (oi := ⟨some 14, _, _, _, _, _⟩) (v := ?_) rfl (by kernel_rfl) (by kernel_rfl) (by kernel_rfl) (fun _ _ _ h => h) (Or.inl ⟨by rfl, ?_⟩) hHeld ?_
  rotate_left
  · intro w hSw
    go_simp
    first | done | with_reducible rfl
  try simp only [Act.put, List.setIfInBounds_toArray, List.set_cons_zero, List.set_cons_succ]
  refine wpAnyH_ready (rs := [11]) (by kernel_rfl) (by simp) ?_
  refine AllReadyH.cons (o := ⟨some 15, .call _, _, _, _, _⟩) rfl (fun K hK => ?_) AllReadyH.nil
  go_simp
  go_at_call 49
  refine (pdemand_no 5 _).mono ?_
  rintro e w8 ⟨rfl, rfl⟩
  exact ⟨rfl, rfl, grown_below _ (Below.refl w.heap.size w).drew⟩
set_option linter.unusedVariables false
open Go.ChangeShapes Go.WideShapes Go.ChangeAt Go.RowKit

theorem src_rows {w : World} {B : Nat} {l : List Bool} {a : Addr} {c i : Nat} (h : Vs w B l (some a) c) (b : B5) (h0 : l[i]? = some b.b0) (h1 : l[i + 1]? = some b.b1) (h2 : l[i + 2]? = some b.b2) (h3 : l[i + 3]? = some b.b3) (h4 : l[i + 4]? = some b.b4) :
    ∀ j u, (BL (B5L b))[j]? = some u → w.cell? ((a.add i).add j) = some u := by
  intro j u hu
  rw [Addr.add_add]
  match j, hu with
  | 0, hu => cases hu; exact h.cells _ _ (BL_at h0)
  | 1, hu => cases hu; exact h.cells _ _ (BL_at h1)
  | 2, hu => cases hu; exact h.cells _ _ (BL_at h2)
  | 3, hu => cases hu; exact h.cells _ _ (BL_at h3)
  | 4, hu => cases hu; exact h.cells _ _ (BL_at h4)
  | j + 5, hu => simp [BL, B5L] at hu
set_option maxRecDepth 100000 in
set_option maxHeartbeats 1600000 in
theorem pcharacter_ok (l : List Bool) (m : Nat) (hm : m = l.length) (hm2 : m ≤ 10000) (i : Nat) (X : Nat) (a : Addr) (c : Nat) (w : World) (hK : KBox w X a m c i) (hV : Vs w X l (some a) c) (hi : i + 5 ≤ m) (ch : Nat) (hch : chAt l i = ch) : Calls Tryz.prog 89 #[.pointer (some ⟨X, 0, none⟩)] w fun e w' => e = .returned (.int .i64 (ch : Int)) ∧ KBox w' X a m c (i + 5) ∧ w.grownBy w' (some X) := by
  obtain ⟨b, h0, h1, h2, h3, h4, hof⟩ := ch_of (l := l) (i := i) (by rw [← hm]; exact hi)
  have c0 := hK.bits
  have c1 := hK.at
  have hdec : decide ((5 : Int) ≤ (m : Int) - (i : Int)) = true := decide_eq_true (by omega)
  have hwr : IntKind.i64.wrap ((m : Int) - (i : Int)) = (m : Int) - (i : Int) := IntWalk.i64_in _ (by omega)
  have hs := src_rows hV b h0 h1 h2 h3 h4
  rw [hch] at hof
  have HOF := Lib.hid hof
  have HK := Lib.hid hK
  have hmc : m ≤ c := by have := hV.len; omega
  have hVc := hV.cap
  have HS := Lib.hid hs
  clear h0 h1 h2 h3 h4 hof hch hm hV hs hK
  go_enter Tryz.func89, Tryz.ntmps89
  go_wp2
  refine wp_region_held_drew (S := (fun w' => w'.cell? ⟨X, 0, none⟩ = some (.slice (some a) m c) ∧ w'.cell? ⟨X, 1, none⟩ = some (.int .i64 (i : Int)))) (by kernel_rfl) ⟨c0, c1⟩ (fun hHeld => ?_)
  refine wpAnyH_take (i := 0) (oi := ⟨some 4, _, _, _, _, _⟩) (v := ?_) rfl (by kernel_rfl) (by kernel_rfl) (by kernel_rfl) (fun _ _ _ h => h) (Or.inl ⟨by rfl, ?_⟩) hHeld ?_
  rotate_left
  · intro w hSw
    go_simp
    first | done | with_reducible rfl
  try simp only [Act.put, List.setIfInBounds_toArray, List.set_cons_zero, List.set_cons_succ]
  refine wpAnyH_take (i := 1) (oi := ⟨some 5, _, _, _, _, _⟩) (v := ?_) rfl (by kernel_rfl) (by kernel_rfl) (by kernel_rfl) (fun _ _ _ h => h) (Or.inl ⟨by rfl, ?_⟩) hHeld ?_
  rotate_left
  · intro w hSw
    go_simp
    first | done | with_reducible rfl
  try simp only [Act.put, List.setIfInBounds_toArray, List.set_cons_zero, List.set_cons_succ]
  refine wpAnyH_take (i := 2) (oi := ⟨some 6, _, _, _, _, _⟩) (v := ?_) rfl (by kernel_rfl) (by kernel_rfl) (by kernel_rfl) (fun _ _ _ h => h) (Or.inl ⟨by rfl, ?_⟩) hHeld ?_
  rotate_left
  · intro w hSw
    go_simp
    first | done | with_reducible rfl
  try simp only [Act.put, List.setIfInBounds_toArray, List.set_cons_zero, List.set_cons_succ]
  refine wpAnyH_take (i := 3) (oi := ⟨some 7, _, _, _, _, _⟩) (v := ?_) rfl (by kernel_rfl) (by kernel_rfl) (by kernel_rfl) (fun _ _ _ h => h) (Or.inl ⟨by rfl, ?_⟩) hHeld ?_
  rotate_left
  · intro w hSw
    obtain ⟨h0, h1⟩ := hSw
    go_simp
    first | done | with_reducible rfl
  try simp only [Act.put, List.setIfInBounds_toArray, List.set_cons_zero, List.set_cons_succ]
  refine wpAnyH_take (i := 4) (oi := ⟨some 8, _, _, _, _, _⟩) (v := ?_) rfl (by kernel_rfl) (by kernel_rfl) (by kernel_rfl) (fun _ _ _ h => h) (Or.inl ⟨by rfl, ?_⟩) hHeld ?_
  rotate_left
  · intro w hSw
    go_simp
    first | done | with_reducible rfl
  try simp only [Act.put, List.setIfInBounds_toArray, List.set_cons_zero, List.set_cons_succ]
  refine wpAnyH_take (i := 5) (oi := ⟨some 9, _, _, _, _, _⟩) (v := ?_) rfl (by kernel_rfl) (by kernel_rfl) (by kernel_rfl) (fun _ _ _ h => h) (Or.inl ⟨by rfl, ?_⟩) hHeld ?_
  rotate_left
  · intro w hSw
    go_simp
    first | done | with_reducible rfl
  try simp only [Act.put, List.setIfInBounds_toArray, List.set_cons_zero, List.set_cons_succ]
  refine wpAnyH_take (i := 6) (oi := ⟨some 10, _, _, _, _, _⟩) (v := ?_) rfl (by kernel_rfl) (by kernel_rfl) (by kernel_rfl) (fun _ _ _ h => h) (Or.inl ⟨by rfl, ?_⟩) hHeld ?_
  rotate_left
  · intro w hSw
    go_simp
    first | done | with_reducible rfl
  try simp only [Act.put, List.setIfInBounds_toArray, List.set_cons_zero, List.set_cons_succ]
  refine wpAnyH_take (i := 7) (oi := ⟨some 11, _, _, _, _, _⟩) (v := ?_) rfl (by kernel_rfl) (by kernel_rfl) (by kernel_rfl) (fun _ _ _ h => h) (Or.inl ⟨by rfl, ?_⟩) hHeld ?_
  rotate_left
  · intro w hSw
    go_simp
    first | done | with_reducible rfl
  try simp only [Act.put, List.setIfInBounds_toArray, List.set_cons_zero, List.set_cons_succ]
  refine wpAnyH_take (i := 8) (oi := ⟨some 12, _, _, _, _, _⟩) (v := ?_) rfl (by kernel_rfl) (by kernel_rfl) (by kernel_rfl) (fun _ _ _ h => h) (Or.inl ⟨by rfl, ?_⟩) hHeld ?_
  rotate_left
  · intro w hSw
    obtain ⟨h0, h1⟩ := hSw
    go_simp
    first | done | with_reducible rfl
  try simp only [Act.put, List.setIfInBounds_toArray, List.set_cons_zero, List.set_cons_succ]
  refine wpAnyH_take (i := 9) (oi := ⟨some 13, _, _, _, _, _⟩) (v := ?_) rfl (by kernel_rfl) (by kernel_rfl) (by kernel_rfl) (fun _ _ _ h => h) (Or.inl ⟨by rfl, ?_⟩) hHeld ?_
  rotate_left
  · intro w hSw
    go_simp
    first | done | with_reducible rfl
  try simp only [Act.put, List.setIfInBounds_toArray, List.set_cons_zero, List.set_cons_succ]
  refine wpAnyH_take (i := 10) (oi := ⟨some 14, _, _, _, _, _⟩) (v := ?_) rfl (by kernel_rfl) (by kernel_rfl) (by kernel_rfl) (fun _ _ _ h => h) (Or.inl ⟨by rfl, ?_⟩) hHeld ?_
  rotate_left
  · intro w hSw
    go_simp
    first | done | with_reducible rfl
  try simp only [Act.put, List.setIfInBounds_toArray, List.set_cons_zero, List.set_cons_succ]
  refine wpAnyH_ready (rs := [11]) (by kernel_rfl) (by simp) ?_
  refine AllReadyH.cons (o := ⟨some 15, .call _, _, _, _, _⟩) rfl (fun K hK => ?_) AllReadyH.nil
  go_simp
  go_at_call 49
  refine (pdemand_ok 5 _).mono ?_
  rintro e w8 ⟨rfl, rfl⟩
  go_wp2_with fail
  refine hK.out _ _ ⟨c0, c1⟩ (fun hHeld => ?_)
  clear hK K
  try simp only [Act.put, List.setIfInBounds_toArray, List.set_cons_zero, List.set_cons_succ]
  refine wpAnyH_done (by kernel_rfl) ?_ _
  go_wp2
  obtain ⟨w2, hw2⟩ : ∃ w2, (w.alloc (.cells #[.bool false, .bool false, .bool false, .bool false, .bool false] 127)).drew = w2 := ⟨_, rfl⟩
  rw [hw2]
  have hb2 : Below w.heap.size w w2 := by rw [← hw2]; exact (below_lit w _ _).drew
  have hbx : BBox w2 w.heap.size noB := by rw [← hw2]; exact BBox.new w noB
  obtain ⟨Y, hY⟩ : ∃ Y, w.heap.size = Y := ⟨_, rfl⟩
  have hXY : X < Y := by rw [← hY]; exact HK.out.lt
  have hsrc : ∀ j u, (BL (B5L b))[j]? = some u → w2.cell? ((a.add i).add j) = some u := fun j u hu => (World.cell?_of_block (hb2.block _ (World.block_lt_of_cell? w _ (HS.out j u hu)))).trans (HS.out j u hu)
  have hk2 := HK.out.next hb2
  have d0 := hk2.bits
  have d1 := hk2.at
  rw [hY] at hbx hb2 ⊢
  have hne1 : ¬ Y = X := by omega
  have hne2 : ¬ X = Y := by omega
  have hi0 : (0 : Int) ≤ (i : Int) := by omega
  have hi1 : (i : Int) ≤ (m : Int) := by omega
  have hi2 : (i : Int) ≤ (c : Int) := by omega
  have hi3 : i ≤ c := by omega
  have hi4 : i ≤ m := by omega
  have hm1 : Nat.min (m - i) 5 = 5 := Nat.min_eq_right (by omega)
  clear hw2 c0 c1 HS hdec hwr
  have hci : ¬ c = i := by omega
  have KB : ∀ w', Below Y w w' → KBox w' X a m c i := fun w' h => HK.out.next (by rw [hY]; exact h)
  have wim : IntKind.i64.wrap (i : Int) = (i : Int) := IntWalk.i64_in _ (by omega)
  have ht1 : ((m : Int) - (i : Int)).toNat = m - i := by omega
  have ht2 : ((c : Int) - (i : Int)).toNat = c - i := by omega
  go_region_held3 (fun w' => w'.cell? ⟨X, 0, none⟩ = some (.slice (some a) m c) ∧ w'.cell? ⟨X, 1, none⟩ = some (.int .i64 (i : Int)))
    (first | exact ⟨d0, d1⟩ | exact ⟨(KB _ hb4).bits, (KB _ hb4).at⟩ | go_keep)
    ((refine step_copy_splice (by rfl) (.tmp 17) (.tmp 26) 67 67 (by rfl) 4 Tryz.underlying67 infoB1 _ _ 5 5 (m - i) (c - i) (by rfl) (by rfl) Y 0 [.bool false, .bool false, .bool false, .bool false, .bool false] 127 hbx (BL (B5L b)) hm1.symm (fun _ => ⟨rfl, _, rfl, hsrc⟩) (Nat.le_refl 5) (BL_one _) Y w (hb2.drew) (Nat.le_refl _) ?_; intro w4 hg4 hb4))
  have hbx4 : BBox w4 Y b := hg4.out
  have hk4 := KB _ hb4
  have e0 := hk4.bits
  have e1 := hk4.at
  have ez := hk4.fz
  have wi5 : IntKind.i64.wrap ((i : Int) + 5) = (i : Int) + 5 := IntWalk.i64_in _ (by omega)
  obtain ⟨f0, f1, f2, f3, f4⟩ := hbx4.cells
  have ez1 := hk4.fz 1
  clear hg4 hbx hb2 hsrc d0 d1 hk2 ez hci ht1 ht2
  go_wp2_with (go_at_call 123; refine (pof_any b (ch : Int) HOF.out _).mono ?_; rintro e w8 ⟨rfl, hb8⟩)
  go_ret
  have hcast : (i : Int) + 5 = ((i + 5 : Nat) : Int) := by omega
  rw [hcast] at hb8
  have hst : w.grownBy (w4.setCell ⟨X, 1, none⟩ (.int .i64 ((i + 5 : Nat) : Int))) (some X) := grown_trans (grown_below (some X) (by rw [hY]; exact hb4)) (grown_cell w4 X 1 _)
  exact ⟨rfl, (hk4.set (i + 5)).next hb8, grown_trans hst (grown_below _ hb8)⟩
set_option linter.unusedVariables false
open Go.ChangeShapes Go.WideShapes Go.ChangeAt Go.RowKit

set_option maxRecDepth 100000 in
set_option maxHeartbeats 1600000 in
theorem prvalue_end (l : List Bool) (m : Nat) (hm : m = l.length) (hm2 : m ≤ 10000) (i : Nat) (X : Nat) (a : Addr) (c : Nat) (w : World) (hK : KBox w X a m c i) (hV : Vs w X l (some a) c) (him : i ≤ m) (hi : m < i + 5) : Calls Tryz.prog 91 #[.pointer (some ⟨X, 0, none⟩)] w fun e w' => e = .panicked (told 5) ∧ w.grownBy w' (some X) := by
  have HM := Lib.hid hm
  have HK := Lib.hid hK
  have HV := Lib.hid hV
  clear hm hK hV
  go_enter Tryz.func91, Tryz.ntmps91
  go_wp2_with (go_at_call 89; refine (pcharacter_no l m HM.out hm2 i X a c _ HK.out HV.out him hi).mono ?_; rintro e w2 ⟨rfl, hg2⟩)
  exact ⟨rfl, rfl, hg2⟩
set_option maxRecDepth 100000 in
set_option maxHeartbeats 1600000 in
theorem prvalue_par (l : List Bool) (m : Nat) (hm : m = l.length) (hm2 : m ≤ 10000) (i : Nat) (X : Nat) (a : Addr) (c : Nat) (w : World) (hK : KBox w X a m c i) (hV : Vs w X l (some a) c) (hi : i + 5 ≤ m) (ch : Nat) (hch : chAt l i = ch) (hev : ones5 ch % 2 = 0) : Calls Tryz.prog 91 #[.pointer (some ⟨X, 0, none⟩)] w fun e w' => e = .panicked (told 3) ∧ w.grownBy w' (some X) := by
  have HM := Lib.hid hm
  have HK := Lib.hid hK
  have HV := Lib.hid hV
  have HVE := Lib.hid (val_even ch (by rw [← hch]; exact chAt_lt l i) hev)
  have HCH := Lib.hid hch
  clear hm hK hV hch hev
  go_enter Tryz.func91, Tryz.ntmps91
  go_wp2_with (first | (go_at_call 89; refine (pcharacter_ok l m HM.out hm2 i X a c _ HK.out HV.out hi ch HCH.out).mono ?_; rintro e w2 ⟨rfl, hk2, hg2⟩) | (go_at_call 125; refine (pvalue_any (ch : Int) 0 3 HVE.out.1 HVE.out.2 _).mono ?_; rintro e w3 ⟨rfl, hb3⟩) | (go_at_call 49; refine (pdemand_no 3 _).mono ?_; rintro e w4 ⟨rfl, rfl⟩))
  exact ⟨rfl, rfl, grown_trans hg2 (grown_below _ hb3)⟩
set_option maxRecDepth 100000 in
set_option maxHeartbeats 1600000 in
theorem prvalue_ok (l : List Bool) (m : Nat) (hm : m = l.length) (hm2 : m ≤ 10000) (i : Nat) (X : Nat) (a : Addr) (c : Nat) (w : World) (hK : KBox w X a m c i) (hV : Vs w X l (some a) c) (hi : i + 5 ≤ m) (ch : Nat) (hch : chAt l i = ch) (hev : ¬ ones5 ch % 2 = 0) (d : Nat) (hd : ch % 16 = d) : Calls Tryz.prog 91 #[.pointer (some ⟨X, 0, none⟩)] w fun e w' => e = .returned (.int .i64 (d : Int)) ∧ KBox w' X a m c (i + 5) ∧ w.grownBy w' (some X) := by
  have HM := Lib.hid hm
  have HK := Lib.hid hK
  have HV := Lib.hid hV
  have hve := val_odd ch (by rw [← hch]; exact chAt_lt l i) hev
  rw [hd] at hve
  have HVE := Lib.hid hve
  have HCH := Lib.hid hch
  clear hm hK hV hch hev hd hve
  go_enter Tryz.func91, Tryz.ntmps91
  go_wp2_with (first | (go_at_call 89; refine (pcharacter_ok l m HM.out hm2 i X a c _ HK.out HV.out hi ch HCH.out).mono ?_; rintro e w2 ⟨rfl, hk2, hg2⟩) | (go_at_call 125; refine (pvalue_any (ch : Int) (d : Int) 0 HVE.out.1 HVE.out.2 _).mono ?_; rintro e w3 ⟨rfl, hb3⟩) | (go_at_call 49; refine (pdemand_ok 0 _).mono ?_; rintro e w4 ⟨rfl, rfl⟩))
  go_ret
  exact ⟨rfl, hk2.next hb3, grown_trans hg2 (grown_below _ hb3)⟩
end Go.Proofs.YtpniolinndlepaaGreatDoor
