/-
  Package fields' smaller functions; a reading at work.
-/
import Derived.Test.YtaldpioahnbkgaaRgIn
import Derived.Test.YtaldpioahnbkgaaFieldsMath
import Derived.Test.YtaldpioahnbkgaaGrownR
namespace Go.Proofs.Ytaldpioahnbkgaa
set_option linter.unusedVariables false
open Go.ChangeShapes Go.WideShapes Go.ChangeAt Go.RowKit

/-- A reading at work in its block, as fifteen numbers. -/
def FBox (w : World) (X : Nat) (l : List Int) : Prop := w.heap[X]? = some (.cells ((l.map fun x => Value.int .i64 x).toArray) 45 (0, 0))
theorem FBox.lt {w : World} {X : Nat} {l : List Int} (h : FBox w X l) : X < w.heap.size := (Array.getElem?_eq_some_iff.1 h).1
theorem FBox.alloc {w : World} {X : Nat} {l : List Int} (h : FBox w X l) (o : Obj) : FBox (w.alloc o) X l := (heap_alloc_old w o h.lt).trans h
theorem FBox.next {w w' : World} {X : Nat} {l : List Int} (h : FBox w X l) (hb : Below w.heap.size w w') : FBox w' X l := (hb.block _ h.lt).trans h
theorem FBox.set {w : World} {X : Nat} {l : List Int} (h : FBox w X l) (o : Nat) (x : Int) : FBox (w.setCell ⟨X, o, none⟩ (.int .i64 x)) X (l.set o x) := by
  have := heap_setCell_same w X o _ _ (.int .i64 x) h
  rw [FBox, this]
  simp [List.map_set]
theorem FBox.cell {w : World} {X o : Nat} {l : List Int} {x : Int} (h : FBox w X l) (ho : l[o]? = some x) : w.cell? ⟨X, o, none⟩ = some (.int .i64 x) := by
  rw [cell_of_row w X o _ _ (0, 0) h]
  simp [ho]
theorem FBox.frozen {w : World} {X : Nat} {l : List Int} (h : FBox w X l) (o : Nat) : w.frozen? ⟨X, o, none⟩ = false := frozen_of_row w X o _ _ h
theorem FBox.cells {w : World} {b : Nat} {r : Rg} (h : FBox w b (rgL r)) : w.cell? ⟨b, 0, none⟩ = some (.int .i64 r.t.ser) ∧ w.cell? ⟨b, 1, none⟩ = some (.int .i64 r.t.kind) ∧ w.cell? ⟨b, 2, none⟩ = some (.int .i64 r.t.frm) ∧ w.cell? ⟨b, 3, none⟩ = some (.int .i64 r.t.till) ∧ w.cell? ⟨b, 4, none⟩ = some (.int .i64 r.t.cls) ∧ w.cell? ⟨b, 5, none⟩ = some (.int .i64 r.t.card) ∧ w.cell? ⟨b, 6, none⟩ = some (.int .i64 r.t.seat) ∧ w.cell? ⟨b, 7, none⟩ = some (.int .i64 r.t.day) ∧ w.cell? ⟨b, 8, none⟩ = some (.int .i64 r.t.days) ∧ w.cell? ⟨b, 9, none⟩ = some (.int .i64 r.t.uses) ∧ w.cell? ⟨b, 10, none⟩ = some (.int .i64 r.t.epoch) ∧ w.cell? ⟨b, 11, none⟩ = some (.int .i64 r.key) ∧ w.cell? ⟨b, 12, none⟩ = some (.int .i64 r.left) ∧ w.cell? ⟨b, 13, none⟩ = some (.int .i64 r.inn) ∧ w.cell? ⟨b, 14, none⟩ = some (.int .i64 r.ver) :=
  ⟨h.cell rfl, h.cell rfl, h.cell rfl, h.cell rfl, h.cell rfl, h.cell rfl, h.cell rfl, h.cell rfl, h.cell rfl, h.cell rfl, h.cell rfl, h.cell rfl, h.cell rfl, h.cell rfl, h.cell rfl⟩
/-- Where the number of a tag lies. -/
def posN (t : Nat) : Nat := if t = 1 then 14 else if t = 2 then 11 else if t = 3 then 1 else if t = 4 then 0 else t - 3
theorem tag_cases {t : Nat} (h1 : 1 ≤ t) (h2 : t ≤ 13) : t = 1 ∨ t = 2 ∨ t = 3 ∨ t = 4 ∨ t = 5 ∨ t = 6 ∨ t = 7 ∨ t = 8 ∨ t = 9 ∨ t = 10 ∨ t = 11 ∨ t = 12 ∨ t = 13 := by omega
theorem pos_at (r : Rg) {t : Nat} (h1 : 1 ≤ t) (h2 : t ≤ 13) : (rgL r)[posN t]? = some ((numL r).getD (t - 1) 0) := by
  rcases tag_cases h1 h2 with rfl | rfl | rfl | rfl | rfl | rfl | rfl | rfl | rfl | rfl | rfl | rfl | rfl <;> rfl
theorem pos_set {a : List Int} (ha : a.length = 13) {t : Nat} (h1 : 1 ≤ t) (h2 : t ≤ 13) (v : Int) : (rgL (rdL a)).set (posN t) v = rgL (rdL (a.set (t - 1) v)) := by
  match a, ha with
  | [a0, a1, a2, a3, a4, a5, a6, a7, a8, a9, a10, a11, a12], _ =>
    rcases tag_cases h1 h2 with rfl | rfl | rfl | rfl | rfl | rfl | rfl | rfl | rfl | rfl | rfl | rfl | rfl <;> rfl
set_option linter.unusedVariables false
open Go.ChangeShapes Go.WideShapes Go.ChangeAt Go.RowKit

theorem fwithin_any (n a b : Int) (v : Bool) (hv : (decide (a ≤ n) && decide (n ≤ b)) = v) (w : World) : Calls Try.prog 29 #[.int .i64 n, .int .i64 a, .int .i64 b] w fun e w' => e = .returned (.bool v) ∧ w = w' := by
  have HB := Lib.hid hv
  clear hv
  cases h0 : decide (a ≤ n) <;> cases h1 : decide (n ≤ b)
  all_goals
    have H0 := Lib.hid h0
    have H1 := Lib.hid h1
    go_enter Try.func29, Try.ntmps29
    go_wp2
    go_ret
    refine ⟨congrArg Ending.returned (congrArg Value.bool ?_), rfl⟩
    rw [← HB.out, H0.out, H1.out]
    rfl
theorem pkey_any (n : Int) (v : Bool) (hv : (decide (0 ≤ n) && decide (n ≤ 99)) = v) (w : World) : Calls Try.prog 19 #[.int .i64 n] w fun e w' => e = .returned (.bool v) ∧ w = w' := by
  have HB := Lib.hid hv
  clear hv
  go_enter Try.func19, Try.ntmps19
  go_wp2_with fail
  refine (fwithin_any n 0 99 v HB.out w).mono ?_
  rintro e w1 ⟨rfl, rfl⟩
  go_wp2
  go_ret
  exact ⟨rfl, rfl⟩
theorem pversion_any (n : Int) (v : Bool) (hv : (decide (1 ≤ n) && decide (n ≤ 3)) = v) (w : World) : Calls Try.prog 20 #[.int .i64 n] w fun e w' => e = .returned (.bool v) ∧ w = w' := by
  have HB := Lib.hid hv
  clear hv
  go_enter Try.func20, Try.ntmps20
  go_wp2_with fail
  refine (fwithin_any n 1 3 v HB.out w).mono ?_
  rintro e w1 ⟨rfl, rfl⟩
  go_wp2
  go_ret
  exact ⟨rfl, rfl⟩
theorem leastN_out {t : Int} (h : (decide (1 ≤ t) && decide (t ≤ 13)) = false) : leastN t = 0 := by
  rw [leastN, if_pos]
  simp at h
  omega
theorem leastN_in {t : Int} (h : (decide (1 ≤ t) && decide (t ≤ 13)) = true) : ¬ (t < 1 ∨ 13 < t) := by
  simp at h
  omega
theorem pname_any (t v : Int) (b : Bool) (hv : leastN t = v) (hb : okN t = b) (w : World) : Calls Try.prog 10 #[.int .i64 t] w fun e w' => e = .returned (.tuple #[.int .i64 v, .bool b]) ∧ w = w' := by
  have HB := Lib.hid hb
  have h0 : (decide (1 ≤ t) && decide (t ≤ 13)) = b := hb
  clear hb
  cases b with
  | false =>
    rw [leastN_out h0] at hv
    subst hv
    have H0 := Lib.hid h0
    clear h0
    go_enter Try.func10, Try.ntmps10
    go_wp2_with fail
    refine (fwithin_any t 1 13 false H0.out w).mono ?_
    rintro e w1 ⟨rfl, rfl⟩
    go_wp2
    go_ret2
    exact ⟨rfl, rfl⟩
  | true =>
    have hin := leastN_in h0
    have H0 := Lib.hid h0
    clear h0
    rw [leastN, if_neg hin] at hv
    clear hin
    by_cases h8 : t = 8
    · rw [if_pos h8] at hv
      subst hv h8
      go_enter Try.func10, Try.ntmps10
      go_wp2_with fail
      refine (fwithin_any 8 1 13 true H0.out w).mono ?_
      rintro e w1 ⟨rfl, rfl⟩
      go_wp2
      go_ret2
      exact ⟨rfl, rfl⟩
    · rw [if_neg h8] at hv
      have q8 : (t == 8) = false := by rw [beq_eq_false_iff_ne]; exact h8
      by_cases h9 : t = 9
      · rw [if_pos h9] at hv
        subst hv h9
        clear h8 q8
        go_enter Try.func10, Try.ntmps10
        go_wp2_with fail
        refine (fwithin_any 9 1 13 true H0.out w).mono ?_
        rintro e w1 ⟨rfl, rfl⟩
        go_wp2
        go_ret2
        exact ⟨rfl, rfl⟩
      · rw [if_neg h9] at hv
        have q9 : (t == 9) = false := by rw [beq_eq_false_iff_ne]; exact h9
        subst hv
        clear h8 h9
        go_enter Try.func10, Try.ntmps10
        go_wp2_with fail
        refine (fwithin_any t 1 13 true H0.out w).mono ?_
        rintro e w1 ⟨rfl, rfl⟩
        go_wp2
        go_ret2
        exact ⟨rfl, rfl⟩
theorem refname_any (t v : Int) (b : Bool) (hv : leastN t = v) (hb : okN t = b) (w : World) : Calls Try.prog 11 #[.int .i64 t] w fun e w' => e = .returned (.tuple #[.int .i64 v, .bool b]) ∧ w = w' := by
  by_cases h1 : t < 1
  · rw [leastN, if_pos (.inl h1)] at hv
    obtain rfl : b = false := by rw [← hb, okN]; simp; omega
    subst hv
    clear hb
    go_enter Try.func11, Try.ntmps11
    go_wp2
    go_ret2
    exact ⟨rfl, rfl⟩
  · by_cases h2 : 13 < t
    · rw [leastN, if_pos (.inr h2)] at hv
      obtain rfl : b = false := by rw [← hb, okN]; simp; omega
      subst hv
      clear hb
      go_enter Try.func11, Try.ntmps11
      go_wp2
      go_ret2
      exact ⟨rfl, rfl⟩
    · rw [leastN, if_neg (by omega)] at hv
      obtain rfl : b = true := by rw [← hb, okN]; simp; omega
      clear hb
      by_cases h8 : t = 8
      · rw [if_pos h8] at hv
        subst hv h8
        clear h1 h2
        go_enter Try.func11, Try.ntmps11
        go_wp2
        go_ret2
        exact ⟨rfl, rfl⟩
      · rw [if_neg h8] at hv
        have q8 : (t == 8) = false := by rw [beq_eq_false_iff_ne]; exact h8
        by_cases h9 : t = 9
        · rw [if_pos h9] at hv
          subst hv h9
          clear h1 h2 h8 q8
          go_enter Try.func11, Try.ntmps11
          go_wp2
          go_ret2
          exact ⟨rfl, rfl⟩
        · rw [if_neg h9] at hv
          have q9 : (t == 9) = false := by rw [beq_eq_false_iff_ne]; exact h9
          subst hv
          clear h8 h9
          go_enter Try.func11, Try.ntmps11
          go_wp2
          go_ret2
          exact ⟨rfl, rfl⟩
/-- The number of a tag, told by where it lies. -/
theorem pnum_any (X t : Nat) (h1 : 1 ≤ t) (h2 : t ≤ 13) (w : World) : Calls Try.prog 23 #[.pointer (some ⟨X, 0, none⟩), .int .i64 (t : Int)] w fun e w' => e = .returned (.pointer (some ⟨X, posN t, none⟩)) ∧ w = w' := by
  rcases tag_cases h1 h2 with rfl | rfl | rfl | rfl | rfl | rfl | rfl | rfl | rfl | rfl | rfl | rfl | rfl
  all_goals
    clear h1 h2
    go_enter Try.func23, Try.ntmps23
    go_wp2
    go_ret
    exact ⟨rfl, rfl⟩
theorem pnum_none (X : Nat) (t : Int) (h : 13 < t) (w : World) : Calls Try.prog 23 #[.pointer (some ⟨X, 0, none⟩), .int .i64 t] w fun e w' => e = .returned (.pointer none) ∧ w = w' := by
  have q1 : (t == 1) = false := by rw [beq_eq_false_iff_ne]; omega
  have q2 : (t == 2) = false := by rw [beq_eq_false_iff_ne]; omega
  have q3 : (t == 3) = false := by rw [beq_eq_false_iff_ne]; omega
  have q4 : (t == 4) = false := by rw [beq_eq_false_iff_ne]; omega
  have q5 : (t == 5) = false := by rw [beq_eq_false_iff_ne]; omega
  have q6 : (t == 6) = false := by rw [beq_eq_false_iff_ne]; omega
  have q7 : (t == 7) = false := by rw [beq_eq_false_iff_ne]; omega
  have q8 : (t == 8) = false := by rw [beq_eq_false_iff_ne]; omega
  have q9 : (t == 9) = false := by rw [beq_eq_false_iff_ne]; omega
  have q10 : (t == 10) = false := by rw [beq_eq_false_iff_ne]; omega
  have q11 : (t == 11) = false := by rw [beq_eq_false_iff_ne]; omega
  have q12 : (t == 12) = false := by rw [beq_eq_false_iff_ne]; omega
  have q13 : (t == 13) = false := by rw [beq_eq_false_iff_ne]; omega
  clear h
  go_enter Try.func23, Try.ntmps23
  go_wp2
  go_ret
  exact ⟨rfl, rfl⟩
/-- How often a ticket of that kind is used, if its kind alone tells it. -/
def ownF (k : Int) : Int := if k = 1 then 1 else if k = 2 then 2 else 0
theorem pownf_any (k u : Int) (hu : ownF k = u) (w : World) : Calls Try.prog 41 #[.int .i64 k] w fun e w' => e = .returned (.int .i64 u) ∧ w = w' := by
  by_cases h1 : k = 1
  · obtain rfl : u = 1 := by rw [← hu, ownF, if_pos h1]
    have q1 : (k == 1) = true := by rw [beq_iff_eq]; exact h1
    clear hu h1
    go_enter Try.func41, Try.ntmps41
    go_wp2
    go_ret
    exact ⟨rfl, rfl⟩
  have q1 : (k == 1) = false := by rw [beq_eq_false_iff_ne]; exact h1
  by_cases h2 : k = 2
  · obtain rfl : u = 2 := by rw [← hu, ownF, if_neg h1, if_pos h2]
    have q2 : (k == 2) = true := by rw [beq_iff_eq]; exact h2
    clear hu h1 h2
    go_enter Try.func41, Try.ntmps41
    go_wp2
    go_ret
    exact ⟨rfl, rfl⟩
  have q2 : (k == 2) = false := by rw [beq_eq_false_iff_ne]; exact h2
  obtain rfl : u = 0 := by rw [← hu, ownF, if_neg h1, if_neg h2]
  clear hu h1 h2
  go_enter Try.func41, Try.ntmps41
  go_wp2
  go_ret
  exact ⟨rfl, rfl⟩
set_option linter.unusedVariables false
open Go.ChangeShapes Go.WideShapes Go.ChangeAt Go.RowKit

/-- Tags as ints. -/
def zI (ts : List Nat) : List Int := ts.map fun t : Nat => (t : Int)
theorem zI_len (ts : List Nat) : (zI ts).length = ts.length := by simp [zI]
theorem zI_at {ts : List Nat} {k t : Nat} (h : ts[k]? = some t) : (zI ts)[k]? = some (t : Int) := by simp [zI, h]
theorem zI_snoc (ts : List Nat) (t : Nat) : zI (ts ++ [t]) = zI ts ++ [(t : Int)] := by simp [zI]
theorem fone_int (x : Int) : ∀ u ∈ ([.int .i64 x] : List Value), u.oneCell' = true := by
  intro u hu
  simp only [List.mem_singleton] at hu
  subst hu; rfl
theorem fint_lit (w : World) (x : Int) : ∀ j u, ([.int .i64 x] : List Value)[j]? = some u → (w.alloc (.cells #[.int .i64 x] 3)).cell? ((⟨w.heap.size, 0, none⟩ : Addr).add j) = some u := by
  intro j u hu
  rw [at_add, cell_of_row (w.alloc (.cells #[.int .i64 x] 3)) w.heap.size j _ _ (0, 0) (heap_alloc_new w _)]
  simpa using hu
set_option maxRecDepth 100000 in
set_option maxHeartbeats 1600000 in
theorem ptags_any (r : Rg) (X : Nat) (n : Nat) (hn : n = (tagsF 1 (numL r)).length) (w : World) (hX : FBox w X (rgL r)) : Calls Try.prog 22 #[.func (.func 23) #[.pointer (some ⟨X, 0, none⟩)] #[]] w fun e w' => ∃ A c, e = .returned (.slice A n c) ∧ Zs w' w'.heap.size (zI (tagsF 1 (numL r))) A c ∧ Below w.heap.size w w' := by
  obtain ⟨i0, hi, hz0, hz1, hz2⟩ := info_parts infoInt
  have HX := Lib.hid hX
  have HN := Lib.hid hn
  clear hX hn
  go_enter Try.func22, Try.ntmps22
  go_wp2
  go_loopw [3, 4] (fun v i wr => ∃ (t m : Nat), 1 ≤ t ∧ t ≤ 14 ∧ i = .int .i64 (t : Int) ∧ m = (tagsF 1 ((numL r).take (t - 1))).length ∧ m ≤ 13 ∧ wr.ownsRow w.heap.size 3 1 v m (I64 (zI (tagsF 1 ((numL r).take (t - 1))))) ∧ Below w.heap.size w wr) (fun _ i _ => 14 - (intOf i).toNat)
  case atStart => exact ⟨1, 0, by omega, by omega, rfl, rfl, by omega, ⟨rfl, .inl ⟨rfl, rfl⟩⟩, Below.refl _ _⟩
  case round =>
    obtain ⟨t, m, h1, h2, rfl, hm, hm13, hown, hbel⟩ := hrel
    have HM := Lib.hid hm
    have HO := Lib.hid hown
    have HBL := Lib.hid hbel
    have hsz := hbel.size
    clear hm hown hbel
    by_cases hlt : t ≤ 13
    · have hc := (HX.out.next HBL.out).cell (pos_at r h1 hlt)
      have HS := Lib.hid (tagsF_take (numL r) (t - 1) (by rw [numL_len]; omega))
      rw [show t - 1 + 1 = t by omega] at HS
      obtain ⟨x, hx⟩ : ∃ x, x = (numL r).getD (t - 1) 0 := ⟨_, rfl⟩
      rw [← hx] at hc HS
      obtain ⟨p, hp⟩ : ∃ p, p = posN t := ⟨_, rfl⟩
      have b1 : (t : Int) ≤ 13 := by omega
      by_cases h0 : x = 0
      · have HS2 := HS.out
        rw [if_pos h0, List.append_nil] at HS2
        have HST := Lib.hid HS2
        have q0 : (x != 0) = false := by rw [h0]; rfl
        clear HS HS2 hx h0
        rw [← hp] at hc
        go_wp2_with fail
        refine (pnum_any X t h1 hlt wr).mono ?_
        rintro e w1 ⟨rfl, rfl⟩
        rw [← hp]
        clear hp
        go_wp2
        go_roundw
        case rel => exact ⟨t + 1, m, by omega, by omega, by go_num, by rw [HM.out, Nat.add_sub_cancel, HST.out], hm13, by rw [Nat.add_sub_cancel, HST.out]; exact HO.out, HBL.out⟩
        case measure => simp [intOf]; omega
      · have HS2 := HS.out
        rw [if_neg h0] at HS2
        have HST := Lib.hid HS2
        have q0 : (x != 0) = true := by rw [bne_iff_ne]; exact h0
        have hml := tagsF_len ((numL r).take (t - 1)) 1
        rw [List.length_take, numL_len] at hml
        have hm12 : m ≤ 12 := by have := HM.out; omega
        clear HS HS2 hx h0 hml
        rw [← hp] at hc
        go_wp2_with fail
        refine (pnum_any X t h1 hlt wr).mono ?_
        rintro e w1 ⟨rfl, rfl⟩
        rw [← hp]
        clear hp
        go_wp2_with (at_builtin; refine wpList_append_own _ rfl (.tmp 15) (.tmp 17) 46 rfl w.heap.size 3 i0 (.int .i64 0) 1 8 Try.underlying46 hi hz0 hz1 hz2 rfl (by decide) _ m _ rfl (HO.out.alloc _) ⟨wr.heap.size, 0, none⟩ 1 1 [.int .i64 (t : Int)] rfl rfl (fint_lit wr _) (fone_int _) (by unfold maxLen; omega) (by omega) (by simp; omega) ?_; intro v' w3 hown' hgrow _)
        have hbel2 : Below w.heap.size w w3 := (HBL.out.alloc HBL.out.size _).grown hgrow (by simp; omega) (fun j hj => own_ge HO.out hj)
        have HO2 : Hid (w3.ownsRow w.heap.size 3 1 v' (m + 1) (I64 (zI (tagsF 1 ((numL r).take t))))) := Lib.hid (by rw [HST.out, zI_snoc, I64_append]; exact hown')
        clear hown' hgrow
        go_wp2
        go_roundw
        case rel => exact ⟨t + 1, m + 1, by omega, by omega, by go_num, by rw [Nat.add_sub_cancel, HST.out, List.length_append, ← HM.out]; rfl, by omega, by rw [Nat.add_sub_cancel]; exact HO2.out, hbel2⟩
        case measure => simp [intOf]; omega
    · have e1 : t = 14 := by omega
      subst e1
      have hmn : m = n := by rw [HM.out, HN.out]; rfl
      have ho := HO.out
      rw [show (numL r).take (14 - 1) = numL r from rfl] at ho
      obtain ⟨A2, c2, rfl, _, hzs⟩ := zs_of_own ho
      have HZ := Lib.hid hzs
      subst hmn
      clear ho hzs hlt
      go_wp2
      go_ret
      exact ⟨A2, c2, rfl, HZ.out, HBL.out⟩
theorem fitX_at {v : Int} {ts : List Nat} {k t : Nat} (h : ts[k]? = some t) (ht : v < leastN t) : fitX v ts = false := by
  rw [fitX, List.all_eq_false]
  exact ⟨t, List.mem_of_getElem? h, by simp; omega⟩
theorem fitX_all {v : Int} {ts : List Nat} (h : ∀ j t : Nat, ts[j]? = some t → leastN (t : Int) ≤ v) : fitX v ts = true := by
  rw [fitX, List.all_eq_true]
  intro t ht
  obtain ⟨j, hj⟩ := List.mem_iff_getElem?.1 ht
  exact decide_eq_true (h j t hj)
set_option maxRecDepth 100000 in
set_option maxHeartbeats 1600000 in
theorem ptells_any (v : Int) (ts : List Nat) (n : Nat) (hn : n = ts.length) (hts : ∀ t ∈ ts, 1 ≤ t ∧ t ≤ 13) (b : Bool) (hb : fitX v ts = b) (A : Option Addr) (c : Nat) (w : World) (hA : Zs w w.heap.size (zI ts) A c) : Calls Try.prog 24 #[.int .i64 v, .slice A n c] w fun e w' => e = .returned (.bool b) ∧ w = w' := by
  have h63 : n ≤ 9223372036854775807 := by have h1 := hA.len; have h2 := hA.cap; rw [zI_len] at h1; omega
  have HN := Lib.hid hn
  have HT := Lib.hid hts
  have HB := Lib.hid hb
  have HA := Lib.hid hA
  clear hn hts hb hA
  go_enter Try.func24, Try.ntmps24
  go_wp2
  go_loop [11] (fun i => ∃ k : Nat, k ≤ n ∧ i = .int .i64 k ∧ ∀ j t : Nat, j < k → ts[j]? = some t → leastN (t : Int) ≤ v) (fun i => n - (intOf i).toNat)
  case atStart => exact ⟨0, Nat.zero_le _, rfl, by omega⟩
  case round =>
    obtain ⟨k, hk, rfl, hall⟩ := hrel
    have HH := Lib.hid hall
    clear hall
    by_cases hlt : k < n
    · obtain ⟨t, ht⟩ : ∃ t, ts[k]? = some t := ⟨_, List.getElem?_eq_getElem (by rw [← HN.out]; exact hlt)⟩
      obtain ⟨ad, rfl, had, hc⟩ := HA.out.at (zI_at ht)
      obtain ⟨t1, t2⟩ := HT.out t (List.mem_of_getElem? ht)
      have HK := Lib.hid (show okN (t : Int) = true by rw [okN, decide_eq_true (by omega : (1 : Int) ≤ t), decide_eq_true (by omega : (t : Int) ≤ 13)]; rfl)
      obtain ⟨m, hm⟩ : ∃ m, leastN (t : Int) = m := ⟨_, rfl⟩
      have HM := Lib.hid hm
      have HTT := Lib.hid ht
      have b1 : (0 : Int) ≤ (k : Int) := by omega
      have b2 : (k : Int) < (n : Int) := by omega
      clear ht hm t1 t2
      by_cases hv : v < m
      · have HBR := Lib.hid (HB.out.symm.trans (fitX_at HTT.out (by rw [HM.out]; exact hv)))
        go_wp2_with fail
        refine (pname_any t m true HM.out HK.out w).mono ?_
        rintro e w1 ⟨rfl, rfl⟩
        go_wp2
        go_ret
        exact ⟨by rw [HBR.out]; rfl, rfl⟩
      · have HST := Lib.hid (show ∀ j t : Nat, j < k + 1 → ts[j]? = some t → leastN (t : Int) ≤ v from by
          intro j t hj ht
          rcases Nat.lt_or_ge j k with h | h
          · exact HH.out j t h ht
          · have e : j = k := by omega
            subst e
            rw [HTT.out] at ht
            cases ht
            have := HM.out
            omega)
        go_wp2_with fail
        refine (pname_any t m true HM.out HK.out w).mono ?_
        rintro e w1 ⟨rfl, rfl⟩
        go_wp2
        go_round
        case rel => exact ⟨k + 1, by omega, by go_num, HST.out⟩
        case measure => simp [intOf]; omega
    · have e : k = n := by omega
      subst e
      have HBR := Lib.hid (HB.out.symm.trans (fitX_all (fun j t ht => HH.out j t (by rw [HN.out]; exact (List.getElem?_eq_some_iff.1 ht).1) ht)))
      clear hlt
      go_wp2
      go_ret
      exact ⟨by rw [HBR.out]; rfl, rfl⟩
set_option linter.unusedVariables false
open Go.ChangeShapes Go.WideShapes Go.ChangeAt Go.RowKit

theorem ptellsu_any (r : Rg) (X : Nat) (b : Bool) (hb : (r.t.kind == 4) = b) (w : World) (hX : FBox w X (rgL r)) : Calls Try.prog 21 #[.pointer (some ⟨X, 0, none⟩)] w fun e w' => e = .returned (.bool b) ∧ w = w' := by
  have hc := hX.cells.2.1
  clear hX
  cases b with
  | false =>
    go_enter Try.func21, Try.ntmps21
    go_wp2
    go_ret
    exact ⟨rfl, rfl⟩
  | true =>
    go_enter Try.func21, Try.ntmps21
    go_wp2
    go_ret
    exact ⟨rfl, rfl⟩
/-- What settleUses makes of a reading, and what it tells. -/
def settleX (r : Rg) : Bool × Rg := if r.t.kind = 4 then (true, r) else if r.t.uses = 0 then (true, { r with t := { r.t with uses := ownF r.t.kind } }) else (false, r)
set_option maxRecDepth 100000 in
set_option maxHeartbeats 800000 in
theorem psettle_any (r : Rg) (X : Nat) (b : Bool) (r' : Rg) (hb : settleX r = (b, r')) (w : World) (hX : FBox w X (rgL r)) : Calls Try.prog 33 #[.pointer (some ⟨X, 0, none⟩)] w fun e w' => e = .returned (.bool b) ∧ FBox w' X (rgL r') ∧ w.grownBy w' (some X) := by
  have HX := Lib.hid hX
  have hXw := hX.lt
  have hc := hX.cells.2.1
  have hcu := hX.cells.2.2.2.2.2.2.2.2.2.1
  have hfu := hX.frozen 9
  clear hX
  by_cases hk : r.t.kind = 4
  · rw [settleX, if_pos hk] at hb
    obtain ⟨rfl, rfl⟩ := Prod.mk.inj hb
    have HK := Lib.hid (show (r.t.kind == 4) = true by rw [beq_iff_eq]; exact hk)
    clear hb hk
    go_enter Try.func33, Try.ntmps33
    go_wp2_with fail
    refine (ptellsu_any r X true HK.out w HX.out).mono ?_
    rintro e w1 ⟨rfl, rfl⟩
    go_wp2
    go_ret
    exact ⟨rfl, HX.out, World.grownBy.refl _ _⟩
  · rw [settleX, if_neg hk] at hb
    have HK := Lib.hid (show (r.t.kind == 4) = false by rw [beq_eq_false_iff_ne]; exact hk)
    clear hk
    by_cases hu : r.t.uses = 0
    · rw [if_pos hu] at hb
      obtain ⟨rfl, rfl⟩ := Prod.mk.inj hb
      have q0 : (r.t.uses != 0) = false := by rw [hu]; rfl
      obtain ⟨u, hu2⟩ : ∃ u, ownF r.t.kind = u := ⟨_, rfl⟩
      have HU := Lib.hid hu2
      clear hb hu hu2
      go_enter Try.func33, Try.ntmps33
      go_wp2_with fail
      refine (ptellsu_any r X false HK.out w HX.out).mono ?_
      rintro e w1 ⟨rfl, rfl⟩
      go_wp2_with fail
      refine (pownf_any r.t.kind u HU.out w).mono ?_
      rintro e w1 ⟨rfl, rfl⟩
      go_wp2
      go_ret
      rw [HU.out]
      exact ⟨rfl, HX.out.set 9 u, grown_cell w X 9 (.int .i64 u)⟩
    · rw [if_neg hu] at hb
      obtain ⟨rfl, rfl⟩ := Prod.mk.inj hb
      have q0 : (r.t.uses != 0) = true := by rw [bne_iff_ne]; exact hu
      clear hb hu
      go_enter Try.func33, Try.ntmps33
      go_wp2_with fail
      refine (ptellsu_any r X false HK.out w HX.out).mono ?_
      rintro e w1 ⟨rfl, rfl⟩
      go_wp2
      go_ret
      exact ⟨rfl, HX.out, World.grownBy.refl _ _⟩
set_option linter.unusedVariables false
open Go.ChangeShapes Go.WideShapes Go.ChangeAt Go.RowKit

theorem fbox_new (w : World) (l : List Int) (cs : Array Value) (h : cs.toList = l.map fun x => Value.int .i64 x) : FBox (w.alloc (.cells cs 45)) w.heap.size l := by
  have e : cs = (l.map fun x => Value.int .i64 x).toArray := by rw [← h]
  rw [e]
  exact heap_alloc_new w _
theorem num_at {a : List Int} (h : ∀ x ∈ a, 0 ≤ x ∧ x ≤ 1099511627776) (i : Nat) : 0 ≤ a.getD i 0 ∧ a.getD i 0 ≤ 1099511627776 := by
  rw [List.getD_eq_getElem?_getD]
  cases hx : a[i]? with
  | none => exact ⟨by simp, by simp⟩
  | some x => exact h x (List.mem_of_getElem? hx)
theorem fill_pos : ∀ (l : List Tf) (a : List Int), (∀ x ∈ a, 0 ≤ x) → ∀ x ∈ (fdFill a l).2, 0 ≤ x
  | [], a, h => h
  | f :: l, a, h => by
    rw [fdFill]
    split
    · exact h
    · split
      · exact h
      · split
        · exact h
        · refine fill_pos l _ fun x hx => ?_
          rcases List.mem_or_eq_of_mem_set hx with hx | rfl
          · exact h x hx
          · omega
theorem verX_no {a : List Int} (h : (decide (1 ≤ (rdL a).ver) && decide ((rdL a).ver ≤ 3)) = false) : verX a = false := by
  have h' : (decide (1 ≤ a.getD 0 0) && decide (a.getD 0 0 ≤ 3)) = false := h
  rw [verX, ← Bool.and_assoc, h', Bool.false_and]
theorem verX_fit {a : List Int} (h : fitX (rdL a).ver (tagsF 1 a) = false) : verX a = false := by
  have h' : fitX (a.getD 0 0) (tagsF 1 a) = false := h
  rw [verX, h', Bool.and_false, Bool.and_false]
theorem verX_ok {a : List Int} (h : (decide (1 ≤ (rdL a).ver) && decide ((rdL a).ver ≤ 3)) = true) (h2 : fitX (rdL a).ver (tagsF 1 a) = true) : verX a = true := by
  have h' : (decide (1 ≤ a.getD 0 0) && decide (a.getD 0 0 ≤ 3)) = true := h
  have h2' : fitX (a.getD 0 0) (tagsF 1 a) = true := h2
  rw [verX, ← Bool.and_assoc, h', h2']; rfl
/-- The uses that hang on the kind, as settleUses sets them. -/
def ownR (r : Rg) : Rg := if r.t.kind = 4 then r else { r with t := { r.t with uses := ownF r.t.kind } }
theorem ownF_tmod {k : Int} (h1 : 1 ≤ k) (h2 : k ≤ 4) (h4 : k ≠ 4) : ownF k = k.tmod 3 := by
  rcases (show k = 1 ∨ k = 2 ∨ k = 3 by omega) with rfl | rfl | rfl <;> rfl
theorem ownR_eq {r : Rg} (h1 : 1 ≤ r.t.kind) (h2 : r.t.kind ≤ 4) : ownR r = setU r := by
  unfold ownR setU
  by_cases h4 : r.t.kind = 4
  · rw [if_pos h4, if_pos h4]
  · rw [if_neg h4, if_neg h4, ownF_tmod h1 h2 h4]
theorem ownR_kind (r : Rg) : (ownR r).t.kind = r.t.kind := by unfold ownR; split <;> rfl
theorem ownR_key (r : Rg) : (ownR r).key = r.key := by unfold ownR; split <;> rfl
theorem ownR_ok (r : Rg) : okT (ownR r).t = okT (setU r).t := by
  by_cases h : 1 ≤ r.t.kind ∧ r.t.kind ≤ 4
  · rw [ownR_eq h.1 h.2]
  · have e1 : okT (ownR r).t = false := by
      cases h1 : okT (ownR r).t with
      | false => rfl
      | true =>
        have := (numsB_iff _).1 ((okT_iff _).1 h1).1
        rw [ownR_kind] at this
        omega
    have e2 : okT (setU r).t = false := by
      cases h1 : okT (setU r).t with
      | false => rfl
      | true =>
        have := (numsB_iff _).1 ((okT_iff _).1 h1).1
        rw [set_kind] at this
        omega
    rw [e1, e2]
theorem ownR_set {r : Rg} (h : okT (ownR r).t = true) : ownR r = setU r := by
  have := (numsB_iff _).1 ((okT_iff _).1 h).1
  rw [ownR_kind] at this
  exact ownR_eq this.2.2.1 this.2.2.2.1
theorem settle_ok {r : Rg} (h : r.t.kind = 4 ∨ r.t.uses = 0) : settleX r = (true, ownR r) := by
  unfold settleX ownR
  by_cases h4 : r.t.kind = 4
  · rw [if_pos h4, if_pos h4]
  · rw [if_neg h4, if_neg h4, if_pos (by omega)]
theorem settle_no {r : Rg} (h : ¬ (r.t.kind = 4 ∨ r.t.uses = 0)) : settleX r = (false, r) := by
  unfold settleX
  rw [if_neg (by omega), if_neg (by omega)]
theorem right_no {r : Rg} (h : ¬ (r.t.kind = 4 ∨ r.t.uses = 0)) : rightF r = false := by
  cases hr : rightF r with
  | false => rfl
  | true => simp [rightF] at hr; exact absurd hr.1 h
theorem right_key {r : Rg} (h : 99 < r.key) : rightF r = false := by
  cases hr : rightF r with
  | false => rfl
  | true => simp [rightF] at hr; omega
theorem right_ok {r : Rg} (h : okT (ownR r).t = false) : rightF r = false := by
  rw [ownR_ok] at h
  rw [rightF, h, Bool.and_false, Bool.and_false]
theorem right_yes {r : Rg} (h : r.t.kind = 4 ∨ r.t.uses = 0) (h1 : r.key ≤ 99) (h2 : okT (ownR r).t = true) : rightF r = true := by
  rw [ownR_ok] at h2
  simp [rightF]
  exact ⟨h, h1, h2⟩
end Go.Proofs.Ytaldpioahnbkgaa
