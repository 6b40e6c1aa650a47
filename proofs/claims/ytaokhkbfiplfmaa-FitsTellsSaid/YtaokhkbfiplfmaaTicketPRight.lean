/-
  Contracts for the landed function that tells a ticket's kind, if it is right. Conditions: none.
-/
import Derived.Test.YtaokhkbfiplfmaaTicketPKind
import Derived.Test.YtaokhkbfiplfmaaTicketPBounds
namespace Go.Proofs.Ytaokhkbfiplfmaa
set_option linter.unusedVariables false
open Go.ChangeShapes Go.WideShapes Go.ChangeAt Go.RowKit


theorem bcell {W w1 : World} (hb : Below W.heap.size W w1) : (∀ b o, b < W.heap.size → w1.cell? ⟨b, o, none⟩ = W.cell? ⟨b, o, none⟩) ∧ (∀ b o, b < W.heap.size → w1.frozen? ⟨b, o, none⟩ = W.frozen? ⟨b, o, none⟩) :=
  ⟨fun b o h => hb.cell (p := ⟨b, o, none⟩) h, fun b o h => hb.frozen (p := ⟨b, o, none⟩) h⟩
theorem okT_bounds (t : Tk) : okT t = (hbB t && (inB t.kind 1 4 && (placeB t && usesB t))) := by
  rw [Bool.eq_iff_iff, okT_iff, numsB_iff, daysB_iff]
  simp only [hbB, Bool.and_eq_true, inB_iff, decide_eq_true_eq]
  constructor
  · rintro ⟨h1, h2, h3, h4⟩; exact ⟨by omega, by omega, h3, h4⟩
  · rintro ⟨h1, h2, h3, h4⟩; exact ⟨by omega, by omega, h3, h4⟩
theorem no_of {a b c o : Bool} {P : Prop} (e : o = (a && (b && c))) (h : o = false) (h1 : a = false → P) (h2 : a = true → b = false → P) (h3 : a = true → b = true → c = false → P) : P := by
  cases a
  · exact h1 rfl
  · cases b
    · exact h2 rfl rfl
    · cases c
      · exact h3 rfl rfl rfl
      · rw [h] at e; cases e
theorem infoKd : (Try.prog.info? 35).map (·.size) = some 5 := by kernel_rfl
theorem kd_one (x y : Int) (a b c : Value) (ha : a.oneCell' = true) (hb : b.oneCell' = true) (hc : c.oneCell' = true) : (#[Value.int .i64 x, Value.int .i64 y, a, b, c] : Array Value).all (·.oneCell') = true := by
  rw [Array.all_eq_true_iff_forall_mem]
  intro u hu
  simp at hu
  rcases hu with rfl | rfl | rfl | rfl | rfl
  · rfl
  · rfl
  · exact ha
  · exact hb
  · exact hc
theorem okT_1 {t : Tk} (hk : t.kind = 1) : okT t = (hbB t && (inB t.uses 1 1 && wayB t)) := by
  have e1 : inB t.kind 1 4 = true := by rw [inB_iff]; omega
  have e2 : placeB t = wayB t := by rw [placeB, if_neg (by omega)]; rfl
  have e3 : usesB t = inB t.uses 1 1 := by
    rw [Bool.eq_iff_iff, inB_iff, usesB]
    rw [hk]
    simp
    try omega
  rw [okT_bounds, e1, e2, e3, Bool.true_and, Bool.and_comm (wayB t)]
theorem okT_2 {t : Tk} (hk : t.kind = 2) : okT t = (hbB t && (inB t.uses 2 2 && wayB t)) := by
  have e1 : inB t.kind 1 4 = true := by rw [inB_iff]; omega
  have e2 : placeB t = wayB t := by rw [placeB, if_neg (by omega)]; rfl
  have e3 : usesB t = inB t.uses 2 2 := by
    rw [Bool.eq_iff_iff, inB_iff, usesB]
    rw [hk]
    simp
    try omega
  rw [okT_bounds, e1, e2, e3, Bool.true_and, Bool.and_comm (wayB t)]
theorem okT_3 {t : Tk} (hk : t.kind = 3) : okT t = (hbB t && (inB t.uses 0 0 && zonesB t)) := by
  have e1 : inB t.kind 1 4 = true := by rw [inB_iff]; omega
  have e2 : placeB t = zonesB t := by rw [placeB, if_pos hk]; rfl
  have e3 : usesB t = inB t.uses 0 0 := by
    rw [Bool.eq_iff_iff, inB_iff, usesB]
    rw [hk]
    simp
    try omega
  rw [okT_bounds, e1, e2, e3, Bool.true_and, Bool.and_comm (zonesB t)]
theorem okT_4 {t : Tk} (hk : t.kind = 4) : okT t = (hbB t && (inB t.uses 2 20 && wayB t)) := by
  have e1 : inB t.kind 1 4 = true := by rw [inB_iff]; omega
  have e2 : placeB t = wayB t := by rw [placeB, if_neg (by omega)]; rfl
  have e3 : usesB t = inB t.uses 2 20 := by
    rw [Bool.eq_iff_iff, inB_iff, usesB]
    rw [hk]
    simp
    try omega
  rw [okT_bounds, e1, e2, e3, Bool.true_and, Bool.and_comm (wayB t)]
end Go.Proofs.Ytaokhkbfiplfmaa
