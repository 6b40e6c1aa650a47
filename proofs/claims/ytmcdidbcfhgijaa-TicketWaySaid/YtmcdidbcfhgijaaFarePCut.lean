/-
  Contracts for the landed reductionOf and its two closures. Conditions: for the closure that divides: its box holds the number of parts.
-/
import Derived.Test.YtmcdidbcfhgijaaFarePSmall
import Derived.OneCell
import Derived.Laws.EntriesVeiled
namespace Go.Proofs.Ytmcdidbcfhgijaa
set_option linter.unusedVariables false
open Go.ChangeShapes Go.WideShapes Go.ChangeAt Go.RowKit

theorem poff_none (p : Int) (w : World) : Calls Try.prog 44 #[.int .i64 p] w fun e w' => e = .returned (.int .i64 0) ∧ w' = w := by
  go_enter Try.func44, Try.ntmps44
  go_wp2
  go_ret
  exact ⟨rfl, rfl⟩
theorem poff_some (p m : Int) (B : Nat) (w : World) (hc : w.cell? ⟨B, 0, none⟩ = some (.int .i64 m)) (hp : 0 ≤ p) (hp2 : p ≤ 1000000000) (hm : 0 < m) : Calls Try.prog 45 #[.int .i64 p, .pointer (some ⟨B, 0, none⟩)] w fun e w' => e = .returned (.int .i64 (p / m)) ∧ w' = w := by
  have d1 : p.tdiv m = p / m := Int.tdiv_eq_ediv_of_nonneg hp
  have m2 : 0 ≤ p / m := Int.ediv_nonneg hp (by omega)
  have m3 : p / m ≤ p := Int.ediv_le_self _ hp
  have w2 : IntKind.i64.wrap (p / m) = p / m := IntWalk.i64_in _ (by omega)
  have n0 : ¬ m = 0 := by omega
  clear m2 m3 hp hp2 hm
  go_enter Try.func45, Try.ntmps45
  go_wp2
  go_ret
  exact ⟨rfl, rfl⟩
theorem new3 (w : World) (a b c : Obj) : (((w.alloc a).alloc b).alloc c).heap[w.heap.size + 1 + 1]? = some c := by
  have := heap_alloc_new ((w.alloc a).alloc b) c
  simpa only [World.size_alloc] using this
def partsN (c : Int) : Int := if c = 1 then 3 else if c = 2 then 2 else 10
theorem pred_0 (w : World) : Calls Try.prog 34 #[.int .i64 0] w fun e w' => e = .returned (.tuple #[.agg #[.func (.func 44) #[] #[]], .bool true]) ∧ Below w.heap.size w w' := by
  go_enter Try.func34, Try.ntmps34
  go_wp2
  exact bodyPost_ret (v := .tuple #[.agg #[.func (.func 44) #[] #[]], .bool true]) (by simp [results, Try.results34, go_sem]) rfl ⟨rfl, (((Below.refl _ _).alloc (Nat.le_refl _) _).alloc (by simp) _).alloc (by simp; omega) _⟩
theorem pred_card (c m : Int) (hc : 1 ≤ c) (hc3 : c ≤ 3) (hm : partsN c = m) (w : World) : Calls Try.prog 34 #[.int .i64 c] w fun e w' => e = .returned (.tuple #[.agg #[.func (.func 45) #[] #[.pointer (some ⟨w.heap.size + 1 + 1, 0, none⟩)]], .bool true]) ∧ w'.cell? ⟨w.heap.size + 1 + 1, 0, none⟩ = some (.int .i64 m) ∧ w.heap.size + 1 + 1 < w'.heap.size ∧ Below w.heap.size w w' := by
  have hcs : c = 1 ∨ c = 2 ∨ c = 3 := by omega
  clear hc hc3
  rcases hcs with rfl | rfl | rfl
  all_goals
    subst hm
    go_enter Try.func34, Try.ntmps34
    go_wp2
    refine bodyPost_ret (v := .tuple #[.agg #[.func (.func 45) #[] #[.pointer (some ⟨w.heap.size + 1 + 1, 0, none⟩)]], .bool true]) (by simp [results, Try.results34, go_sem]) rfl ⟨rfl, ?_, by simp, (((Below.refl _ _).alloc (Nat.le_refl _) _).alloc (by simp) _).alloc (by simp; omega) _⟩
    exact cell_of_one (new3 _ _ _ _)
theorem pred_no (c : Int) (hc : c < 0 ∨ 3 < c) (w : World) : Calls Try.prog 34 #[.int .i64 c] w fun e w' => e = .returned (.tuple #[.agg #[.nilFunc], .bool false]) ∧ Below w.heap.size w w' := by
  have h0 : ¬ c = 0 := by omega
  have h1 : ¬ c = 1 := by omega
  have h2 : ¬ c = 2 := by omega
  have h3 : ¬ c = 3 := by omega
  clear hc
  go_enter Try.func34, Try.ntmps34
  go_wp2
  exact bodyPost_ret (v := .tuple #[.agg #[.nilFunc], .bool false]) (by simp [results, Try.results34, go_sem]) rfl ⟨rfl, (((Below.refl _ _).alloc (Nat.le_refl _) _).alloc (by simp) _).alloc (by simp; omega) _⟩
set_option maxRecDepth 20000 in
theorem pcut_any (p c v E : Int) (hv : cutV p c = v) (hE : cutE p c = E) (w : World) : Calls Try.prog 27 #[.int .i64 p, .int .i64 c] w fun e w' => e = .returned (.tuple #[.int .i64 v, .int .i64 E]) ∧ Below w.heap.size w w' := by
  cases h : okC p c with
  | true =>
    have hz := (okC_iff p c).1 h
    have e1 : v = cutN p c := by rw [← hv, cutV, h]; rfl
    have e2 : E = 0 := by rw [← hE, cutE, h]; rfl
    subst e2
    have HV := Lib.hid e1
    have hP : isP p = true := by simp [isP]; omega
    have v0 : IntKind.i64.wrap p = p := IntWalk.i64_in _ (by omega)
    have hc0 : c = 0 ∨ (1 ≤ c ∧ c ≤ 3) := by omega
    clear h hv hE e1
    rcases hc0 with rfl | ⟨hc1, hc3⟩
    · clear hz
      go_enter Try.func27, Try.ntmps27
      go_wp2_with (first
        | (go_at_call 34; refine (pred_0 _).mono ?_; rintro e w1 ⟨rfl, hb⟩)
        | (go_at_call 35; refine (pprice_any p true hP _).mono ?_; rintro e w2 ⟨rfl, rfl⟩))
      refine (poff_none p _).mono ?_
      rintro e w3 ⟨rfl, rfl⟩
      go_wp2
      all_goals
        go_ret2
        refine ⟨?_, hb.alloc hb.size _⟩
        rw [HV.out]
        refine congrArg (fun z => Ending.returned (Value.tuple #[.int .i64 z, .int .i64 0])) ?_
        unfold cutN mx mn offN
        repeat' split
        all_goals omega
    · obtain ⟨m, hm⟩ : ∃ m, partsN c = m := ⟨_, rfl⟩
      have hm0 : 0 < m := by rw [← hm]; unfold partsN; split; omega; split <;> omega
      have hof : offN p c = p / m := by
        rw [← hm]; unfold partsN offN
        have hcs : c = 1 ∨ c = 2 ∨ c = 3 := by omega
        rcases hcs with rfl | rfl | rfl <;> rfl
      have q0 : 0 ≤ p / m := Int.ediv_nonneg hz.1 (by omega)
      have q1 : p / m ≤ p := Int.ediv_le_self _ hz.1
      obtain ⟨q, hq⟩ : ∃ q, p / m = q := ⟨_, rfl⟩
      rw [hq] at hof q0 q1
      have v1 : IntKind.i64.wrap (p - q) = p - q := IntWalk.i64_in _ (by omega)
      have HQ := Lib.hid hq
      have HM := Lib.hid hm
      have HO := Lib.hid hof
      have HZ := Lib.hid hz
      clear hq hm hof hz q0 q1 v0
      go_enter Try.func27, Try.ntmps27
      go_wp2_with (first
        | (go_at_call 34; refine (pred_card c m hc1 hc3 HM.out _).mono ?_; rintro e w1 ⟨rfl, hcl, hlt, hb⟩)
        | (go_at_call 35; refine (pprice_any p true hP _).mono ?_; rintro e w2 ⟨rfl, rfl⟩))
      refine (poff_some p m _ _ (((Below.refl _ _).alloc (Nat.le_refl _) _).cell (by show _ < _; exact hlt) |>.trans hcl) HZ.out.1 HZ.out.2.1 hm0).mono ?_
      rintro e w3 ⟨rfl, rfl⟩
      rw [HQ.out]
      go_wp2
      all_goals
        go_ret2
        refine ⟨?_, hb.alloc hb.size _⟩
        rw [HV.out]
        refine congrArg (fun z => Ending.returned (Value.tuple #[.int .i64 z, .int .i64 0])) ?_
        unfold cutN mx mn
        rw [HO.out]
        repeat' split
        all_goals omega
  | false =>
    have e1 : v = 0 := by rw [← hv, cutV, h]; rfl
    have e2 : E = 1 := by rw [← hE, cutE, h]; rfl
    subst e1 e2
    have hno : (c < 0 ∨ 3 < c) ∨ (0 ≤ c ∧ c ≤ 3 ∧ isP p = false) := by
      have : ¬ (0 ≤ p ∧ p ≤ 1000000000 ∧ 0 ≤ c ∧ c ≤ 3) := fun hh => by rw [(okC_iff p c).2 hh] at h; cases h
      cases hp : isP p with
      | false => by_cases hc : c < 0 ∨ 3 < c
                 · exact .inl hc
                 · exact .inr ⟨by omega, by omega, rfl⟩
      | true =>
        have := (show isP p = true ↔ 0 ≤ p ∧ p ≤ 1000000000 by simp [isP]).1 hp
        exact .inl (by omega)
    clear h hv hE
    rcases hno with hc | ⟨hc0, hc3, hP⟩
    · go_enter Try.func27, Try.ntmps27
      go_wp2_with (go_at_call 34; refine (pred_no c hc _).mono ?_; rintro e w1 ⟨rfl, hb⟩)
      go_ret2
      exact ⟨rfl, hb.alloc hb.size _⟩
    · have hcs : c = 0 ∨ (1 ≤ c ∧ c ≤ 3) := by omega
      clear hc0 hc3
      rcases hcs with rfl | ⟨hc1, hc3⟩
      · go_enter Try.func27, Try.ntmps27
        go_wp2_with (first
          | (go_at_call 34; refine (pred_0 _).mono ?_; rintro e w1 ⟨rfl, hb⟩)
          | (go_at_call 35; refine (pprice_any p false hP _).mono ?_; rintro e w2 ⟨rfl, rfl⟩))
        go_ret2
        exact ⟨rfl, hb.alloc hb.size _⟩
      · go_enter Try.func27, Try.ntmps27
        go_wp2_with (first
          | (go_at_call 34; refine (pred_card c _ hc1 hc3 rfl _).mono ?_; rintro e w1 ⟨rfl, hcl, hlt, hb⟩)
          | (go_at_call 35; refine (pprice_any p false hP _).mono ?_; rintro e w2 ⟨rfl, rfl⟩))
        go_ret2
        exact ⟨rfl, hb.alloc hb.size _⟩
end Go.Proofs.Ytmcdidbcfhgijaa
