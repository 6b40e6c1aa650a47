/-
  Law TicketIs walked, out of the contracts: it answers true. Conditions: the numbers fit an int.
-/
import Derived.Test.YtmcdidbcfhgijaaSold
namespace Go.Proofs.Ytmcdidbcfhgijaa
set_option linter.unusedVariables false
open Go.ChangeShapes Go.WideShapes Go.ChangeAt Go.RowKit

set_option maxRecDepth 100000 in
set_option maxHeartbeats 3200000 in
theorem is9_any (C : TC) (t : Tk) (s : Int) (jt : InT t) (js : In64 s) (w : World) : Calls Try.prog 3 #[.agg #[.int .i64 t.ser, .int .i64 t.kind, .int .i64 t.frm, .int .i64 t.till, .int .i64 t.cls, .int .i64 t.card, .int .i64 t.seat, .int .i64 t.day, .int .i64 t.days, .int .i64 t.uses, .int .i64 t.epoch], .int .i64 s] w fun e w' => e = .returned (.bool true) ∧ Below w.heap.size w w' := by
  have RT := Lib.hid jt
  clear jt
  have RS := Lib.hid js
  clear js
  obtain ⟨v, hv⟩ : ∃ v, lastV t = v := ⟨_, rfl⟩
  have HV := Lib.hid hv
  clear hv
  obtain ⟨E, hE⟩ : ∃ E, errT t = E := ⟨_, rfl⟩
  have HE := Lib.hid hE
  clear hE
  obtain ⟨b, hb⟩ : ∃ b, covV t s = b := ⟨_, rfl⟩
  have HB := Lib.hid hb
  clear hb
  obtain ⟨F, hF⟩ : ∃ F, covE t s = F := ⟨_, rfl⟩
  have HF := Lib.hid hF
  clear hF
  obtain ⟨k, hk⟩ : ∃ k, okT t = k := ⟨_, rfl⟩
  have HK := Lib.hid hk
  clear hk
  have HBL := Lib.hid (Below.refl w.heap.size w)
  go_enter Try.func3, Try.ntmps3
  go_wp2_with fail
  obtain ⟨w1, hw⟩ : ∃ w1, w1 = w.alloc (.cells #[.int .i64 t.ser, .int .i64 t.kind, .int .i64 t.frm, .int .i64 t.till, .int .i64 t.cls, .int .i64 t.card, .int .i64 t.seat, .int .i64 t.day, .int .i64 t.days, .int .i64 t.uses, .int .i64 t.epoch] 23) := ⟨_, rfl⟩
  rw [← hw]
  have hx : TBox w1 w.heap.size t := by rw [hw]; exact TBox.new w t
  have hb : Below w.heap.size w w1 := by rw [hw]; exact below_lit w _ _
  replace HBL := Lib.hid (HBL.out.trans (hb.mono HBL.out.size))
  have X1 := Lib.hid hx
  clear hx hb hw
  refine (C.last t v E w1 RT.out HV.out HE.out).mono ?_
  rintro e w2 ⟨rfl, hb⟩
  replace X1 := Lib.hid (X1.out.next hb)
  replace HBL := Lib.hid (HBL.out.trans (hb.mono HBL.out.size))
  clear hb
  have c1_0 : w2.cell? ⟨_, 0, none⟩ = some (.int .i64 t.ser) := X1.out.cells.1
  have c1_1 : w2.cell? ⟨_, 1, none⟩ = some (.int .i64 t.kind) := X1.out.cells.2.1
  have c1_2 : w2.cell? ⟨_, 2, none⟩ = some (.int .i64 t.frm) := X1.out.cells.2.2.1
  have c1_3 : w2.cell? ⟨_, 3, none⟩ = some (.int .i64 t.till) := X1.out.cells.2.2.2.1
  have c1_4 : w2.cell? ⟨_, 4, none⟩ = some (.int .i64 t.cls) := X1.out.cells.2.2.2.2.1
  have c1_5 : w2.cell? ⟨_, 5, none⟩ = some (.int .i64 t.card) := X1.out.cells.2.2.2.2.2.1
  have c1_6 : w2.cell? ⟨_, 6, none⟩ = some (.int .i64 t.seat) := X1.out.cells.2.2.2.2.2.2.1
  have c1_7 : w2.cell? ⟨_, 7, none⟩ = some (.int .i64 t.day) := X1.out.cells.2.2.2.2.2.2.2.1
  have c1_8 : w2.cell? ⟨_, 8, none⟩ = some (.int .i64 t.days) := X1.out.cells.2.2.2.2.2.2.2.2.1
  have c1_9 : w2.cell? ⟨_, 9, none⟩ = some (.int .i64 t.uses) := X1.out.cells.2.2.2.2.2.2.2.2.2.1
  have c1_10 : w2.cell? ⟨_, 10, none⟩ = some (.int .i64 t.epoch) := X1.out.cells.2.2.2.2.2.2.2.2.2.2
  go_wp2_with fail
  refine (reflast_any t v E HV.out HE.out w2).mono ?_
  rintro e w3 ⟨rfl, hb⟩
  replace X1 := Lib.hid (X1.out.next hb)
  replace HBL := Lib.hid (HBL.out.trans (hb.mono HBL.out.size))
  clear hb
  have c2_0 : w3.cell? ⟨_, 0, none⟩ = some (.int .i64 t.ser) := X1.out.cells.1
  have c2_1 : w3.cell? ⟨_, 1, none⟩ = some (.int .i64 t.kind) := X1.out.cells.2.1
  have c2_2 : w3.cell? ⟨_, 2, none⟩ = some (.int .i64 t.frm) := X1.out.cells.2.2.1
  have c2_3 : w3.cell? ⟨_, 3, none⟩ = some (.int .i64 t.till) := X1.out.cells.2.2.2.1
  have c2_4 : w3.cell? ⟨_, 4, none⟩ = some (.int .i64 t.cls) := X1.out.cells.2.2.2.2.1
  have c2_5 : w3.cell? ⟨_, 5, none⟩ = some (.int .i64 t.card) := X1.out.cells.2.2.2.2.2.1
  have c2_6 : w3.cell? ⟨_, 6, none⟩ = some (.int .i64 t.seat) := X1.out.cells.2.2.2.2.2.2.1
  have c2_7 : w3.cell? ⟨_, 7, none⟩ = some (.int .i64 t.day) := X1.out.cells.2.2.2.2.2.2.2.1
  have c2_8 : w3.cell? ⟨_, 8, none⟩ = some (.int .i64 t.days) := X1.out.cells.2.2.2.2.2.2.2.2.1
  have c2_9 : w3.cell? ⟨_, 9, none⟩ = some (.int .i64 t.uses) := X1.out.cells.2.2.2.2.2.2.2.2.2.1
  have c2_10 : w3.cell? ⟨_, 10, none⟩ = some (.int .i64 t.epoch) := X1.out.cells.2.2.2.2.2.2.2.2.2.2
  go_wp2_with fail
  refine (C.covers t s b F w3 RT.out RS.out HB.out HF.out).mono ?_
  rintro e w4 ⟨rfl, hb⟩
  replace X1 := Lib.hid (X1.out.next hb)
  replace HBL := Lib.hid (HBL.out.trans (hb.mono HBL.out.size))
  clear hb
  have c3_0 : w4.cell? ⟨_, 0, none⟩ = some (.int .i64 t.ser) := X1.out.cells.1
  have c3_1 : w4.cell? ⟨_, 1, none⟩ = some (.int .i64 t.kind) := X1.out.cells.2.1
  have c3_2 : w4.cell? ⟨_, 2, none⟩ = some (.int .i64 t.frm) := X1.out.cells.2.2.1
  have c3_3 : w4.cell? ⟨_, 3, none⟩ = some (.int .i64 t.till) := X1.out.cells.2.2.2.1
  have c3_4 : w4.cell? ⟨_, 4, none⟩ = some (.int .i64 t.cls) := X1.out.cells.2.2.2.2.1
  have c3_5 : w4.cell? ⟨_, 5, none⟩ = some (.int .i64 t.card) := X1.out.cells.2.2.2.2.2.1
  have c3_6 : w4.cell? ⟨_, 6, none⟩ = some (.int .i64 t.seat) := X1.out.cells.2.2.2.2.2.2.1
  have c3_7 : w4.cell? ⟨_, 7, none⟩ = some (.int .i64 t.day) := X1.out.cells.2.2.2.2.2.2.2.1
  have c3_8 : w4.cell? ⟨_, 8, none⟩ = some (.int .i64 t.days) := X1.out.cells.2.2.2.2.2.2.2.2.1
  have c3_9 : w4.cell? ⟨_, 9, none⟩ = some (.int .i64 t.uses) := X1.out.cells.2.2.2.2.2.2.2.2.2.1
  have c3_10 : w4.cell? ⟨_, 10, none⟩ = some (.int .i64 t.epoch) := X1.out.cells.2.2.2.2.2.2.2.2.2.2
  go_wp2_with fail
  refine (refcovers_any t s b F HB.out HF.out w4).mono ?_
  rintro e w5 ⟨rfl, hb⟩
  replace X1 := Lib.hid (X1.out.next hb)
  replace HBL := Lib.hid (HBL.out.trans (hb.mono HBL.out.size))
  clear hb
  go_wp2
  have HS := Lib.hid (show TBox w5.drew w.heap.size t from X1.out)
  replace HBL := Lib.hid HBL.out.drew
  refine wp_region_held_drew (S := fun w' => TBox w' w.heap.size t) (by kernel_rfl) HS.out (fun hHeld => ?_)
  refine wpAnyH_ready (rs := [0]) (by kernel_rfl) (by simp) ?_
  refine AllReadyH.cons (o := ⟨some 35, .call _, _, _, _, _⟩) rfl (fun K hK => ?_) AllReadyH.nil
  go_simp
  go_at_call 11
  refine (sold_any C _).mono ?_
  rintro e v ⟨rfl, hb⟩
  go_wp2_with fail
  replace HS := Lib.hid (HS.out.next hb)
  replace HBL := Lib.hid (HBL.out.trans (hb.mono HBL.out.size))
  clear hb
  refine hK.out _ _ HS.out (fun hHeld => ?_)
  clear hK K
  try simp only [Act.put, List.setIfInBounds_toArray, List.set_cons_zero, List.set_cons_succ]
  refine wpAnyH_take (i := 1) (oi := ⟨some 36, _, _, _, _, _⟩) (v := ?_) rfl (by kernel_rfl) (by kernel_rfl) (by kernel_rfl) (fun _ _ _ h => h) (Or.inl ⟨by rfl, ?_⟩) hHeld ?_
  rotate_left
  · intro w hSw
    go_simp
    first | done | with_reducible rfl
  try simp only [Act.put, List.setIfInBounds_toArray, List.set_cons_zero, List.set_cons_succ]
  refine wpAnyH_take (i := 2) (oi := ⟨some 37, _, _, _, _, _⟩) (v := ?_) rfl (by kernel_rfl) (by kernel_rfl) (by kernel_rfl) (fun _ _ _ h => h) (Or.inl ⟨by rfl, ?_⟩) hHeld ?_
  rotate_left
  · intro w hSw
    obtain ⟨h0, h1, h2, h3, h4, h5, h6, h7, h8, h9, h10⟩ := TBox.cells hSw
    go_simp
    first | done | with_reducible rfl
  try simp only [Act.put, List.setIfInBounds_toArray, List.set_cons_zero, List.set_cons_succ]
  refine wpAnyH_take (i := 4) (oi := ⟨some 39, _, _, _, _, _⟩) (v := ?_) rfl (by kernel_rfl) (by kernel_rfl) (by kernel_rfl) (fun _ _ _ h => h) (Or.inl ⟨by rfl, ?_⟩) hHeld ?_
  rotate_left
  · intro w hSw
    obtain ⟨h0, h1, h2, h3, h4, h5, h6, h7, h8, h9, h10⟩ := TBox.cells hSw
    go_simp
    first | done | with_reducible rfl
  try simp only [Act.put, List.setIfInBounds_toArray, List.set_cons_zero, List.set_cons_succ]
  refine wpAnyH_ready (rs := [3]) (by kernel_rfl) (by simp) ?_
  refine AllReadyH.cons (o := ⟨some 38, .call _, _, _, _, _⟩) rfl (fun K hK => ?_) AllReadyH.nil
  go_simp
  go_at_call 12
  refine (C.is t k _ RT.out HK.out).mono ?_
  rintro e v ⟨rfl, hb⟩
  go_wp2_with fail
  replace HS := Lib.hid (HS.out.next hb)
  replace HBL := Lib.hid (HBL.out.trans (hb.mono HBL.out.size))
  clear hb
  refine hK.out _ _ HS.out (fun hHeld => ?_)
  clear hK K
  try simp only [Act.put, List.setIfInBounds_toArray, List.set_cons_zero, List.set_cons_succ]
  refine wpAnyH_ready (rs := [5]) (by kernel_rfl) (by simp) ?_
  refine AllReadyH.cons (o := ⟨some 40, .call _, _, _, _, _⟩) rfl (fun K hK => ?_) AllReadyH.nil
  go_simp
  go_at_call 13
  refine (refis9_any t k HK.out _).mono ?_
  rintro e v ⟨rfl, hb⟩
  go_wp2_with fail
  replace HS := Lib.hid (HS.out.next hb)
  replace HBL := Lib.hid (HBL.out.trans (hb.mono HBL.out.size))
  clear hb
  refine hK.out _ _ HS.out (fun hHeld => ?_)
  clear hK K
  try simp only [Act.put, List.setIfInBounds_toArray, List.set_cons_zero, List.set_cons_succ]
  refine wpAnyH_take (i := 6) (oi := ⟨some 41, _, _, _, _, _⟩) (v := .bool true) rfl (by kernel_rfl) (by kernel_rfl) (by kernel_rfl) (fun _ _ _ h => h) (Or.inl ⟨by rfl, ?_⟩) hHeld ?_
  · intro w hSw
    go_simp
    first | done | omega | (simp [beq_self_eq_true]; done) | (simp; omega)
  try simp only [Act.put, List.setIfInBounds_toArray, List.set_cons_zero, List.set_cons_succ]
  refine wpAnyH_take (i := 7) (oi := ⟨some 42, _, _, _, _, _⟩) (v := ?_) rfl (by kernel_rfl) (by kernel_rfl) (by kernel_rfl) (fun _ _ _ h => h) (Or.inl ⟨by rfl, ?_⟩) hHeld ?_
  rotate_left
  · intro w hSw
    go_simp
    first | done | with_reducible rfl
  try simp only [Act.put, List.setIfInBounds_toArray, List.set_cons_zero, List.set_cons_succ]
  refine wpAnyH_take (i := 8) (oi := ⟨some 43, _, _, _, _, _⟩) (v := ?_) rfl (by kernel_rfl) (by kernel_rfl) (by kernel_rfl) (fun _ _ _ h => h) (Or.inl ⟨by rfl, ?_⟩) hHeld ?_
  rotate_left
  · intro w hSw
    go_simp
    first | done | with_reducible rfl
  try simp only [Act.put, List.setIfInBounds_toArray, List.set_cons_zero, List.set_cons_succ]
  refine wpAnyH_take (i := 9) (oi := ⟨some 44, _, _, _, _, _⟩) (v := ?_) rfl (by kernel_rfl) (by kernel_rfl) (by kernel_rfl) (fun _ _ _ h => h) (Or.inl ⟨by rfl, ?_⟩) hHeld ?_
  rotate_left
  · intro w hSw
    go_simp
    first | done | with_reducible rfl
  try simp only [Act.put, List.setIfInBounds_toArray, List.set_cons_zero, List.set_cons_succ]
  refine wpAnyH_take (i := 10) (oi := ⟨some 45, _, _, _, _, _⟩) (v := ?_) rfl (by kernel_rfl) (by kernel_rfl) (by kernel_rfl) (fun _ _ _ h => h) (Or.inl ⟨by rfl, ?_⟩) hHeld ?_
  rotate_left
  · intro w hSw
    go_simp
    first | done | with_reducible rfl
  try simp only [Act.put, List.setIfInBounds_toArray, List.set_cons_zero, List.set_cons_succ]
  refine wpAnyH_take (i := 11) (oi := ⟨some 46, _, _, _, _, _⟩) (v := .bool true) rfl (by kernel_rfl) (by kernel_rfl) (by kernel_rfl) (fun _ _ _ h => h) (Or.inl ⟨by rfl, ?_⟩) hHeld ?_
  · intro w hSw
    go_simp
    first | done | omega | (simp [beq_self_eq_true]; done) | (simp; omega)
  try simp only [Act.put, List.setIfInBounds_toArray, List.set_cons_zero, List.set_cons_succ]
  refine wpAnyH_take (i := 12) (oi := ⟨some 47, _, _, _, _, _⟩) (v := ?_) rfl (by kernel_rfl) (by kernel_rfl) (by kernel_rfl) (fun _ _ _ h => h) (Or.inl ⟨by rfl, ?_⟩) hHeld ?_
  rotate_left
  · intro w hSw
    go_simp
    first | done | with_reducible rfl
  try simp only [Act.put, List.setIfInBounds_toArray, List.set_cons_zero, List.set_cons_succ]
  refine wpAnyH_take (i := 13) (oi := ⟨some 48, _, _, _, _, _⟩) (v := ?_) rfl (by kernel_rfl) (by kernel_rfl) (by kernel_rfl) (fun _ _ _ h => h) (Or.inl ⟨by rfl, ?_⟩) hHeld ?_
  rotate_left
  · intro w hSw
    go_simp
    first | done | with_reducible rfl
  try simp only [Act.put, List.setIfInBounds_toArray, List.set_cons_zero, List.set_cons_succ]
  refine wpAnyH_take (i := 14) (oi := ⟨some 49, _, _, _, _, _⟩) (v := ?_) rfl (by kernel_rfl) (by kernel_rfl) (by kernel_rfl) (fun _ _ _ h => h) (Or.inl ⟨by rfl, ?_⟩) hHeld ?_
  rotate_left
  · intro w hSw
    go_simp
    first | done | with_reducible rfl
  try simp only [Act.put, List.setIfInBounds_toArray, List.set_cons_zero, List.set_cons_succ]
  refine wpAnyH_take (i := 15) (oi := ⟨some 50, _, _, _, _, _⟩) (v := ?_) rfl (by kernel_rfl) (by kernel_rfl) (by kernel_rfl) (fun _ _ _ h => h) (Or.inl ⟨by rfl, ?_⟩) hHeld ?_
  rotate_left
  · intro w hSw
    go_simp
    first | done | with_reducible rfl
  try simp only [Act.put, List.setIfInBounds_toArray, List.set_cons_zero, List.set_cons_succ]
  refine wpAnyH_take (i := 16) (oi := ⟨some 51, _, _, _, _, _⟩) (v := .bool true) rfl (by kernel_rfl) (by kernel_rfl) (by kernel_rfl) (fun _ _ _ h => h) (Or.inl ⟨by rfl, ?_⟩) hHeld ?_
  · intro w hSw
    go_simp
    first | done | omega | (simp [beq_self_eq_true]; done) | (simp; omega)
  try simp only [Act.put, List.setIfInBounds_toArray, List.set_cons_zero, List.set_cons_succ]
  refine wpAnyH_take (i := 17) (oi := ⟨some 52, _, _, _, _, _⟩) (v := ?_) rfl (by kernel_rfl) (by kernel_rfl) (by kernel_rfl) (fun _ _ _ h => h) (Or.inl ⟨by rfl, ?_⟩) hHeld ?_
  rotate_left
  · intro w hSw
    go_simp
    first | done | with_reducible rfl
  try simp only [Act.put, List.setIfInBounds_toArray, List.set_cons_zero, List.set_cons_succ]
  refine wpAnyH_take (i := 18) (oi := ⟨some 53, _, _, _, _, _⟩) (v := ?_) rfl (by kernel_rfl) (by kernel_rfl) (by kernel_rfl) (fun _ _ _ h => h) (Or.inl ⟨by rfl, ?_⟩) hHeld ?_
  rotate_left
  · intro w hSw
    go_simp
    first | done | with_reducible rfl
  try simp only [Act.put, List.setIfInBounds_toArray, List.set_cons_zero, List.set_cons_succ]
  refine wpAnyH_take (i := 19) (oi := ⟨some 54, _, _, _, _, _⟩) (v := ?_) rfl (by kernel_rfl) (by kernel_rfl) (by kernel_rfl) (fun _ _ _ h => h) (Or.inl ⟨by rfl, ?_⟩) hHeld ?_
  rotate_left
  · intro w hSw
    go_simp
    first | done | with_reducible rfl
  try simp only [Act.put, List.setIfInBounds_toArray, List.set_cons_zero, List.set_cons_succ]
  refine wpAnyH_take (i := 20) (oi := ⟨some 55, _, _, _, _, _⟩) (v := ?_) rfl (by kernel_rfl) (by kernel_rfl) (by kernel_rfl) (fun _ _ _ h => h) (Or.inl ⟨by rfl, ?_⟩) hHeld ?_
  rotate_left
  · intro w hSw
    go_simp
    first | done | with_reducible rfl
  try simp only [Act.put, List.setIfInBounds_toArray, List.set_cons_zero, List.set_cons_succ]
  refine wpAnyH_take (i := 21) (oi := ⟨some 56, _, _, _, _, _⟩) (v := .bool true) rfl (by kernel_rfl) (by kernel_rfl) (by kernel_rfl) (fun _ _ _ h => h) (Or.inl ⟨by rfl, ?_⟩) hHeld ?_
  · intro w hSw
    go_simp
    first | done | omega | (simp [beq_self_eq_true]; done) | (simp; omega)
  try simp only [Act.put, List.setIfInBounds_toArray, List.set_cons_zero, List.set_cons_succ]
  refine wpAnyH_take (i := 22) (oi := ⟨some 57, _, _, _, _, _⟩) (v := ?_) rfl (by kernel_rfl) (by kernel_rfl) (by kernel_rfl) (fun _ _ _ h => h) (Or.inl ⟨by rfl, ?_⟩) hHeld ?_
  rotate_left
  · intro w hSw
    go_simp
    first | done | with_reducible rfl
  try simp only [Act.put, List.setIfInBounds_toArray, List.set_cons_zero, List.set_cons_succ]
  refine wpAnyH_take (i := 23) (oi := ⟨some 58, _, _, _, _, _⟩) (v := ?_) rfl (by kernel_rfl) (by kernel_rfl) (by kernel_rfl) (fun _ _ _ h => h) (Or.inl ⟨by rfl, ?_⟩) hHeld ?_
  rotate_left
  · intro w hSw
    go_simp
    first | done | with_reducible rfl
  try simp only [Act.put, List.setIfInBounds_toArray, List.set_cons_zero, List.set_cons_succ]
  refine wpAnyH_take (i := 24) (oi := ⟨some 59, _, _, _, _, _⟩) (v := ?_) rfl (by kernel_rfl) (by kernel_rfl) (by kernel_rfl) (fun _ _ _ h => h) (Or.inl ⟨by rfl, ?_⟩) hHeld ?_
  rotate_left
  · intro w hSw
    go_simp
    first | done | with_reducible rfl
  try simp only [Act.put, List.setIfInBounds_toArray, List.set_cons_zero, List.set_cons_succ]
  refine wpAnyH_take (i := 25) (oi := ⟨some 60, _, _, _, _, _⟩) (v := ?_) rfl (by kernel_rfl) (by kernel_rfl) (by kernel_rfl) (fun _ _ _ h => h) (Or.inl ⟨by rfl, ?_⟩) hHeld ?_
  rotate_left
  · intro w hSw
    go_simp
    first | done | with_reducible rfl
  try simp only [Act.put, List.setIfInBounds_toArray, List.set_cons_zero, List.set_cons_succ]
  refine wpAnyH_take (i := 26) (oi := ⟨some 61, _, _, _, _, _⟩) (v := .bool true) rfl (by kernel_rfl) (by kernel_rfl) (by kernel_rfl) (fun _ _ _ h => h) (Or.inl ⟨by rfl, ?_⟩) hHeld ?_
  · intro w hSw
    go_simp
    first | done | omega | (simp [beq_self_eq_true]; done) | (simp; omega)
  try simp only [Act.put, List.setIfInBounds_toArray, List.set_cons_zero, List.set_cons_succ]
  refine wpAnyH_take (i := 27) (oi := ⟨some 62, _, _, _, _, _⟩) (v := ?_) rfl (by kernel_rfl) (by kernel_rfl) (by kernel_rfl) (fun _ _ _ h => h) (Or.inl ⟨by rfl, ?_⟩) hHeld ?_
  rotate_left
  · intro w hSw
    go_simp
    first | done | with_reducible rfl
  try simp only [Act.put, List.setIfInBounds_toArray, List.set_cons_zero, List.set_cons_succ]
  refine wpAnyH_take (i := 28) (oi := ⟨some 4, _, _, _, _, _⟩) (v := ?_) rfl (by kernel_rfl) (by kernel_rfl) (by kernel_rfl) (fun _ _ _ h => h) (Or.inl ⟨by rfl, ?_⟩) hHeld ?_
  rotate_left
  · intro w hSw
    go_simp
    first | done | with_reducible rfl
  try simp only [Act.put, List.setIfInBounds_toArray, List.set_cons_zero, List.set_cons_succ]
  refine wpAnyH_done (by kernel_rfl) ?_ _
  go_wp2
  go_ret
  exact ⟨rfl, HBL.out⟩
end Go.Proofs.Ytmcdidbcfhgijaa
