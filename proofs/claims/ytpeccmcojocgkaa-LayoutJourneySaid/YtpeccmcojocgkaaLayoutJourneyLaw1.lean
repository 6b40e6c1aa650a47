/-
  Law LayoutJourney walked: what is put. Conditions: the numbers fit an int.
-/
import Derived.Test.YtpeccmcojocgkaaLayoutJourneyLaw0
import Derived.Deep.RegionHeld3
namespace Go.Proofs.Ytpeccmcojocgkaa
set_option linter.unusedVariables false
open Go.ChangeShapes Go.WideShapes Go.ChangeAt Go.RowKit

theorem bs_take13 {w : World} {B : Nat} {s t : List Nat} {A : Option Addr} {c : Nat} (h : Bs w B (s ++ t) A c) : Bs w B s A c := by
  refine ⟨fun k u hu => ?_, h.nil, by have := h.len; rw [List.length_append] at this; omega, h.cap, fun x hx => h.lt x (by simp [hx])⟩
  exact h.rd k u (by
    rw [U8, List.map_append, List.getElem?_append_left (by have := (List.getElem?_eq_some_iff.1 hu).1; simpa [U8] using this)]
    exact hu)
theorem bs_drop13 {w : World} {B : Nat} {s t : List Nat} {ad : Addr} {c n : Nat} (h : Bs w B (s ++ t) (some ad) c) (hn : n = s.length) : Bs w B t (some (ad.add n)) (c - n) := by
  have h1 := h.len
  have h2 := h.cap
  rw [List.length_append] at h1
  refine ⟨fun k u hu => ?_, by simp, by omega, by omega, fun x hx => h.lt x (by simp [hx])⟩
  obtain ⟨ad', e, hb, hc⟩ := h.rd (n + k) u (by
    rw [U8, List.map_append, List.getElem?_append_right (by simp; omega)]
    simpa [U8, hn] using hu)
  cases e
  refine ⟨_, rfl, by rw [add_block]; exact hb, ?_⟩
  have e2 : (ad.add n).add k = ad.add (n + k) := add_addr ad n k
  rw [e2]; exact hc
/-- What the digits of two journeys of a reading are. -/
theorem jour_form {r : Rg} {a b : Int} {p q : List Nat} (h : lputX r = (0, p)) (h2 : lputX (⟨r.t, r.key, a, b, r.ver⟩ : Rg) = (0, q)) : ∃ (f : List Nat) (t4 : List Nat) (x1 x2 y1 y2 : Nat) (k2 : List Nat), p = (f ++ t4) ++ k2 ∧ q = (f ++ [x1, x2, y1, y2]) ++ k2 ∧ t4.length = 4 ∧ k2.length = 2 ∧ (x1 : Int) * 10 + (x2 : Int) = a ∧ (y1 : Int) * 10 + (y2 : Int) = b ∧ x1 ≤ 9 ∧ x2 ≤ 9 ∧ y1 ≤ 9 ∧ y2 ≤ 9 := by
  obtain ⟨hp, _⟩ := lput_form h
  obtain ⟨hq, a0, a1, b0, b1⟩ := lput_form h2
  obtain ⟨x1, x2, e1, e2, e3, e4⟩ := dg_two a0 a1
  obtain ⟨y1, y2, g1, g2, g3, g4⟩ := dg_two b0 b1
  refine ⟨flat (valF r.t) (widF r.t.kind), dg r.left.toNat 2 ++ dg r.inn.toNat 2, x1, x2, y1, y2, dg r.key.toNat 2, ?_, ?_, by simp [dg_len], by simp [dg_len], e2, g2, e3, e4, g3, g4⟩
  · rw [hp]; simp
  · rw [hq]
    simp only at e1 g1
    rw [e1, g1]
    simp
set_option maxRecDepth 100000 in
set_option maxHeartbeats 6400000 in
theorem ljo_3 (C : LaidOK) (r : Rg) (hin : InR r) (a b : Int) (hja : In64 a) (hjb : In64 b) (E F : Int) (p q : List Nat) (hE : lputX r = (E, p)) (hF : lputX (⟨r.t, r.key, a, b, r.ver⟩ : Rg) = (F, q)) (w : World)  (e0 : E = 0) (f0 : F = 0) : Calls Try.prog 7 #[.agg #[.int .i64 r.t.ser, .int .i64 r.t.kind, .int .i64 r.t.frm, .int .i64 r.t.till, .int .i64 r.t.cls, .int .i64 r.t.card, .int .i64 r.t.seat, .int .i64 r.t.day, .int .i64 r.t.days, .int .i64 r.t.uses, .int .i64 r.t.epoch, .int .i64 r.key, .int .i64 r.left, .int .i64 r.inn, .int .i64 r.ver], .agg #[.int .i64 a, .int .i64 b]] w fun e w' => e = .returned (.bool true) ∧ Below w.heap.size w w' := by
  have HBL := Lib.hid (Below.refl w.heap.size w)
  subst e0 f0
  obtain ⟨f, t4, x1, x2, y1, y2, k2, hp, hq, h4, h2, ha, hb, hx1, hx2, hy1, hy2⟩ := jour_form hE hF
  have HE := Lib.hid hE
  have HF := Lib.hid hF
  have HI := Lib.hid hin
  have HI2 := Lib.hid (in_jour hin hja hjb)
  clear hE hF hin hja hjb
  obtain ⟨N, hN⟩ : ∃ N, N = f.length := ⟨_, rfl⟩
  obtain ⟨M, hK⟩ : ∃ M, M = N + 6 := ⟨_, rfl⟩
  have hpl : p.length = M := by rw [hp]; simp; omega
  have hql : q.length = M := by rw [hq]; simp; omega
  have HPL := Lib.hid hpl
  have HQL := Lib.hid hql
  have HP := Lib.hid hp
  have HQ := Lib.hid hq
  have HNF := Lib.hid hN
  have HA := Lib.hid ha
  have HB := Lib.hid hb
  have H4 := Lib.hid h4
  have H2 := Lib.hid h2
  have HKN := Lib.hid hK
  clear hK hp hq hpl hql hN ha hb h4 h2
  go_enter Try.func7, Try.ntmps7
  go_wp2_with fail
  obtain ⟨w1, hw⟩ : ∃ w1, w1 = (w.alloc (.cells #[.int .i64 r.t.ser, .int .i64 r.t.kind, .int .i64 r.t.frm, .int .i64 r.t.till, .int .i64 r.t.cls, .int .i64 r.t.card, .int .i64 r.t.seat, .int .i64 r.t.day, .int .i64 r.t.days, .int .i64 r.t.uses, .int .i64 r.t.epoch, .int .i64 r.key, .int .i64 r.left, .int .i64 r.inn, .int .i64 r.ver] 27)).alloc (.cells #[.int .i64 a, .int .i64 b] 25) := ⟨_, rfl⟩
  rw [← hw]
  have X1 : Hid (RBox w1 w.heap.size r) := Lib.hid (by rw [hw]; exact (RBox.new w r).alloc _)
  have X2 : Hid (JBox w1 (w.heap.size + 1) a b) := Lib.hid (by rw [hw, show w.heap.size + 1 = (w.alloc (.cells #[.int .i64 r.t.ser, .int .i64 r.t.kind, .int .i64 r.t.frm, .int .i64 r.t.till, .int .i64 r.t.cls, .int .i64 r.t.card, .int .i64 r.t.seat, .int .i64 r.t.day, .int .i64 r.t.days, .int .i64 r.t.uses, .int .i64 r.t.epoch, .int .i64 r.key, .int .i64 r.left, .int .i64 r.inn, .int .i64 r.ver] 27)).heap.size by simp]; exact JBox.new _ a b)
  replace HBL : Hid (Below w.heap.size w w1) := Lib.hid (by rw [hw]; exact ((Below.refl _ _).alloc (Nat.le_refl _) _).alloc (by simp) _)
  clear hw
  refine (lput_any r HI.out 0 p HE.out w1).mono ?_
  rintro e w2 ⟨AP1, cP1, rfl, hs, hb⟩
  replace X1 := Lib.hid (X1.out.next hb)
  replace X2 := Lib.hid (X2.out.next hb)
  replace HBL := Lib.hid (HBL.out.trans (hb.mono HBL.out.size))
  have P1 := Lib.hid hs
  clear hb hs
  rw [HPL.out]
  obtain ⟨c0, c1, c2, c3, c4, c5, c6, c7, c8, c9, c10, c11, c12, c13, c14⟩ := X1.out.cells
  obtain ⟨d0, d1⟩ := X2.out.cells
  have f12 := X1.out.frozen 12
  have f13 := X1.out.frozen 13
  go_wp2_with fail
  obtain ⟨w3, hw⟩ : ∃ w3, w3 = (w2.setCell ⟨w.heap.size, 12, none⟩ (.int .i64 a)).setCell ⟨w.heap.size, 13, none⟩ (.int .i64 b) := ⟨_, rfl⟩
  rw [← hw]
  clear c0 c1 c2 c3 c4 c5 c6 c7 c8 c9 c10 c11 c12 c13 c14 d0 d1 f12 f13
  have X1' : Hid (RBox w3 w.heap.size (⟨r.t, r.key, a, b, r.ver⟩ : Rg)) := Lib.hid (by rw [hw]; exact rbox_jour X1.out a b)
  have X2' : Hid (JBox w3 (w.heap.size + 1) a b) := Lib.hid (by rw [hw]; exact (heap_setCell_other _ _ _ _ (by simp)).trans ((heap_setCell_other _ _ _ _ (by simp)).trans X2.out))
  have P1' : Hid (Bs w3 w3.heap.size p AP1 cP1) := Lib.hid (by rw [hw]; have := bs_apart13 (o := 13) (v := .int .i64 b) (bs_apart13 (o := 12) (v := .int .i64 a) P1.out X1.out) (show RBox (w2.setCell ⟨w.heap.size, 12, none⟩ (.int .i64 a)) w.heap.size ⟨r.t, r.key, a, r.inn, r.ver⟩ from heap_setCell_same w2 _ 12 _ _ _ X1.out); simpa using this)
  replace HBL : Hid (Below w.heap.size w w3) := Lib.hid (by rw [hw]; exact (HBL.out.setCell (p := ⟨w.heap.size, 12, none⟩) (Nat.le_refl _) _).setCell (p := ⟨w.heap.size, 13, none⟩) (Nat.le_refl _) _)
  clear hw X1 X2 P1
  refine (lput_any (⟨r.t, r.key, a, b, r.ver⟩ : Rg) HI2.out 0 q HF.out w3).mono ?_
  rintro e w4 ⟨AP2, cP2, rfl, hs, hb⟩
  replace X1' := Lib.hid (X1'.out.next hb)
  replace X2' := Lib.hid (X2'.out.next hb)
  replace P1' := Lib.hid (P1'.out.next hb)
  replace HBL := Lib.hid (HBL.out.trans (hb.mono HBL.out.size))
  have P2 := Lib.hid hs
  clear hb hs
  rw [HQL.out]
  have hM63 : M ≤ 9223372036854775807 := by have h1 := P2.out.len; have h2 := P2.out.cap; rw [HQL.out] at h1; omega
  have hc1 : M ≤ cP1 := by have h1 := P1'.out.len; rw [HPL.out] at h1; exact h1
  have hc2 : M ≤ cP2 := by have h1 := P2.out.len; rw [HQL.out] at h1; exact h1
  have hw6 : IntKind.i64.wrap ((M : Int) - 6) = (N : Int) := by have hK := HKN.out; rw [IntWalk.i64_in _ (by omega)]; omega
  have hn0 : decide ((N : Int) < 0) = false := decide_eq_false (by omega)
  go_wp2
  obtain ⟨ad1, rfl, hz1, hz2⟩ := P1'.out.rd 0 _ (U8_at p 0 (by rw [HPL.out]; have := HKN.out; omega))
  clear hz1 hz2
  obtain ⟨ad2, rfl, hz1, hz2⟩ := P2.out.rd 0 _ (U8_at q 0 (by rw [HQL.out]; have := HKN.out; omega))
  clear hz1 hz2
  have P1F := Lib.hid (show Bs w4 w4.heap.size ((f ++ t4) ++ k2) (some ad1) cP1 by have h := P1'.out; rw [HP.out] at h; exact h)
  have P2F := Lib.hid (show Bs w4 w4.heap.size ((f ++ [x1, x2, y1, y2]) ++ k2) (some ad2) cP2 by have h := P2.out; rw [HQ.out] at h; exact h)
  clear P1' P2 X1'
  obtain ⟨N1, hN1⟩ : ∃ N1, N1 = N + 1 := ⟨_, rfl⟩
  obtain ⟨N2, hN2⟩ : ∃ N2, N2 = N + 2 := ⟨_, rfl⟩
  obtain ⟨N3, hN3⟩ : ∃ N3, N3 = N + 3 := ⟨_, rfl⟩
  obtain ⟨N4, hN4⟩ : ∃ N4, N4 = N + 4 := ⟨_, rfl⟩
  have hKN := HKN.out
  have l0 : (0 : Int) ≤ (N : Int) := by omega
  have n1 : (N : Int) ≤ (cP1 : Int) := by omega
  have n1' : N ≤ cP1 := by omega
  have n2 : (N : Int) ≤ (cP2 : Int) := by omega
  have n2' : N ≤ cP2 := by omega
  have v4 : IntKind.i64.wrap ((N : Int) + 4) = (N4 : Int) := by rw [IntWalk.i64_in _ (by omega)]; omega
  have l4 : (0 : Int) ≤ (N4 : Int) := by omega
  have m4 : (N4 : Int) ≤ (M : Int) := by omega
  have m5 : N4 ≤ M := by omega
  have n3 : cP1 ≠ N4 := by omega
  have n4 : cP2 ≠ N4 := by omega
  have n5 : (M : Int) ≤ (cP1 : Int) := by omega
  have n6 : (M : Int) ≤ (cP2 : Int) := by omega
  have HX9 := Lib.hid (And.intro hx1 (And.intro hx2 (And.intro hy1 hy2)))
  have HC1 := Lib.hid hc1
  have HC2 := Lib.hid hc2
  have E1 := Lib.hid hN1
  have E2 := Lib.hid hN2
  have E3 := Lib.hid hN3
  have E4 := Lib.hid hN4
  have EK : Hid (M - N4 = k2.length) := Lib.hid (by rw [H2.out]; omega)
  have E5 : Hid (N4 = (f ++ t4).length) := Lib.hid (by rw [List.length_append, H4.out, ← HNF.out]; exact hN4)
  have E6 : Hid (N4 = (f ++ [x1, x2, y1, y2]).length) := Lib.hid (by rw [List.length_append, ← HNF.out]; exact hN4)
  have HFC : Hid (∀ W' : World, Bs W' W'.heap.size ((f ++ [x1, x2, y1, y2]) ++ k2) (some ad2) cP2 → W'.cell? (ad2.add N) = some (.int .u8 (x1 : Nat)) ∧ W'.cell? (ad2.add N1) = some (.int .u8 (x2 : Nat)) ∧ W'.cell? (ad2.add N2) = some (.int .u8 (y1 : Nat)) ∧ W'.cell? (ad2.add N3) = some (.int .u8 (y2 : Nat))) := Lib.hid (fun W' h => by
    have hnf := HNF.out
    have g : ∀ (j : Nat) (z : Nat), [x1, x2, y1, y2][j]? = some z → W'.cell? (ad2.add (N + j)) = some (.int .u8 (z : Nat)) := fun j z hz => by
      obtain ⟨_, e, _, hc⟩ := h.rd (N + j) (.int .u8 (z : Nat)) (by
        have hj : j < 4 := (List.getElem?_eq_some_iff.1 hz).1
        rw [U8, List.getElem?_map, List.getElem?_append_left (by simp; omega), List.getElem?_append_right (by omega), HNF.out, Nat.add_sub_cancel_left, hz]
        rfl)
      cases e
      exact hc
    rw [E1.out, E2.out, E3.out]
    exact ⟨g 0 x1 rfl, g 1 x2 rfl, g 2 y1 rfl, g 3 y2 rfl⟩)
  have HM63 := Lib.hid hM63
  clear hN1 hN2 hN3 hN4 hKN hx1 hx2 hy1 hy2 hc1 hc2 hw6 hM63 hn0
  have hb : Below w4.heap.size w4 w4.drew := below_drewN (Below.refl _ _) 1
  replace P1F := Lib.hid (P1F.out.next hb)
  replace P2F := Lib.hid (P2F.out.next hb)
  replace X2' := Lib.hid (X2'.out.next hb)
  replace HBL := Lib.hid (HBL.out.trans (hb.mono HBL.out.size))
  clear hb
  refine wp_region_held_drew (S := (fun w' => JBox w' (w.heap.size + 1) a b ∧ w'.cell? (ad2.add N) = some (.int .u8 (x1 : Nat)) ∧ w'.cell? (ad2.add N1) = some (.int .u8 (x2 : Nat)) ∧ w'.cell? (ad2.add N2) = some (.int .u8 (y1 : Nat)) ∧ w'.cell? (ad2.add N3) = some (.int .u8 (y2 : Nat)))) (by as_aux_lemma => kernel_rfl) ⟨X2'.out, HFC.out _ P2F.out⟩ (fun hHeld => ?_)
  refine wpAnyH_ready (rs := [0]) (by as_aux_lemma => kernel_rfl) (by simp) ?_
  refine AllReadyH.cons (o := ⟨some 41, .call _, _, _, _, _⟩) rfl (fun K hK => ?_) AllReadyH.nil
  go_simp
  go_at_call 12
  refine (C _).mono ?_
  rintro e wv ⟨rfl, hb⟩
  go_wp2_with fail
  replace P1F := Lib.hid (P1F.out.next hb)
  replace P2F := Lib.hid (P2F.out.next hb)
  replace X2' := Lib.hid (X2'.out.next hb)
  replace HBL := Lib.hid (HBL.out.trans (hb.mono HBL.out.size))
  clear hb
  refine hK.out _ _ ⟨X2'.out, HFC.out _ P2F.out⟩ (fun hHeld => ?_)
  clear hK K
  try simp only [Act.put, List.setIfInBounds_toArray, List.set_cons_zero, List.set_cons_succ]
  refine wpAnyH_take (i := 1) (oi := ⟨some 42, _, _, _, _, _⟩) (v := ?_) rfl (by as_aux_lemma => kernel_rfl) (by as_aux_lemma => kernel_rfl) (by as_aux_lemma => kernel_rfl) (fun _ _ _ h => h) (Or.inl ⟨by rfl, ?_⟩) hHeld ?_
  rotate_left
  · intro w hSw
    go_simp
    first | done | with_reducible rfl
  try simp only [Act.put, List.setIfInBounds_toArray, List.set_cons_zero, List.set_cons_succ]
  refine wpAnyH_take (i := 2) (oi := ⟨some 43, _, _, _, _, _⟩) (v := ?_) rfl (by as_aux_lemma => kernel_rfl) (by as_aux_lemma => kernel_rfl) (by as_aux_lemma => kernel_rfl) (fun _ _ _ h => h) (Or.inl ⟨by rfl, ?_⟩) hHeld ?_
  rotate_left
  · intro w hSw
    go_simp
    first | done | with_reducible rfl
  try simp only [Act.put, List.setIfInBounds_toArray, List.set_cons_zero, List.set_cons_succ]
  refine wpAnyH_take (i := 3) (oi := ⟨some 44, _, _, _, _, _⟩) (v := ?_) rfl (by as_aux_lemma => kernel_rfl) (by as_aux_lemma => kernel_rfl) (by as_aux_lemma => kernel_rfl) (fun _ _ _ h => h) (Or.inl ⟨by rfl, ?_⟩) hHeld ?_
  rotate_left
  · intro w hSw
    go_simp
    first | done | with_reducible rfl
  try simp only [Act.put, List.setIfInBounds_toArray, List.set_cons_zero, List.set_cons_succ]
  refine wpAnyH_take (i := 4) (oi := ⟨some 45, _, _, _, _, _⟩) (v := ?_) rfl (by as_aux_lemma => kernel_rfl) (by as_aux_lemma => kernel_rfl) (by as_aux_lemma => kernel_rfl) (fun _ _ _ h => h) (Or.inl ⟨by rfl, ?_⟩) hHeld ?_
  rotate_left
  · intro w hSw
    go_simp
    first | done | with_reducible rfl
  try simp only [Act.put, List.setIfInBounds_toArray, List.set_cons_zero, List.set_cons_succ]
  refine wpAnyH_take (i := 5) (oi := ⟨some 46, _, _, _, _, _⟩) (v := ?_) rfl (by as_aux_lemma => kernel_rfl) (by as_aux_lemma => kernel_rfl) (by as_aux_lemma => kernel_rfl) (fun _ _ _ h => h) (Or.inl ⟨by rfl, ?_⟩) hHeld ?_
  rotate_left
  · intro w hSw
    go_simp
    first | done | with_reducible rfl
  try simp only [Act.put, List.setIfInBounds_toArray, List.set_cons_zero, List.set_cons_succ]
  refine wpAnyH_take (i := 6) (oi := ⟨some 47, _, _, _, _, _⟩) (v := ?_) rfl (by as_aux_lemma => kernel_rfl) (by as_aux_lemma => kernel_rfl) (by as_aux_lemma => kernel_rfl) (fun _ _ _ h => h) (Or.inl ⟨by rfl, ?_⟩) hHeld ?_
  rotate_left
  · intro w hSw
    go_simp
    first | done | with_reducible rfl
  try simp only [Act.put, List.setIfInBounds_toArray, List.set_cons_zero, List.set_cons_succ]
  refine wpAnyH_take (i := 7) (oi := ⟨some 48, _, _, _, _, _⟩) (v := ?_) rfl (by as_aux_lemma => kernel_rfl) (by as_aux_lemma => kernel_rfl) (by as_aux_lemma => kernel_rfl) (fun _ _ _ h => h) (Or.inl ⟨by rfl, ?_⟩) hHeld ?_
  rotate_left
  · intro w hSw
    go_simp
    first | done | with_reducible rfl
  try simp only [Act.put, List.setIfInBounds_toArray, List.set_cons_zero, List.set_cons_succ]
  refine wpAnyH_ready (rs := [8]) (by as_aux_lemma => kernel_rfl) (by simp) ?_
  refine AllReadyH.cons (o := ⟨some 49, .call _, _, _, _, _⟩) rfl (fun K hK => ?_) AllReadyH.nil
  go_simp
  go_at_call 13
  refine (same_true f N N HNF.out HNF.out (some ad1) (some ad2) cP1 cP2 _ (bs_take13 (bs_take13 P1F.out)) (bs_take13 (bs_take13 P2F.out))).mono ?_
  rintro e wv ⟨rfl, hb⟩
  go_wp2_with fail
  replace P1F := Lib.hid (P1F.out.next hb)
  replace P2F := Lib.hid (P2F.out.next hb)
  replace X2' := Lib.hid (X2'.out.next hb)
  replace HBL := Lib.hid (HBL.out.trans (hb.mono HBL.out.size))
  clear hb
  refine hK.out _ _ ⟨X2'.out, HFC.out _ P2F.out⟩ (fun hHeld => ?_)
  clear hK K
  try simp only [Act.put, List.setIfInBounds_toArray, List.set_cons_zero, List.set_cons_succ]
  refine wpAnyH_take (i := 9) (oi := ⟨some 50, _, _, _, _, _⟩) (v := ?_) rfl (by as_aux_lemma => kernel_rfl) (by as_aux_lemma => kernel_rfl) (by as_aux_lemma => kernel_rfl) (fun _ _ _ h => h) (Or.inl ⟨by rfl, ?_⟩) hHeld ?_
  rotate_left
  · intro w hSw
    go_simp
    first | done | with_reducible rfl
  try simp only [Act.put, List.setIfInBounds_toArray, List.set_cons_zero, List.set_cons_succ]
  refine wpAnyH_take (i := 10) (oi := ⟨some 51, _, _, _, _, _⟩) (v := ?_) rfl (by as_aux_lemma => kernel_rfl) (by as_aux_lemma => kernel_rfl) (by as_aux_lemma => kernel_rfl) (fun _ _ _ h => h) (Or.inl ⟨by rfl, ?_⟩) hHeld ?_
  rotate_left
  · intro w hSw
    go_simp
    first | done | with_reducible rfl
  try simp only [Act.put, List.setIfInBounds_toArray, List.set_cons_zero, List.set_cons_succ]
  refine wpAnyH_take (i := 11) (oi := ⟨some 52, _, _, _, _, _⟩) (v := ?_) rfl (by as_aux_lemma => kernel_rfl) (by as_aux_lemma => kernel_rfl) (by as_aux_lemma => kernel_rfl) (fun _ _ _ h => h) (Or.inl ⟨by rfl, ?_⟩) hHeld ?_
  rotate_left
  · intro w hSw
    go_simp
    first | done | with_reducible rfl
  try simp only [Act.put, List.setIfInBounds_toArray, List.set_cons_zero, List.set_cons_succ]
  refine wpAnyH_take (i := 12) (oi := ⟨some 53, _, _, _, _, _⟩) (v := ?_) rfl (by as_aux_lemma => kernel_rfl) (by as_aux_lemma => kernel_rfl) (by as_aux_lemma => kernel_rfl) (fun _ _ _ h => h) (Or.inl ⟨by rfl, ?_⟩) hHeld ?_
  rotate_left
  · intro w hSw
    go_simp
    first | done | with_reducible rfl
  try simp only [Act.put, List.setIfInBounds_toArray, List.set_cons_zero, List.set_cons_succ]
  refine wpAnyH_take (i := 13) (oi := ⟨some 54, _, _, _, _, _⟩) (v := ?_) rfl (by as_aux_lemma => kernel_rfl) (by as_aux_lemma => kernel_rfl) (by as_aux_lemma => kernel_rfl) (fun _ _ _ h => h) (Or.inl ⟨by rfl, ?_⟩) hHeld ?_
  rotate_left
  · intro w hSw
    go_simp
    first | done | with_reducible rfl
  try simp only [Act.put, List.setIfInBounds_toArray, List.set_cons_zero, List.set_cons_succ]
  refine wpAnyH_take (i := 14) (oi := ⟨some 55, _, _, _, _, _⟩) (v := ?_) rfl (by as_aux_lemma => kernel_rfl) (by as_aux_lemma => kernel_rfl) (by as_aux_lemma => kernel_rfl) (fun _ _ _ h => h) (Or.inl ⟨by rfl, ?_⟩) hHeld ?_
  rotate_left
  · intro w hSw
    go_simp
    first | done | with_reducible rfl
  try simp only [Act.put, List.setIfInBounds_toArray, List.set_cons_zero, List.set_cons_succ]
  refine wpAnyH_take (i := 15) (oi := ⟨some 56, _, _, _, _, _⟩) (v := ?_) rfl (by as_aux_lemma => kernel_rfl) (by as_aux_lemma => kernel_rfl) (by as_aux_lemma => kernel_rfl) (fun _ _ _ h => h) (Or.inl ⟨by rfl, ?_⟩) hHeld ?_
  rotate_left
  · intro w hSw
    go_simp
    first | done | with_reducible rfl
  try simp only [Act.put, List.setIfInBounds_toArray, List.set_cons_zero, List.set_cons_succ]
  refine wpAnyH_take (i := 16) (oi := ⟨some 57, _, _, _, _, _⟩) (v := ?_) rfl (by as_aux_lemma => kernel_rfl) (by as_aux_lemma => kernel_rfl) (by as_aux_lemma => kernel_rfl) (fun _ _ _ h => h) (Or.inl ⟨by rfl, ?_⟩) hHeld ?_
  rotate_left
  · intro w hSw
    go_simp
    first | done | with_reducible rfl
  try simp only [Act.put, List.setIfInBounds_toArray, List.set_cons_zero, List.set_cons_succ]
  refine wpAnyH_take (i := 17) (oi := ⟨some 58, _, _, _, _, _⟩) (v := ?_) rfl (by as_aux_lemma => kernel_rfl) (by as_aux_lemma => kernel_rfl) (by as_aux_lemma => kernel_rfl) (fun _ _ _ h => h) (Or.inl ⟨by rfl, ?_⟩) hHeld ?_
  rotate_left
  · intro w hSw
    go_simp
    first | done | with_reducible rfl
  try simp only [Act.put, List.setIfInBounds_toArray, List.set_cons_zero, List.set_cons_succ]
  refine wpAnyH_take (i := 18) (oi := ⟨some 59, _, _, _, _, _⟩) (v := ?_) rfl (by as_aux_lemma => kernel_rfl) (by as_aux_lemma => kernel_rfl) (by as_aux_lemma => kernel_rfl) (fun _ _ _ h => h) (Or.inl ⟨by rfl, ?_⟩) hHeld ?_
  rotate_left
  · intro w hSw
    go_simp
    first | done | with_reducible rfl
  try simp only [Act.put, List.setIfInBounds_toArray, List.set_cons_zero, List.set_cons_succ]
  refine wpAnyH_ready (rs := [19]) (by as_aux_lemma => kernel_rfl) (by simp) ?_
  refine AllReadyH.cons (o := ⟨some 60, .call _, _, _, _, _⟩) rfl (fun K hK => ?_) AllReadyH.nil
  go_simp
  go_at_call 13
  refine (same_true k2 (M - N4) (M - N4) EK.out EK.out (some (ad1.add N4)) (some (ad2.add N4)) (cP1 - N4) (cP2 - N4) _ (bs_drop13 P1F.out E5.out) (bs_drop13 P2F.out E6.out)).mono ?_
  rintro e wv ⟨rfl, hb⟩
  go_wp2_with fail
  replace P1F := Lib.hid (P1F.out.next hb)
  replace P2F := Lib.hid (P2F.out.next hb)
  replace X2' := Lib.hid (X2'.out.next hb)
  replace HBL := Lib.hid (HBL.out.trans (hb.mono HBL.out.size))
  clear hb
  refine hK.out _ _ ⟨X2'.out, HFC.out _ P2F.out⟩ (fun hHeld => ?_)
  clear hK K
  try simp only [Act.put, List.setIfInBounds_toArray, List.set_cons_zero, List.set_cons_succ]
  clear n1 n1' n2 n2' v4 l4 m4 m5 n3 n4 n5 n6
  obtain ⟨hx1, hx2, hy1, hy2⟩ := HX9.out
  have hKN := HKN.out
  have hN1 := E1.out
  have hN2 := E2.out
  have hN3 := E3.out
  have hM63 := HM63.out
  have l0 : (0 : Int) ≤ (N : Int) := by omega
  have m0 : (N : Int) < (M : Int) := by omega
  have v1 : IntKind.i64.wrap ((N : Int) + 1) = (N1 : Int) := by rw [IntWalk.i64_in _ (by omega)]; omega
  have l1 : (0 : Int) ≤ (N1 : Int) := by omega
  have m1 : (N1 : Int) < (M : Int) := by omega
  have o1 : IntKind.i64.wrap (x1 : Int) = (x1 : Int) := IntWalk.i64_in _ (by omega)
  have o2 : IntKind.i64.wrap (x2 : Int) = (x2 : Int) := IntWalk.i64_in _ (by omega)
  have o5 : IntKind.i64.wrap ((x1 : Int) * 10) = (x1 : Int) * 10 := IntWalk.i64_in _ (by omega)
  have o7 : IntKind.i64.wrap ((x1 : Int) * 10 + (x2 : Int)) = a := by rw [HA.out]; exact IntWalk.i64_in _ (by have := HA.out; omega)
  clear hx1 hx2 hy1 hy2 hKN hN1 hN2 hN3 hM63
  refine wpAnyH_take (i := 20) (oi := ⟨some 61, _, _, _, _, _⟩) (v := ?_) rfl (by as_aux_lemma => kernel_rfl) (by as_aux_lemma => kernel_rfl) (by as_aux_lemma => kernel_rfl) (fun _ _ _ h => h) (Or.inl ⟨by rfl, ?_⟩) hHeld ?_
  rotate_left
  · intro w hSw
    go_simp
    first | done | with_reducible rfl
  try simp only [Act.put, List.setIfInBounds_toArray, List.set_cons_zero, List.set_cons_succ]
  refine wpAnyH_take (i := 21) (oi := ⟨some 62, _, _, _, _, _⟩) (v := ?_) rfl (by as_aux_lemma => kernel_rfl) (by as_aux_lemma => kernel_rfl) (by as_aux_lemma => kernel_rfl) (fun _ _ _ h => h) (Or.inl ⟨by rfl, ?_⟩) hHeld ?_
  rotate_left
  · intro w hSw
    go_simp
    first | done | with_reducible rfl
  try simp only [Act.put, List.setIfInBounds_toArray, List.set_cons_zero, List.set_cons_succ]
  refine wpAnyH_take (i := 22) (oi := ⟨some 63, _, _, _, _, _⟩) (v := ?_) rfl (by as_aux_lemma => kernel_rfl) (by as_aux_lemma => kernel_rfl) (by as_aux_lemma => kernel_rfl) (fun _ _ _ h => h) (Or.inl ⟨by rfl, ?_⟩) hHeld ?_
  rotate_left
  · intro w hSw
    go_simp
    first | done | with_reducible rfl
  try simp only [Act.put, List.setIfInBounds_toArray, List.set_cons_zero, List.set_cons_succ]
  refine wpAnyH_take (i := 23) (oi := ⟨some 64, _, _, _, _, _⟩) (v := ?_) rfl (by as_aux_lemma => kernel_rfl) (by as_aux_lemma => kernel_rfl) (by as_aux_lemma => kernel_rfl) (fun _ _ _ h => h) (Or.inl ⟨by rfl, ?_⟩) hHeld ?_
  rotate_left
  · intro w hSw
    go_simp
    first | done | with_reducible rfl
  try simp only [Act.put, List.setIfInBounds_toArray, List.set_cons_zero, List.set_cons_succ]
  refine wpAnyH_take (i := 24) (oi := ⟨some 65, _, _, _, _, _⟩) (v := ?_) rfl (by as_aux_lemma => kernel_rfl) (by as_aux_lemma => kernel_rfl) (by as_aux_lemma => kernel_rfl) (fun _ _ _ h => h) (Or.inl ⟨by rfl, ?_⟩) hHeld ?_
  rotate_left
  · intro w hSw
    go_simp
    first | done | with_reducible rfl
  try simp only [Act.put, List.setIfInBounds_toArray, List.set_cons_zero, List.set_cons_succ]
  refine wpAnyH_take (i := 25) (oi := ⟨some 66, _, _, _, _, _⟩) (v := ?_) rfl (by as_aux_lemma => kernel_rfl) (by as_aux_lemma => kernel_rfl) (by as_aux_lemma => kernel_rfl) (fun _ _ _ h => h) (Or.inl ⟨by rfl, ?_⟩) hHeld ?_
  rotate_left
  · intro w hSw
    obtain ⟨hS1, q0, q1, q2, q3⟩ := hSw
    obtain ⟨e0, e1⟩ := hS1.cells
    go_simp
    first | done | with_reducible rfl
  try simp only [Act.put, List.setIfInBounds_toArray, List.set_cons_zero, List.set_cons_succ]
  refine wpAnyH_take (i := 26) (oi := ⟨some 67, _, _, _, _, _⟩) (v := ?_) rfl (by as_aux_lemma => kernel_rfl) (by as_aux_lemma => kernel_rfl) (by as_aux_lemma => kernel_rfl) (fun _ _ _ h => h) (Or.inl ⟨by rfl, ?_⟩) hHeld ?_
  rotate_left
  · intro w hSw
    go_simp
    first | done | with_reducible rfl
  try simp only [Act.put, List.setIfInBounds_toArray, List.set_cons_zero, List.set_cons_succ]
  refine wpAnyH_take (i := 27) (oi := ⟨some 68, _, _, _, _, _⟩) (v := ?_) rfl (by as_aux_lemma => kernel_rfl) (by as_aux_lemma => kernel_rfl) (by as_aux_lemma => kernel_rfl) (fun _ _ _ h => h) (Or.inl ⟨by rfl, ?_⟩) hHeld ?_
  rotate_left
  · intro w hSw
    go_simp
    first | done | with_reducible rfl
  try simp only [Act.put, List.setIfInBounds_toArray, List.set_cons_zero, List.set_cons_succ]
  refine wpAnyH_take (i := 28) (oi := ⟨some 69, _, _, _, _, _⟩) (v := ?_) rfl (by as_aux_lemma => kernel_rfl) (by as_aux_lemma => kernel_rfl) (by as_aux_lemma => kernel_rfl) (fun _ _ _ h => h) (Or.inl ⟨by rfl, ?_⟩) hHeld ?_
  rotate_left
  · intro w hSw
    go_simp
    first | done | with_reducible rfl
  try simp only [Act.put, List.setIfInBounds_toArray, List.set_cons_zero, List.set_cons_succ]
  refine wpAnyH_take (i := 29) (oi := ⟨some 70, _, _, _, _, _⟩) (v := ?_) rfl (by as_aux_lemma => kernel_rfl) (by as_aux_lemma => kernel_rfl) (by as_aux_lemma => kernel_rfl) (fun _ _ _ h => h) (Or.inl ⟨by rfl, ?_⟩) hHeld ?_
  rotate_left
  · intro w hSw
    go_simp
    first | done | with_reducible rfl
  try simp only [Act.put, List.setIfInBounds_toArray, List.set_cons_zero, List.set_cons_succ]
  refine wpAnyH_take (i := 30) (oi := ⟨some 71, _, _, _, _, _⟩) (v := ?_) rfl (by as_aux_lemma => kernel_rfl) (by as_aux_lemma => kernel_rfl) (by as_aux_lemma => kernel_rfl) (fun _ _ _ h => h) (Or.inl ⟨by rfl, ?_⟩) hHeld ?_
  rotate_left
  · intro w hSw
    go_simp
    first | done | with_reducible rfl
  try simp only [Act.put, List.setIfInBounds_toArray, List.set_cons_zero, List.set_cons_succ]
  refine wpAnyH_take (i := 31) (oi := ⟨some 72, _, _, _, _, _⟩) (v := ?_) rfl (by as_aux_lemma => kernel_rfl) (by as_aux_lemma => kernel_rfl) (by as_aux_lemma => kernel_rfl) (fun _ _ _ h => h) (Or.inl ⟨by rfl, ?_⟩) hHeld ?_
  rotate_left
  · intro w hSw
    go_simp
    first | done | with_reducible rfl
  try simp only [Act.put, List.setIfInBounds_toArray, List.set_cons_zero, List.set_cons_succ]
  refine wpAnyH_take (i := 32) (oi := ⟨some 73, _, _, _, _, _⟩) (v := ?_) rfl (by as_aux_lemma => kernel_rfl) (by as_aux_lemma => kernel_rfl) (by as_aux_lemma => kernel_rfl) (fun _ _ _ h => h) (Or.inl ⟨by rfl, ?_⟩) hHeld ?_
  rotate_left
  · intro w hSw
    obtain ⟨hS1, q0, q1, q2, q3⟩ := hSw
    obtain ⟨e0, e1⟩ := hS1.cells
    go_simp
    first | done | with_reducible rfl
  try simp only [Act.put, List.setIfInBounds_toArray, List.set_cons_zero, List.set_cons_succ]
  refine wpAnyH_take (i := 33) (oi := ⟨some 74, _, _, _, _, _⟩) (v := ?_) rfl (by as_aux_lemma => kernel_rfl) (by as_aux_lemma => kernel_rfl) (by as_aux_lemma => kernel_rfl) (fun _ _ _ h => h) (Or.inl ⟨by rfl, ?_⟩) hHeld ?_
  rotate_left
  · intro w hSw
    go_simp
    first | done | with_reducible rfl
  try simp only [Act.put, List.setIfInBounds_toArray, List.set_cons_zero, List.set_cons_succ]
  refine wpAnyH_take (i := 34) (oi := ⟨some 75, _, _, _, _, _⟩) (v := ?_) rfl (by as_aux_lemma => kernel_rfl) (by as_aux_lemma => kernel_rfl) (by as_aux_lemma => kernel_rfl) (fun _ _ _ h => h) (Or.inl ⟨by rfl, ?_⟩) hHeld ?_
  rotate_left
  · intro w hSw
    go_simp
    first | done | with_reducible rfl
  try simp only [Act.put, List.setIfInBounds_toArray, List.set_cons_zero, List.set_cons_succ]
  refine wpAnyH_take (i := 35) (oi := ⟨some 76, _, _, _, _, _⟩) (v := ?_) rfl (by as_aux_lemma => kernel_rfl) (by as_aux_lemma => kernel_rfl) (by as_aux_lemma => kernel_rfl) (fun _ _ _ h => h) (Or.inl ⟨by rfl, ?_⟩) hHeld ?_
  rotate_left
  · intro w hSw
    go_simp
    first | done | with_reducible rfl
  try simp only [Act.put, List.setIfInBounds_toArray, List.set_cons_zero, List.set_cons_succ]
  refine wpAnyH_take (i := 36) (oi := ⟨some 77, _, _, _, _, _⟩) (v := ?_) rfl (by as_aux_lemma => kernel_rfl) (by as_aux_lemma => kernel_rfl) (by as_aux_lemma => kernel_rfl) (fun _ _ _ h => h) (Or.inl ⟨by rfl, ?_⟩) hHeld ?_
  rotate_left
  · intro w hSw
    obtain ⟨hS1, q0, q1, q2, q3⟩ := hSw
    obtain ⟨e0, e1⟩ := hS1.cells
    go_simp
    first | done | with_reducible rfl
  try simp only [Act.put, List.setIfInBounds_toArray, List.set_cons_zero, List.set_cons_succ]
  refine wpAnyH_take (i := 37) (oi := ⟨some 78, _, _, _, _, _⟩) (v := .bool true) rfl (by as_aux_lemma => kernel_rfl) (by as_aux_lemma => kernel_rfl) (by as_aux_lemma => kernel_rfl) (fun _ _ _ h => h) (Or.inl ⟨by rfl, ?_⟩) hHeld ?_
  · intro w hSw
    go_simp
    first | done | omega | (simp [beq_self_eq_true]; done) | (simp; omega)
  try simp only [Act.put, List.setIfInBounds_toArray, List.set_cons_zero, List.set_cons_succ]
  refine wpAnyH_take (i := 38) (oi := ⟨some 79, _, _, _, _, _⟩) (v := ?_) rfl (by as_aux_lemma => kernel_rfl) (by as_aux_lemma => kernel_rfl) (by as_aux_lemma => kernel_rfl) (fun _ _ _ h => h) (Or.inl ⟨by rfl, ?_⟩) hHeld ?_
  rotate_left
  · intro w hSw
    go_simp
    first | done | with_reducible rfl
  try simp only [Act.put, List.setIfInBounds_toArray, List.set_cons_zero, List.set_cons_succ]
  clear m0 v1 l1 m1 o1 o2 o5 o7
  obtain ⟨hx1, hx2, hy1, hy2⟩ := HX9.out
  have hKN := HKN.out
  have hN1 := E1.out
  have hN2 := E2.out
  have hN3 := E3.out
  have hM63 := HM63.out
  have v2 : IntKind.i64.wrap ((N : Int) + 2) = (N2 : Int) := by rw [IntWalk.i64_in _ (by omega)]; omega
  have l2 : (0 : Int) ≤ (N2 : Int) := by omega
  have m2 : (N2 : Int) < (M : Int) := by omega
  have v3 : IntKind.i64.wrap ((N : Int) + 3) = (N3 : Int) := by rw [IntWalk.i64_in _ (by omega)]; omega
  have l3 : (0 : Int) ≤ (N3 : Int) := by omega
  have m3 : (N3 : Int) < (M : Int) := by omega
  have o3 : IntKind.i64.wrap (y1 : Int) = (y1 : Int) := IntWalk.i64_in _ (by omega)
  have o4 : IntKind.i64.wrap (y2 : Int) = (y2 : Int) := IntWalk.i64_in _ (by omega)
  have o6 : IntKind.i64.wrap ((y1 : Int) * 10) = (y1 : Int) * 10 := IntWalk.i64_in _ (by omega)
  have o8 : IntKind.i64.wrap ((y1 : Int) * 10 + (y2 : Int)) = b := by rw [HB.out]; exact IntWalk.i64_in _ (by have := HB.out; omega)
  clear hx1 hx2 hy1 hy2 hKN hN1 hN2 hN3 hM63
  refine wpAnyH_take (i := 39) (oi := ⟨some 80, _, _, _, _, _⟩) (v := ?_) rfl (by as_aux_lemma => kernel_rfl) (by as_aux_lemma => kernel_rfl) (by as_aux_lemma => kernel_rfl) (fun _ _ _ h => h) (Or.inl ⟨by rfl, ?_⟩) hHeld ?_
  rotate_left
  · intro w hSw
    go_simp
    first | done | with_reducible rfl
  try simp only [Act.put, List.setIfInBounds_toArray, List.set_cons_zero, List.set_cons_succ]
  refine wpAnyH_take (i := 40) (oi := ⟨some 81, _, _, _, _, _⟩) (v := ?_) rfl (by as_aux_lemma => kernel_rfl) (by as_aux_lemma => kernel_rfl) (by as_aux_lemma => kernel_rfl) (fun _ _ _ h => h) (Or.inl ⟨by rfl, ?_⟩) hHeld ?_
  rotate_left
  · intro w hSw
    go_simp
    first | done | with_reducible rfl
  try simp only [Act.put, List.setIfInBounds_toArray, List.set_cons_zero, List.set_cons_succ]
  refine wpAnyH_take (i := 41) (oi := ⟨some 82, _, _, _, _, _⟩) (v := ?_) rfl (by as_aux_lemma => kernel_rfl) (by as_aux_lemma => kernel_rfl) (by as_aux_lemma => kernel_rfl) (fun _ _ _ h => h) (Or.inl ⟨by rfl, ?_⟩) hHeld ?_
  rotate_left
  · intro w hSw
    go_simp
    first | done | with_reducible rfl
  try simp only [Act.put, List.setIfInBounds_toArray, List.set_cons_zero, List.set_cons_succ]
  refine wpAnyH_take (i := 42) (oi := ⟨some 83, _, _, _, _, _⟩) (v := ?_) rfl (by as_aux_lemma => kernel_rfl) (by as_aux_lemma => kernel_rfl) (by as_aux_lemma => kernel_rfl) (fun _ _ _ h => h) (Or.inl ⟨by rfl, ?_⟩) hHeld ?_
  rotate_left
  · intro w hSw
    go_simp
    first | done | with_reducible rfl
  try simp only [Act.put, List.setIfInBounds_toArray, List.set_cons_zero, List.set_cons_succ]
  refine wpAnyH_take (i := 43) (oi := ⟨some 84, _, _, _, _, _⟩) (v := ?_) rfl (by as_aux_lemma => kernel_rfl) (by as_aux_lemma => kernel_rfl) (by as_aux_lemma => kernel_rfl) (fun _ _ _ h => h) (Or.inl ⟨by rfl, ?_⟩) hHeld ?_
  rotate_left
  · intro w hSw
    go_simp
    first | done | with_reducible rfl
  try simp only [Act.put, List.setIfInBounds_toArray, List.set_cons_zero, List.set_cons_succ]
  refine wpAnyH_take (i := 44) (oi := ⟨some 85, _, _, _, _, _⟩) (v := ?_) rfl (by as_aux_lemma => kernel_rfl) (by as_aux_lemma => kernel_rfl) (by as_aux_lemma => kernel_rfl) (fun _ _ _ h => h) (Or.inl ⟨by rfl, ?_⟩) hHeld ?_
  rotate_left
  · intro w hSw
    obtain ⟨hS1, q0, q1, q2, q3⟩ := hSw
    obtain ⟨e0, e1⟩ := hS1.cells
    go_simp
    first | done | with_reducible rfl
  try simp only [Act.put, List.setIfInBounds_toArray, List.set_cons_zero, List.set_cons_succ]
  refine wpAnyH_take (i := 45) (oi := ⟨some 86, _, _, _, _, _⟩) (v := ?_) rfl (by as_aux_lemma => kernel_rfl) (by as_aux_lemma => kernel_rfl) (by as_aux_lemma => kernel_rfl) (fun _ _ _ h => h) (Or.inl ⟨by rfl, ?_⟩) hHeld ?_
  rotate_left
  · intro w hSw
    go_simp
    first | done | with_reducible rfl
  try simp only [Act.put, List.setIfInBounds_toArray, List.set_cons_zero, List.set_cons_succ]
  refine wpAnyH_take (i := 46) (oi := ⟨some 87, _, _, _, _, _⟩) (v := ?_) rfl (by as_aux_lemma => kernel_rfl) (by as_aux_lemma => kernel_rfl) (by as_aux_lemma => kernel_rfl) (fun _ _ _ h => h) (Or.inl ⟨by rfl, ?_⟩) hHeld ?_
  rotate_left
  · intro w hSw
    go_simp
    first | done | with_reducible rfl
  try simp only [Act.put, List.setIfInBounds_toArray, List.set_cons_zero, List.set_cons_succ]
  refine wpAnyH_take (i := 47) (oi := ⟨some 88, _, _, _, _, _⟩) (v := ?_) rfl (by as_aux_lemma => kernel_rfl) (by as_aux_lemma => kernel_rfl) (by as_aux_lemma => kernel_rfl) (fun _ _ _ h => h) (Or.inl ⟨by rfl, ?_⟩) hHeld ?_
  rotate_left
  · intro w hSw
    go_simp
    first | done | with_reducible rfl
  try simp only [Act.put, List.setIfInBounds_toArray, List.set_cons_zero, List.set_cons_succ]
  refine wpAnyH_take (i := 48) (oi := ⟨some 89, _, _, _, _, _⟩) (v := ?_) rfl (by as_aux_lemma => kernel_rfl) (by as_aux_lemma => kernel_rfl) (by as_aux_lemma => kernel_rfl) (fun _ _ _ h => h) (Or.inl ⟨by rfl, ?_⟩) hHeld ?_
  rotate_left
  · intro w hSw
    go_simp
    first | done | with_reducible rfl
  try simp only [Act.put, List.setIfInBounds_toArray, List.set_cons_zero, List.set_cons_succ]
  refine wpAnyH_take (i := 49) (oi := ⟨some 90, _, _, _, _, _⟩) (v := ?_) rfl (by as_aux_lemma => kernel_rfl) (by as_aux_lemma => kernel_rfl) (by as_aux_lemma => kernel_rfl) (fun _ _ _ h => h) (Or.inl ⟨by rfl, ?_⟩) hHeld ?_
  rotate_left
  · intro w hSw
    go_simp
    first | done | with_reducible rfl
  try simp only [Act.put, List.setIfInBounds_toArray, List.set_cons_zero, List.set_cons_succ]
  refine wpAnyH_take (i := 50) (oi := ⟨some 91, _, _, _, _, _⟩) (v := ?_) rfl (by as_aux_lemma => kernel_rfl) (by as_aux_lemma => kernel_rfl) (by as_aux_lemma => kernel_rfl) (fun _ _ _ h => h) (Or.inl ⟨by rfl, ?_⟩) hHeld ?_
  rotate_left
  · intro w hSw
    go_simp
    first | done | with_reducible rfl
  try simp only [Act.put, List.setIfInBounds_toArray, List.set_cons_zero, List.set_cons_succ]
  refine wpAnyH_take (i := 51) (oi := ⟨some 92, _, _, _, _, _⟩) (v := ?_) rfl (by as_aux_lemma => kernel_rfl) (by as_aux_lemma => kernel_rfl) (by as_aux_lemma => kernel_rfl) (fun _ _ _ h => h) (Or.inl ⟨by rfl, ?_⟩) hHeld ?_
  rotate_left
  · intro w hSw
    obtain ⟨hS1, q0, q1, q2, q3⟩ := hSw
    obtain ⟨e0, e1⟩ := hS1.cells
    go_simp
    first | done | with_reducible rfl
  try simp only [Act.put, List.setIfInBounds_toArray, List.set_cons_zero, List.set_cons_succ]
  refine wpAnyH_take (i := 52) (oi := ⟨some 93, _, _, _, _, _⟩) (v := ?_) rfl (by as_aux_lemma => kernel_rfl) (by as_aux_lemma => kernel_rfl) (by as_aux_lemma => kernel_rfl) (fun _ _ _ h => h) (Or.inl ⟨by rfl, ?_⟩) hHeld ?_
  rotate_left
  · intro w hSw
    go_simp
    first | done | with_reducible rfl
  try simp only [Act.put, List.setIfInBounds_toArray, List.set_cons_zero, List.set_cons_succ]
  refine wpAnyH_take (i := 53) (oi := ⟨some 94, _, _, _, _, _⟩) (v := ?_) rfl (by as_aux_lemma => kernel_rfl) (by as_aux_lemma => kernel_rfl) (by as_aux_lemma => kernel_rfl) (fun _ _ _ h => h) (Or.inl ⟨by rfl, ?_⟩) hHeld ?_
  rotate_left
  · intro w hSw
    go_simp
    first | done | with_reducible rfl
  try simp only [Act.put, List.setIfInBounds_toArray, List.set_cons_zero, List.set_cons_succ]
  refine wpAnyH_take (i := 54) (oi := ⟨some 95, _, _, _, _, _⟩) (v := ?_) rfl (by as_aux_lemma => kernel_rfl) (by as_aux_lemma => kernel_rfl) (by as_aux_lemma => kernel_rfl) (fun _ _ _ h => h) (Or.inl ⟨by rfl, ?_⟩) hHeld ?_
  rotate_left
  · intro w hSw
    go_simp
    first | done | with_reducible rfl
  try simp only [Act.put, List.setIfInBounds_toArray, List.set_cons_zero, List.set_cons_succ]
  refine wpAnyH_take (i := 55) (oi := ⟨some 96, _, _, _, _, _⟩) (v := ?_) rfl (by as_aux_lemma => kernel_rfl) (by as_aux_lemma => kernel_rfl) (by as_aux_lemma => kernel_rfl) (fun _ _ _ h => h) (Or.inl ⟨by rfl, ?_⟩) hHeld ?_
  rotate_left
  · intro w hSw
    obtain ⟨hS1, q0, q1, q2, q3⟩ := hSw
    obtain ⟨e0, e1⟩ := hS1.cells
    go_simp
    first | done | with_reducible rfl
  try simp only [Act.put, List.setIfInBounds_toArray, List.set_cons_zero, List.set_cons_succ]
  refine wpAnyH_take (i := 56) (oi := ⟨some 97, _, _, _, _, _⟩) (v := .bool true) rfl (by as_aux_lemma => kernel_rfl) (by as_aux_lemma => kernel_rfl) (by as_aux_lemma => kernel_rfl) (fun _ _ _ h => h) (Or.inl ⟨by rfl, ?_⟩) hHeld ?_
  · intro w hSw
    go_simp
    first | done | omega | (simp [beq_self_eq_true]; done) | (simp; omega)
  try simp only [Act.put, List.setIfInBounds_toArray, List.set_cons_zero, List.set_cons_succ]
  refine wpAnyH_take (i := 57) (oi := ⟨some 98, _, _, _, _, _⟩) (v := ?_) rfl (by as_aux_lemma => kernel_rfl) (by as_aux_lemma => kernel_rfl) (by as_aux_lemma => kernel_rfl) (fun _ _ _ h => h) (Or.inl ⟨by rfl, ?_⟩) hHeld ?_
  rotate_left
  · intro w hSw
    go_simp
    first | done | with_reducible rfl
  try simp only [Act.put, List.setIfInBounds_toArray, List.set_cons_zero, List.set_cons_succ]
  refine wpAnyH_take (i := 58) (oi := ⟨some 4, _, _, _, _, _⟩) (v := ?_) rfl (by as_aux_lemma => kernel_rfl) (by as_aux_lemma => kernel_rfl) (by as_aux_lemma => kernel_rfl) (fun _ _ _ h => h) (Or.inl ⟨by rfl, ?_⟩) hHeld ?_
  rotate_left
  · intro w hSw
    go_simp
    first | done | with_reducible rfl
  try simp only [Act.put, List.setIfInBounds_toArray, List.set_cons_zero, List.set_cons_succ]
  refine wpAnyH_done (by as_aux_lemma => kernel_rfl) ?_ _
  go_wp2
  go_ret
  exact ⟨rfl, HBL.out⟩
end Go.Proofs.Ytpeccmcojocgkaa
