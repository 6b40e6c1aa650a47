/-
  Contract for the reference's Put: what fits. Conditions: the numbers fit an int.
-/
import Derived.Test.YtpniolinndlepaaGreatDoorLayRefPut0
namespace Go.Proofs.YtpniolinndlepaaGreatDoor
set_option linter.unusedVariables false
open Go.ChangeShapes Go.WideShapes Go.ChangeAt Go.RowKit

theorem int_lit3 (w : World) (a b c : Int) : ∀ j u, ([.int .i64 a, .int .i64 b, .int .i64 c] : List Value)[j]? = some u → (w.alloc (.cells #[.int .i64 a, .int .i64 b, .int .i64 c] 3)).cell? ((⟨w.heap.size, 0, none⟩ : Addr).add j) = some u := by
  intro j u hu
  obtain ⟨ad, e, _, hc⟩ := rd_lit w #[.int .i64 a, .int .i64 b, .int .i64 c] 3 j u hu
  cases e
  exact hc
theorem int_lit3b (w : World) (o : Obj) (a b c : Int) : ∀ j u, ([.int .i64 a, .int .i64 b, .int .i64 c] : List Value)[j]? = some u → ((w.alloc o).alloc (.cells #[.int .i64 a, .int .i64 b, .int .i64 c] 3)).cell? ((⟨w.heap.size + 1, 0, none⟩ : Addr).add j) = some u := by
  have h := int_lit3 (w.alloc o) a b c
  rw [show (w.alloc o).heap.size = w.heap.size + 1 by simp] at h
  exact h
theorem TBox.below {w w' : World} {b B : Nat} {t : Tk} (h : TBox w b t) (hlt : b < B) (hb : Below B w w') : TBox w' b t := (hb.block _ hlt).trans h
theorem three_int (a b c : Int) : ∀ u ∈ ([.int .i64 a, .int .i64 b, .int .i64 c] : List Value), u.oneCell' = true := I64_one [a, b, c]
set_option maxRecDepth 100000 in
set_option maxHeartbeats 1600000 in
theorem rput_yes (r : Rg) (hin : InR r) (E : Int) (p : List Nat) (hE : lputX r = (E, p)) (w : World) (ha : argB r = true) (hf : fitB r = true) (hnk : r.t.kind ≠ 4) : Calls Tryz.prog 28 #[.agg #[.int .i64 r.t.ser, .int .i64 r.t.kind, .int .i64 r.t.frm, .int .i64 r.t.till, .int .i64 r.t.cls, .int .i64 r.t.card, .int .i64 r.t.seat, .int .i64 r.t.day, .int .i64 r.t.days, .int .i64 r.t.uses, .int .i64 r.t.epoch, .int .i64 r.key, .int .i64 r.left, .int .i64 r.inn, .int .i64 r.ver]] w fun e w' => ∃ A c, e = .returned (.tuple #[.slice A (p.length : Nat) c, .int .i64 E]) ∧ Bs w' w'.heap.size p A c ∧ Below w.heap.size w w' := by
  have hv9 : I64 (valL r) = [.int .i64 r.t.kind, .int .i64 r.t.ser, .int .i64 r.t.cls, .int .i64 r.t.card, .int .i64 r.t.day, .int .i64 r.t.days, .int .i64 r.t.epoch, .int .i64 r.t.frm, .int .i64 r.t.till] ++ [.int .i64 r.left, .int .i64 r.inn, .int .i64 r.key] := by rw [valL, valF, if_neg hnk]; rfl
  have HV9 := Lib.hid hv9
  have hn12 : (9 + 3 : Nat) = (widL r.t.kind).length := by rw [widL_len (kind_in ((argB_iff r).1 ha).1), if_neg hnk]
  have qk : (r.t.kind == 4) = false := by rw [beq_eq_false_iff_ne]; exact hnk
  clear hv9 hnk
  rw [lput_join ha hf] at hE
  have HJ := Lib.hid hE
  have hk := kind_in ((argB_iff r).1 ha).1
  have hvl := valL_len hk
  obtain ⟨h1, h2, h3, h3', h4⟩ := (argB_iff r).1 ha
  have H1 := Lib.hid h1
  have H2 := Lib.hid h2
  have q3 : decide (r.key < 0) = false := decide_eq_false (by omega)
  have q3' : decide (99 < r.key) = false := decide_eq_false (by omega)
  have q4 : (r.ver != 0) = false := by rw [h4]; rfl
  have q4' : (r.ver == 0) = true := by rw [h4]; rfl
  clear h1 h2 h3 h3' h4
  obtain ⟨h5, h6⟩ := (fitB_iff r).1 hf
  have q5 : (r.t.seat != 0) = false := by rw [h5]; rfl
  have q6 : decide (9999999 < r.t.ser) = false := decide_eq_false (by omega)
  have q5' : (r.t.seat == 0) = true := by rw [h5]; rfl
  have q6' : decide (r.t.ser ≤ 9999999) = true := decide_eq_true h6
  obtain ⟨n, hn⟩ : ∃ n, n = (widL r.t.kind).length := ⟨_, rfl⟩
  have HN := Lib.hid hn
  have HWE := Lib.hid (show widE r.t.kind = 0 by rw [widE, if_pos hk])
  have HVL := Lib.hid (hn.trans hvl.symm)
  have HIN := Lib.hid hin
  obtain ⟨i0, hi, hz0, hz1, hz2⟩ := info_parts infoInt
  clear ha hf h5 h6 hE hvl hn hin hk
  have hn13 : (9 + 3 : Nat) = n := hn12.trans HN.out.symm
  have HN13 := Lib.hid hn13
  clear hn12 hn13
  obtain ⟨w0, hw0⟩ : ∃ w0, w0 = (w.alloc (.cells #[.int .i64 r.t.ser, .int .i64 r.t.kind, .int .i64 r.t.frm, .int .i64 r.t.till, .int .i64 r.t.cls, .int .i64 r.t.card, .int .i64 r.t.seat, .int .i64 r.t.day, .int .i64 r.t.days, .int .i64 r.t.uses, .int .i64 r.t.epoch, .int .i64 r.key, .int .i64 r.left, .int .i64 r.inn, .int .i64 r.ver] 28)).alloc (.cells #[.int .i64 r.t.ser, .int .i64 r.t.kind, .int .i64 r.t.frm, .int .i64 r.t.till, .int .i64 r.t.cls, .int .i64 r.t.card, .int .i64 r.t.seat, .int .i64 r.t.day, .int .i64 r.t.days, .int .i64 r.t.uses, .int .i64 r.t.epoch] 24) := ⟨_, rfl⟩
  have HX : Hid (RBox w0 w.heap.size r) := Lib.hid (by rw [hw0]; exact (RBox.new w r).alloc _)
  have HT : Hid (TBox w0 (w.heap.size + 1) r.t) := Lib.hid (by rw [hw0, show w.heap.size + 1 = (w.alloc (.cells #[.int .i64 r.t.ser, .int .i64 r.t.kind, .int .i64 r.t.frm, .int .i64 r.t.till, .int .i64 r.t.cls, .int .i64 r.t.card, .int .i64 r.t.seat, .int .i64 r.t.day, .int .i64 r.t.days, .int .i64 r.t.uses, .int .i64 r.t.epoch, .int .i64 r.key, .int .i64 r.left, .int .i64 r.inn, .int .i64 r.ver] 28)).heap.size by simp]; exact TBox.new _ r.t)
  have HBL : Hid (Below w.heap.size w w0) := Lib.hid (by rw [hw0]; exact ((Below.refl _ _).alloc (Nat.le_refl _) _).alloc (by simp) _)
  have HW := Lib.hid hw0
  clear hw0
  go_enter Tryz.func28, Tryz.ntmps28
  go_wp2_with fail
  rw [← HW.out]
  obtain ⟨e0, e1, e2, e3, e4, e5, e6, e7, e8, e9, e10⟩ := HT.out.cells
  go_wp2_with (first | (go_at_call 69; refine (refis9_any r.t _ H1.out _).mono ?_; rintro e w1 ⟨rfl, hb⟩; clear e0 e1 e2 e3 e4 e5 e6 e7 e8 e9 e10; have HX1 := Lib.hid (HX.out.next hb); have HT1 := Lib.hid (HT.out.next hb); have HBL1 := Lib.hid (HBL.out.trans (hb.mono HBL.out.size)); clear hb; obtain ⟨c0, c1, c2, c3, c4, c5, c6, c7, c8, c9, c10⟩ := HT1.out.cells; obtain ⟨b0, b1, b2, b3, b4, b5, b6, b7, b8, b9, b10, b11, b12, b13, b14⟩ := HX1.out.cells) | (go_at_call 70; refine (rsuits_any r.t r.left r.inn _ H2.out _).mono ?_; rintro e w2 ⟨rfl, hb⟩; clear c0 c1 c2 c3 c4 c5 c6 c7 c8 c9 c10 b0 b1 b2 b3 b4 b5 b6 b7 b8 b9 b10 b11 b12 b13 b14; have HX2 := Lib.hid (HX1.out.next hb); have HT2 := Lib.hid (HT1.out.next hb); have HBL2 := Lib.hid (HBL1.out.trans (hb.mono HBL1.out.size)); clear hb; obtain ⟨c0, c1, c2, c3, c4, c5, c6, c7, c8, c9, c10⟩ := HT2.out.cells; obtain ⟨b0, b1, b2, b3, b4, b5, b6, b7, b8, b9, b10, b11, b12, b13, b14⟩ := HX2.out.cells; have hXl := HX2.out.lt; have hYl := HT2.out.lt; have HO4 := Lib.hid (World.ownsRow_lit (base := w2.heap.size) (e := 3) (size := 1) w2 #[.int .i64 r.t.kind, .int .i64 r.t.ser, .int .i64 r.t.cls, .int .i64 r.t.card, .int .i64 r.t.day, .int .i64 r.t.days, .int .i64 r.t.epoch, .int .i64 r.t.frm, .int .i64 r.t.till] 9 (Nat.le_refl _) (by decide) rfl); have hB4 : Below w2.heap.size w2 (w2.alloc (.cells #[.int .i64 r.t.kind, .int .i64 r.t.ser, .int .i64 r.t.cls, .int .i64 r.t.card, .int .i64 r.t.day, .int .i64 r.t.days, .int .i64 r.t.epoch, .int .i64 r.t.frm, .int .i64 r.t.till] 3)) := below_lit w2 _ _; have hRw := HX2.out.below hXl hB4; have hTw := HT2.out.below hYl hB4; obtain ⟨kt0, kt1, kt2, kt3, kt4, kt5, kt6, kt7, kt8, kt9, kt10⟩ := hTw.cells; obtain ⟨kr0, kr1, kr2, kr3, kr4, kr5, kr6, kr7, kr8, kr9, kr10, kr11, kr12, kr13, kr14⟩ := hRw.cells; clear hRw hTw; have HB4 := Lib.hid hB4; clear hB4) | (at_builtin; refine wpList_append_own _ rfl (.tmp 72) (.tmp 81) 82 rfl w2.heap.size 3 i0 (.int .i64 0) 1 8 Tryz.underlying82 hi hz0 hz1 hz2 rfl (by decide) _ 9 _ rfl (HO4.out.alloc _) ⟨w2.heap.size + 1, 0, none⟩ 3 3 [.int .i64 r.left, .int .i64 r.inn, .int .i64 r.key] rfl rfl (int_lit3b _ _ _ _ _) (three_int _ _ _) (by unfold maxLen; omega) (by omega) (by have := HB4.out.size; first | omega | (simp only [World.size_alloc] at this ⊢; omega) | (simp only [World.size_alloc]; omega)) ?_; intro v7 w7 hown hg _; have hB7 : Below w2.heap.size w2 w7 := (HB4.out.alloc (by have := HB4.out.size; first | omega | (simp only [World.size_alloc] at this ⊢; omega) | (simp only [World.size_alloc]; omega)) _).grown hg (by have := HB4.out.size; first | omega | (simp only [World.size_alloc] at this ⊢; omega) | (simp only [World.size_alloc]; omega)) (fun j hj => own_ge HO4.out hj); have hRw := HX2.out.below hXl hB7; have hTw := HT2.out.below hYl hB7; obtain ⟨ft0, ft1, ft2, ft3, ft4, ft5, ft6, ft7, ft8, ft9, ft10⟩ := hTw.cells; obtain ⟨fr0, fr1, fr2, fr3, fr4, fr5, fr6, fr7, fr8, fr9, fr10, fr11, fr12, fr13, fr14⟩ := hRw.cells; clear hRw hTw; have HB7 := Lib.hid (HBL2.out.trans (hB7.mono HBL2.out.size)); obtain ⟨AV, cV, rfl, _, hzv⟩ := zs_of_own (l := valL r) (by rw [HV9.out]; exact hown); have HZV := Lib.hid hzv; try rw [HN13.out]; clear hown hg hzv hB7) | (go_at_call 71; refine (rwidths_any r.t.kind 0 (widL r.t.kind) n HN.out HWE.out rfl _).mono ?_; rintro e w8 ⟨AW, cW, rfl, hzw, hb⟩; have HZW := Lib.hid hzw; have HZV8 := Lib.hid (HZV.out.next hb); have HB8 := Lib.hid (HB7.out.trans (hb.mono HB7.out.size)); clear hzw hb) | (go_at_call 72; refine (rjoin_any (valL r) (widL r.t.kind) n n HVL.out HN.out E p HJ.out AV AW cV cW _ HZV8.out HZW.out (valL_in HIN.out)).mono ?_; rintro e w9 ⟨A9, c9, rfl, hbs, hb⟩; have HBS := Lib.hid hbs; have HB9 := Lib.hid (HB8.out.trans (hb.mono HB8.out.size)); clear hbs hb))
  go_ret2
  exact ⟨A9, c9, rfl, HBS.out, HB9.out⟩
set_option maxRecDepth 100000 in
set_option maxHeartbeats 1600000 in
theorem rput_four (r : Rg) (hin : InR r) (E : Int) (p : List Nat) (hE : lputX r = (E, p)) (w : World) (ha : argB r = true) (hf : fitB r = true) (hk4 : r.t.kind = 4) : Calls Tryz.prog 28 #[.agg #[.int .i64 r.t.ser, .int .i64 r.t.kind, .int .i64 r.t.frm, .int .i64 r.t.till, .int .i64 r.t.cls, .int .i64 r.t.card, .int .i64 r.t.seat, .int .i64 r.t.day, .int .i64 r.t.days, .int .i64 r.t.uses, .int .i64 r.t.epoch, .int .i64 r.key, .int .i64 r.left, .int .i64 r.inn, .int .i64 r.ver]] w fun e w' => ∃ A c, e = .returned (.tuple #[.slice A (p.length : Nat) c, .int .i64 E]) ∧ Bs w' w'.heap.size p A c ∧ Below w.heap.size w w' := by
  have hv9 : I64 (valL r) = [.int .i64 r.t.kind, .int .i64 r.t.ser, .int .i64 r.t.cls, .int .i64 r.t.card, .int .i64 r.t.day, .int .i64 r.t.days, .int .i64 r.t.epoch, .int .i64 r.t.frm, .int .i64 r.t.till] ++ [.int .i64 r.t.uses] ++ [.int .i64 r.left, .int .i64 r.inn, .int .i64 r.key] := by rw [valL, valF, if_pos hk4]; rfl
  have HV9 := Lib.hid hv9
  have hn12 : (10 + 3 : Nat) = (widL r.t.kind).length := by rw [widL_len (kind_in ((argB_iff r).1 ha).1), if_pos hk4]
  have qk : (r.t.kind == 4) = true := by rw [beq_iff_eq]; exact hk4
  clear hv9 hk4
  rw [lput_join ha hf] at hE
  have HJ := Lib.hid hE
  have hk := kind_in ((argB_iff r).1 ha).1
  have hvl := valL_len hk
  obtain ⟨h1, h2, h3, h3', h4⟩ := (argB_iff r).1 ha
  have H1 := Lib.hid h1
  have H2 := Lib.hid h2
  have q3 : decide (r.key < 0) = false := decide_eq_false (by omega)
  have q3' : decide (99 < r.key) = false := decide_eq_false (by omega)
  have q4 : (r.ver != 0) = false := by rw [h4]; rfl
  have q4' : (r.ver == 0) = true := by rw [h4]; rfl
  clear h1 h2 h3 h3' h4
  obtain ⟨h5, h6⟩ := (fitB_iff r).1 hf
  have q5 : (r.t.seat != 0) = false := by rw [h5]; rfl
  have q6 : decide (9999999 < r.t.ser) = false := decide_eq_false (by omega)
  have q5' : (r.t.seat == 0) = true := by rw [h5]; rfl
  have q6' : decide (r.t.ser ≤ 9999999) = true := decide_eq_true h6
  obtain ⟨n, hn⟩ : ∃ n, n = (widL r.t.kind).length := ⟨_, rfl⟩
  have HN := Lib.hid hn
  have HWE := Lib.hid (show widE r.t.kind = 0 by rw [widE, if_pos hk])
  have HVL := Lib.hid (hn.trans hvl.symm)
  have HIN := Lib.hid hin
  obtain ⟨i0, hi, hz0, hz1, hz2⟩ := info_parts infoInt
  clear ha hf h5 h6 hE hvl hn hin hk
  have hn13 : (10 + 3 : Nat) = n := hn12.trans HN.out.symm
  have HN13 := Lib.hid hn13
  clear hn12 hn13
  obtain ⟨w0, hw0⟩ : ∃ w0, w0 = (w.alloc (.cells #[.int .i64 r.t.ser, .int .i64 r.t.kind, .int .i64 r.t.frm, .int .i64 r.t.till, .int .i64 r.t.cls, .int .i64 r.t.card, .int .i64 r.t.seat, .int .i64 r.t.day, .int .i64 r.t.days, .int .i64 r.t.uses, .int .i64 r.t.epoch, .int .i64 r.key, .int .i64 r.left, .int .i64 r.inn, .int .i64 r.ver] 28)).alloc (.cells #[.int .i64 r.t.ser, .int .i64 r.t.kind, .int .i64 r.t.frm, .int .i64 r.t.till, .int .i64 r.t.cls, .int .i64 r.t.card, .int .i64 r.t.seat, .int .i64 r.t.day, .int .i64 r.t.days, .int .i64 r.t.uses, .int .i64 r.t.epoch] 24) := ⟨_, rfl⟩
  have HX : Hid (RBox w0 w.heap.size r) := Lib.hid (by rw [hw0]; exact (RBox.new w r).alloc _)
  have HT : Hid (TBox w0 (w.heap.size + 1) r.t) := Lib.hid (by rw [hw0, show w.heap.size + 1 = (w.alloc (.cells #[.int .i64 r.t.ser, .int .i64 r.t.kind, .int .i64 r.t.frm, .int .i64 r.t.till, .int .i64 r.t.cls, .int .i64 r.t.card, .int .i64 r.t.seat, .int .i64 r.t.day, .int .i64 r.t.days, .int .i64 r.t.uses, .int .i64 r.t.epoch, .int .i64 r.key, .int .i64 r.left, .int .i64 r.inn, .int .i64 r.ver] 28)).heap.size by simp]; exact TBox.new _ r.t)
  have HBL : Hid (Below w.heap.size w w0) := Lib.hid (by rw [hw0]; exact ((Below.refl _ _).alloc (Nat.le_refl _) _).alloc (by simp) _)
  have HW := Lib.hid hw0
  clear hw0
  go_enter Tryz.func28, Tryz.ntmps28
  go_wp2_with fail
  rw [← HW.out]
  obtain ⟨e0, e1, e2, e3, e4, e5, e6, e7, e8, e9, e10⟩ := HT.out.cells
  go_wp2_with (first | (go_at_call 69; refine (refis9_any r.t _ H1.out _).mono ?_; rintro e w1 ⟨rfl, hb⟩; clear e0 e1 e2 e3 e4 e5 e6 e7 e8 e9 e10; have HX1 := Lib.hid (HX.out.next hb); have HT1 := Lib.hid (HT.out.next hb); have HBL1 := Lib.hid (HBL.out.trans (hb.mono HBL.out.size)); clear hb; obtain ⟨c0, c1, c2, c3, c4, c5, c6, c7, c8, c9, c10⟩ := HT1.out.cells; obtain ⟨b0, b1, b2, b3, b4, b5, b6, b7, b8, b9, b10, b11, b12, b13, b14⟩ := HX1.out.cells) | (go_at_call 70; refine (rsuits_any r.t r.left r.inn _ H2.out _).mono ?_; rintro e w2 ⟨rfl, hb⟩; clear c0 c1 c2 c3 c4 c5 c6 c7 c8 c9 c10 b0 b1 b2 b3 b4 b5 b6 b7 b8 b9 b10 b11 b12 b13 b14; have HX2 := Lib.hid (HX1.out.next hb); have HT2 := Lib.hid (HT1.out.next hb); have HBL2 := Lib.hid (HBL1.out.trans (hb.mono HBL1.out.size)); clear hb; obtain ⟨c0, c1, c2, c3, c4, c5, c6, c7, c8, c9, c10⟩ := HT2.out.cells; obtain ⟨b0, b1, b2, b3, b4, b5, b6, b7, b8, b9, b10, b11, b12, b13, b14⟩ := HX2.out.cells; have hXl := HX2.out.lt; have hYl := HT2.out.lt; have HO4 := Lib.hid (World.ownsRow_lit (base := w2.heap.size) (e := 3) (size := 1) w2 #[.int .i64 r.t.kind, .int .i64 r.t.ser, .int .i64 r.t.cls, .int .i64 r.t.card, .int .i64 r.t.day, .int .i64 r.t.days, .int .i64 r.t.epoch, .int .i64 r.t.frm, .int .i64 r.t.till] 9 (Nat.le_refl _) (by decide) rfl); have hB4 : Below w2.heap.size w2 (w2.alloc (.cells #[.int .i64 r.t.kind, .int .i64 r.t.ser, .int .i64 r.t.cls, .int .i64 r.t.card, .int .i64 r.t.day, .int .i64 r.t.days, .int .i64 r.t.epoch, .int .i64 r.t.frm, .int .i64 r.t.till] 3)) := below_lit w2 _ _; have hRw := HX2.out.below hXl hB4; have hTw := HT2.out.below hYl hB4; obtain ⟨kt0, kt1, kt2, kt3, kt4, kt5, kt6, kt7, kt8, kt9, kt10⟩ := hTw.cells; obtain ⟨kr0, kr1, kr2, kr3, kr4, kr5, kr6, kr7, kr8, kr9, kr10, kr11, kr12, kr13, kr14⟩ := hRw.cells; clear hRw hTw; have HB4 := Lib.hid hB4; clear hB4) | (at_builtin; refine wpList_append_own _ rfl (.tmp 67) (.tmp 70) 82 rfl w2.heap.size 3 i0 (.int .i64 0) 1 8 Tryz.underlying82 hi hz0 hz1 hz2 rfl (by decide) _ 9 _ rfl (HO4.out.alloc _) ⟨w2.heap.size + 1, 0, none⟩ 1 1 [.int .i64 r.t.uses] rfl rfl (int_lit2 _ _ _) (one_int _) (by unfold maxLen; omega) (by omega) (by have := HB4.out.size; first | omega | (simp only [World.size_alloc] at this ⊢; omega) | (simp only [World.size_alloc]; omega)) ?_; intro v6 w6 hown hg _; have hB6 : Below w2.heap.size w2 w6 := (HB4.out.alloc (by have := HB4.out.size; first | omega | (simp only [World.size_alloc] at this ⊢; omega) | (simp only [World.size_alloc]; omega)) _).grown hg (by have := HB4.out.size; first | omega | (simp only [World.size_alloc] at this ⊢; omega) | (simp only [World.size_alloc]; omega)) (fun j hj => own_ge HO4.out hj); have hRw := HX2.out.below hXl hB6; have hTw := HT2.out.below hYl hB6; obtain ⟨gt0, gt1, gt2, gt3, gt4, gt5, gt6, gt7, gt8, gt9, gt10⟩ := hTw.cells; obtain ⟨gr0, gr1, gr2, gr3, gr4, gr5, gr6, gr7, gr8, gr9, gr10, gr11, gr12, gr13, gr14⟩ := hRw.cells; clear hRw hTw; have HB6 := Lib.hid hB6; have HO6 := Lib.hid hown; clear hown hg hB6) | (at_builtin; refine wpList_append_own _ rfl (.tmp 72) (.tmp 81) 82 rfl w2.heap.size 3 i0 (.int .i64 0) 1 8 Tryz.underlying82 hi hz0 hz1 hz2 rfl (by decide) _ 10 _ rfl (HO6.out.alloc _) ⟨w6.heap.size, 0, none⟩ 3 3 [.int .i64 r.left, .int .i64 r.inn, .int .i64 r.key] rfl rfl (int_lit3 _ _ _ _) (three_int _ _ _) (by unfold maxLen; omega) (by omega) (by have := HB6.out.size; first | omega | (simp only [World.size_alloc] at this ⊢; omega) | (simp only [World.size_alloc]; omega)) ?_; intro v7 w7 hown hg _; have hB7 : Below w2.heap.size w2 w7 := (HB6.out.alloc (by have := HB6.out.size; first | omega | (simp only [World.size_alloc] at this ⊢; omega) | (simp only [World.size_alloc]; omega)) _).grown hg (by have := HB6.out.size; first | omega | (simp only [World.size_alloc] at this ⊢; omega) | (simp only [World.size_alloc]; omega)) (fun j hj => own_ge HO6.out hj); have hRw := HX2.out.below hXl hB7; have hTw := HT2.out.below hYl hB7; obtain ⟨ft0, ft1, ft2, ft3, ft4, ft5, ft6, ft7, ft8, ft9, ft10⟩ := hTw.cells; obtain ⟨fr0, fr1, fr2, fr3, fr4, fr5, fr6, fr7, fr8, fr9, fr10, fr11, fr12, fr13, fr14⟩ := hRw.cells; clear hRw hTw; have HB7 := Lib.hid (HBL2.out.trans (hB7.mono HBL2.out.size)); obtain ⟨AV, cV, rfl, _, hzv⟩ := zs_of_own (l := valL r) (by rw [HV9.out]; exact hown); have HZV := Lib.hid hzv; try rw [HN13.out]; clear hown hg hzv hB7) | (go_at_call 71; refine (rwidths_any r.t.kind 0 (widL r.t.kind) n HN.out HWE.out rfl _).mono ?_; rintro e w8 ⟨AW, cW, rfl, hzw, hb⟩; have HZW := Lib.hid hzw; have HZV8 := Lib.hid (HZV.out.next hb); have HB8 := Lib.hid (HB7.out.trans (hb.mono HB7.out.size)); clear hzw hb) | (go_at_call 72; refine (rjoin_any (valL r) (widL r.t.kind) n n HVL.out HN.out E p HJ.out AV AW cV cW _ HZV8.out HZW.out (valL_in HIN.out)).mono ?_; rintro e w9 ⟨A9, c9, rfl, hbs, hb⟩; have HBS := Lib.hid hbs; have HB9 := Lib.hid (HB8.out.trans (hb.mono HB8.out.size)); clear hbs hb))
  go_ret2
  exact ⟨A9, c9, rfl, HBS.out, HB9.out⟩
theorem rlput_any (r : Rg) (hin : InR r) (E : Int) (p : List Nat) (hE : lputX r = (E, p)) (w : World) : Calls Tryz.prog 28 #[.agg #[.int .i64 r.t.ser, .int .i64 r.t.kind, .int .i64 r.t.frm, .int .i64 r.t.till, .int .i64 r.t.cls, .int .i64 r.t.card, .int .i64 r.t.seat, .int .i64 r.t.day, .int .i64 r.t.days, .int .i64 r.t.uses, .int .i64 r.t.epoch, .int .i64 r.key, .int .i64 r.left, .int .i64 r.inn, .int .i64 r.ver]] w fun e w' => ∃ A c, e = .returned (.tuple #[.slice A (p.length : Nat) c, .int .i64 E]) ∧ Bs w' w'.heap.size p A c ∧ Below w.heap.size w w' := by
  by_cases h1 : okT r.t = true
  · by_cases h2 : suitB r.t.uses r.left r.inn = true
    · by_cases h3 : r.key < 0
      · exact rput_p3 r hin E p hE w h1 h2 h3
      · by_cases h3b : 99 < r.key
        · exact rput_p3b r hin E p hE w h1 h2 h3b
        · by_cases h4 : r.ver = 0
          · have ha : argB r = true := (argB_iff r).2 ⟨h1, h2, by omega, by omega, h4⟩
            by_cases h5 : r.t.seat = 0
            · by_cases h6 : 9999999 < r.t.ser
              · exact rput_p6 r hin E p hE w ha h5 h6
              · by_cases hk : r.t.kind = 4
                · exact rput_four r hin E p hE w ha ((fitB_iff r).2 ⟨h5, by omega⟩) hk
                · exact rput_yes r hin E p hE w ha ((fitB_iff r).2 ⟨h5, by omega⟩) hk
            · exact rput_p5 r hin E p hE w ha h5
          · exact rput_p4 r hin E p hE w h1 h2 h3 h3b h4
    · exact rput_p2 r hin E p hE w h1 (by simpa using h2)
  · exact rput_p1 r hin E p hE w (by simpa using h1)
end Go.Proofs.YtpniolinndlepaaGreatDoor
