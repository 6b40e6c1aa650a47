/-
  Package layout's smaller functions; two readings compared.
-/
import Derived.Test.YtpniolinndlepaaGreatDoorLayA
import Derived.Test.YtpniolinndlepaaGreatDoorBcdA
import Derived.OwnWalk
import Derived.RegionTactic
import Derived.BigRegion
import Derived.Laws.StructEq
namespace Go.Proofs.YtpniolinndlepaaGreatDoor
set_option linter.unusedVariables false
open Go.ChangeShapes Go.WideShapes Go.ChangeAt Go.RowKit

theorem lwithin_any (n a b : Int) (v : Bool) (hv : (decide (a ≤ n) && decide (n ≤ b)) = v) (w : World) : Calls Tryz.prog 61 #[.int .i64 n, .int .i64 a, .int .i64 b] w fun e w' => e = .returned (.bool v) ∧ w = w' := by
  have HB := Lib.hid hv
  clear hv
  cases h0 : decide (a ≤ n) <;> cases h1 : decide (n ≤ b)
  all_goals
    have H0 := Lib.hid h0
    have H1 := Lib.hid h1
    go_enter Tryz.func61, Tryz.ntmps61
    go_wp2
    go_ret
    refine ⟨congrArg Ending.returned (congrArg Value.bool ?_), rfl⟩
    rw [← HB.out, H0.out, H1.out]
    rfl
set_option maxRecDepth 100000 in
set_option maxHeartbeats 1600000 in
theorem psuits_any (t : Tk) (left inn : Int) (b : Bool) (hb : suitB t.uses left inn = b) (w : World) : Calls Tryz.prog 60 #[.agg #[.int .i64 t.ser, .int .i64 t.kind, .int .i64 t.frm, .int .i64 t.till, .int .i64 t.cls, .int .i64 t.card, .int .i64 t.seat, .int .i64 t.day, .int .i64 t.days, .int .i64 t.uses, .int .i64 t.epoch], .agg #[.int .i64 left, .int .i64 inn]] w fun e w' => e = .returned (.bool b) ∧ Below w.heap.size w w' := by
  have HB := Lib.hid (show ((decide (0 ≤ left) && decide (left ≤ t.uses)) && (decide (0 ≤ inn) && decide (inn ≤ 40))) = b by rw [← hb, suitB, Bool.and_assoc])
  clear hb
  cases h0 : (decide (0 ≤ left) && decide (left ≤ t.uses)) <;> cases h1 : (decide (0 ≤ inn) && decide (inn ≤ 40))
  all_goals
    have hb := HB.out
    rw [h0, h1] at hb
    subst hb
    have H0 := Lib.hid h0
    have H1 := Lib.hid h1
    clear h0 h1
    go_enter Tryz.func60, Tryz.ntmps60
    go_wp2_with (go_at_call 61; refine (lwithin_any _ _ _ _ (by first | exact H0.out | exact H1.out) _).mono ?_; rintro e w1 ⟨rfl, rfl⟩)
    go_ret
    exact ⟨rfl, ((Below.refl _ _).alloc (Nat.le_refl _) _).alloc (by simp) _⟩
set_option maxRecDepth 100000 in
set_option maxHeartbeats 1600000 in
theorem rsuits_any (t : Tk) (left inn : Int) (b : Bool) (hb : suitB t.uses left inn = b) (w : World) : Calls Tryz.prog 70 #[.agg #[.int .i64 t.ser, .int .i64 t.kind, .int .i64 t.frm, .int .i64 t.till, .int .i64 t.cls, .int .i64 t.card, .int .i64 t.seat, .int .i64 t.day, .int .i64 t.days, .int .i64 t.uses, .int .i64 t.epoch], .agg #[.int .i64 left, .int .i64 inn]] w fun e w' => e = .returned (.bool b) ∧ Below w.heap.size w w' := by
  have HB := Lib.hid hb
  clear hb
  cases h0 : decide (0 ≤ left) <;> cases h1 : decide (left ≤ t.uses) <;> cases h2 : decide (0 ≤ inn) <;> cases h3 : decide (inn ≤ 40)
  all_goals
    have hb := HB.out
    rw [suitB, h0, h1, h2, h3] at hb
    subst hb
    go_enter Tryz.func70, Tryz.ntmps70
    go_wp2
    go_ret
    exact ⟨rfl, ((Below.refl _ _).alloc (Nat.le_refl _) _).alloc (by simp) _⟩
/-- How often a ticket of that kind is used, if no field tells it. -/
def ownU (k : Int) : Int := if k = 1 then 1 else if k = 2 then 2 else 0
theorem pown_any (k u : Int) (hu : ownU k = u) (w : World) : Calls Tryz.prog 143 #[.int .i64 k] w fun e w' => e = .returned (.int .i64 u) ∧ w = w' := by
  by_cases h1 : k = 1
  · obtain rfl : u = 1 := by rw [← hu, ownU, if_pos h1]
    have q1 : (k == 1) = true := by rw [beq_iff_eq]; exact h1
    clear hu h1
    go_enter Tryz.func143, Tryz.ntmps143
    go_wp2
    go_ret
    exact ⟨rfl, rfl⟩
  have q1 : (k == 1) = false := by rw [beq_eq_false_iff_ne]; exact h1
  by_cases h2 : k = 2
  · obtain rfl : u = 2 := by rw [← hu, ownU, if_neg h1, if_pos h2]
    have q2 : (k == 2) = true := by rw [beq_iff_eq]; exact h2
    clear hu h1 h2
    go_enter Tryz.func143, Tryz.ntmps143
    go_wp2
    go_ret
    exact ⟨rfl, rfl⟩
  have q2 : (k == 2) = false := by rw [beq_eq_false_iff_ne]; exact h2
  obtain rfl : u = 0 := by rw [← hu, ownU, if_neg h1, if_neg h2]
  clear hu h1 h2
  go_enter Tryz.func143, Tryz.ntmps143
  go_wp2
  go_ret
  exact ⟨rfl, rfl⟩
theorem pkindof_none (c : Nat) (A : Option Addr) (w : World) : Calls Tryz.prog 105 #[.slice A 0 c] w fun e w' => e = .returned (.tuple #[.int .i64 0, .int .i64 14]) ∧ w = w' := by
  go_enter Tryz.func105, Tryz.ntmps105
  go_wp2
  go_ret2
  exact ⟨rfl, rfl⟩
set_option maxRecDepth 100000 in
set_option maxHeartbeats 1600000 in
theorem pkindof_some (x : Nat) (l : List Nat) (n : Nat) (hn : n = (x :: l).length) (E : Int) (N : Nat) (hE : bgetX [x] = (E, N)) (A : Option Addr) (c : Nat) (w : World) (hA : Bs w w.heap.size (x :: l) A c) : Calls Tryz.prog 105 #[.slice A n c] w fun e w' => e = .returned (.tuple #[.int .i64 (N : Nat), .int .i64 E]) ∧ w = w' := by
  have h1 := hA.len
  have h2 := hA.cap
  simp only [List.length_cons] at hn h1
  have h3 : 1 ≤ c := by omega
  have h4 : 1 ≤ n := by omega
  have h5 : n ≤ c := by omega
  have hz : ((n : Int) == 0) = false := by rw [beq_eq_false_iff_ne]; omega
  have hs : Bs w w.heap.size [x] A c := ⟨fun k u hu => hA.rd k u (by
    rcases k with _ | k
    · simpa [U8] using hu
    · simp [U8] at hu), hA.nil, by simpa using h3, h2, fun y hy => hA.lt y (by simp at hy; simp [hy])⟩
  have HA := Lib.hid hs
  have HE := Lib.hid hE
  clear hA hs hE hn
  go_enter Tryz.func105, Tryz.ntmps105
  go_wp2_with (go_at_call 140; refine (bpget_any [x] 1 rfl E N HE.out A c _ HA.out).mono ?_; rintro e w1 ⟨rfl, rfl⟩)
  go_ret2
  exact ⟨rfl, rfl⟩
set_option linter.unusedVariables false
open Go.ChangeShapes Go.WideShapes Go.ChangeAt Go.RowKit

/-- A reading at work in its block, as fifteen numbers. -/
def LBox (w : World) (X : Nat) (l : List Int) : Prop := w.heap[X]? = some (.cells ((l.map fun x => Value.int .i64 x).toArray) 81 (0, 0))
theorem LBox.lt {w : World} {X : Nat} {l : List Int} (h : LBox w X l) : X < w.heap.size := (Array.getElem?_eq_some_iff.1 h).1
theorem LBox.alloc {w : World} {X : Nat} {l : List Int} (h : LBox w X l) (o : Obj) : LBox (w.alloc o) X l := (heap_alloc_old w o h.lt).trans h
theorem LBox.next {w w' : World} {X : Nat} {l : List Int} (h : LBox w X l) (hb : Below w.heap.size w w') : LBox w' X l := (hb.block _ h.lt).trans h
theorem LBox.set {w : World} {X : Nat} {l : List Int} (h : LBox w X l) (o : Nat) (x : Int) : LBox (w.setCell ⟨X, o, none⟩ (.int .i64 x)) X (l.set o x) := by
  have := heap_setCell_same w X o _ _ (.int .i64 x) h
  rw [LBox, this]
  simp [List.map_set]
theorem LBox.drew {w : World} {X : Nat} {l : List Int} (h : LBox w X l) : LBox w.drew X l := h
theorem LBox.cell {w : World} {X o : Nat} {l : List Int} (h : LBox w X l) (ho : o < l.length) : ∃ y, w.cell? ⟨X, o, none⟩ = some (.int .i64 y) := by
  refine ⟨l[o], ?_⟩
  rw [cell_of_row w X o _ _ (0, 0) h]
  simp [ho]
theorem LBox.frozen {w : World} {X : Nat} {l : List Int} (h : LBox w X l) (o : Nat) : w.frozen? ⟨X, o, none⟩ = false := frozen_of_row w X o _ _ h
theorem LBox.sbox {w : World} {X : Nat} {r : Rg} (h : LBox w X (rgL r)) : SBox w X r := h
/-- Behind j rounds: what the fields' numbers were set to. -/
def tellL (k : Int) (v : List Int) (j : Nat) : List Int := ((((fieldsL k).map (·.1)).zip v).take j).foldl (fun l p => l.set p.1 p.2) [0, 0, 0, 0, 0, 0, 0, 0, 0, ownU k, 0, 0, 0, 0, 0]
theorem tellL_len (k : Int) (v : List Int) (j : Nat) : (tellL k v j).length = 15 := by
  unfold tellL
  generalize ((((fieldsL k).map (·.1)).zip v).take j) = ps
  have : ∀ (ps : List (Nat × Int)) (l : List Int), (ps.foldl (fun l p => l.set p.1 p.2) l).length = l.length := by
    intro ps
    induction ps with
    | nil => intro l; rfl
    | cons p ps ih => intro l; rw [List.foldl_cons, ih, List.length_set]
  rw [this]; rfl
theorem tellL_step {k : Int} {v : List Int} {j : Nat} {p : Nat × Int} {x : Int} (h : (fieldsL k)[j]? = some p) (hx : v[j]? = some x) : tellL k v (j + 1) = (tellL k v j).set p.1 x := by
  have hz : (((fieldsL k).map (·.1)).zip v)[j]? = some (p.1, x) := by
    rw [List.zip, List.getElem?_zipWith, List.getElem?_map, h, hx]; rfl
  unfold tellL
  rw [ltake_snoc hz, List.foldl_append]
  rfl
theorem fields_off {k : Int} {j : Nat} {p : Nat × Int} (h : (fieldsL k)[j]? = some p) : p.1 < 15 := by
  have hm : p ∈ fieldsL k := List.mem_of_getElem? h
  have : ∀ q ∈ fieldsL k, q.1 < 15 := by
    unfold fieldsL partsL
    split
    · decide
    · split
      · decide
      · split <;> decide
  exact this p hm
theorem tellL_all {k : Int} {v : List Int} (hk : 1 ≤ k ∧ k ≤ 4) (hl : v.length = (widL k).length) : tellL k v v.length = rgL (toldR k v) := by
  rw [widL_len hk] at hl
  by_cases h4 : k = 4
  · subst h4
    rw [if_pos rfl] at hl
    obtain ⟨a, b, c, d, e, f, g, i, j, x, l, m, n, rfl⟩ := list13 hl
    rfl
  · rw [if_neg h4] at hl
    obtain ⟨a, b, c, d, e, f, g, i, j, x, l, m, rfl⟩ := list12 hl
    by_cases h1 : k = 1
    · subst h1; rfl
    · by_cases h2 : k = 2
      · subst h2; rfl
      · obtain rfl : k = 3 := by omega
        rfl
theorem grownR_trans {w w' w'' : World} {row : Option Nat} (h : w.grownBy w' row) (h' : w'.grownBy w'' row) : w.grownBy w'' row := ⟨h'.os.trans h.os, h'.tape.trans h.tape, h'.output.trans h.output, Nat.le_trans h.size h'.size, fun k hk hne => (h'.block k (Nat.lt_of_lt_of_le hk h.size) hne).trans (h.block k hk hne)⟩
theorem grownR_below {w w' : World} (row : Option Nat) (h : Below w.heap.size w w') : w.grownBy w' row := ⟨h.os, h.tape, h.output, h.size, fun k hk _ => h.block k hk⟩
theorem below_grownR {w w' : World} {B X : Nat} (h : w.grownBy w' (some X)) (hB : B ≤ X) (hs : B ≤ w.heap.size) : Below B w w' := ⟨h.os, h.tape, h.output, h.size, fun k hk => h.block k (by omega) (by simp; omega)⟩
theorem Fs.far {w w' : World} {X : Nat} {l : List (Nat × Int)} {A : Option Addr} {c : Nat} (h : Fs w w.heap.size X l A c) (hg : w.grownBy w' (some X)) (hf : ∀ ad, A = some ad → X < ad.block) : Fs w' w'.heap.size X l A c := by
  refine ⟨fun k u hu => ?_, h.nil, h.len, h.cap, h.lay⟩
  obtain ⟨ad, e, hlt, hc⟩ := h.rd k u hu
  have := hf ad e
  exact ⟨ad, e, Nat.lt_of_lt_of_le hlt hg.size, hg.cell hc (by rw [add_block]; simp; omega)⟩
set_option maxRecDepth 100000 in
set_option maxHeartbeats 1600000 in
theorem ptold_any (k : Int) (hk : 1 ≤ k ∧ k ≤ 4) (v : List Int) (n : Nat) (hn : n = v.length) (hl : v.length = (widL k).length) (r : Rg) (hr : toldR k v = r) (A' : Option Addr) (c' : Nat) (w : World) (hv : Zs w w.heap.size v A' c') : Calls Tryz.prog 108 #[.int .i64 k, .slice A' n c'] w fun e w' => e = .returned (.agg #[.int .i64 r.t.ser, .int .i64 r.t.kind, .int .i64 r.t.frm, .int .i64 r.t.till, .int .i64 r.t.cls, .int .i64 r.t.card, .int .i64 r.t.seat, .int .i64 r.t.day, .int .i64 r.t.days, .int .i64 r.t.uses, .int .i64 r.t.epoch, .int .i64 r.key, .int .i64 r.left, .int .i64 r.inn, .int .i64 r.ver]) ∧ Below w.heap.size w w' := by
  have hend : tellL k v n = rgL r := by rw [hn, tellL_all hk hl, hr]
  have h13 : n ≤ 13 := by rw [hn, hl]; exact widL_le k
  have hnf : n = (fieldsL k).length := by rw [fieldsL_len, hn, hl]
  have HF := Lib.hid hnf
  have HN := Lib.hid hn
  have HE := Lib.hid hend
  have HV := Lib.hid hv
  obtain ⟨u, hu⟩ : ∃ u, ownU k = u := ⟨_, rfl⟩
  have HU := Lib.hid hu
  clear hend hnf hl hr hv hu hn
  go_enter Tryz.func108, Tryz.ntmps108
  go_wp2_with (first | (go_at_call 143; refine (pown_any k u HU.out _).mono ?_; rintro e w1 ⟨rfl, rfl⟩) | (go_at_call 62; refine (pfields_far k n HF.out _ _).mono ?_; rintro e w4 ⟨A, c, rfl, hfs, hb, hfar⟩; have HFS := Lib.hid hfs; have HB4 := Lib.hid hb; have HFA := Lib.hid hfar; clear hb hfs hfar))
  obtain ⟨X, hX⟩ : ∃ X, X = w.heap.size + 1 := ⟨_, rfl⟩
  have HL4 : Hid (LBox w4 X (tellL k v 0)) := Lib.hid (by
    have e : tellL k v 0 = [0, 0, 0, 0, 0, 0, 0, 0, 0, u, 0, 0, 0, 0, 0] := by rw [tellL, List.take_zero, HU.out]; rfl
    rw [hX, e]
    exact (HB4.out.block _ (by simp)).trans (by rw [show w.heap.size + 1 = (w.alloc (.cells #[.int .i64 0, .int .i64 0, .int .i64 0, .int .i64 0, .int .i64 0, .int .i64 0, .int .i64 0, .int .i64 0, .int .i64 0, .int .i64 0, .int .i64 0, .int .i64 0, .int .i64 0, .int .i64 0, .int .i64 0] 28)).heap.size by simp]; exact heap_alloc_new _ _))
  have HR4 : Hid (RBox w4 w.heap.size zeroR) := Lib.hid ((RBox.new w zeroR).alloc _ |>.next HB4.out)
  have HBL4 : Hid (Below w.heap.size w w4) := Lib.hid ((((Below.refl _ _).alloc (Nat.le_refl _) _).alloc (by simp) _).trans (HB4.out.mono (by simp; omega)))
  have HFS4 : Hid (Fs w4 w4.heap.size X (fieldsL k) A c) := Lib.hid (by rw [hX]; exact HFS.out)
  have HFA4 : Hid (∀ ad, A = some ad → X < ad.block) := Lib.hid (fun ad e => by have := HFA.out ad e; simp at this; omega)
  have hwX : w.heap.size < X := by omega
  have hX4 : X < w4.heap.size := HL4.out.lt
  have hs4 := HBL4.out.size
  rw [← hX]
  clear HFS HB4 HFA hX
  go_loopw [6, 7, 15] (fun _ _ i wr => ∃ j : Nat, j ≤ n ∧ i = .int .i64 j ∧ LBox wr X (tellL k v j) ∧ w4.grownBy wr (some X)) (fun _ _ i _ => n - (intOf i).toNat)
  case atStart => exact ⟨0, Nat.zero_le _, rfl, HL4.out, World.grownBy.refl _ _⟩
  case round =>
    obtain ⟨j, hj, rfl, hL, hG⟩ := hrel
    have HL := Lib.hid hL
    have HG := Lib.hid hG
    have hs := hG.size
    clear hL hG
    by_cases hlt : j < n
    · have hjl : j < (fieldsL k).length := by rw [← HF.out]; exact hlt
      have hjv : j < v.length := by rw [← HN.out]; exact hlt
      obtain ⟨⟨o, wd⟩, hx⟩ : ∃ x, (fieldsL k)[j]? = some x := ⟨_, List.getElem?_eq_getElem hjl⟩
      obtain ⟨x, hxv⟩ : ∃ x, v[j]? = some x := ⟨_, List.getElem?_eq_getElem hjv⟩
      obtain ⟨g, rfl, hb, hc, hc'⟩ := (HFS4.out.far HG.out HFA4.out).at hx
      have hbr : Below w.heap.size w wr := HBL4.out.trans (below_grownR HG.out (Nat.le_of_lt hwX) hs4)
      obtain ⟨ad', rfl, hb', hcv⟩ := ((HV.out.next hbr).next (below_lit wr #[.pointer (some ⟨X, o, none⟩), .int .i64 wd] 87)).at hxv
      have ho : o < 15 := fields_off hx
      obtain ⟨y, hcy⟩ := (HL.out.alloc (.cells #[.pointer (some ⟨X, o, none⟩), .int .i64 wd] 87)).cell (o := o) (by rw [tellL_len]; exact ho)
      have hfy := (HL.out.alloc (.cells #[.pointer (some ⟨X, o, none⟩), .int .i64 wd] 87)).frozen o
      have hst := tellL_step hx hxv
      have HST := Lib.hid hst
      have HBR := Lib.hid hbr
      have b1 : (0 : Int) ≤ (j : Int) := by omega
      have b2 : (j : Int) < (n : Int) := by omega
      have hXr : X < wr.heap.size := by omega
      clear hjl hjv hx hxv hbr hst
      go_wp2
      go_region
      all_goals go_wp2
      refine ⟨⟨j + 1, by omega, by go_num, ?_, ?_⟩, by simp [intOf]; omega⟩
      · rw [HST.out]
        exact (HL.out.set o x).alloc _
      · refine grownR_trans HG.out ?_
        have h1 := grown_cell wr X o (.int .i64 x)
        have h2 := grownR_trans h1 (grownR_below (some X) ((Below.refl _ _).alloc (Nat.le_refl _) (.cells #[.pointer (some ⟨X, o, none⟩), .int .i64 wd] 87)))
        exact ⟨h2.os, h2.tape, h2.output, h2.size, h2.block⟩
    · have e1 : j = n := by omega
      subst e1
      have hS : SBox wr X r := by have := HL.out; rw [HE.out] at this; exact this.sbox
      obtain ⟨c0, c1, c2, c3, c4, c5, c6, c7, c8, c9, c10, c11, c12, c13, c14⟩ := hS.cells
      have hR : RBox wr w.heap.size zeroR := (HG.out.block _ (by omega) (by simp; omega)).trans HR4.out
      have HR := Lib.hid hR
      have HBR := Lib.hid (HBL4.out.trans (below_grownR HG.out (Nat.le_of_lt hwX) hs4))
      clear hS hR
      go_wp2_with ((with_reducible refine at_store 4 ?_); refine wpList_store_named (o := ⟨none, .store 28 (.tmp 4) (.tmp 28), _, _, _, _⟩) rfl 28 (.tmp 4) (.tmp 28) rfl w.heap.size #[.int .i64 r.t.ser, .int .i64 r.t.kind, .int .i64 r.t.frm, .int .i64 r.t.till, .int .i64 r.t.cls, .int .i64 r.t.card, .int .i64 r.t.seat, .int .i64 r.t.day, .int .i64 r.t.days, .int .i64 r.t.uses, .int .i64 r.t.epoch, .int .i64 r.key, .int .i64 r.left, .int .i64 r.inn, .int .i64 r.ver] rfl rfl 28 #[.int .i64 0, .int .i64 0, .int .i64 0, .int .i64 0, .int .i64 0, .int .i64 0, .int .i64 0, .int .i64 0, .int .i64 0, .int .i64 0, .int .i64 0, .int .i64 0, .int .i64 0, .int .i64 0, .int .i64 0] HR.out infoRd rfl (rg_one _ _ _ _ _ _ _ _ _ _ _ _ _ _ _) ?_)
      intro w5 hw5
      go_wp2
      refine bodyPost_ret (results_row Tryz.results108 _ w5 w.heap.size 28 #[.int .i64 r.t.ser, .int .i64 r.t.kind, .int .i64 r.t.frm, .int .i64 r.t.till, .int .i64 r.t.cls, .int .i64 r.t.card, .int .i64 r.t.seat, .int .i64 r.t.day, .int .i64 r.t.days, .int .i64 r.t.uses, .int .i64 r.t.epoch, .int .i64 r.key, .int .i64 r.left, .int .i64 r.inn, .int .i64 r.ver] (0, 0) _ rfl (by rw [hw5.out]; exact setRow_heap _ _ _ _ _ _ HR.out) Tryz.underlying28 rfl infoRd) rfl ⟨rfl, ?_⟩
      rw [hw5.out]
      exact below_setRow HBR.out (Nat.le_refl _) _
set_option linter.unusedVariables false
open Go.ChangeShapes Go.WideShapes Go.ChangeAt Go.RowKit

def rgB (r s : Rg) : Bool := (r.t.ser == s.t.ser) && ((r.t.kind == s.t.kind) && ((r.t.frm == s.t.frm) && ((r.t.till == s.t.till) && ((r.t.cls == s.t.cls) && ((r.t.card == s.t.card) && ((r.t.seat == s.t.seat) && ((r.t.day == s.t.day) && ((r.t.days == s.t.days) && ((r.t.uses == s.t.uses) && ((r.t.epoch == s.t.epoch) && ((r.key == s.key) && ((r.left == s.left) && ((r.inn == s.inn) && ((r.ver == s.ver)))))))))))))))
theorem rgB_self (r : Rg) : rgB r r = true := by simp [rgB]
theorem rgB_of_eq {r s : Rg} (h0 : r.t.ser = s.t.ser) (h1 : r.t.kind = s.t.kind) (h2 : r.t.frm = s.t.frm) (h3 : r.t.till = s.t.till) (h4 : r.t.cls = s.t.cls) (h5 : r.t.card = s.t.card) (h6 : r.t.seat = s.t.seat) (h7 : r.t.day = s.t.day) (h8 : r.t.days = s.t.days) (h9 : r.t.uses = s.t.uses) (h10 : r.t.epoch = s.t.epoch) (h11 : r.key = s.key) (h12 : r.left = s.left) (h13 : r.inn = s.inn) (h14 : r.ver = s.ver) : rgB r s = true := by rw [rgB, h0, h1, h2, h3, h4, h5, h6, h7, h8, h9, h10, h11, h12, h13, h14]; simp
set_option maxRecDepth 100000 in
set_option maxHeartbeats 1600000 in
theorem read_eq (r s : Rg) (w : World) : (Op.equalIn 10000 28 (.agg #[.int .i64 r.t.ser, .int .i64 r.t.kind, .int .i64 r.t.frm, .int .i64 r.t.till, .int .i64 r.t.cls, .int .i64 r.t.card, .int .i64 r.t.seat, .int .i64 r.t.day, .int .i64 r.t.days, .int .i64 r.t.uses, .int .i64 r.t.epoch, .int .i64 r.key, .int .i64 r.left, .int .i64 r.inn, .int .i64 r.ver]) (.agg #[.int .i64 s.t.ser, .int .i64 s.t.kind, .int .i64 s.t.frm, .int .i64 s.t.till, .int .i64 s.t.cls, .int .i64 s.t.card, .int .i64 s.t.seat, .int .i64 s.t.day, .int .i64 s.t.days, .int .i64 s.t.uses, .int .i64 s.t.epoch, .int .i64 s.key, .int .i64 s.left, .int .i64 s.inn, .int .i64 s.ver])).run Tryz.prog w = .ok (rgB r s) w := by
  go_simp
  by_cases h0 : r.t.ser = s.t.ser
  rotate_left
  · rw [if_neg h0, rgB, show (r.t.ser == s.t.ser) = false by rw [beq_eq_false_iff_ne]; exact h0]
    simp
  rw [if_pos h0]
  by_cases h1 : r.t.kind = s.t.kind
  rotate_left
  · rw [if_neg h1, rgB, show (r.t.kind == s.t.kind) = false by rw [beq_eq_false_iff_ne]; exact h1]
    simp
  rw [if_pos h1]
  by_cases h2 : r.t.frm = s.t.frm
  rotate_left
  · rw [if_neg h2, rgB, show (r.t.frm == s.t.frm) = false by rw [beq_eq_false_iff_ne]; exact h2]
    simp
  rw [if_pos h2]
  by_cases h3 : r.t.till = s.t.till
  rotate_left
  · rw [if_neg h3, rgB, show (r.t.till == s.t.till) = false by rw [beq_eq_false_iff_ne]; exact h3]
    simp
  rw [if_pos h3]
  by_cases h4 : r.t.cls = s.t.cls
  rotate_left
  · rw [if_neg h4, rgB, show (r.t.cls == s.t.cls) = false by rw [beq_eq_false_iff_ne]; exact h4]
    simp
  rw [if_pos h4]
  by_cases h5 : r.t.card = s.t.card
  rotate_left
  · rw [if_neg h5, rgB, show (r.t.card == s.t.card) = false by rw [beq_eq_false_iff_ne]; exact h5]
    simp
  rw [if_pos h5]
  by_cases h6 : r.t.seat = s.t.seat
  rotate_left
  · rw [if_neg h6, rgB, show (r.t.seat == s.t.seat) = false by rw [beq_eq_false_iff_ne]; exact h6]
    simp
  rw [if_pos h6]
  by_cases h7 : r.t.day = s.t.day
  rotate_left
  · rw [if_neg h7, rgB, show (r.t.day == s.t.day) = false by rw [beq_eq_false_iff_ne]; exact h7]
    simp
  rw [if_pos h7]
  by_cases h8 : r.t.days = s.t.days
  rotate_left
  · rw [if_neg h8, rgB, show (r.t.days == s.t.days) = false by rw [beq_eq_false_iff_ne]; exact h8]
    simp
  rw [if_pos h8]
  by_cases h9 : r.t.uses = s.t.uses
  rotate_left
  · rw [if_neg h9, rgB, show (r.t.uses == s.t.uses) = false by rw [beq_eq_false_iff_ne]; exact h9]
    simp
  rw [if_pos h9]
  by_cases h10 : r.t.epoch = s.t.epoch
  rotate_left
  · rw [if_neg h10, rgB, show (r.t.epoch == s.t.epoch) = false by rw [beq_eq_false_iff_ne]; exact h10]
    simp
  rw [if_pos h10]
  by_cases h11 : r.key = s.key
  rotate_left
  · rw [if_neg h11, rgB, show (r.key == s.key) = false by rw [beq_eq_false_iff_ne]; exact h11]
    simp
  rw [if_pos h11]
  by_cases h12 : r.left = s.left
  rotate_left
  · rw [if_neg h12, rgB, show (r.left == s.left) = false by rw [beq_eq_false_iff_ne]; exact h12]
    simp
  rw [if_pos h12]
  by_cases h13 : r.inn = s.inn
  rotate_left
  · rw [if_neg h13, rgB, show (r.inn == s.inn) = false by rw [beq_eq_false_iff_ne]; exact h13]
    simp
  rw [if_pos h13]
  by_cases h14 : r.ver = s.ver
  rotate_left
  · rw [if_neg h14, rgB, show (r.ver == s.ver) = false by rw [beq_eq_false_iff_ne]; exact h14]
    simp
  rw [if_pos h14]
  rw [rgB_of_eq h0 h1 h2 h3 h4 h5 h6 h7 h8 h9 h10 h11 h12 h13 h14]

end Go.Proofs.YtpniolinndlepaaGreatDoor
