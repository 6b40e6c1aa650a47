/-
  Contract for the landed told. Conditions: the kind is one; as many numbers as its fields.
-/
import Derived.Test.YtpeccmcojocgkaaLaySide
import Derived.Test.YtpeccmcojocgkaaLayPSmall
import Derived.OwnWalk
import Derived.RegionTactic
import Derived.BigRegion
namespace Go.Proofs.Ytpeccmcojocgkaa
set_option linter.unusedVariables false
open Go.ChangeShapes Go.WideShapes Go.ChangeAt Go.RowKit

/-- A reading at work in its block, as fifteen numbers. -/
def LBox (w : World) (X : Nat) (l : List Int) : Prop := w.heap[X]? = some (.cells ((l.map fun x => Value.int .i64 x).toArray) 48 (0, 0))
theorem LBox.lt {w : World} {X : Nat} {l : List Int} (h : LBox w X l) : X < w.heap.size := (Array.getElem?_eq_some_iff.1 h).1
theorem LBox.alloc {w : World} {X : Nat} {l : List Int} (h : LBox w X l) (o : Obj) : LBox (w.alloc o) X l := (heap_alloc_old w o h.lt).trans h
theorem LBox.next {w w' : World} {X : Nat} {l : List Int} (h : LBox w X l) (hb : Below w.heap.size w w') : LBox w' X l := (hb.block _ h.lt).trans h
theorem LBox.set {w : World} {X : Nat} {l : List Int} (h : LBox w X l) (o : Nat) (x : Int) : LBox (w.setCell ⟨X, o, none⟩ (.int .i64 x)) X (l.set o x) := by
  have := heap_setCell_same w X o _ _ (.int .i64 x) h
  rw [LBox, this]
  simp [List.map_set]
theorem LBox.drew {w : World} {X : Nat} {l : List Int} (h : LBox w X l) : LBox w.drew X l := h
theorem LBox.cell {w : World} {X o : Nat} {l : List Int} (h : LBox w X l) (ho : o < l.length) : ∃ y, w.cell? ⟨X, o, none⟩ = some (.int .i64 y) := by
  refine ⟨l[o], ?_⟩
  rw [cell_of_row w X o _ _ (0, 0) h]
  simp [ho]
theorem LBox.frozen {w : World} {X : Nat} {l : List Int} (h : LBox w X l) (o : Nat) : w.frozen? ⟨X, o, none⟩ = false := frozen_of_row w X o _ _ h
theorem LBox.sbox {w : World} {X : Nat} {r : Rg} (h : LBox w X (rgL r)) : SBox w X r := h
/-- Behind j rounds: what the fields' numbers were set to. -/
def tellL (k : Int) (v : List Int) (j : Nat) : List Int := ((((fieldsL k).map (·.1)).zip v).take j).foldl (fun l p => l.set p.1 p.2) [0, 0, 0, 0, 0, 0, 0, 0, 0, ownU k, 0, 0, 0, 0, 0]
theorem tellL_len (k : Int) (v : List Int) (j : Nat) : (tellL k v j).length = 15 := by
  unfold tellL
  generalize ((((fieldsL k).map (·.1)).zip v).take j) = ps
  have : ∀ (ps : List (Nat × Int)) (l : List Int), (ps.foldl (fun l p => l.set p.1 p.2) l).length = l.length := by
    intro ps
    induction ps with
    | nil => intro l; rfl
    | cons p ps ih => intro l; rw [List.foldl_cons, ih, List.length_set]
  rw [this]; rfl
theorem tellL_step {k : Int} {v : List Int} {j : Nat} {p : Nat × Int} {x : Int} (h : (fieldsL k)[j]? = some p) (hx : v[j]? = some x) : tellL k v (j + 1) = (tellL k v j).set p.1 x := by
  have hz : (((fieldsL k).map (·.1)).zip v)[j]? = some (p.1, x) := by
    rw [List.zip, List.getElem?_zipWith, List.getElem?_map, h, hx]; rfl
  unfold tellL
  rw [take_snoc hz, List.foldl_append]
  rfl
theorem fields_off {k : Int} {j : Nat} {p : Nat × Int} (h : (fieldsL k)[j]? = some p) : p.1 < 15 := by
  have hm : p ∈ fieldsL k := List.mem_of_getElem? h
  have : ∀ q ∈ fieldsL k, q.1 < 15 := by
    unfold fieldsL partsL
    split
    · decide
    · split
      · decide
      · split <;> decide
  exact this p hm
theorem tellL_all {k : Int} {v : List Int} (hk : 1 ≤ k ∧ k ≤ 4) (hl : v.length = (widL k).length) : tellL k v v.length = rgL (toldR k v) := by
  rw [widL_len hk] at hl
  by_cases h4 : k = 4
  · subst h4
    rw [if_pos rfl] at hl
    obtain ⟨a, b, c, d, e, f, g, i, j, x, l, m, n, rfl⟩ := list13 hl
    rfl
  · rw [if_neg h4] at hl
    obtain ⟨a, b, c, d, e, f, g, i, j, x, l, m, rfl⟩ := list12 hl
    by_cases h1 : k = 1
    · subst h1; rfl
    · by_cases h2 : k = 2
      · subst h2; rfl
      · obtain rfl : k = 3 := by omega
        rfl
theorem grownR_trans {w w' w'' : World} {row : Option Nat} (h : w.grownBy w' row) (h' : w'.grownBy w'' row) : w.grownBy w'' row := ⟨h'.os.trans h.os, h'.tape.trans h.tape, h'.output.trans h.output, Nat.le_trans h.size h'.size, fun k hk hne => (h'.block k (Nat.lt_of_lt_of_le hk h.size) hne).trans (h.block k hk hne)⟩
theorem grownR_below {w w' : World} (row : Option Nat) (h : Below w.heap.size w w') : w.grownBy w' row := ⟨h.os, h.tape, h.output, h.size, fun k hk _ => h.block k hk⟩
theorem below_grownR {w w' : World} {B X : Nat} (h : w.grownBy w' (some X)) (hB : B ≤ X) (hs : B ≤ w.heap.size) : Below B w w' := ⟨h.os, h.tape, h.output, h.size, fun k hk => h.block k (by omega) (by simp; omega)⟩
theorem Fs.far {w w' : World} {X : Nat} {l : List (Nat × Int)} {A : Option Addr} {c : Nat} (h : Fs w w.heap.size X l A c) (hg : w.grownBy w' (some X)) (hf : ∀ ad, A = some ad → X < ad.block) : Fs w' w'.heap.size X l A c := by
  refine ⟨fun k u hu => ?_, h.nil, h.len, h.cap, h.lay⟩
  obtain ⟨ad, e, hlt, hc⟩ := h.rd k u hu
  have := hf ad e
  exact ⟨ad, e, Nat.lt_of_lt_of_le hlt hg.size, hg.cell hc (by rw [add_block]; simp; omega)⟩
set_option maxRecDepth 100000 in
set_option maxHeartbeats 1600000 in
theorem ptold_any (k : Int) (hk : 1 ≤ k ∧ k ≤ 4) (v : List Int) (n : Nat) (hn : n = v.length) (hl : v.length = (widL k).length) (r : Rg) (hr : toldR k v = r) (A' : Option Addr) (c' : Nat) (w : World) (hv : Zs w w.heap.size v A' c') : Calls Try.prog 28 #[.int .i64 k, .slice A' n c'] w fun e w' => e = .returned (.agg #[.int .i64 r.t.ser, .int .i64 r.t.kind, .int .i64 r.t.frm, .int .i64 r.t.till, .int .i64 r.t.cls, .int .i64 r.t.card, .int .i64 r.t.seat, .int .i64 r.t.day, .int .i64 r.t.days, .int .i64 r.t.uses, .int .i64 r.t.epoch, .int .i64 r.key, .int .i64 r.left, .int .i64 r.inn, .int .i64 r.ver]) ∧ Below w.heap.size w w' := by
  have hend : tellL k v n = rgL r := by rw [hn, tellL_all hk hl, hr]
  have h13 : n ≤ 13 := by rw [hn, hl]; exact widL_le k
  have hnf : n = (fieldsL k).length := by rw [fieldsL_len, hn, hl]
  have HF := Lib.hid hnf
  have HN := Lib.hid hn
  have HE := Lib.hid hend
  have HV := Lib.hid hv
  obtain ⟨u, hu⟩ : ∃ u, ownU k = u := ⟨_, rfl⟩
  have HU := Lib.hid hu
  clear hend hnf hl hr hv hu hn
  go_enter Try.func28, Try.ntmps28
  go_wp2_with (first | (go_at_call 39; refine (pown_any k u HU.out _).mono ?_; rintro e w1 ⟨rfl, rfl⟩) | (go_at_call 21; refine (pfields_far k n HF.out _ _).mono ?_; rintro e w4 ⟨A, c, rfl, hfs, hb, hfar⟩; have HFS := Lib.hid hfs; have HB4 := Lib.hid hb; have HFA := Lib.hid hfar; clear hb hfs hfar))
  obtain ⟨X, hX⟩ : ∃ X, X = w.heap.size + 1 := ⟨_, rfl⟩
  have HL4 : Hid (LBox w4 X (tellL k v 0)) := Lib.hid (by
    have e : tellL k v 0 = [0, 0, 0, 0, 0, 0, 0, 0, 0, u, 0, 0, 0, 0, 0] := by rw [tellL, List.take_zero, HU.out]; rfl
    rw [hX, e]
    exact (HB4.out.block _ (by simp)).trans (by rw [show w.heap.size + 1 = (w.alloc (.cells #[.int .i64 0, .int .i64 0, .int .i64 0, .int .i64 0, .int .i64 0, .int .i64 0, .int .i64 0, .int .i64 0, .int .i64 0, .int .i64 0, .int .i64 0, .int .i64 0, .int .i64 0, .int .i64 0, .int .i64 0] 27)).heap.size by simp]; exact heap_alloc_new _ _))
  have HR4 : Hid (RBox w4 w.heap.size zeroR) := Lib.hid ((RBox.new w zeroR).alloc _ |>.next HB4.out)
  have HBL4 : Hid (Below w.heap.size w w4) := Lib.hid ((((Below.refl _ _).alloc (Nat.le_refl _) _).alloc (by simp) _).trans (HB4.out.mono (by simp; omega)))
  have HFS4 : Hid (Fs w4 w4.heap.size X (fieldsL k) A c) := Lib.hid (by rw [hX]; exact HFS.out)
  have HFA4 : Hid (∀ ad, A = some ad → X < ad.block) := Lib.hid (fun ad e => by have := HFA.out ad e; simp at this; omega)
  have hwX : w.heap.size < X := by omega
  have hX4 : X < w4.heap.size := HL4.out.lt
  have hs4 := HBL4.out.size
  rw [← hX]
  clear HFS HB4 HFA hX
  go_loopw [6, 7, 15] (fun _ _ i wr => ∃ j : Nat, j ≤ n ∧ i = .int .i64 j ∧ LBox wr X (tellL k v j) ∧ w4.grownBy wr (some X)) (fun _ _ i _ => n - (intOf i).toNat)
  case atStart => exact ⟨0, Nat.zero_le _, rfl, HL4.out, World.grownBy.refl _ _⟩
  case round =>
    obtain ⟨j, hj, rfl, hL, hG⟩ := hrel
    have HL := Lib.hid hL
    have HG := Lib.hid hG
    have hs := hG.size
    clear hL hG
    by_cases hlt : j < n
    · have hjl : j < (fieldsL k).length := by rw [← HF.out]; exact hlt
      have hjv : j < v.length := by rw [← HN.out]; exact hlt
      obtain ⟨⟨o, wd⟩, hx⟩ : ∃ x, (fieldsL k)[j]? = some x := ⟨_, List.getElem?_eq_getElem hjl⟩
      obtain ⟨x, hxv⟩ : ∃ x, v[j]? = some x := ⟨_, List.getElem?_eq_getElem hjv⟩
      obtain ⟨g, rfl, hb, hc, hc'⟩ := (HFS4.out.far HG.out HFA4.out).at hx
      have hbr : Below w.heap.size w wr := HBL4.out.trans (below_grownR HG.out (Nat.le_of_lt hwX) hs4)
      obtain ⟨ad', rfl, hb', hcv⟩ := ((HV.out.next hbr).next (below_lit wr #[.pointer (some ⟨X, o, none⟩), .int .i64 wd] 53)).at hxv
      have ho : o < 15 := fields_off hx
      obtain ⟨y, hcy⟩ := (HL.out.alloc (.cells #[.pointer (some ⟨X, o, none⟩), .int .i64 wd] 53)).cell (o := o) (by rw [tellL_len]; exact ho)
      have hfy := (HL.out.alloc (.cells #[.pointer (some ⟨X, o, none⟩), .int .i64 wd] 53)).frozen o
      have hst := tellL_step hx hxv
      have HST := Lib.hid hst
      have HBR := Lib.hid hbr
      have b1 : (0 : Int) ≤ (j : Int) := by omega
      have b2 : (j : Int) < (n : Int) := by omega
      have hXr : X < wr.heap.size := by omega
      clear hjl hjv hx hxv hbr hst
      go_wp2
      go_region
      all_goals go_wp2
      refine ⟨⟨j + 1, by omega, by go_num, ?_, ?_⟩, by simp [intOf]; omega⟩
      · rw [HST.out]
        exact (HL.out.set o x).alloc _
      · refine grownR_trans HG.out ?_
        have h1 := grown_cell wr X o (.int .i64 x)
        have h2 := grownR_trans h1 (grownR_below (some X) ((Below.refl _ _).alloc (Nat.le_refl _) (.cells #[.pointer (some ⟨X, o, none⟩), .int .i64 wd] 53)))
        exact ⟨h2.os, h2.tape, h2.output, h2.size, h2.block⟩
    · have e1 : j = n := by omega
      subst e1
      have hS : SBox wr X r := by have := HL.out; rw [HE.out] at this; exact this.sbox
      obtain ⟨c0, c1, c2, c3, c4, c5, c6, c7, c8, c9, c10, c11, c12, c13, c14⟩ := hS.cells
      have hR : RBox wr w.heap.size zeroR := (HG.out.block _ (by omega) (by simp; omega)).trans HR4.out
      have HR := Lib.hid hR
      have HBR := Lib.hid (HBL4.out.trans (below_grownR HG.out (Nat.le_of_lt hwX) hs4))
      clear hS hR
      go_wp2_with ((with_reducible refine at_store 4 ?_); refine wpList_store_named (o := ⟨none, .store 27 (.tmp 4) (.tmp 28), _, _, _, _⟩) rfl 27 (.tmp 4) (.tmp 28) rfl w.heap.size #[.int .i64 r.t.ser, .int .i64 r.t.kind, .int .i64 r.t.frm, .int .i64 r.t.till, .int .i64 r.t.cls, .int .i64 r.t.card, .int .i64 r.t.seat, .int .i64 r.t.day, .int .i64 r.t.days, .int .i64 r.t.uses, .int .i64 r.t.epoch, .int .i64 r.key, .int .i64 r.left, .int .i64 r.inn, .int .i64 r.ver] rfl rfl 27 #[.int .i64 0, .int .i64 0, .int .i64 0, .int .i64 0, .int .i64 0, .int .i64 0, .int .i64 0, .int .i64 0, .int .i64 0, .int .i64 0, .int .i64 0, .int .i64 0, .int .i64 0, .int .i64 0, .int .i64 0] HR.out infoRd rfl (rg_one _ _ _ _ _ _ _ _ _ _ _ _ _ _ _) ?_)
      intro w5 hw5
      go_wp2
      refine bodyPost_ret (results_row Try.results28 _ w5 w.heap.size 27 #[.int .i64 r.t.ser, .int .i64 r.t.kind, .int .i64 r.t.frm, .int .i64 r.t.till, .int .i64 r.t.cls, .int .i64 r.t.card, .int .i64 r.t.seat, .int .i64 r.t.day, .int .i64 r.t.days, .int .i64 r.t.uses, .int .i64 r.t.epoch, .int .i64 r.key, .int .i64 r.left, .int .i64 r.inn, .int .i64 r.ver] (0, 0) _ rfl (by rw [hw5.out]; exact setRow_heap _ _ _ _ _ _ HR.out) Try.underlying27 rfl infoRd) rfl ⟨rfl, ?_⟩
      rw [hw5.out]
      exact below_setRow HBR.out (Nat.le_refl _) _
end Go.Proofs.Ytpeccmcojocgkaa
