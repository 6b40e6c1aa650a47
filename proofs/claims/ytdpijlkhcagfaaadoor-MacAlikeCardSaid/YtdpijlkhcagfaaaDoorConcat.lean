/-
  Contracts for slices.Grow of nil and slices.Concat of bytes: rows one behind the other, in memory of the call's own. Conditions: together at most 2^47 bytes, and at least one.
-/
import Derived.Test.YtdpijlkhcagfaaaDoorMem
import Derived.Test.YtdpijlkhcagfaaaDoorShaPad
import Derived.Lib.AppendZeros
namespace Go.Proofs.YtdpijlkhcagfaaaDoor
set_option linter.unusedVariables false
open Go.ChangeShapes Go.WideShapes Go.ChangeAt Go.RowKit

set_option maxRecDepth 20000 in
theorem grow_nil (n : Nat) (w : World) (h0 : 0 < n) (hn : n ≤ 140737488355328) :
    Calls Tryd.prog 43 #[.slice none 0 0, .int .i64 n] w fun e w' => ∃ v, e = .returned v ∧ w'.ownsRow w.heap.size 5 1 v 0 [] ∧ Below w.heap.size w w' := by
  obtain ⟨i0, hi, hz0, hz1, hz2⟩ := info_parts infoU8
  have hrun := Lib.run_append_nil_zeros (P := Tryd.prog) w 28 3 28 5 i0 (.int .u8 0) .i64 .i64 Tryd.underlying28 Tryd.underlying3 hi hz0 n h0 (by rw [hz1]; omega) (by omega) (by rw [hz2]; omega)
  have HRUN := Lib.hid hrun
  clear hrun
  go_enter Tryd.func43, Tryd.ntmps43
  go_wp2_with (at_builtin; refine Lib.wpList_append_run _ rfl (.tmp 20) (.tmp 21) 28 3 rfl (.slice none 0 0) (.int .i64 n) rfl rfl _ _ HRUN.out ?_)
  go_ret
  have hc1 := grownCap_ge w n 0 5
  have hc2 := grownCap_le_maxLen w n 0 5 (by unfold maxLen; omega)
  refine ⟨_, rfl, ⟨rfl, .inr ⟨w.heap.size, grownCap w n 0 5, Builtin.zeroCells #[Value.int IntKind.u8 0] n ++ Builtin.zeroCells #[Value.int IntKind.u8 0] (grownCap w n 0 5 - n), rfl, Nat.le_refl _, ?_, Nat.zero_le _, hc2, ?_, ?_⟩⟩, ?_⟩
  · exact heap_alloc_new w _
  · simp [size_zeroCells]; omega
  · simp
  · exact ((Below.refl _ _).alloc (Nat.le_refl _) _).drew

/-- A row of bytes, as it is handed on. -/
structure Part where
  A : Option Addr
  l : List Nat
  c : Nat
def Part.val (p : Part) : Value := .slice p.A p.l.length p.c
def Part.ok (w : World) (p : Part) : Prop := Rd w w.heap.size p.A (U8 p.l) ∧ (p.A = none → p.c = 0)
def flat (ps : List Part) : List Nat := (ps.map (·.l)).flatten
theorem flat_append (a b : List Part) : flat (a ++ b) = flat a ++ flat b := by simp [flat]
theorem flat_one (p : Part) : flat [p] = p.l := by simp [flat]
theorem flat_succ (ps : List Part) (k : Nat) (h : k < ps.length) : flat (ps.take (k + 1)) = flat (ps.take k) ++ ps[k].l := by
  rw [List.take_succ_eq_append_getElem h, flat_append, flat_one]
theorem flat_le (ps : List Part) (k : Nat) : (flat (ps.take k)).length ≤ (flat ps).length := by
  have h : flat ps = flat (ps.take k) ++ flat (ps.drop k) := by rw [← flat_append, List.take_append_drop]
  rw [h, List.length_append]; omega

set_option maxRecDepth 20000 in
set_option maxHeartbeats 800000 in
theorem concat_any (ps : List Part) (g m c : Nat) (w : World) (hm : ps.length = m) (hg : g < w.heap.size) (hcell : ∀ i p, ps[i]? = some p → w.cell? ⟨g, i, none⟩ = some p.val) (hok : ∀ p ∈ ps, p.ok w) (hm2 : m ≤ 1000)
    (h0 : 0 < (flat ps).length) (hn : (flat ps).length ≤ 140737488355328) :
    Calls Tryd.prog 29 #[.slice (some ⟨g, 0, none⟩) m c] w fun e w' => ∃ v, e = .returned v ∧ w'.ownsRow w.heap.size 5 1 v (flat ps).length (U8 (flat ps)) ∧ Below w.heap.size w w' := by
  obtain ⟨i0, hi, hz0, hz1, hz2⟩ := info_parts infoU8
  have HM := Lib.hid hm
  have HCELL := Lib.hid hcell
  have HOK := Lib.hid hok
  obtain ⟨N, hN⟩ : ∃ N, N = (flat ps).length := ⟨_, rfl⟩
  rw [← hN] at h0 hn ⊢
  have HN := Lib.hid hN
  clear hm hcell hok hN
  go_enter Tryd.func29, Tryd.ntmps29
  go_wp2_with fail
  go_loop [3, 11] (fun s i => ∃ k : Nat, k ≤ m ∧ i = .int .i64 k ∧ s = .int .i64 ((flat (ps.take k)).length : Nat)) (fun _ i => m - (intOf i).toNat)
  case atStart => exact ⟨0, Nat.zero_le _, rfl, rfl⟩
  case round =>
    obtain ⟨k, hk, rfl, rfl⟩ := hrel
    have hle := flat_le ps k
    rw [← HN.out] at hle
    by_cases hlt : k < m
    · have hkp : k < ps.length := by rw [HM.out]; exact hlt
      have hck := HCELL.out k ps[k] (List.getElem?_eq_getElem hkp)
      unfold Part.val at hck
      have hfs : (flat (ps.take (k + 1))).length = (flat (ps.take k)).length + ps[k].l.length := by rw [flat_succ ps k hkp, List.length_append]
      have hle2 := flat_le ps (k + 1)
      rw [← HN.out] at hle2
      have HFS := Lib.hid hfs
      have hb : (flat (ps.take k)).length + ps[k].l.length ≤ 140737488355328 := by omega
      clear hfs hle2
      generalize (flat (ps.take k)).length = S at *
      generalize ps[k].l.length = n1 at *
      generalize ps[k].A = A1 at *
      generalize ps[k].c = c1 at *
      go_wp2
      go_round
      case rel => exact ⟨k + 1, by omega, by go_num, by rw [HFS.out]; go_num⟩
      case measure => simp [intOf]; omega
    · have ek : k = m := by omega
      subst ek
      have hS : (flat (ps.take k)).length = N := by rw [List.take_of_length_le (by rw [HM.out]; omega), HN.out]
      rw [hS]
      clear hle hS
      go_wp2_with fail
      refine (grow_nil N w h0 hn).mono ?_
      rintro e w1 ⟨v1, rfl, hown1, hb1⟩
      have HOWN1 := Lib.hid hown1
      clear hown1
      go_wp2_with fail
      go_loopw [6, 27] (fun v i wr => ∃ j : Nat, j ≤ k ∧ i = .int .i64 j ∧ wr.ownsRow w.heap.size 5 1 v (flat (ps.take j)).length (U8 (flat (ps.take j))) ∧ Below w.heap.size w wr) (fun _ i _ => k - (intOf i).toNat)
      case atStart => exact ⟨0, Nat.zero_le _, rfl, HOWN1.out, hb1⟩
      case round =>
        clear hb1
        obtain ⟨j, hj, rfl, hown, hbel⟩ := hrel
        have hbs := hbel.size
        by_cases hlt : j < k
        · have hjp : j < ps.length := by rw [HM.out]; exact hlt
          have hcj : wr.cell? ⟨g, j, none⟩ = some ps[j].val := (hbel.cell (p := ⟨g, j, none⟩) hg).trans (HCELL.out j ps[j] (List.getElem?_eq_getElem hjp))
          unfold Part.val at hcj
          obtain ⟨hrd, hnil⟩ := HOK.out ps[j] (List.getElem_mem hjp)
          have hrd' := hrd.below hbel
          have hfs := flat_succ ps j hjp
          have hle2 := flat_le ps (j + 1)
          rw [← HN.out, hfs, List.length_append] at hle2
          have HFS := Lib.hid hfs
          have HR := Lib.hid hrd'
          have HNL := Lib.hid hnil
          have HO := Lib.hid hown
          have hlen : (U8 ps[j].l).length = ps[j].l.length := by simp [U8]
          have HL := Lib.hid hlen
          have hone := Lib.hid (U8_one ps[j].l)
          clear hrd hrd' hnil hfs hown hlen
          generalize flat (ps.take j) = F at *
          generalize ps[j].l = l1 at *
          generalize ps[j].A = A1 at *
          generalize ps[j].c = c1 at *
          go_wp2_with (at_builtin; refine wpList_append_rd _ rfl (.tmp 31) (.tmp 32) 28 rfl w.heap.size 5 i0 (.int .u8 0) 1 Tryd.underlying28 hi hz0 hz1 hz2 rfl _ F.length (U8 F) rfl HO.out w.heap.size A1 l1.length c1 (U8 l1) rfl HR.out HL.out HNL.out hone.out (by unfold maxLen; omega) (by omega) hbs ?_; intro v2 w2 hown2 hg2)
          have hb2 : Below w.heap.size w w2 := hbel.grown hg2 hbs (fun g hg => own_ge HO.out hg)
          have HO2 := Lib.hid hown2
          clear hown2 hg2
          go_wp2
          go_roundw
          case rel =>
            refine ⟨j + 1, by omega, by go_num, ?_, hb2⟩
            rw [HFS.out, U8_append, List.length_append]
            exact HO2.out
          case measure => simp [intOf]; omega
        · have ej : j = k := by omega
          subst ej
          rw [List.take_of_length_le (by rw [HM.out]; omega), ← HN.out] at hown
          have HO := Lib.hid hown
          clear hown
          go_wp2
          go_ret
          exact ⟨_, rfl, HO.out, hbel⟩
end Go.Proofs.YtdpijlkhcagfaaaDoor
