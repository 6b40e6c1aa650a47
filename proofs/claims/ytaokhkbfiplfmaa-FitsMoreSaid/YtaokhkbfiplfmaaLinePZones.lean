/-
  Contract for the landed function that builds the map of the zones. Conditions: none.
-/
import Derived.Test.YtaokhkbfiplfmaaLinePWay
namespace Go.Proofs.Ytaokhkbfiplfmaa
set_option linter.unusedVariables false
set_option linter.unusedSimpArgs false
open Go.ChangeShapes Go.WideShapes Go.ChangeAt Go.RowKit Go.Shelf
attribute [local go_sem] Oper.semAt_some

/-- The zones as a map that is filled station by station. -/
def zF {H : Type} (D : DataW H) (xs : List (Fin 40)) : DataW H := xs.foldl (fun D x => D.put (.int .i64 (x.val : Int)) (.lit (.int .i64 (zn (x.val : Int))))) D
def zD {H : Type} (xs : List (Fin 40)) : DataW H := zF (.map []) xs
theorem zD_snoc {H : Type} (pre : List (Fin 40)) (x : Fin 40) : zD (H := H) (pre ++ [x]) = (zD pre).put (.int .i64 (x.val : Int)) (.lit (.int .i64 (zn (x.val : Int)))) := by simp [zD, zF]
theorem key_ne {s x : Fin 40} (h : s ≠ x) : Lit.int .i64 (s.val : Int) ≠ Lit.int .i64 (x.val : Int) := by
  intro e
  injection e with _ e
  exact h (Fin.ext (by omega))
theorem zF_at {H : Type} (s : Fin 40) (z : DataW H) : ∀ (xs : List (Fin 40)) (D : DataW H), Maps.IsMap D → (s ∈ xs ∨ D.atKey (.int .i64 (s.val : Int)) z = .lit (.int .i64 (zn (s.val : Int)))) → (zF D xs).atKey (.int .i64 (s.val : Int)) z = .lit (.int .i64 (zn (s.val : Int)))
  | [], D, hD, h => h.elim (by simp) id
  | x :: xs, D, hD, h => by
    refine zF_at s z xs (D.put (.int .i64 (x.val : Int)) (.lit (.int .i64 (zn (x.val : Int))))) (hD.put _ _) ?_
    by_cases e : s = x
    · subst e
      exact .inr (Maps.atKey_put_same hD (by simp [WideAt.IsKeyLit]) _ _)
    · rcases h with h | h
      · exact .inl ((List.mem_cons.1 h).resolve_left e)
      · exact .inr ((Maps.atKey_put_other (key_ne e) _ _).trans h)
theorem zF_has {H : Type} (s : Fin 40) : ∀ (xs : List (Fin 40)) (D : DataW H), Maps.IsMap D → (s ∈ xs ∨ Maps.has D (.int .i64 (s.val : Int)) = true) → Maps.has (zF D xs) (.int .i64 (s.val : Int)) = true
  | [], D, hD, h => h.elim (by simp) id
  | x :: xs, D, hD, h => by
    refine zF_has s xs (D.put (.int .i64 (x.val : Int)) (.lit (.int .i64 (zn (x.val : Int))))) (hD.put _ _) ?_
    by_cases e : s = x
    · subst e
      exact .inr (Maps.has_put_same hD (by simp [WideAt.IsKeyLit]) _)
    · rcases h with h | h
      · exact .inl ((List.mem_cons.1 h).resolve_left e)
      · exact .inr ((Maps.has_put_other (key_ne e) _).trans h)
theorem zF_none {H : Type} (s : Int) (hs : ¬ (0 ≤ s ∧ s ≤ 39)) : ∀ (xs : List (Fin 40)) (D : DataW H), Maps.has D (.int .i64 s) = false → Maps.has (zF D xs) (.int .i64 s) = false
  | [], D, h => h
  | x :: xs, D, h => by
    refine zF_none s hs xs _ ((Maps.has_put_other (fun e => ?_) _).trans h)
    injection e with _ e
    have := x.isLt
    omega
/-- The whole map: every station's zone. -/
def zMap {H : Type} : DataW H := zD (upw 0 40)
theorem mem_all (s : Fin 40) : s ∈ upw 0 40 := by
  unfold upw
  exact List.mem_map.2 ⟨s.val, List.mem_range.2 s.isLt, by rw [Nat.zero_add, stt_eq s.isLt]⟩
theorem zMap_at {H : Type} {s : Int} (h : isN s = true) (z : DataW H) : (zMap (H := H)).atKey (.int .i64 s) z = .lit (.int .i64 (zn s)) := by
  have hs := (isN_iff s).1 h
  have := zF_at (H := H) ⟨s.toNat, by omega⟩ z (upw 0 40) (.map []) Maps.isMap_empty (.inl (mem_all _))
  have e : ((s.toNat : Nat) : Int) = s := by omega
  rw [e] at this
  exact this
theorem zMap_has {H : Type} (s : Int) : Maps.has (zMap (H := H)) (.int .i64 s) = isN s := by
  cases h : isN s with
  | true =>
    have hs := (isN_iff s).1 h
    have := zF_has (H := H) ⟨s.toNat, by omega⟩ (upw 0 40) (.map []) Maps.isMap_empty (.inl (mem_all _))
    have e : ((s.toNat : Nat) : Int) = s := by omega
    rw [e] at this
    exact this
  | false => exact zF_none s (fun hs => by rw [(isN_iff s).2 hs] at h; cases h) _ _ rfl
theorem i64_wf {s : Int} (h1 : -9223372036854775808 ≤ s) (h2 : s ≤ 9223372036854775807) : (Lit.int .i64 s).wf = true := by
  simp only [Lit.wf, IntKind.min, IntKind.max, IntKind.signed, IntKind.bits, Bool.and_eq_true, decide_eq_true_eq, if_true]
  omega

set_option maxRecDepth 100000 in
set_option maxHeartbeats 2000000 in
theorem zones_in {H : Type} (F : Fence) (n : Nat) (h1' : F.fn 39) (h2' : F.fn 42) (h3' : F.fn 45) (hro : F.round = none) (hn : 3 ≤ n) (w : World) :
    CallsIn F n Try.prog 39 #[] w fun e W' => e = .returned (.map (some w.heap.size)) ∧ W'.ownsMap Try.prog 3 (plainElem (H := H) Try.prog 3) w.heap.size 40 zMap ∧ Below w.heap.size w W' := by
  have h1 : 1 ≤ n := by omega
  have hmm := @run_makeMap Try.prog
  refine callsIn_of_wp_marks Try.func39 rfl h1' ?_ hro
  simp only [Try.ntmps39, List.size_toArray, List.length_cons, List.length_nil, Nat.reduceAdd, Nat.reduceSub, Array.replicate_succ, Array.replicate_zero, List.push_toArray, List.append_toArray, List.nil_append, List.cons_append]
  gi_wp2_with (gi_at_call 42; refine (way_in F (n - 1) h2' hro _ _ _).mono ?_; rintro e w' ⟨rfl, rfl⟩)
  have hm0 := World.ownsMap_made w Try.prog 3 (plainElem (H := H) Try.prog 3)
  have bS := (((Boxed.new (w.alloc (.map #[] 0)) 51 (.map (some w.heap.size))).alloc (.cells #[.int .i64 0] 3)).alloc (.cells #[.int .i64 39] 3))
  have bA := (Boxed.new ((w.alloc (.map #[] 0)).alloc (.cells #[.map (some w.heap.size)] 51)) 3 (.int .i64 0)).alloc (.cells #[.int .i64 39] 3)
  have bB := Boxed.new (((w.alloc (.map #[] 0)).alloc (.cells #[.map (some w.heap.size)] 51)).alloc (.cells #[.int .i64 0] 3)) 3 (.int .i64 39)
  simp only [World.size_alloc] at bS bA bB
  have hm1 := ((hm0.alloc (.cells #[.map (some w.heap.size)] 51)).alloc (.cells #[.int .i64 0] 3)).alloc (.cells #[.int .i64 39] 3)
  have hB0 : Below w.heap.size w ((((w.alloc (.map #[] 0)).alloc (.cells #[.map (some w.heap.size)] 51)).alloc (.cells #[.int .i64 0] 3)).alloc (.cells #[.int .i64 39] 3)) := ((((Below.refl _ w).alloc (Nat.le_refl _) _).alloc (by simp) _).alloc (by simp; omega) _).alloc (by simp; omega) _
  have hsz : ((((w.alloc (.map #[] 0)).alloc (.cells #[.map (some w.heap.size)] 51)).alloc (.cells #[.int .i64 0] 3)).alloc (.cells #[.int .i64 39] 3)).heap.size = w.heap.size + 4 := by simp
  obtain ⟨W0, hW0⟩ : ∃ W0, ((((w.alloc (.map #[] 0)).alloc (.cells #[.map (some w.heap.size)] 51)).alloc (.cells #[.int .i64 0] 3)).alloc (.cells #[.int .i64 39] 3)) = W0 := ⟨_, rfl⟩
  rw [hW0] at bS bA bB hm1 hB0 hsz ⊢
  clear hW0 hm0
  refine wpIn_rangeFunc_ownG hro h1 (gf := 45) (lb := #[.pointer (some ⟨w.heap.size + 1 + 1, 0, none⟩), .pointer (some ⟨w.heap.size + 1 + 1 + 1, 0, none⟩)]) rfl h3' (enters_of Try.func45 (by kernel_rfl) rfl)
    (way_stops F (n - 1) h3' hro (by omega) (w.heap.size + 1 + 1) (w.heap.size + 1 + 1 + 1) 0 39 0 40 rfl rfl (by omega) W0 (by omega) (by omega) bA.cell bB.cell) KpAB.trans (fun W l o o' _ hl ho _ => KpAB.put W l o o' hl ho) (Below.refl _ _) (fun _ => rfl)
    (fun pre W => (W.cell? ⟨w.heap.size + 1, 0, none⟩ = some (.map (some w.heap.size)) ∧ W.ownsMap Try.prog 3 (plainElem (H := H) Try.prog 3) w.heap.size pre.length (zD pre)) ∧ Below w.heap.size w W)
    (fun _ _ _ => False)
    (OwnFrom.and (fun s A B row hs hg hr => ⟨cell_kept hs.1 hg (fun r e => (hr r e).2), hs.2.kept hg (fun e => by have := (hr _ e.symm).1; omega)⟩) (ownFrom_below (Nat.le_refl _) (by omega)))
    (fun _ _ _ _ _ hs _ _ => hs)
    ⟨⟨bS.cell, hm1⟩, hB0⟩
    (fun x => { tmps := #[.map none, .pointer (some ⟨w.heap.size + 1, 0, none⟩), .int .i64 (x.val : Int), undef, .map (some w.heap.size), .func (.func 45) #[] #[.pointer (some ⟨w.heap.size + 1 + 1, 0, none⟩), .pointer (some ⟨w.heap.size + 1 + 1 + 1, 0, none⟩)], .int .i64 (x.val : Int), undef, undef, undef, undef, undef, undef, undef, undef, undef, undef, undef], defers := [] }) ?assign ?body ?done ?stop
  case assign =>
    intro l x W K hK
    dsimp only [encS]
    gi_wp2
    exact hK
  case body =>
    rintro l pre x W ⟨⟨hc, hown⟩, hB⟩ hlt
    have hx := x.isLt
    obtain ⟨s, hs⟩ : ∃ s : Int, s = (x.val : Int) := ⟨_, rfl⟩
    have hz := zD_snoc (H := H) pre x
    rw [← hs] at hz ⊢
    have hkey := Maps.keyOf_int_mk (P := Try.prog) Try.underlying3 (i64_wf (s := s) (by omega) (by omega))
    have w1 : IntKind.i64.wrap (s - 20) = s - 20 := IntWalk.i64_in _ (by omega)
    have w2 : IntKind.i64.wrap (20 - s) = 20 - s := IntWalk.i64_in _ (by omega)
    obtain ⟨v, hv⟩ : ∃ v : Int, v = if s - 20 < 20 - s then 20 - s else s - 20 := ⟨_, rfl⟩
    have hv0 : 0 ≤ v ∧ v ≤ 20 := by rw [hv]; split <;> omega
    have q : v.tdiv 4 = v / 4 := Int.tdiv_eq_ediv_of_nonneg hv0.1
    have w3 : IntKind.i64.wrap (v / 4) = v / 4 := IntWalk.i64_in _ (by omega)
    have hzn : zn s = 1 + v / 4 := by rw [zn, hv]; split <;> split <;> omega
    have w4 : IntKind.i64.wrap (1 + v / 4) = 1 + v / 4 := IntWalk.i64_in _ (by omega)
    have hwf := i64_wf (s := 1 + v / 4) (by omega) (by omega)
    have HV := Lib.hid hv
    rw [hzn] at hz
    replace hv := hv.symm
    clear hzn hv0 hs hx
    gi_wp2_with (gi_at_mapUpdate; refine wpListIn_mapUpdate_own _ rfl _ _ _ 51 rfl 3 3 (Maps.int_keyed Try.underlying3) Try.underlying51 _ w.heap.size pre.length _ rfl hown (by unfold maxLen; omega) _ _ _ rfl rfl hkey _ [] (plainElem_int Try.underlying3 hwf) ?_; intro w1 hown1 hgrow1)
    obtain ⟨es, ck, hh, _⟩ := hown
    exact ⟨KeepsFrom.of_grownBy hgrow1 (fun j e => by cases e; omega), fun k u _ hk => cell_kept hk hgrow1 (fun r e => by cases e; exact ⟨_, hh, rfl⟩),
      ⟨cell_kept hc hgrow1 (fun r e => by cases e; exact ⟨_, hh, rfl⟩), by rw [hz, List.length_append]; exact hown1⟩, hB.grown hgrow1 hB.size (fun k e => by cases e; exact Nat.le_refl _)⟩
  case done =>
    rintro D ys W hD rfl ⟨⟨hc, hown⟩, hB⟩ hK
    gi_wp2
    refine ⟨by simp, .inl ⟨_, _, rfl, run_takeDeferred hK, ?_⟩⟩
    exact ⟨_, results_tmp rfl _ _ _, rfl, hown.kept (grownBy_putObj' _ D _) (fun e => by cases e; omega), hB.trans (belowK_b (w := w) (Nat.le_refl _) W D _ _ (by omega) hK rfl rfl)⟩
  case stop =>
    rintro D c pre W _ _ h _
    exact h.elim
theorem pzones_any (w : World) : Calls Try.prog 39 #[] w fun e W' => e = .returned (.map (some w.heap.size)) ∧ W'.ownsMap Try.prog 3 (plainElem (H := Unit) Try.prog 3) w.heap.size 40 zMap ∧ Below w.heap.size w W' :=
  (callsIn_wide (n := 3)).1 (zones_in Fence.wide 3 trivial trivial trivial rfl (by omega) w)
end Go.Proofs.Ytaokhkbfiplfmaa
