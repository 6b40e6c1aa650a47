/-
  Contract for the landed Stations. Conditions: none.
-/
import Derived.Test.YtmcdidbcfhgijaaLinePSpan
import Derived.Test.YtmcdidbcfhgijaaNats
namespace Go.Proofs.Ytmcdidbcfhgijaa
set_option linter.unusedVariables false
set_option linter.unusedSimpArgs false
open Go.ChangeShapes Go.WideShapes Go.ChangeAt Go.RowKit Go.Shelf
attribute [local go_sem] Oper.semAt_some

/-- The stations of a list whose zone is low to high. -/
def stF (low high : Int) (pre : List (Fin 40)) : List Nat := (pre.filter (fun s => inZ low high s.val)).map (·.val)
theorem stF_snoc (low high : Int) (pre : List (Fin 40)) (x : Fin 40) : stF low high (pre ++ [x]) = if inZ low high x.val = true then stF low high pre ++ [x.val] else stF low high pre := by
  unfold stF
  rw [List.filter_append]
  cases h : inZ low high x.val <;> simp [h]
theorem stF_upw (low high : Int) : ∀ k, k ≤ 40 → stF low high (upw 0 k) = stL low high k
  | 0, _ => rfl
  | k + 1, h => by
    rw [upw_succ, stF_snoc, stL_succ, stF_upw low high k (by omega), Nat.zero_add, stt_eq (show k < 40 by omega)]
theorem stF_len (low high : Int) (pre : List (Fin 40)) : (stF low high pre).length ≤ pre.length := by
  unfold stF; rw [List.length_map]; exact List.length_filter_le _ _
/-- The slice's own row is none of these blocks. -/
def Away (ks : List Nat) (v : Value) : Prop := ∀ k ∈ ks, v.ownBlock ≠ some k

theorem away_new {ks : List Nat} {v v' : Value} {m : Nat} (h : Away ks v) (hk : ∀ k ∈ ks, k < m) (hat : v'.ownBlock = v.ownBlock ∨ v'.ownBlock = some m) : Away ks v' := by
  intro k hm e
  rcases hat with h' | h'
  · exact h k hm (h'.symm.trans e)
  · rw [h'] at e
    have := hk k hm
    injection e with e
    omega
/-- A block that is neither the row that grew nor the box that was stored into lies as it lay. -/
theorem step_block {W w1 : World} {tmp : Obj} {row : Option Nat} {k b : Nat} {v : Value} (hg : (W.alloc tmp).grownBy w1 row) (hk : k < W.heap.size) (h1 : row ≠ some k) (h2 : k ≠ b) : (w1.setCell ⟨b, 0, none⟩ v).heap[k]? = W.heap[k]? :=
  (Below.heap_setCell _ ⟨b, 0, none⟩ _ k h2).trans ((hg.block k (by simp; omega) (fun e => h1 e.symm)).trans (Below.heap_alloc W tmp k hk))
theorem Zs.step {g z : Nat} {w W w1 : World} {tmp : Obj} {row : Option Nat} {b : Nat} {v : Value} (h : Zs g z w W) (hg : (W.alloc tmp).grownBy w1 row) (h1 : row ≠ some z) (h2 : row ≠ some g) (h3 : ∀ k, row = some k → w.heap.size ≤ k) (h4 : z ≠ b) (h5 : g ≠ b) (h6 : w.heap.size ≤ b) : Zs g z w (w1.setCell ⟨b, 0, none⟩ v) :=
  ((h.alloc tmp).kept hg h1.symm h2.symm h3).set v h4 h5 h6
set_option maxRecDepth 100000 in
set_option maxHeartbeats 2000000 in
theorem list_in (n : Nat) (hn : 4 ≤ n) (low high : Int) (hok : okZ low high = true) (l : List Nat) (hl : l = stL low high 40) (m : Nat) (hm : m = l.length) (w : World) :
    CallsIn Fence.wide n Try.prog 14 #[.int .i64 low, .int .i64 high] w fun e w' => ∃ A c, e = .returned (.tuple #[.slice A m c, .int .i64 0]) ∧ Ns w' w'.heap.size l A c ∧ Below w.heap.size w w' := by
  have h1 : 1 ≤ n := by omega
  obtain ⟨i0, hi, hz0, hz1, hz2⟩ := info_parts infoI64
  have h3 := (okZ_iff _ _).1 hok
  have q1 : decide (low < 1) = false := decide_eq_false (by omega)
  have q2 : decide (high < low) = false := decide_eq_false (by omega)
  have q3 : decide (6 < high) = false := decide_eq_false (by omega)
  have HL := Lib.hid hl
  have HM := Lib.hid hm
  clear hok h3 hl hm
  refine callsIn_of_wp_marks Try.func14 rfl trivial ?_ rfl
  simp only [Try.ntmps14, List.size_toArray, List.length_cons, List.length_nil, Nat.reduceAdd, Nat.reduceSub, Array.replicate_succ, Array.replicate_zero, List.push_toArray, List.append_toArray, List.nil_append, List.cons_append]
  gi_wp2_with (refine ⟨trivial, ?_⟩; gi_at_call 23; refine (callsIn_wide.2 (pzones_any _)).mono ?_; rintro e w1 ⟨rfl, hown, hb⟩)
  have bl : Boxed w1 w.heap.size 3 (.int .i64 low) := (hb.block _ (by simp; omega)).trans ((Boxed.new w 3 (.int .i64 low)).alloc _)
  have bh : Boxed w1 (w.heap.size + 1) 3 (.int .i64 high) := (hb.block _ (by simp)).trans (by have := Boxed.new (w.alloc (.cells #[.int .i64 low] 3)) 3 (.int .i64 high); rw [World.size_alloc] at this; exact this)
  have hsw : ((w.alloc (.cells #[.int .i64 low] 3)).alloc (.cells #[.int .i64 high] 3)).heap.size = w.heap.size + 1 + 1 := by simp
  have hs1 := hb.size
  have hw1 : Below w.heap.size w w1 := (((Below.refl _ w).alloc (Nat.le_refl _) _).alloc (by simp) _).trans (hb.mono (by simp; omega))
  rw [hsw] at hown hs1
  have hg1 : w.heap.size + 1 + 1 < w1.heap.size := by obtain ⟨es, ck, hh, _⟩ := hown; exact (Array.getElem?_eq_some_iff.1 hh).1
  clear hb hsw
  have hz : Zs (w.heap.size + 1 + 1) w1.heap.size w (w1.alloc (.cells #[.map (some (w.heap.size + 1 + 1))] 46)) := ⟨Boxed.new _ _ _, hown.alloc _, hw1.alloc hw1.size _⟩
  have hr0 := World.ownsRow_lit (base := w.heap.size) (e := 3) (size := 1) (w1.alloc (.cells #[.map (some (w.heap.size + 1 + 1))] 46)) #[] 0 (by simp; omega) (by decide) rfl
  have b7 := Boxed.new ((w1.alloc (.cells #[.map (some (w.heap.size + 1 + 1))] 46)).alloc (.cells #[] 3)) 32 (.slice (some ⟨w1.heap.size + 1, 0, none⟩) 0 0)
  have hz' := ((hz.alloc (.cells #[] 3)).alloc (.cells #[.slice (some ⟨w1.heap.size + 1, 0, none⟩) 0 0] 32))
  have bl' := ((bl.alloc (.cells #[.map (some (w.heap.size + 1 + 1))] 46)).alloc (.cells #[] 3)).alloc (.cells #[.slice (some ⟨w1.heap.size + 1, 0, none⟩) 0 0] 32)
  have bh' := ((bh.alloc (.cells #[.map (some (w.heap.size + 1 + 1))] 46)).alloc (.cells #[] 3)).alloc (.cells #[.slice (some ⟨w1.heap.size + 1, 0, none⟩) 0 0] 32)
  have hr1 := hr0.alloc (.cells #[.slice (some ⟨w1.heap.size + 1, 0, none⟩) 0 0] 32)
  have hs3 : (((w1.alloc (.cells #[.map (some (w.heap.size + 1 + 1))] 46)).alloc (.cells #[] 3)).alloc (.cells #[.slice (some ⟨w1.heap.size + 1, 0, none⟩) 0 0] 32)).heap.size = w1.heap.size + 1 + 1 + 1 := by simp
  simp only [World.size_alloc] at b7 hr1
  obtain ⟨W3, hW3⟩ : ∃ W3, ((w1.alloc (.cells #[.map (some (w.heap.size + 1 + 1))] 46)).alloc (.cells #[] 3)).alloc (.cells #[.slice (some ⟨w1.heap.size + 1, 0, none⟩) 0 0] 32) = W3 := ⟨_, rfl⟩
  rw [hW3] at b7 hz' bl' bh' hr1 hs3 ⊢
  clear hW3 hz bl bh hr0 hown hw1 hs1
  refine ⟨trivial, (way_in Fence.wide (n - 1) trivial rfl _ _ _).mono ?_⟩
  rintro e w' ⟨rfl, rfl⟩
  have bA := (Boxed.new W3 3 (.int .i64 0)).alloc (.cells #[.int .i64 39] 3)
  have bB := Boxed.new (W3.alloc (.cells #[.int .i64 0] 3)) 3 (.int .i64 39)
  have b70 := (b7.alloc (.cells #[.int .i64 0] 3)).alloc (.cells #[.int .i64 39] 3)
  have bl0 := (bl'.alloc (.cells #[.int .i64 0] 3)).alloc (.cells #[.int .i64 39] 3)
  have bh0 := (bh'.alloc (.cells #[.int .i64 0] 3)).alloc (.cells #[.int .i64 39] 3)
  have hzz := (hz'.alloc (.cells #[.int .i64 0] 3)).alloc (.cells #[.int .i64 39] 3)
  have hr2 := (hr1.alloc (.cells #[.int .i64 0] 3)).alloc (.cells #[.int .i64 39] 3)
  have hs4 : ((W3.alloc (.cells #[.int .i64 0] 3)).alloc (.cells #[.int .i64 39] 3)).heap.size = w1.heap.size + 1 + 1 + 1 + 1 + 1 := by simp [hs3]
  simp only [World.size_alloc] at bB
  clear b7 bl' bh' hz' hr1
  gi_wp2
  rw [hs3] at bA bB
  obtain ⟨W0, hW0⟩ : ∃ W0, (W3.alloc (.cells #[.int .i64 0] 3)).alloc (.cells #[.int .i64 39] 3) = W0 := ⟨_, rfl⟩
  rw [hW0] at bA bB b70 bl0 bh0 hzz hr2 hs4 ⊢
  clear hW0 hs3
  obtain ⟨ks, hks⟩ : ∃ ks, ks = [w.heap.size, w.heap.size + 1, w.heap.size + 1 + 1, w1.heap.size, w1.heap.size + 1 + 1, w1.heap.size + 1 + 1 + 1, w1.heap.size + 1 + 1 + 1 + 1] := ⟨_, rfl⟩
  refine wpIn_rangeFunc_ownG rfl h1 (gf := 32) (lb := #[.pointer (some ⟨w1.heap.size + 1 + 1 + 1, 0, none⟩), .pointer (some ⟨w1.heap.size + 1 + 1 + 1 + 1, 0, none⟩)]) rfl trivial (enters_of Try.func32 (by kernel_rfl) rfl)
    (way_stops Fence.wide (n - 1) trivial rfl (by omega) (w1.heap.size + 1 + 1 + 1) (w1.heap.size + 1 + 1 + 1 + 1) 0 39 0 40 rfl rfl (by omega) W0 (by omega) (by omega) bA.cell bB.cell) KpAB.trans (fun W l o o' _ hl ho _ => KpAB.put W l o o' hl ho) (Below.refl _ _) (fun _ => rfl)
    (fun pre W => (∃ v, Boxed W (w1.heap.size + 1 + 1) 32 v ∧ W.ownsRow w.heap.size 3 1 v (stF low high pre).length (N64 (stF low high pre)) ∧ Away ks v) ∧ (Boxed W w.heap.size 3 (.int .i64 low) ∧ Boxed W (w.heap.size + 1) 3 (.int .i64 high) ∧ Zs (w.heap.size + 1 + 1) w1.heap.size w W ∧ W0.heap.size ≤ W.heap.size))
    (fun _ _ _ => False)
    (OwnFrom.and (Own.from (holdsRow_own w.heap.size (w1.heap.size + 1 + 1) 32 3 1 (fun pre => (stF low high pre).length) (fun pre => N64 (stF low high pre)) (fun _ v => Away ks v)) _)
      (fun s A B row hs hg hr => ⟨hs.1.kept hg (fun e => by have := (hr _ e.symm).1; omega), hs.2.1.kept hg (fun e => by have := (hr _ e.symm).1; omega), hs.2.2.1.kept hg (fun e => by have := (hr _ e.symm).1; omega) (fun e => by have := (hr _ e.symm).1; omega) (fun k e => by have := (hr _ e).1; omega), Nat.le_trans hs.2.2.2 hg.size⟩))
    (fun _ _ _ _ _ hs _ _ => hs)
    ⟨⟨_, b70, hr2, by intro k hk e; rw [hks] at hk; simp [Value.ownBlock] at hk e; omega⟩, bl0, bh0, hzz, Nat.le_refl _⟩
    (fun x => { tmps := #[.int .i64 low, .int .i64 high, .pointer (some ⟨w.heap.size, 0, none⟩), .pointer (some ⟨w.heap.size + 1, 0, none⟩), .slice none 0 0, .int .i64 0, .pointer (some ⟨w1.heap.size, 0, none⟩), .pointer (some ⟨w1.heap.size + 1 + 1, 0, none⟩), .int .i64 (x.val : Int), .int .i64 low, .bool false, .bool false, .int .i64 low, .int .i64 high, .bool false, .bool false, .bool false, .int .i64 high, .bool false, .bool false, .map (some (w.heap.size + 1 + 1)), .slice (some ⟨w1.heap.size + 1, 0, none⟩) 0 0, .func (.func 32) #[] #[.pointer (some ⟨w1.heap.size + 1 + 1 + 1, 0, none⟩), .pointer (some ⟨w1.heap.size + 1 + 1 + 1 + 1, 0, none⟩)], .int .i64 (x.val : Int), undef, undef, undef, undef, undef, undef, undef, undef, undef, undef, undef, undef, undef, undef, undef, undef, undef], defers := [] }) ?assign ?body ?done ?stop
  case assign =>
    intro l x W K hK
    dsimp only [encS]
    gi_wp2
    exact hK
  case body =>
    rintro l0 pre x W ⟨⟨v, h7, hrow, haw⟩, hlo, hhi, hz, hW0s⟩ hlt
    have hxN : isN (x.val : Int) = true := (isN_iff _).2 (by have := x.isLt; omega)
    have hS := stF_snoc low high pre x
    have hlen := stF_len low high pre
    obtain ⟨s, hs⟩ : ∃ s : Nat, s = x.val := ⟨_, rfl⟩
    rw [← hs] at hxN hS ⊢
    have k1 := hz.look hxN
    have c1 := hz.cell
    have c2 := hlo.cell
    have c3 := hhi.cell
    have c4 := h7.cell
    have H7 := Lib.hid h7
    have HR := Lib.hid hrow
    have HAW := Lib.hid haw
    have HLO := Lib.hid hlo
    have HHI := Lib.hid hhi
    have HZ := Lib.hid hz
    clear h7 hrow haw hlo hhi hz hs hxN
    cases p1 : decide (low ≤ zn (s : Int)) <;> cases p2 : decide (zn (s : Int) ≤ high)
    all_goals
      have hin : inZ low high s = (decide (low ≤ zn (s : Int)) && decide (zn (s : Int) ≤ high)) := rfl
      rw [p1, p2] at hin
      rw [hin] at hS
      have HSS := Lib.hid hS
      clear hin hS
    case true.true =>
      obtain ⟨j, hj⟩ : ∃ j, j = (stF low high pre).length := ⟨_, rfl⟩
      rw [← hj] at HR
      have hm1 : j + 1 ≤ maxLen := by unfold maxLen; omega
      have hm2 : (j + 1) * 8 ≤ 140737488355328 := by omega
      have HJ := Lib.hid hj
      clear hj
      have hsz := HZ.out.bel.size
      gi_wp2_with (gi_at_builtin; refine wpListIn_append_own_at _ rfl _ _ 32 rfl w.heap.size 3 i0 (.int .i64 0) 1 8 Try.underlying32 hi hz0 hz1 hz2 rfl (by decide) v _ _ rfl (HR.out.alloc _) ⟨W.heap.size, 0, none⟩ 1 1 [.int .i64 (s : Int)] rfl rfl (cell_one_new _ _ _) (int_one _) hm1 hm2 (by simp; omega) ?_; intro v' w1' hown' hgrow _ hat; obtain ⟨g', cap', rfl⟩ := ownsRow_succ hown'; obtain ⟨hv1, hv2, hr2, hk2, hb2⟩ := H7.out.appended (by decide) HR.out hsz (by omega) hown' hgrow; have hc1 := hv1.cell; have hf1 := hv1.frozen)
      have hkw : ∀ k ∈ ks, k < W.heap.size := by intro k hk; rw [hks] at hk; simp at hk; omega
      have hav := HAW.out
      have hm : ∀ k, k ∈ ks → v.ownBlock ≠ some k ∧ k < W.heap.size := fun k hk => ⟨hav k hk, hkw k hk⟩
      refine ⟨hk2.from _, fun k u hk hu => ?_, ⟨_, hv2, ?_, away_new hav (fun k hk => by have := hkw k hk; simp; omega) hat⟩, ?_, ?_, ?_, Nat.le_trans hW0s hk2.size⟩
      · have hkk : k ∈ ks := by rw [hks]; rcases hk with rfl | rfl <;> simp
        exact (World.cell?_of_block (step_block hgrow (hm k hkk).2 (hm k hkk).1 (by rcases hk with rfl | rfl <;> (dsimp only; omega)))).trans hu
      · rw [HSS.out]
        show World.ownsRow _ w.heap.size 3 1 _ (stF low high pre ++ [s]).length (N64 (stF low high pre ++ [s]))
        rw [N64_append, List.length_append, ← HJ.out]
        exact hr2
      · have hkk : w.heap.size ∈ ks := by rw [hks]; simp
        exact (step_block hgrow (hm _ hkk).2 (hm _ hkk).1 (by omega)).trans HLO.out
      · have hkk : w.heap.size + 1 ∈ ks := by rw [hks]; simp
        exact (step_block hgrow (hm _ hkk).2 (hm _ hkk).1 (by omega)).trans HHI.out
      · exact HZ.out.step hgrow (hm _ (by rw [hks]; simp)).1 (hm _ (by rw [hks]; simp)).1 (fun k e => own_ge HR.out e) (by omega) (by omega) (by omega)
    all_goals
      gi_wp2
      exact ⟨KeepsFrom.refl _ _, KpAB.refl _ _ _, ⟨v, H7.out, by rw [HSS.out]; exact HR.out, HAW.out⟩, HLO.out, HHI.out, HZ.out, hW0s⟩
  case done =>
    rintro D ys W hD rfl ⟨⟨v, h7, hrow, haw⟩, hlo, hhi, hz, hW0s⟩ hK
    rw [stF_upw low high 40 (Nat.le_refl _), ← HL.out, ← HM.out] at hrow
    obtain ⟨A, c, rfl, -, -⟩ := ns_of_own hrow
    have hrow' := ownsRow_putObj hrow (.deferred none) hK rfl
    obtain ⟨A', c', e', -, hns⟩ := ns_of_own hrow'
    obtain ⟨rfl, rfl⟩ : A = A' ∧ c = c' := by injection e' with e1 _ e2; exact ⟨e1, e2⟩
    have c4 := h7.cell
    have HNS := Lib.hid hns
    have HK := Lib.hid hK
    have HZ := Lib.hid hz
    clear hrow hrow' e' hns h7 hlo hhi hz hK haw
    gi_wp2
    refine ⟨by simp, .inl ⟨_, _, rfl, run_takeDeferred HK.out, ?_⟩⟩
    exact ⟨.tuple #[.slice A m c, .int .i64 0], by simp [results, Try.results14, go_sem], A, c, rfl, HNS.out, HZ.out.bel.trans (belowK_b (w := w) (Nat.le_refl _) W D _ _ (by omega) HK.out rfl rfl)⟩
  case stop =>
    rintro D c pre W _ _ h _
    exact h.elim
end Go.Proofs.Ytmcdidbcfhgijaa
