/-
  Contract for the landed Zones. Conditions: none.
-/
import Derived.Test.YtmcdidbcfhgijaaLinePZones
import Derived.Test.YtmcdidbcfhgijaaLinePFold
import Derived.BigQuiet
import Derived.BigRegion
import Derived.BigRegionIn
import Derived.Deep.RegionHeld3
namespace Go.Proofs.Ytmcdidbcfhgijaa
set_option linter.unusedVariables false
set_option linter.unusedSimpArgs false
open Go.ChangeShapes Go.WideShapes Go.ChangeAt Go.RowKit Go.Shelf
attribute [local go_sem] Oper.semAt_some

/-- What the look-up of a station gives wherever the map of the zones lies. -/
theorem look_run {W : World} {g : Nat} {a : Int} (hown : W.ownsMap Try.prog 3 (plainElem (H := Unit) Try.prog 3) g 40 zMap) (ha : isN a = true) :
    (Instr.lookup 46 (.map (some g)) (.int .i64 a) false).run Try.prog W = .ok (.int .i64 (zn a)) W := by
  have hs := (isN_iff a).1 ha
  obtain ⟨c, hrun, hat, _⟩ := hown.lookup_int (Maps.int_keyed Try.underlying3) Try.underlying46 Try.underlying3 (Try.zeroValue3 W) (Maps.keyOf_int_mk (P := Try.prog) Try.underlying3 (i64_wf (s := a) (by omega) (by omega)))
  have := (zMap_at (H := Unit) ha (.lit (.int .i64 0))).symm.trans hat
  have : zn a = c := by simpa using this
  rw [hrun, this]
/-- The map of the zones lies in block g, its variable's box is block z, and nothing that lay has turned. -/
structure Zs (g z : Nat) (w W : World) : Prop where
  box : Boxed W z 46 (.map (some g))
  own : W.ownsMap Try.prog 3 (plainElem (H := Unit) Try.prog 3) g 40 zMap
  bel : Below w.heap.size w W
theorem Zs.alloc {g z : Nat} {w W : World} (h : Zs g z w W) (o : Obj) : Zs g z w (W.alloc o) := ⟨h.box.alloc o, h.own.alloc o, h.bel.alloc h.bel.size o⟩
theorem Zs.kept {g z : Nat} {w W W' : World} {row : Option Nat} (h : Zs g z w W) (hg : W.grownBy W' row) (h1 : some z ≠ row) (h2 : some g ≠ row) (h3 : ∀ k, row = some k → w.heap.size ≤ k) : Zs g z w W' :=
  ⟨h.box.kept hg h1, h.own.kept hg h2, h.bel.grown hg h.bel.size h3⟩
theorem Zs.set {g z : Nat} {w W : World} {b : Nat} (v : Value) (h : Zs g z w W) (h1 : z ≠ b) (h2 : g ≠ b) (h3 : w.heap.size ≤ b) : Zs g z w (W.setCell ⟨b, 0, none⟩ v) :=
  h.kept (grownBy_setCell' W b v) (by simpa using h1) (by simpa using h2) (fun k e => by cases e; exact h3)
theorem Zs.drew {g z : Nat} {w W : World} (h : Zs g z w W) : Zs g z w W.drew := ⟨h.box, h.own, h.bel.drew⟩
theorem Zs.cell {g z : Nat} {w W : World} (h : Zs g z w W) : W.cell? ⟨z, 0, none⟩ = some (.map (some g)) := h.box.cell
theorem Zs.look {g z : Nat} {w W : World} {a : Int} (h : Zs g z w W) (ha : isN a = true) : (Instr.lookup 46 (.map (some g)) (.int .i64 a) false).run Try.prog W = .ok (.int .i64 (zn a)) W := look_run h.own ha
theorem Zs.held {g z : Nat} {w W : World} {a : Int} (ha : isN a = true) (h : Zs g z w W) : W.cell? ⟨z, 0, none⟩ = some (.map (some g)) ∧ (Instr.lookup 46 (.map (some g)) (.int .i64 a) false).run Try.prog W = .ok (.int .i64 (zn a)) W := ⟨h.cell, h.look ha⟩
set_option maxRecDepth 100000 in
set_option maxHeartbeats 2000000 in
theorem span_in (n : Nat) (hn : 4 ≤ n)
    (a b : Int) (ha : isN a = true) (hb : isN b = true) (x y : Int) (hx : x = lowF a b 40) (hy : y = highF a b 40) (w : World) :
    CallsIn Fence.wide n Try.prog 25 #[.int .i64 a, .int .i64 b] w fun e w' => e = .returned (.tuple #[.int .i64 x, .int .i64 y, .int .i64 0]) ∧ Below w.heap.size w w' := by
  have h1 : 1 ≤ n := by omega
  have HA := Lib.hid ha
  have HB := Lib.hid hb
  have HX := Lib.hid hx
  have HY := Lib.hid hy
  clear ha hb hx hy
  refine callsIn_of_wp_marks Try.func25 rfl trivial ?_ rfl
  simp only [Try.ntmps25, List.size_toArray, List.length_cons, List.length_nil, Nat.reduceAdd, Nat.reduceSub, Array.replicate_succ, Array.replicate_zero, List.push_toArray, List.append_toArray, List.nil_append, List.cons_append]
  gi_wp2_with (first | (refine ⟨trivial, ?_⟩; gi_at_call 33; refine (callsIn_wide.2 (pisn_any _ true (by first | exact HA.out | exact HB.out) _)).mono ?_; rintro e w' ⟨rfl, e1⟩; rw [e1]; clear e1 w') | (refine ⟨trivial, ?_⟩; gi_at_call 23; refine (callsIn_wide.2 (pzones_any _)).mono ?_; rintro e w1 ⟨rfl, hown, hb⟩))
  rename_i K hK
  have hgl : w.heap.size < w1.heap.size := by obtain ⟨es, ck, hh, _⟩ := hown; exact (Array.getElem?_eq_some_iff.1 hh).1
  obtain ⟨W2, hW2⟩ : ∃ W2, W2 = w1.alloc (.cells #[.map (some w.heap.size)] 46) := ⟨_, rfl⟩
  have hsz2 : W2.heap.size = w1.heap.size + 1 := by rw [hW2]; simp
  have HZ := Lib.hid (show Zs w.heap.size w1.heap.size w W2 by rw [hW2]; exact ⟨Boxed.new _ _ _, hown.alloc _, hb.alloc hb.size _⟩)
  rw [← hW2]
  clear hW2 hown hb
  have HK : ∀ (b8 b9 : Nat) (W : World), Boxed W b8 3 (.int .i64 (zn a)) → Boxed W b9 3 (.int .i64 (zn a)) → b8 ≠ b9 → w1.heap.size < b8 → w1.heap.size < b9 → Zs w.heap.size w1.heap.size w W → K { tmps := #[.int .i64 a, .int .i64 b, undef, undef, .int .i64 0, .int .i64 0, .int .i64 0, .pointer (some ⟨w1.heap.size, 0, none⟩), .pointer (some ⟨b8, 0, none⟩), .pointer (some ⟨b9, 0, none⟩), undef, .int .i64 a, .bool true, .bool false, .bool false, .int .i64 b, .bool true, .bool false, .bool false, .map (some w.heap.size), .map (some w.heap.size), .int .i64 a, .int .i64 (zn a), .map (some w.heap.size), .int .i64 a, .int .i64 (zn a), undef, undef, undef, undef, undef, undef, undef, undef, undef, undef, undef, undef, undef, undef, undef, undef], defers := [] } W := by
    intro b8 b9 W h8 h9 hne hl8 hl9 hz
    have HZ0 := Lib.hid hz
    obtain ⟨lo, m, hlo, hhi, h40, hmem⟩ := way_ends HA.out HB.out
    have HLO := Lib.hid hlo
    have HHI := Lib.hid hhi
    have HMEM := Lib.hid hmem
    have bA := (Boxed.new W 3 (.int .i64 a)).alloc (.cells #[.int .i64 b] 3)
    have bB := Boxed.new (W.alloc (.cells #[.int .i64 a] 3)) 3 (.int .i64 b)
    have b8' := (h8.alloc (.cells #[.int .i64 a] 3)).alloc (.cells #[.int .i64 b] 3)
    have b9' := (h9.alloc (.cells #[.int .i64 a] 3)).alloc (.cells #[.int .i64 b] 3)
    have hz' := (hz.alloc (.cells #[.int .i64 a] 3)).alloc (.cells #[.int .i64 b] 3)
    have hsz : ((W.alloc (.cells #[.int .i64 a] 3)).alloc (.cells #[.int .i64 b] 3)).heap.size = W.heap.size + 2 := by simp
    simp only [World.size_alloc] at bA bB
    have l8 := h8.lt
    have l9 := h9.lt
    have lz := hz.box.lt
    refine hK _ _ ?_
    clear hK h8 h9 hz hlo hhi hmem
    gi_wp2_with (refine ⟨trivial, ?_⟩; gi_at_call 24; refine (way_in Fence.wide (n - 1) trivial rfl _ _ _).mono ?_; rintro e w' ⟨rfl, rfl⟩)
    obtain ⟨W0, hW0⟩ : ∃ W0, (W.alloc (.cells #[.int .i64 a] 3)).alloc (.cells #[.int .i64 b] 3) = W0 := ⟨_, rfl⟩
    rw [hW0] at bA bB b8' b9' hz' hsz ⊢
    clear hW0
    refine wpIn_rangeFunc_ownG rfl h1 (gf := 32) (lb := #[.pointer (some ⟨W.heap.size, 0, none⟩), .pointer (some ⟨W.heap.size + 1, 0, none⟩)]) rfl trivial (enters_of Try.func32 (by kernel_rfl) rfl)
      (way_stops Fence.wide (n - 1) trivial rfl (by omega) W.heap.size (W.heap.size + 1) a b lo m HLO.out HHI.out h40 W0 (by omega) (by omega) bA.cell bB.cell) KpAB.trans (fun W l o o' _ hl ho _ => KpAB.put W l o o' hl ho) (Below.refl _ _) (fun _ => rfl)
      (fun pre W => Boxed W b8 3 (.int .i64 (mnl a pre)) ∧ Boxed W b9 3 (.int .i64 (mxl a pre)) ∧ Zs w.heap.size w1.heap.size w W)
      (fun _ _ _ => False)
      (fun s A B row hs hg hr => ⟨hs.1.kept hg (fun e => by have := (hr _ e.symm).1; omega), hs.2.1.kept hg (fun e => by have := (hr _ e.symm).1; omega), hs.2.2.kept hg (fun e => by have := (hr _ e.symm).1; omega) (fun e => by have := (hr _ e.symm).1; omega) (fun k e => by have := (hr _ e).1; omega)⟩)
      (fun _ _ _ _ _ hs _ _ => hs)
      ⟨b8', b9', hz'⟩
      (fun x => { tmps := #[.int .i64 a, .int .i64 b, undef, undef, .int .i64 0, .int .i64 0, .int .i64 0, .pointer (some ⟨w1.heap.size, 0, none⟩), .pointer (some ⟨b8, 0, none⟩), .pointer (some ⟨b9, 0, none⟩), .int .i64 (x.val : Int), .int .i64 a, .bool true, .bool false, .bool false, .int .i64 b, .bool true, .bool false, .bool false, .map (some w.heap.size), .map (some w.heap.size), .int .i64 a, .int .i64 (zn a), .map (some w.heap.size), .int .i64 a, .int .i64 (zn a), .int .i64 a, .int .i64 b, .func (.func 32) #[] #[.pointer (some ⟨W.heap.size, 0, none⟩), .pointer (some ⟨W.heap.size + 1, 0, none⟩)], .int .i64 (x.val : Int), undef, undef, undef, undef, undef, undef, undef, undef, undef, undef, undef, undef], defers := [] }) ?assign ?body ?done ?stop
    case assign =>
      intro l x W' K' hK'
      dsimp only [encS]
      gi_wp2
      exact hK'
    case body =>
      rintro l pre x W' ⟨h8, h9, hz⟩ hlt
      have hxN : isN (x.val : Int) = true := (isN_iff _).2 (by have := x.isLt; omega)
      have e8 := mnl_snoc a pre x
      have e9 := mxl_snoc a pre x
      obtain ⟨s, hs⟩ : ∃ s : Int, s = (x.val : Int) := ⟨_, rfl⟩
      rw [← hs] at hxN e8 e9 ⊢
      obtain ⟨v8, hv8⟩ : ∃ v : Int, (if zn s < mnl a pre then zn s else mnl a pre) = v := ⟨_, rfl⟩
      obtain ⟨v9, hv9⟩ : ∃ v : Int, (if mxl a pre < zn s then zn s else mxl a pre) = v := ⟨_, rfl⟩
      have E8 := Lib.hid (show mnl a (pre ++ [x]) = v8 by rw [e8, ← hv8]; rfl)
      have E9 := Lib.hid (show mxl a (pre ++ [x]) = v9 by rw [e9, ← hv9]; rfl)
      have hz2 : Zs w.heap.size w1.heap.size w (W'.setCell ⟨b8, 0, none⟩ (.int .i64 v8)) := hz.set _ (by omega) (by omega) (by omega)
      have h92 : Boxed (W'.setCell ⟨b8, 0, none⟩ (.int .i64 v8)) b9 3 (.int .i64 (mxl a pre)) := h9.kept (grownBy_setCell' W' b8 _) (by simp; omega)
      have k1 := hz.look hxN
      have k2 := hz2.look hxN
      have c1 := hz.cell
      have c2 := hz2.cell
      have c3 := h8.cell
      have c4 := h8.frozen
      have c5 := h92.cell
      have c6 := h92.frozen
      have H8 := Lib.hid (h8.set (.int .i64 v8))
      have H9 := Lib.hid h92
      have HZ2 := Lib.hid hz2
      clear e8 e9 hs h8 h9 hz hz2 h92
      gi_wp2
      exact ⟨((KeepsOthers.setCell W' ⟨b8, 0, none⟩ _).trans (KeepsOthers.setCell _ ⟨b9, 0, none⟩ _)).from _,
        fun k u hk hu => ((World.cell?_of_block (Below.heap_setCell _ ⟨b9, 0, none⟩ _ k (by show k ≠ b9; rcases hk with rfl | rfl <;> omega))).trans (World.cell?_of_block (Below.heap_setCell _ ⟨b8, 0, none⟩ _ k (by show k ≠ b8; rcases hk with rfl | rfl <;> omega)))).trans hu,
        by rw [E8.out]; exact H8.out.kept (grownBy_setCell' _ b9 _) (by simp; omega), by rw [E9.out]; exact H9.out.set _, HZ2.out.set _ (by omega) (by omega) (by omega)⟩
    case done =>
      rintro D ys W' hD rfl ⟨h8, h9, hz⟩ hK'
      have c3 := h8.cell
      have c5 := h9.cell
      rw [mnl_way HA.out HMEM.out, ← HX.out] at c3
      rw [mxl_way HA.out HMEM.out, ← HY.out] at c5
      have HZ9 := Lib.hid hz
      have HK9 := Lib.hid hK'
      clear h8 h9 hz hK'
      gi_wp2
      refine wpIn_wide.2 ?_
      go_region
      all_goals
        gi_wp2
        refine ⟨by simp, .inl ⟨_, _, rfl, run_takeDeferred (w := W'.drew) HK9.out, ?_⟩⟩
        refine ⟨.tuple #[.int .i64 x, .int .i64 y, .int .i64 0], ?_, rfl, HZ9.out.bel.drew.trans (belowK_b (w := w) (Nat.le_refl _) W'.drew D _ _ (by omega) HK9.out rfl rfl)⟩
        simp [results, Try.results25, go_sem]
    case stop =>
      rintro D c pre W' _ _ h _
      exact h.elim
  dsimp only at HK
  clear hK
  refine wpIn_wide.2 ?_
  go_region_held3 (fun W => W.cell? ⟨w1.heap.size, 0, none⟩ = some (.map (some w.heap.size)) ∧ (Instr.lookup 46 (.map (some w.heap.size)) (.int .i64 a) false).run Try.prog W = .ok (.int .i64 (zn a)) W) (first | (refine Zs.held (w := w) HA.out ?_; repeat first | exact HZ.out | refine Zs.drew ?_ | refine Zs.alloc ?_ _)) (first | fail)
  all_goals
    have hz3 : Zs w.heap.size w1.heap.size w (((W2.alloc (.cells #[.int .i64 (zn a)] 3)).alloc (.cells #[.int .i64 (zn a)] 3)).drew) := ((HZ.out.alloc _).alloc _).drew
    have hx1 : Boxed (((W2.alloc (.cells #[.int .i64 (zn a)] 3)).alloc (.cells #[.int .i64 (zn a)] 3)).drew) (w1.heap.size + 1) 3 (.int .i64 (zn a)) := by have := (Boxed.new W2 3 (.int .i64 (zn a))).alloc (.cells #[.int .i64 (zn a)] 3); rw [hsz2] at this; exact this
    have hx2 : Boxed (((W2.alloc (.cells #[.int .i64 (zn a)] 3)).alloc (.cells #[.int .i64 (zn a)] 3)).drew) (w1.heap.size + 1 + 1) 3 (.int .i64 (zn a)) := by have := Boxed.new (W2.alloc (.cells #[.int .i64 (zn a)] 3)) 3 (.int .i64 (zn a)); rw [World.size_alloc, hsz2] at this; exact this
    first
      | exact HK (w1.heap.size + 1) (w1.heap.size + 1 + 1) _ hx1 hx2 (by omega) (by omega) (by omega) hz3
      | exact HK (w1.heap.size + 1 + 1) (w1.heap.size + 1) _ hx2 hx1 (by omega) (by omega) (by omega) hz3
end Go.Proofs.Ytmcdidbcfhgijaa
