/-
  Contract for the landed Put: the signs of bytes. Conditions: 4000 bytes at most.
  A block of cells that may be written; rows of bytes, of other values and of fields beside it. No program of its own; conditions: the block is there.
  Contract for the landed Encode of barcode. Conditions: the slice reads as keys; sha's tables hold what its text lays.
-/
import Derived.Test.YtaokhkbfiplfmaaDoorTlvPPut
import Derived.Test.YtaokhkbfiplfmaaDoorRingFits
import Derived.Test.YtaokhkbfiplfmaaDoorFitsP
import Derived.Test.YtaokhkbfiplfmaaDoorMacBlock
import Derived.Test.YtaokhkbfiplfmaaDoorTlvNum
import Derived.Test.YtaokhkbfiplfmaaDoorShaPWords
import Derived.Test.YtaokhkbfiplfmaaDoorMem
section
namespace Go.Proofs.YtaokhkbfiplfmaaDoor
set_option linter.unusedVariables false
open Go.ChangeShapes Go.WideShapes Go.ChangeAt Go.RowKit Go.Shelf
attribute [local go_sem] Oper.semAt_some

/-- The signs of groups. -/
def putFs (l : List Nat) (ks : List Nat) : List Nat := (ks.map (fun k => putG (grp l 2 k))).flatten
theorem putFs_snoc (l : List Nat) (ks : List Nat) (k : Nat) : putFs l (ks ++ [k]) = putFs l ks ++ putG (grp l 2 k) := by simp [putFs]
theorem grp_zero (l : List Nat) (sz : Nat) : grp l sz 0 = l.take sz := by simp [grp]
theorem grp_succ2 (a b : Nat) (r : List Nat) (k : Nat) : grp (a :: b :: r) 2 (k + 1) = grp r 2 k := by
  rw [grp, grp, show 2 * (k + 1) = 2 * k + 1 + 1 by omega, List.drop_succ_cons, List.drop_succ_cons]
theorem putFs_all : ∀ (l : List Nat) (m : Nat), (∀ k, k < m ↔ 2 * k < l.length) → putFs l (List.range m) = putF l
  | [], m, h => by
    have := h 0
    obtain rfl : m = 0 := by simp at this; omega
    rfl
  | [a], m, h => by
    have h0 := h 0
    have h1 := h 1
    obtain rfl : m = 1 := by simp at h0 h1; omega
    simp [putFs, grp, putG, putF]
  | a :: b :: r, m, h => by
    have h0 := h 0
    obtain ⟨m, rfl⟩ : ∃ j, m = j + 1 := ⟨m - 1, by simp at h0; omega⟩
    have ih := putFs_all r m (fun k => by have := h (k + 1); simp only [List.length_cons] at this; omega)
    rw [List.range_succ_eq_map, putFs, List.map_cons, List.flatten_cons, List.map_map]
    have e : (fun k => putG (grp (a :: b :: r) 2 k)) ∘ Nat.succ = fun k => putG (grp r 2 k) := by
      funext k
      show putG (grp (a :: b :: r) 2 (k + 1)) = _
      rw [grp_succ2]
    rw [e]
    rw [putFs] at ih
    rw [ih, putF, grp_zero]
    rfl
theorem putFs_len (l : List Nat) (hl : ∀ k, (putG (grp l 2 k)).length ≤ 3) : ∀ (ks : List Nat), (putFs l ks).length ≤ 3 * ks.length
  | [] => Nat.le_refl _
  | k :: ks => by
    have := putFs_len l hl ks
    have h2 := hl k
    rw [putFs] at this ⊢
    rw [List.map_cons, List.flatten_cons, List.length_append, List.length_cons]
    omega
theorem putG_len (l : List Nat) : (putG l).length ≤ 3 := by
  unfold putG
  split
  · simp [put3]
  · simp [put2]
  · simp
set_option maxRecDepth 100000 in
set_option maxHeartbeats 2000000 in
theorem fput_in (N : Nat) (hN : 4 ≤ N) (l : List Nat) (n : Nat) (hn : n = l.length) (hn4 : n ≤ 4000) (p : List Nat) (hp : putF l = p) (m : Nat) (hm : ∀ k, k < m ↔ 2 * k < n) (A : Option Addr) (c : Nat) (w : World) (hA : Bs w w.heap.size l A c) :
    CallsIn Fence.wide N Tryd.prog 15 #[.slice A n c] w fun e w' => ∃ A' c', e = .returned (.slice A' (p.length : Nat) c') ∧ Bs w' w'.heap.size p A' c' ∧ Below w.heap.size w w' := by
  have h1 : 1 ≤ N := by omega
  obtain ⟨i0, hi, hz0, hz1, hz2⟩ := info_parts infoU8
  have HN := Lib.hid hn
  have HP := Lib.hid hp
  have HM := Lib.hid hm
  have HA := Lib.hid hA
  clear hn hp hA
  refine callsIn_of_wp_marks Tryd.func15 rfl trivial ?_ rfl
  simp only [Tryd.ntmps15, List.size_toArray, List.length_cons, List.length_nil, Nat.reduceAdd, Nat.reduceSub, Array.replicate_succ, Array.replicate_zero, List.push_toArray, List.append_toArray, List.nil_append, List.cons_append]
  gi_wp2
  refine ⟨trivial, (groups_in Fence.wide (N - 1) trivial rfl _ _ _ _ _).mono ?_⟩
  rintro e w' ⟨rfl, rfl⟩
  -- W0
  gi_wp2
  obtain ⟨W0, hW0⟩ : ∃ W0, ((((w.alloc (.cells #[] 5)).alloc (.cells #[.slice (some ⟨w.heap.size, 0, none⟩) 0 0] 24)).alloc (.cells #[.slice A n c] 24)).alloc (.cells #[.int .i64 2] 3)) = W0 := ⟨_, rfl⟩
  have b7 : Boxed W0 (w.heap.size + 1) 24 (.slice (some ⟨w.heap.size, 0, none⟩) 0 0) := by
    rw [← hW0]
    have := Boxed.new (w.alloc (.cells #[] 5)) 24 (.slice (some ⟨w.heap.size, 0, none⟩) 0 0)
    rw [World.size_alloc] at this
    exact (this.alloc _).alloc _
  have ba : Boxed W0 (w.heap.size + 1 + 1) 24 (.slice A n c) := by
    rw [← hW0]
    have := Boxed.new ((w.alloc (.cells #[] 5)).alloc (.cells #[.slice (some ⟨w.heap.size, 0, none⟩) 0 0] 24)) 24 (.slice A n c)
    rw [World.size_alloc, World.size_alloc] at this
    exact this.alloc _
  have bb : Boxed W0 (w.heap.size + 1 + 1 + 1) 3 (.int .i64 2) := by
    rw [← hW0]
    have := Boxed.new (((w.alloc (.cells #[] 5)).alloc (.cells #[.slice (some ⟨w.heap.size, 0, none⟩) 0 0] 24)).alloc (.cells #[.slice A n c] 24)) 3 (.int .i64 2)
    rw [World.size_alloc, World.size_alloc, World.size_alloc] at this
    exact this
  have hr0 : W0.ownsRow w.heap.size 5 1 (.slice (some ⟨w.heap.size, 0, none⟩) 0 0) 0 [] := by
    rw [← hW0]
    exact (((World.ownsRow_lit (base := w.heap.size) (e := 5) (size := 1) w #[] 0 (Nat.le_refl _) (by decide) rfl).alloc _).alloc _).alloc _
  have hb0 : Below w.heap.size w W0 := by
    rw [← hW0]
    exact ((((Below.refl _ w).alloc (Nat.le_refl _) _).alloc (by simp) _).alloc (by simp; omega) _).alloc (by simp; omega) _
  have hs0 : W0.heap.size = w.heap.size + 1 + 1 + 1 + 1 := by rw [← hW0]; simp
  rw [hW0]
  clear hW0
  refine wpIn_rangeFunc_ownG rfl h1 (gf := 45) (lb := #[.pointer (some ⟨w.heap.size + 1 + 1, 0, none⟩), .pointer (some ⟨w.heap.size + 1 + 1 + 1, 0, none⟩)]) rfl trivial (enters_of Tryd.func45 (by kernel_rfl) rfl)
    (groups_stops Fence.wide (N - 1) trivial rfl (by omega) (w.heap.size + 1 + 1) (w.heap.size + 1 + 1 + 1) A n c 2 m HM.out (by omega) (by omega) (by rw [HN.out]; exact HA.out.len) HA.out.cap W0 (by omega) (by omega) ba.cell bb.cell) KpG.trans (fun W l o o' _ hl ho _ => KpG.put W l o o' hl ho) (Below.refl _ _) (fun _ => rfl)
    (fun pre W => (∃ v, Boxed W (w.heap.size + 1) 24 v ∧ W.ownsRow w.heap.size 5 1 v (putFs l (idx pre)).length (U8 (putFs l (idx pre))) ∧ True) ∧ (Boxed W (w.heap.size + 1 + 1) 24 (.slice A n c) ∧ Boxed W (w.heap.size + 1 + 1 + 1) 3 (.int .i64 2) ∧ W0.heap.size ≤ W.heap.size) ∧ Below w.heap.size w W)
    (fun _ _ _ => False)
    (OwnFrom.and (Own.from (holdsRow_own w.heap.size (w.heap.size + 1) 24 5 1 (fun pre => (putFs l (idx pre)).length) (fun pre => U8 (putFs l (idx pre))) (fun _ _ => True)) _)
      (OwnFrom.and (fun s A B row hs hg hr => ⟨hs.1.kept hg (fun e => by have := (hr _ e.symm).1; omega), hs.2.1.kept hg (fun e => by have := (hr _ e.symm).1; omega), Nat.le_trans hs.2.2 hg.size⟩) (ownFrom_below (Nat.le_refl _) (by omega))))
    (fun _ _ _ _ _ hs _ _ => hs)
    ⟨⟨_, b7, hr0, trivial⟩, ⟨ba, bb, Nat.le_refl _⟩, hb0⟩
    (fun x => { tmps := #[.slice A n c, undef, .slice none 0 0, .pointer (some ⟨w.heap.size + 1, 0, none⟩), .slice (A.map (fun a => a.add (2 * x.val))) (eOf n 2 (2 * x.val) - 2 * x.val) (c - 2 * x.val), .slice (some ⟨w.heap.size, 0, none⟩) 0 0, .slice A n c, .func (.func 45) #[] #[.pointer (some ⟨w.heap.size + 1 + 1, 0, none⟩), .pointer (some ⟨w.heap.size + 1 + 1 + 1, 0, none⟩)], .slice (A.map (fun a => a.add (2 * x.val))) (eOf n 2 (2 * x.val) - 2 * x.val) (c - 2 * x.val), undef, undef, undef, undef, undef, undef, undef, undef, undef], defers := [] }) ?assign ?body ?done ?stop
  case assign =>
    intro lp x W K hK
    dsimp only [encG]
    gi_wp2
    exact hK
  case body =>
    rintro lp pre x W ⟨⟨v, h7, hrow, -⟩, ⟨hba, hbb, hX3⟩, hB⟩ hlt
    have hx : 2 * x.val < l.length := by rw [← HN.out]; exact (HM.out _).1 x.isLt
    have hgl := grp_len l 2 x.val hx
    have hbs0 := (grp_bs (HA.out.below hB) 2 x.val hx).more hB.size
    have hsn : putFs l (idx (pre ++ [x])) = putFs l (idx pre) ++ putG (grp l 2 x.val) := by rw [idx_snoc, putFs_snoc]
    have hpf := putFs_len l (fun k => putG_len _) (idx pre)
    have hmn : 2 * m ≤ n + 1 := by
      rcases Nat.eq_zero_or_pos m with h | h
      · omega
      · have := (HM.out (m - 1)).1 (by omega); omega
    rw [idx_len] at hpf
    have hg1 : 1 ≤ (grp l 2 x.val).length := by rw [grp, List.length_take, List.length_drop]; omega
    have hg2 : (grp l 2 x.val).length ≤ 2 := by rw [grp, List.length_take]; omega
    rw [← HN.out] at hgl
    rw [← hgl]
    obtain ⟨g, hgg⟩ : ∃ g, g = grp l 2 x.val := ⟨_, rfl⟩
    rw [← hgg] at hg1 hg2 hbs0 hsn ⊢
    have hglt : ∀ y ∈ g, y < 256 := hbs0.lt
    have hnof := nOf_lt g hg2 hglt
    have hput := sgs_put g hg1 hg2 hglt
    obtain ⟨k, hk⟩ : ∃ k, k = g.length := ⟨_, rfl⟩
    rw [← hk] at hput hg1 hg2 ⊢
    have hgpl : (U8 (putG g)).length = k + 1 := by rw [U8, List.length_map, ← hput, sgs_len]
    have hgpl2 : (putG g).length = k + 1 := by rw [← hput, sgs_len]
    obtain ⟨ap, hap⟩ : ∃ ap, ap = A.map (fun a => a.add (2 * x.val)) := ⟨_, rfl⟩
    obtain ⟨cp, hcp⟩ : ∃ cp, cp = c - 2 * x.val := ⟨_, rfl⟩
    rw [← hap, ← hcp] at hbs0 ⊢
    have hdr : Below W.heap.size W W.drew := (Below.refl _ W).drew
    have hof := pofBytes_any g k hk hg2 ap cp W.drew (hbs0.next hdr)
    obtain ⟨q, hq⟩ : ∃ q, q = nOf g := ⟨_, rfl⟩
    rw [← hq] at hof hnof hput
    have has := pasSigns_any q (k + 1) (putG g) hput W.drew hnof (by omega)
    obtain ⟨j, hj⟩ : ∃ j, j = (putFs l (idx pre)).length := ⟨_, rfl⟩
    rw [← hj] at hrow hpf
    have hm1 : j + (k + 1) ≤ maxLen := by unfold maxLen; omega
    have hm2 : (j + (k + 1)) * 1 ≤ 140737488355328 := by omega
    have wk : IntKind.i64.wrap ((k : Int) + 1) = ((k + 1 : Nat) : Int) := by rw [IntWalk.i64_in _ (by omega)]; push_cast; rfl
    have hc7 := h7.cell
    have hsz := hB.size
    have H7 := Lib.hid h7
    have HRW := Lib.hid hrow
    have HBA := Lib.hid hba
    have HBBX := Lib.hid hbb
    have HBB := Lib.hid hB
    have HPS := Lib.hid hsn
    have HOF := Lib.hid hof
    have HAS := Lib.hid has
    have HDR := Lib.hid hdr
    have HJ := Lib.hid hj
    have HGL := Lib.hid hgpl
    have HGL2 := Lib.hid hgpl2
    clear h7 hrow hba hbb hB hsn hof has hdr hj hgpl hgpl2 hap hcp hgg hk hq hput hglt hbs0 b7 ba bb hr0 hb0 hgl hx
    -- the region that draws its order
    gi_wp2_with fail
    refine wpIn_region_any (by kernel_rfl) ?_
    change wpAnyIn _ _ _ _ _ _ _ _ _ (World.drew _)
    refine any_inRound lp rfl (noDefer_spec (by kernel_rfl)) _ _ _ _ ?_
    refine wpAnyIn_take (i := 1) (oi := ⟨some 10, _, _, _, _, _⟩) (v := ?_) rfl rfl (by kernel_rfl) (by kernel_rfl) (by kernel_rfl) (fun _ _ _ h => h) ⟨Or.inl ⟨by rfl, ?_⟩, fun _ => rfl⟩ ?_
    rotate_left
    · intro w
      go_simp
      first | done | with_reducible rfl
    try simp only [Act.put, List.setIfInBounds_toArray, List.set_cons_zero, List.set_cons_succ]
    refine wpAnyIn_take (i := 3) (oi := ⟨some 12, _, _, _, _, _⟩) (v := ?_) rfl rfl (by kernel_rfl) (by kernel_rfl) (by kernel_rfl) (fun _ _ _ h => h) ⟨Or.inl ⟨by rfl, ?_⟩, fun _ => rfl⟩ ?_
    rotate_left
    · intro w
      go_simp
      first | done | with_reducible rfl
    try simp only [Act.put, List.setIfInBounds_toArray, List.set_cons_zero, List.set_cons_succ]
    refine wpAnyIn_take (i := 4) (oi := ⟨some 13, _, _, _, _, _⟩) (v := ?_) rfl rfl (by kernel_rfl) (by kernel_rfl) (by kernel_rfl) (fun _ _ _ h => h) ⟨Or.inl ⟨by rfl, ?_⟩, fun _ => rfl⟩ ?_
    rotate_left
    · intro w
      go_simp
      first | done | with_reducible rfl
    try simp only [Act.put, List.setIfInBounds_toArray, List.set_cons_zero, List.set_cons_succ]
    refine wpAnyIn_take (i := 5) (oi := ⟨some 14, _, _, _, _, _⟩) (v := ?_) rfl rfl (by kernel_rfl) (by kernel_rfl) (by kernel_rfl) (fun _ _ _ h => h) ⟨Or.inl ⟨by rfl, ?_⟩, fun _ => rfl⟩ ?_
    rotate_left
    · intro w
      go_simp
      first | done | with_reducible rfl
    try simp only [Act.put, List.setIfInBounds_toArray, List.set_cons_zero, List.set_cons_succ]
    refine wpAnyIn_ready (rs := [0,2]) (by kernel_rfl) (by simp) ?_
    refine AllReadyIn.cons (o := ⟨some 9, _, _, _, _, _⟩) rfl (fun K hK => ?_) (AllReadyIn.cons (o := ⟨some 11, .call _, _, _, _, _⟩) rfl (fun K hK => ?_) AllReadyIn.nil)
    ·
      go_simp
      refine hK _ _ ?_
      clear hK K
      try simp only [Act.put, List.setIfInBounds_toArray, List.set_cons_zero, List.set_cons_succ]
      refine wpAnyIn_ready (rs := [2]) (by kernel_rfl) (by simp) ?_
      refine AllReadyIn.cons (o := ⟨some 11, .call _, _, _, _, _⟩) rfl (fun K hK => ?_) AllReadyIn.nil
      go_simp
      refine ⟨trivial, fun _ => by omega, ?_⟩
      gi_at_call 34
      refine (callsIn_wide.2 HOF.out).mono ?_
      rintro e w' ⟨rfl, rfl⟩
      gi_wp2_with fail
      try simp only [Act.put, List.setIfInBounds_toArray, List.set_cons_zero, List.set_cons_succ]
      refine wpAnyIn_ready (rs := [6]) (by kernel_rfl) (by simp) ?_
      refine AllReadyIn.cons (o := ⟨some 15, .call _, _, _, _, _⟩) rfl (fun K hK => ?_) AllReadyIn.nil
      go_simp
      refine ⟨trivial, fun _ => by omega, ?_⟩
      gi_at_call 33
      refine (callsIn_wide.2 HAS.out).mono ?_
      rintro e w1 ⟨rfl, hs, hb⟩
      have HS := Lib.hid hs
      have HB1 := Lib.hid (HDR.out.trans (hb.mono HDR.out.size))
      have hc71 := (boxed_belowD H7.out HB1.out).cell
      clear hs hb
      gi_wp2_with fail
      try simp only [Act.put, List.setIfInBounds_toArray, List.set_cons_zero, List.set_cons_succ]
      refine wpAnyIn_ready (rs := [7]) (by kernel_rfl) (by simp) ?_
      refine AllReadyIn.cons (o := ⟨some 16, .call _, _, _, _, _⟩) rfl (fun K hK => ?_) AllReadyIn.nil
      refine step_append_in _ (by rfl) (.tmp 9) (.tmp 15) 24 rfl w.heap.size 5 i0 (.int .u8 0) 1 Tryd.underlying24 hi hz0 hz1 hz2 rfl v j (U8 (putFs l (idx pre))) rfl (own_below HRW.out HB1.out) _ (k + 1) (k + 1) (U8 (putG g)) rfl HGL.out (fun i u hu => by obtain ⟨ad, e, _, hcc⟩ := HS.out.rd i u hu; cases e; exact hcc) (U8_one _) hm1 hm2 (Nat.le_trans hsz HB1.out.size) ?_
      intro v' w2 hown' hgrow
      obtain ⟨g', cap', rfl⟩ := ownsRow_succ hown'
      obtain ⟨hv1, hv2, hr2, hk2, hb2⟩ := boxed_grown W0.heap.size H7.out (by decide) HRW.out hsz (by omega) HB1.out hown' hgrow
      have hba2 := boxed_beside (B := w.heap.size + 1) (v' := .slice (some ⟨g', 0, none⟩) (j + k + 1) cap') HBA.out (by decide) HRW.out HB1.out hgrow (by omega)
      have hbb2 := boxed_beside (B := w.heap.size + 1) (v' := .slice (some ⟨g', 0, none⟩) (j + k + 1) cap') HBBX.out (by decide) HRW.out HB1.out hgrow (by omega)
      have hc1 := hv1.cell
      have hf1 := hv1.frozen
      refine hK _ _ ?_
      clear hK K
      try simp only [Act.put, List.setIfInBounds_toArray, List.set_cons_zero, List.set_cons_succ]
      refine wpAnyIn_ready (rs := [8]) (by kernel_rfl) (by simp) ?_
      refine AllReadyIn.cons rfl (fun K hK => ?_) AllReadyIn.nil
      go_simp
      refine hK _ _ ?_
      clear hK K
      refine wpAnyIn_done (by kernel_rfl) ?_ _
      exact ⟨hk2, KpG.boxed HBA.out HBBX.out hba2 hbb2, ⟨⟨_, hv2, by rw [HPS.out, u8_app, List.length_append, ← HJ.out, HGL2.out]; exact hr2, trivial⟩, ⟨hba2, hbb2, Nat.le_trans hX3 hk2.size⟩, HBB.out.trans hb2⟩⟩
    ·
      go_simp
      refine ⟨trivial, fun _ => by omega, ?_⟩
      gi_at_call 34
      refine (callsIn_wide.2 HOF.out).mono ?_
      rintro e w' ⟨rfl, rfl⟩
      gi_wp2_with fail
      try simp only [Act.put, List.setIfInBounds_toArray, List.set_cons_zero, List.set_cons_succ]
      refine wpAnyIn_ready (rs := [0,6]) (by kernel_rfl) (by simp) ?_
      refine AllReadyIn.cons (o := ⟨some 9, _, _, _, _, _⟩) rfl (fun K hK => ?_) (AllReadyIn.cons (o := ⟨some 15, .call _, _, _, _, _⟩) rfl (fun K hK => ?_) AllReadyIn.nil)
      ·
        go_simp
        refine hK _ _ ?_
        clear hK K
        try simp only [Act.put, List.setIfInBounds_toArray, List.set_cons_zero, List.set_cons_succ]
        refine wpAnyIn_ready (rs := [6]) (by kernel_rfl) (by simp) ?_
        refine AllReadyIn.cons (o := ⟨some 15, .call _, _, _, _, _⟩) rfl (fun K hK => ?_) AllReadyIn.nil
        go_simp
        refine ⟨trivial, fun _ => by omega, ?_⟩
        gi_at_call 33
        refine (callsIn_wide.2 HAS.out).mono ?_
        rintro e w1 ⟨rfl, hs, hb⟩
        have HS := Lib.hid hs
        have HB1 := Lib.hid (HDR.out.trans (hb.mono HDR.out.size))
        have hc71 := (boxed_belowD H7.out HB1.out).cell
        clear hs hb
        gi_wp2_with fail
        try simp only [Act.put, List.setIfInBounds_toArray, List.set_cons_zero, List.set_cons_succ]
        refine wpAnyIn_ready (rs := [7]) (by kernel_rfl) (by simp) ?_
        refine AllReadyIn.cons (o := ⟨some 16, .call _, _, _, _, _⟩) rfl (fun K hK => ?_) AllReadyIn.nil
        refine step_append_in _ (by rfl) (.tmp 9) (.tmp 15) 24 rfl w.heap.size 5 i0 (.int .u8 0) 1 Tryd.underlying24 hi hz0 hz1 hz2 rfl v j (U8 (putFs l (idx pre))) rfl (own_below HRW.out HB1.out) _ (k + 1) (k + 1) (U8 (putG g)) rfl HGL.out (fun i u hu => by obtain ⟨ad, e, _, hcc⟩ := HS.out.rd i u hu; cases e; exact hcc) (U8_one _) hm1 hm2 (Nat.le_trans hsz HB1.out.size) ?_
        intro v' w2 hown' hgrow
        obtain ⟨g', cap', rfl⟩ := ownsRow_succ hown'
        obtain ⟨hv1, hv2, hr2, hk2, hb2⟩ := boxed_grown W0.heap.size H7.out (by decide) HRW.out hsz (by omega) HB1.out hown' hgrow
        have hba2 := boxed_beside (B := w.heap.size + 1) (v' := .slice (some ⟨g', 0, none⟩) (j + k + 1) cap') HBA.out (by decide) HRW.out HB1.out hgrow (by omega)
        have hbb2 := boxed_beside (B := w.heap.size + 1) (v' := .slice (some ⟨g', 0, none⟩) (j + k + 1) cap') HBBX.out (by decide) HRW.out HB1.out hgrow (by omega)
        have hc1 := hv1.cell
        have hf1 := hv1.frozen
        refine hK _ _ ?_
        clear hK K
        try simp only [Act.put, List.setIfInBounds_toArray, List.set_cons_zero, List.set_cons_succ]
        refine wpAnyIn_ready (rs := [8]) (by kernel_rfl) (by simp) ?_
        refine AllReadyIn.cons rfl (fun K hK => ?_) AllReadyIn.nil
        go_simp
        refine hK _ _ ?_
        clear hK K
        refine wpAnyIn_done (by kernel_rfl) ?_ _
        exact ⟨hk2, KpG.boxed HBA.out HBBX.out hba2 hbb2, ⟨⟨_, hv2, by rw [HPS.out, u8_app, List.length_append, ← HJ.out, HGL2.out]; exact hr2, trivial⟩, ⟨hba2, hbb2, Nat.le_trans hX3 hk2.size⟩, HBB.out.trans hb2⟩⟩
      ·
        go_simp
        refine ⟨trivial, fun _ => by omega, ?_⟩
        gi_at_call 33
        refine (callsIn_wide.2 HAS.out).mono ?_
        rintro e w1 ⟨rfl, hs, hb⟩
        have HS := Lib.hid hs
        have HB1 := Lib.hid (HDR.out.trans (hb.mono HDR.out.size))
        have hc71 := (boxed_belowD H7.out HB1.out).cell
        clear hs hb
        gi_wp2_with fail
        try simp only [Act.put, List.setIfInBounds_toArray, List.set_cons_zero, List.set_cons_succ]
        refine wpAnyIn_ready (rs := [0]) (by kernel_rfl) (by simp) ?_
        refine AllReadyIn.cons (o := ⟨some 9, _, _, _, _, _⟩) rfl (fun K hK => ?_) AllReadyIn.nil
        go_simp
        refine hK _ _ ?_
        clear hK K
        try simp only [Act.put, List.setIfInBounds_toArray, List.set_cons_zero, List.set_cons_succ]
        refine wpAnyIn_ready (rs := [7]) (by kernel_rfl) (by simp) ?_
        refine AllReadyIn.cons (o := ⟨some 16, .call _, _, _, _, _⟩) rfl (fun K hK => ?_) AllReadyIn.nil
        refine step_append_in _ (by rfl) (.tmp 9) (.tmp 15) 24 rfl w.heap.size 5 i0 (.int .u8 0) 1 Tryd.underlying24 hi hz0 hz1 hz2 rfl v j (U8 (putFs l (idx pre))) rfl (own_below HRW.out HB1.out) _ (k + 1) (k + 1) (U8 (putG g)) rfl HGL.out (fun i u hu => by obtain ⟨ad, e, _, hcc⟩ := HS.out.rd i u hu; cases e; exact hcc) (U8_one _) hm1 hm2 (Nat.le_trans hsz HB1.out.size) ?_
        intro v' w2 hown' hgrow
        obtain ⟨g', cap', rfl⟩ := ownsRow_succ hown'
        obtain ⟨hv1, hv2, hr2, hk2, hb2⟩ := boxed_grown W0.heap.size H7.out (by decide) HRW.out hsz (by omega) HB1.out hown' hgrow
        have hba2 := boxed_beside (B := w.heap.size + 1) (v' := .slice (some ⟨g', 0, none⟩) (j + k + 1) cap') HBA.out (by decide) HRW.out HB1.out hgrow (by omega)
        have hbb2 := boxed_beside (B := w.heap.size + 1) (v' := .slice (some ⟨g', 0, none⟩) (j + k + 1) cap') HBBX.out (by decide) HRW.out HB1.out hgrow (by omega)
        have hc1 := hv1.cell
        have hf1 := hv1.frozen
        refine hK _ _ ?_
        clear hK K
        try simp only [Act.put, List.setIfInBounds_toArray, List.set_cons_zero, List.set_cons_succ]
        refine wpAnyIn_ready (rs := [8]) (by kernel_rfl) (by simp) ?_
        refine AllReadyIn.cons rfl (fun K hK => ?_) AllReadyIn.nil
        go_simp
        refine hK _ _ ?_
        clear hK K
        refine wpAnyIn_done (by kernel_rfl) ?_ _
        exact ⟨hk2, KpG.boxed HBA.out HBBX.out hba2 hbb2, ⟨⟨_, hv2, by rw [HPS.out, u8_app, List.length_append, ← HJ.out, HGL2.out]; exact hr2, trivial⟩, ⟨hba2, hbb2, Nat.le_trans hX3 hk2.size⟩, HBB.out.trans hb2⟩⟩
  case done =>
    rintro D ys W hD hys ⟨⟨v, h7, hrow, -⟩, ⟨hba, hbb, hX3⟩, hB⟩ hK
    rw [hys, putFs_all l m (by rw [← HN.out]; exact HM.out), HP.out] at hrow
    have hplt : ∀ x ∈ p, x < 256 := by rw [← HP.out]; exact putF_lt l
    obtain ⟨A2, c2, rfl, -⟩ := bs_of_own hrow hplt
    have hrow' := ownsRow_putObj hrow (.deferred none) hK rfl
    obtain ⟨A', c', e', hbs⟩ := bs_of_own hrow' hplt
    obtain ⟨rfl, rfl⟩ : A2 = A' ∧ c2 = c' := by injection e' with e1 _ e2; exact ⟨e1, e2⟩
    have hc7 := h7.cell
    have HBS := Lib.hid hbs
    have HK := Lib.hid hK
    have HBL := Lib.hid hB
    clear hrow hrow' e' hbs h7 hba hbb hB hK hys b7 ba bb hr0 hb0
    gi_wp2
    refine ⟨by simp, .inl ⟨_, _, rfl, run_takeDeferred HK.out, ?_⟩⟩
    exact ⟨_, results_tmp rfl _ _ _, A2, c2, rfl, HBS.out, HBL.out.trans (belowK_b (w := w) (Nat.le_refl _) W D _ _ (by omega) HK.out rfl rfl)⟩
  case stop =>
    rintro D c pre W _ _ h _
    exact h.elim
theorem pput_forty (l : List Nat) (n : Nat) (hn : n = l.length) (hn4 : n ≤ 4000) (p : List Nat) (hp : putF l = p) (A : Option Addr) (c : Nat) (w : World) (hA : Bs w w.heap.size l A c) :
    Calls Tryd.prog 15 #[.slice A n c] w fun e w' => ∃ A' c', e = .returned (.slice A' (p.length : Nat) c') ∧ Bs w' w'.heap.size p A' c' ∧ Below w.heap.size w w' :=
  (callsIn_wide (n := 4)).1 (fput_in 4 (by omega) l n hn hn4 p hp ((n + 1) / 2) (fun k => by omega) A c w hA)
end Go.Proofs.YtaokhkbfiplfmaaDoor
end
section
namespace Go.Proofs.YtaokhkbfiplfmaaDoor
set_option linter.unusedVariables false
open Go.ChangeShapes Go.WideShapes Go.ChangeAt Go.RowKit

/-- A block of cells that may be written. -/
def Blk (w : World) (X : Nat) (cs : Array Value) (t : TypeId) : Prop := w.heap[X]? = some (.cells cs t (0, 0))
theorem Blk.lt {w : World} {X : Nat} {cs : Array Value} {t : TypeId} (h : Blk w X cs t) : X < w.heap.size := (Array.getElem?_eq_some_iff.1 h).1
theorem Blk.next {w w' : World} {X : Nat} {cs : Array Value} {t : TypeId} (h : Blk w X cs t) (hb : Below w.heap.size w w') : Blk w' X cs t := (hb.block _ h.lt).trans h
theorem Blk.below {w w' : World} {X B : Nat} {cs : Array Value} {t : TypeId} (h : Blk w X cs t) (hX : X < B) (hb : Below B w w') : Blk w' X cs t := (hb.block _ hX).trans h
theorem Blk.new (w : World) (cs : Array Value) (t : TypeId) : Blk (w.alloc (.cells cs t)) w.heap.size cs t := heap_alloc_new w _
theorem Blk.alloc {w : World} {X : Nat} {cs : Array Value} {t : TypeId} (h : Blk w X cs t) (o : Obj) : Blk (w.alloc o) X cs t := (heap_alloc_old w o h.lt).trans h
theorem Blk.cell {w : World} {X : Nat} {cs : Array Value} {t : TypeId} (h : Blk w X cs t) (i : Nat) {v : Value} (hi : cs[i]? = some v) : w.cell? ⟨X, i, none⟩ = some v := by rw [cell_of_row w X i _ _ (0, 0) h]; exact hi
theorem Blk.frozen {w : World} {X : Nat} {cs : Array Value} {t : TypeId} (h : Blk w X cs t) (i : Nat) : w.frozen? ⟨X, i, none⟩ = false := frozen_of_row w X i _ _ h
theorem Blk.put {w : World} {X : Nat} {cs : Array Value} {t : TypeId} (h : Blk w X cs t) (i : Nat) (v : Value) : Blk (w.setCell ⟨X, i, none⟩ v) X (cs.setIfInBounds i v) t := heap_setCell_same w X i _ _ v h
theorem Blk.row {w : World} {X : Nat} {cs : Array Value} {t : TypeId} (h : Blk w X cs t) (ds : Array Value) : Blk (w.setRow X ds) X ds t := setRow_heap _ _ _ _ _ _ h
theorem Blk.grown {w w' : World} {X Y : Nat} {cs : Array Value} {t : TypeId} (h : Blk w Y cs t) (hg : w.grownBy w' (some X)) (hne : Y ≠ X) : Blk w' Y cs t := (hg.block _ h.lt (by simp; omega)).trans h
theorem RBox.grown {w w' : World} {X Y : Nat} {r : Rg} (h : RBox w Y r) (hg : w.grownBy w' (some X)) (hne : Y ≠ X) : RBox w' Y r := (hg.block _ h.lt (by simp; omega)).trans h
end Go.Proofs.YtaokhkbfiplfmaaDoor
end
section
namespace Go.Proofs.YtaokhkbfiplfmaaDoor
set_option linter.unusedVariables false
open Go.ChangeShapes Go.WideShapes Go.ChangeAt Go.RowKit

theorem find_ten {l : List K} {id : Int} (h1 : isR l = true) (h3 : findE l id ≠ 0) : findE l id = 10 := by
  rw [findE, if_pos h1] at h3 ⊢
  split at h3
  · exact absurd rfl h3
  · rename_i h; rw [if_neg h]
set_option maxRecDepth 100000 in
set_option maxHeartbeats 1600000 in
theorem benc_a (l : List K) (n : Nat) (hn : n = l.length) (hn3 : n ≤ 9223372036854775807) (A : Option Addr) (c : Nat) (r : Rg) (E : Nat) (p : List Nat) (hE : ecB l r = (E, p)) (w : World) (hT : Tabs w) (hA : Ks w w.heap.size A l) (h1 : isR l = false) : Calls Tryd.prog 5 #[.slice A n c, .agg #[.int .i64 r.t.ser, .int .i64 r.t.kind, .int .i64 r.t.frm, .int .i64 r.t.till, .int .i64 r.t.cls, .int .i64 r.t.card, .int .i64 r.t.seat, .int .i64 r.t.day, .int .i64 r.t.days, .int .i64 r.t.uses, .int .i64 r.t.epoch, .int .i64 r.key, .int .i64 r.left, .int .i64 r.inn, .int .i64 r.ver]] w fun e w' => ∃ A' c', e = .returned (.tuple #[.slice A' (p.length : Nat) c', .int .i64 (E : Int)]) ∧ Bs w' w'.heap.size p A' c' ∧ Below w.heap.size w w' := by
  obtain ⟨rfl, rfl⟩ : E = 1 ∧ p = [] := by rw [ecB, if_pos h1] at hE; exact ⟨(Prod.mk.inj hE).1.symm, (Prod.mk.inj hE).2.symm⟩
  have H1 := Lib.hid h1
  clear hE h1
  have HN := Lib.hid hn
  have HT := Lib.hid hT
  have HA := Lib.hid hA
  clear hn hT hA
  have HBL := Lib.hid (Below.refl w.heap.size w)
  go_enter Tryd.func5, Tryd.ntmps5
  go_wp2_with fail
  obtain ⟨w1, hw⟩ : ∃ w1, w1 = w.alloc (.cells #[.int .i64 r.t.ser, .int .i64 r.t.kind, .int .i64 r.t.frm, .int .i64 r.t.till, .int .i64 r.t.cls, .int .i64 r.t.card, .int .i64 r.t.seat, .int .i64 r.t.day, .int .i64 r.t.days, .int .i64 r.t.uses, .int .i64 r.t.epoch, .int .i64 r.key, .int .i64 r.left, .int .i64 r.inn, .int .i64 r.ver] 35) := ⟨_, rfl⟩
  rw [← hw]
  have hx : RBox w1 w.heap.size r := by rw [hw]; exact RBox.new w r
  have hb : Below w.heap.size w w1 := by rw [hw]; exact below_lit w _ _
  replace HT := Lib.hid (HT.out.next hb)
  replace HA := Lib.hid (HA.out.next hb)
  replace HBL := Lib.hid (HBL.out.trans (hb.mono HBL.out.size))
  have X1 := Lib.hid hx
  clear hx hb hw
  obtain ⟨B1, hB⟩ : ∃ B, B = w.heap.size := ⟨_, rfl⟩
  rw [← hB] at X1 ⊢
  clear hB
  refine (pis_named l n HN.out false H1.out A c w1 HA.out hn3).mono ?_
  rintro e w2 ⟨rfl, hb⟩
  replace HT := Lib.hid (HT.out.next hb)
  replace HA := Lib.hid (HA.out.next hb)
  replace X1 := Lib.hid (X1.out.next hb)
  replace HBL := Lib.hid (HBL.out.trans (hb.mono HBL.out.size))
  clear hb
  go_wp2
  go_ret2
  exact ⟨none, 0, rfl, Bs.empty _ _, HBL.out⟩
set_option maxRecDepth 100000 in
set_option maxHeartbeats 1600000 in
theorem benc_b (l : List K) (n : Nat) (hn : n = l.length) (hn3 : n ≤ 9223372036854775807) (A : Option Addr) (c : Nat) (r : Rg) (E : Nat) (p : List Nat) (hE : ecB l r = (E, p)) (w : World) (hT : Tabs w) (hA : Ks w w.heap.size A l) (h1 : isR l = true) (h2 : (fdPut r).1 ≠ 0) : Calls Tryd.prog 5 #[.slice A n c, .agg #[.int .i64 r.t.ser, .int .i64 r.t.kind, .int .i64 r.t.frm, .int .i64 r.t.till, .int .i64 r.t.cls, .int .i64 r.t.card, .int .i64 r.t.seat, .int .i64 r.t.day, .int .i64 r.t.days, .int .i64 r.t.uses, .int .i64 r.t.epoch, .int .i64 r.key, .int .i64 r.left, .int .i64 r.inn, .int .i64 r.ver]] w fun e w' => ∃ A' c', e = .returned (.tuple #[.slice A' (p.length : Nat) c', .int .i64 (E : Int)]) ∧ Bs w' w'.heap.size p A' c' ∧ Below w.heap.size w w' := by
  have h1' : ¬ isR l = false := by rw [h1]; decide
  obtain ⟨G, P, hP⟩ : ∃ G P, fdPut r = (G, P) := ⟨_, _, rfl⟩
  have hG : G ≠ 0 := by rw [hP] at h2; exact h2
  obtain ⟨rfl, rfl⟩ : E = G ∧ p = [] := by rw [ecB, if_neg h1', if_pos h2, hP] at hE; exact ⟨(Prod.mk.inj hE).1.symm, (Prod.mk.inj hE).2.symm⟩
  have s1 : ((E : Int) == 0) = false := by rw [beq_eq_false_iff_ne]; omega
  have s2 : ((E : Int) != 0) = true := by rw [bne_iff_ne]; omega
  have s3 : (E == 0) = false := by rw [beq_eq_false_iff_ne]; exact hG
  have s4 : (E != 0) = true := by rw [bne_iff_ne]; exact hG
  have H1 := Lib.hid h1
  have HP := Lib.hid hP
  clear hE h1 h2 h1' hG hP
  have HN := Lib.hid hn
  have HT := Lib.hid hT
  have HA := Lib.hid hA
  clear hn hT hA
  have HBL := Lib.hid (Below.refl w.heap.size w)
  go_enter Tryd.func5, Tryd.ntmps5
  go_wp2_with fail
  obtain ⟨w1, hw⟩ : ∃ w1, w1 = w.alloc (.cells #[.int .i64 r.t.ser, .int .i64 r.t.kind, .int .i64 r.t.frm, .int .i64 r.t.till, .int .i64 r.t.cls, .int .i64 r.t.card, .int .i64 r.t.seat, .int .i64 r.t.day, .int .i64 r.t.days, .int .i64 r.t.uses, .int .i64 r.t.epoch, .int .i64 r.key, .int .i64 r.left, .int .i64 r.inn, .int .i64 r.ver] 35) := ⟨_, rfl⟩
  rw [← hw]
  have hx : RBox w1 w.heap.size r := by rw [hw]; exact RBox.new w r
  have hb : Below w.heap.size w w1 := by rw [hw]; exact below_lit w _ _
  replace HT := Lib.hid (HT.out.next hb)
  replace HA := Lib.hid (HA.out.next hb)
  replace HBL := Lib.hid (HBL.out.trans (hb.mono HBL.out.size))
  have X1 := Lib.hid hx
  clear hx hb hw
  obtain ⟨B1, hB⟩ : ∃ B, B = w.heap.size := ⟨_, rfl⟩
  rw [← hB] at X1 ⊢
  clear hB
  refine (pis_named l n HN.out true H1.out A c w1 HA.out hn3).mono ?_
  rintro e w2 ⟨rfl, hb⟩
  replace HT := Lib.hid (HT.out.next hb)
  replace HA := Lib.hid (HA.out.next hb)
  replace X1 := Lib.hid (X1.out.next hb)
  replace HBL := Lib.hid (HBL.out.trans (hb.mono HBL.out.size))
  clear hb
  obtain ⟨c0, c1, c2, c3, c4, c5, c6, c7, c8, c9, c10, c11, c12, c13, c14⟩ := X1.out.cells
  go_wp2_with fail
  refine (fput_any r E P HP.out w2).mono ?_
  rintro e w3 ⟨AP1, cP1, rfl, hs, hb⟩
  clear c0 c1 c2 c3 c4 c5 c6 c7 c8 c9 c10 c11 c12 c13 c14
  replace HT := Lib.hid (HT.out.next hb)
  replace HA := Lib.hid (HA.out.next hb)
  replace X1 := Lib.hid (X1.out.next hb)
  replace HBL := Lib.hid (HBL.out.trans (hb.mono HBL.out.size))
  have P1 := Lib.hid hs
  clear hb hs
  go_wp2
  go_ret2
  exact ⟨none, 0, rfl, Bs.empty _ _, HBL.out⟩
set_option maxRecDepth 100000 in
set_option maxHeartbeats 1600000 in
theorem benc_c (l : List K) (n : Nat) (hn : n = l.length) (hn3 : n ≤ 9223372036854775807) (A : Option Addr) (c : Nat) (r : Rg) (E : Nat) (p : List Nat) (hE : ecB l r = (E, p)) (w : World) (hT : Tabs w) (hA : Ks w w.heap.size A l) (h1 : isR l = true) (h2 : (fdPut r).1 = 0) (h3 : findE l r.key ≠ 0) : Calls Tryd.prog 5 #[.slice A n c, .agg #[.int .i64 r.t.ser, .int .i64 r.t.kind, .int .i64 r.t.frm, .int .i64 r.t.till, .int .i64 r.t.cls, .int .i64 r.t.card, .int .i64 r.t.seat, .int .i64 r.t.day, .int .i64 r.t.days, .int .i64 r.t.uses, .int .i64 r.t.epoch, .int .i64 r.key, .int .i64 r.left, .int .i64 r.inn, .int .i64 r.ver]] w fun e w' => ∃ A' c', e = .returned (.tuple #[.slice A' (p.length : Nat) c', .int .i64 (E : Int)]) ∧ Bs w' w'.heap.size p A' c' ∧ Below w.heap.size w w' := by
  have h1' : ¬ isR l = false := by rw [h1]; decide
  obtain ⟨P, hP⟩ : ∃ P, fdPut r = (0, P) := ⟨(fdPut r).2, by rw [← h2]⟩
  obtain ⟨rfl, rfl⟩ : E = 10 ∧ p = [] := by rw [ecB, if_neg h1', if_neg (by omega), if_pos h3] at hE; exact ⟨(Prod.mk.inj hE).1.symm, (Prod.mk.inj hE).2.symm⟩
  have hF : findE l r.key = 10 := find_ten h1 h3
  obtain ⟨q, hq⟩ : ∃ q, q = findK l r.key := ⟨_, rfl⟩
  have H1 := Lib.hid h1
  have HP := Lib.hid hP
  have HF := Lib.hid hF.symm
  have HQ := Lib.hid hq
  clear hE h1 h2 h1' h3 hP hF hq
  have HN := Lib.hid hn
  have HT := Lib.hid hT
  have HA := Lib.hid hA
  clear hn hT hA
  have HBL := Lib.hid (Below.refl w.heap.size w)
  go_enter Tryd.func5, Tryd.ntmps5
  go_wp2_with fail
  obtain ⟨w1, hw⟩ : ∃ w1, w1 = w.alloc (.cells #[.int .i64 r.t.ser, .int .i64 r.t.kind, .int .i64 r.t.frm, .int .i64 r.t.till, .int .i64 r.t.cls, .int .i64 r.t.card, .int .i64 r.t.seat, .int .i64 r.t.day, .int .i64 r.t.days, .int .i64 r.t.uses, .int .i64 r.t.epoch, .int .i64 r.key, .int .i64 r.left, .int .i64 r.inn, .int .i64 r.ver] 35) := ⟨_, rfl⟩
  rw [← hw]
  have hx : RBox w1 w.heap.size r := by rw [hw]; exact RBox.new w r
  have hb : Below w.heap.size w w1 := by rw [hw]; exact below_lit w _ _
  replace HT := Lib.hid (HT.out.next hb)
  replace HA := Lib.hid (HA.out.next hb)
  replace HBL := Lib.hid (HBL.out.trans (hb.mono HBL.out.size))
  have X1 := Lib.hid hx
  clear hx hb hw
  obtain ⟨B1, hB⟩ : ∃ B, B = w.heap.size := ⟨_, rfl⟩
  rw [← hB] at X1 ⊢
  clear hB
  refine (pis_named l n HN.out true H1.out A c w1 HA.out hn3).mono ?_
  rintro e w2 ⟨rfl, hb⟩
  replace HT := Lib.hid (HT.out.next hb)
  replace HA := Lib.hid (HA.out.next hb)
  replace X1 := Lib.hid (X1.out.next hb)
  replace HBL := Lib.hid (HBL.out.trans (hb.mono HBL.out.size))
  clear hb
  obtain ⟨c0, c1, c2, c3, c4, c5, c6, c7, c8, c9, c10, c11, c12, c13, c14⟩ := X1.out.cells
  go_wp2_with fail
  refine (fput_any r 0 P HP.out w2).mono ?_
  rintro e w3 ⟨AP1, cP1, rfl, hs, hb⟩
  clear c0 c1 c2 c3 c4 c5 c6 c7 c8 c9 c10 c11 c12 c13 c14
  replace HT := Lib.hid (HT.out.next hb)
  replace HA := Lib.hid (HA.out.next hb)
  replace X1 := Lib.hid (X1.out.next hb)
  replace HBL := Lib.hid (HBL.out.trans (hb.mono HBL.out.size))
  have P1 := Lib.hid hs
  clear hb hs
  obtain ⟨c0, c1, c2, c3, c4, c5, c6, c7, c8, c9, c10, c11, c12, c13, c14⟩ := X1.out.cells
  go_wp2_with fail
  refine (pfind_any l n HN.out r.key A c w3 HA.out hn3 q 10 HQ.out HF.out).mono ?_
  rintro e w4 ⟨S, cc, rfl, hs, hb⟩
  clear c0 c1 c2 c3 c4 c5 c6 c7 c8 c9 c10 c11 c12 c13 c14
  replace HT := Lib.hid (HT.out.next hb)
  replace HA := Lib.hid (HA.out.next hb)
  replace X1 := Lib.hid (X1.out.next hb)
  replace P1 := Lib.hid (P1.out.next hb)
  replace HBL := Lib.hid (HBL.out.trans (hb.mono HBL.out.size))
  have FS := Lib.hid hs
  clear hb hs
  go_wp2_with fail
  obtain ⟨w5, hw⟩ : ∃ w5, w5 = w4.alloc (.cells #[.int .i64 q.id, .slice S q.sec.length cc, .int .i64 q.frm, .int .i64 q.til] 26) := ⟨_, rfl⟩
  rw [← hw]
  have hx : Box w5 w4.heap.size ⟨q, S, cc⟩ := by rw [hw]; exact (box_lit w4 ⟨q, S, cc⟩ FS.out).1
  have hb : Below w4.heap.size w4 w5 := by rw [hw]; exact below_lit w4 _ _
  replace HT := Lib.hid (HT.out.next hb)
  replace HA := Lib.hid (HA.out.next hb)
  replace X1 := Lib.hid (X1.out.next hb)
  replace P1 := Lib.hid (P1.out.next hb)
  replace FS := Lib.hid (FS.out.next hb)
  replace HBL := Lib.hid (HBL.out.trans (hb.mono HBL.out.size))
  have HX := Lib.hid hx
  clear hx hb hw
  obtain ⟨X, hB⟩ : ∃ B, B = w4.heap.size := ⟨_, rfl⟩
  rw [← hB] at HX ⊢
  clear hB
  go_wp2
  go_ret2
  exact ⟨none, 0, rfl, Bs.empty _ _, HBL.out⟩
set_option maxRecDepth 100000 in
set_option maxHeartbeats 1600000 in
theorem benc_d (l : List K) (n : Nat) (hn : n = l.length) (hn3 : n ≤ 9223372036854775807) (A : Option Addr) (c : Nat) (r : Rg) (E : Nat) (p : List Nat) (hE : ecB l r = (E, p)) (w : World) (hT : Tabs w) (hA : Ks w w.heap.size A l) (h1 : isR l = true) (h2 : (fdPut r).1 = 0) (h3 : findE l r.key = 0) : Calls Tryd.prog 5 #[.slice A n c, .agg #[.int .i64 r.t.ser, .int .i64 r.t.kind, .int .i64 r.t.frm, .int .i64 r.t.till, .int .i64 r.t.cls, .int .i64 r.t.card, .int .i64 r.t.seat, .int .i64 r.t.day, .int .i64 r.t.days, .int .i64 r.t.uses, .int .i64 r.t.epoch, .int .i64 r.key, .int .i64 r.left, .int .i64 r.inn, .int .i64 r.ver]] w fun e w' => ∃ A' c', e = .returned (.tuple #[.slice A' (p.length : Nat) c', .int .i64 (E : Int)]) ∧ Bs w' w'.heap.size p A' c' ∧ Below w.heap.size w w' := by
  have h1' : ¬ isR l = false := by rw [h1]; decide
  obtain ⟨P, hP⟩ : ∃ P, fdPut r = (0, P) := ⟨(fdPut r).2, by rw [← h2]⟩
  obtain ⟨q, hq⟩ : ∃ q, q = findK l r.key := ⟨_, rfl⟩
  obtain ⟨b, hb⟩ : ∃ b, putT P = b := ⟨_, rfl⟩
  obtain ⟨T, hTg⟩ : ∃ T, tagB q.sec b = T := ⟨_, rfl⟩
  obtain ⟨L, hL⟩ : ∃ L, b ++ T = L := ⟨_, rfl⟩
  obtain ⟨F, hF⟩ : ∃ F : Array Value, F = (U8 T).toArray := ⟨_, rfl⟩
  obtain ⟨rfl, hX⟩ : E = 0 ∧ putF L = p := by
    rw [ecB, if_neg h1', if_neg (by omega), if_neg (by omega), wholeB, bodyB, hP, ← hq] at hE
    simp only at hE
    rw [hb, hTg, hL] at hE
    exact ⟨(Prod.mk.inj hE).1.symm, (Prod.mk.inj hE).2⟩
  have hbl : b.length ≤ 117 := by rw [← hb]; exact body_len hP
  have hTL : T.length = 32 := by rw [← hTg]; exact tagB_len _ _
  have hTT : ∀ x ∈ T, x < 256 := by rw [← hTg]; exact tagB_lt _ _
  obtain ⟨k, hk⟩ : ∃ k, k = L.length := ⟨_, rfl⟩
  have hk2 : 0 < k ∧ k ≤ 149 := by rw [hk, ← hL, List.length_append]; omega
  have H1 := Lib.hid h1
  have HP := Lib.hid hP
  have HQ := Lib.hid hq
  have HF3 := Lib.hid h3.symm
  have HS64 := Lib.hid (show q.sec.length ≤ 64 by rw [hq]; exact find_sec h3)
  have HOUT := Lib.hid (show outT P = (0, b) by rw [← hb]; exact outT_ok (get_put hP).1)
  have HL := Lib.hid hL
  have HX0 := Lib.hid hX
  have HFB := Lib.hid (show F = (U8 (tagB q.sec b)).toArray by rw [hTg]; exact hF)
  have HIS := Lib.hid (isArr32 hF hTL)
  have HFT := Lib.hid hF
  have HTL := Lib.hid hTL
  have HTT := Lib.hid hTT
  have HK := Lib.hid hk
  have HK2 := Lib.hid hk2
  have HBL9 := Lib.hid hbl
  obtain ⟨m, hm⟩ : ∃ m, b.length = m := ⟨_, rfl⟩
  rw [hm] at hbl
  have HM := Lib.hid hm
  clear hE h1 h2 h1' h3 hP hq hb hTg hL hF hX hTL hTT hk hk2 hm
  have HN := Lib.hid hn
  have HT := Lib.hid hT
  have HA := Lib.hid hA
  clear hn hT hA
  have HBL := Lib.hid (Below.refl w.heap.size w)
  go_enter Tryd.func5, Tryd.ntmps5
  go_wp2_with fail
  obtain ⟨w1, hw⟩ : ∃ w1, w1 = w.alloc (.cells #[.int .i64 r.t.ser, .int .i64 r.t.kind, .int .i64 r.t.frm, .int .i64 r.t.till, .int .i64 r.t.cls, .int .i64 r.t.card, .int .i64 r.t.seat, .int .i64 r.t.day, .int .i64 r.t.days, .int .i64 r.t.uses, .int .i64 r.t.epoch, .int .i64 r.key, .int .i64 r.left, .int .i64 r.inn, .int .i64 r.ver] 35) := ⟨_, rfl⟩
  rw [← hw]
  have hx : RBox w1 w.heap.size r := by rw [hw]; exact RBox.new w r
  have hb : Below w.heap.size w w1 := by rw [hw]; exact below_lit w _ _
  replace HT := Lib.hid (HT.out.next hb)
  replace HA := Lib.hid (HA.out.next hb)
  replace HBL := Lib.hid (HBL.out.trans (hb.mono HBL.out.size))
  have X1 := Lib.hid hx
  clear hx hb hw
  obtain ⟨B1, hB⟩ : ∃ B, B = w.heap.size := ⟨_, rfl⟩
  rw [← hB] at X1 ⊢
  clear hB
  refine (pis_named l n HN.out true H1.out A c w1 HA.out hn3).mono ?_
  rintro e w2 ⟨rfl, hb⟩
  replace HT := Lib.hid (HT.out.next hb)
  replace HA := Lib.hid (HA.out.next hb)
  replace X1 := Lib.hid (X1.out.next hb)
  replace HBL := Lib.hid (HBL.out.trans (hb.mono HBL.out.size))
  clear hb
  obtain ⟨c0, c1, c2, c3, c4, c5, c6, c7, c8, c9, c10, c11, c12, c13, c14⟩ := X1.out.cells
  go_wp2_with fail
  refine (fput_any r 0 P HP.out w2).mono ?_
  rintro e w3 ⟨AP1, cP1, rfl, hs, hb⟩
  clear c0 c1 c2 c3 c4 c5 c6 c7 c8 c9 c10 c11 c12 c13 c14
  replace HT := Lib.hid (HT.out.next hb)
  replace HA := Lib.hid (HA.out.next hb)
  replace X1 := Lib.hid (X1.out.next hb)
  replace HBL := Lib.hid (HBL.out.trans (hb.mono HBL.out.size))
  have P1 := Lib.hid hs
  clear hb hs
  obtain ⟨c0, c1, c2, c3, c4, c5, c6, c7, c8, c9, c10, c11, c12, c13, c14⟩ := X1.out.cells
  go_wp2_with fail
  refine (pfind_any l n HN.out r.key A c w3 HA.out hn3 q 0 HQ.out HF3.out).mono ?_
  rintro e w4 ⟨S, cc, rfl, hs, hb⟩
  clear c0 c1 c2 c3 c4 c5 c6 c7 c8 c9 c10 c11 c12 c13 c14
  replace HT := Lib.hid (HT.out.next hb)
  replace HA := Lib.hid (HA.out.next hb)
  replace X1 := Lib.hid (X1.out.next hb)
  replace P1 := Lib.hid (P1.out.next hb)
  replace HBL := Lib.hid (HBL.out.trans (hb.mono HBL.out.size))
  have FS := Lib.hid hs
  clear hb hs
  go_wp2_with fail
  obtain ⟨w5, hw⟩ : ∃ w5, w5 = w4.alloc (.cells #[.int .i64 q.id, .slice S q.sec.length cc, .int .i64 q.frm, .int .i64 q.til] 26) := ⟨_, rfl⟩
  rw [← hw]
  have hx : Box w5 w4.heap.size ⟨q, S, cc⟩ := by rw [hw]; exact (box_lit w4 ⟨q, S, cc⟩ FS.out).1
  have hb : Below w4.heap.size w4 w5 := by rw [hw]; exact below_lit w4 _ _
  replace HT := Lib.hid (HT.out.next hb)
  replace HA := Lib.hid (HA.out.next hb)
  replace X1 := Lib.hid (X1.out.next hb)
  replace P1 := Lib.hid (P1.out.next hb)
  replace FS := Lib.hid (FS.out.next hb)
  replace HBL := Lib.hid (HBL.out.trans (hb.mono HBL.out.size))
  have HX := Lib.hid hx
  clear hx hb hw
  obtain ⟨X, hB⟩ : ∃ B, B = w4.heap.size := ⟨_, rfl⟩
  rw [← hB] at HX ⊢
  clear hB
  refine (pput_tlv P P.length rfl 0 b HOUT.out AP1 cP1 w5 P1.out).mono ?_
  rintro e w6 ⟨AY1, cY1, rfl, hs, hb⟩
  replace HT := Lib.hid (HT.out.next hb)
  replace HA := Lib.hid (HA.out.next hb)
  replace X1 := Lib.hid (X1.out.next hb)
  replace P1 := Lib.hid (P1.out.next hb)
  replace FS := Lib.hid (FS.out.next hb)
  replace HX := Lib.hid (HX.out.next hb)
  replace HBL := Lib.hid (HBL.out.trans (hb.mono HBL.out.size))
  have Y1 := Lib.hid hs
  clear hb hs
  rw [HM.out]
  have k1 := cell_of_row _ _ 1 _ _ _ HX.out.1
  go_wp2_with fail
  refine (btag_any q.sec b q.sec.length m rfl HM.out.symm S AY1 cc cY1 w6 HT.out FS.out Y1.out (by have := HS64.out; omega) (by omega) F HFB.out).mono ?_
  rintro e w7 ⟨rfl, hb⟩
  clear k1
  replace HT := Lib.hid (HT.out.next hb)
  replace HA := Lib.hid (HA.out.next hb)
  replace X1 := Lib.hid (X1.out.next hb)
  replace P1 := Lib.hid (P1.out.next hb)
  replace FS := Lib.hid (FS.out.next hb)
  replace HX := Lib.hid (HX.out.next hb)
  replace Y1 := Lib.hid (Y1.out.next hb)
  replace HBL := Lib.hid (HBL.out.trans (hb.mono HBL.out.size))
  clear hb
  go_wp2_with ((with_reducible refine at_store 10 ?_); refine wpList_store_named (o := ⟨none, .store 49 (.tmp 10) (.tmp 43), _, _, _, _⟩) rfl 49 (.tmp 10) (.tmp 43) rfl w7.heap.size F rfl rfl 49 b32 (heap_alloc_new w7 _) HIS.out.1 HIS.out.2.1 HIS.out.2.2 ?_; intro w20 hw20; have HR4 := Lib.hid (row_made hw20.out))
  have hb := HR4.out.2.2
  replace HT := Lib.hid (HT.out.next hb)
  replace HA := Lib.hid (HA.out.next hb)
  replace X1 := Lib.hid (X1.out.next hb)
  replace P1 := Lib.hid (P1.out.next hb)
  replace FS := Lib.hid (FS.out.next hb)
  replace HX := Lib.hid (HX.out.next hb)
  replace Y1 := Lib.hid (Y1.out.next hb)
  replace HBL := Lib.hid (HBL.out.trans (hb.mono HBL.out.size))
  clear hb
  have HRT := Lib.hid (rd_row HR4.out.2.1 HFT.out)
  refine (concat2 b T L HL.out m 32 k HM.out.symm HTL.out.symm HK.out AY1 _ cY1 32 w20 Y1.out.rd HRT.out Y1.out.nil (fun h => by cases h) Y1.out.lt HTT.out HK2.out.1 (by have := HK2.out; omega)).mono ?_
  rintro e w8 ⟨ALL, cLL, rfl, hs, hb⟩
  replace HT := Lib.hid (HT.out.next hb)
  replace HA := Lib.hid (HA.out.next hb)
  replace X1 := Lib.hid (X1.out.next hb)
  replace P1 := Lib.hid (P1.out.next hb)
  replace FS := Lib.hid (FS.out.next hb)
  replace HX := Lib.hid (HX.out.next hb)
  replace Y1 := Lib.hid (Y1.out.next hb)
  replace HBL := Lib.hid (HBL.out.trans (hb.mono HBL.out.size))
  have LL := Lib.hid hs
  clear hb hs
  go_wp2_with fail
  refine (pput_forty L k HK.out (by have := HK2.out; omega) p HX0.out ALL cLL w8 LL.out).mono ?_
  rintro e w9 ⟨AO, cO, rfl, hs, hb⟩
  replace HT := Lib.hid (HT.out.next hb)
  replace HA := Lib.hid (HA.out.next hb)
  replace X1 := Lib.hid (X1.out.next hb)
  replace P1 := Lib.hid (P1.out.next hb)
  replace FS := Lib.hid (FS.out.next hb)
  replace HX := Lib.hid (HX.out.next hb)
  replace Y1 := Lib.hid (Y1.out.next hb)
  replace LL := Lib.hid (LL.out.next hb)
  replace HBL := Lib.hid (HBL.out.trans (hb.mono HBL.out.size))
  have O := Lib.hid hs
  clear hb hs
  go_wp2
  go_ret2
  exact ⟨_, _, rfl, O.out, HBL.out⟩
theorem benc_any (l : List K) (n : Nat) (hn : n = l.length) (hn3 : n ≤ 9223372036854775807) (A : Option Addr) (c : Nat) (r : Rg) (E : Nat) (p : List Nat) (hE : ecB l r = (E, p)) (w : World) (hT : Tabs w) (hA : Ks w w.heap.size A l) : Calls Tryd.prog 5 #[.slice A n c, .agg #[.int .i64 r.t.ser, .int .i64 r.t.kind, .int .i64 r.t.frm, .int .i64 r.t.till, .int .i64 r.t.cls, .int .i64 r.t.card, .int .i64 r.t.seat, .int .i64 r.t.day, .int .i64 r.t.days, .int .i64 r.t.uses, .int .i64 r.t.epoch, .int .i64 r.key, .int .i64 r.left, .int .i64 r.inn, .int .i64 r.ver]] w fun e w' => ∃ A' c', e = .returned (.tuple #[.slice A' (p.length : Nat) c', .int .i64 (E : Int)]) ∧ Bs w' w'.heap.size p A' c' ∧ Below w.heap.size w w' := by
  cases h1 : isR l
  · exact benc_a l n hn hn3 A c r E p hE w hT hA h1
  · by_cases h2 : (fdPut r).1 = 0
    · by_cases h3 : findE l r.key = 0
      · exact benc_d l n hn hn3 A c r E p hE w hT hA h1 h2 h3
      · exact benc_c l n hn hn3 A c r E p hE w hT hA h1 h2 h3
    · exact benc_b l n hn hn3 A c r E p hE w hT hA h1 h2
end Go.Proofs.YtaokhkbfiplfmaaDoor
end
