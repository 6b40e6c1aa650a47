/-
  Contracts of package track's smaller functions, and of the reference's; rows of bits read on.
-/
import Derived.Test.YtpniolinndlepaaGreatDoorTrackM
import Derived.Test.YtpniolinndlepaaGreatDoorBase
import Derived.Test.YtpniolinndlepaaGreatDoorParityP
import Derived.Deep.RegionWith
import Derived.Deep.RegionHeld3
namespace Go.Proofs.YtpniolinndlepaaGreatDoor
set_option linter.unusedVariables false
open Go.ChangeShapes Go.WideShapes Go.ChangeAt Go.RowKit

def NZ (vs : List Nat) : List Int := vs.map fun x : Nat => (x : Int)
theorem NZ_len (vs : List Nat) : (NZ vs).length = vs.length := by simp [NZ]
theorem NZ_at {vs : List Nat} {k v : Nat} (h : vs[k]? = some v) : (NZ vs)[k]? = some ((v : Int)) := by simp [NZ, h]
theorem sumX_nz (vs : List Nat) : sumX (NZ vs) = xorL vs := by
  unfold sumX NZ xorL
  rw [List.foldl_map]
  rfl
theorem sumOk_nz {vs : List Nat} (h : ∀ v ∈ vs, v < 16) : sumOk (NZ vs) = true := by
  rw [sumOk, List.all_eq_true]
  intro z hz
  simp only [NZ, List.mem_map] at hz
  obtain ⟨x, hx, rfl⟩ := hz
  exact (isV_iff _).2 ⟨by omega, by have := h x hx; omega⟩
theorem sum_nz {vs : List Nat} (h : ∀ v ∈ vs, v < 16) : sumV (NZ vs) = ((xorL vs : Nat) : Int) ∧ sumE (NZ vs) = 0 := by
  rw [sumV, sumE, if_pos (sumOk_nz h), if_pos (sumOk_nz h), sumX_nz]
  exact ⟨rfl, rfl⟩
def B5L (b : B5) : List Bool := [b.b0, b.b1, b.b2, b.b3, b.b4]
theorem char_facts : ∀ v : Nat, v < 16 → charV (v : Int) = ((charN v : Nat) : Int) ∧ charE (v : Int) = 0 ∧ bitsE ((charN v : Nat) : Int) = 0 ∧ B5L (bitsB ((charN v : Nat) : Int)) = cBits v := by decide
theorem B5L_at (b : B5) (q : Nat) (h : q < 5) : (B5L b)[q]? = some (getB b q) := by
  rcases (show q = 0 ∨ q = 1 ∨ q = 2 ∨ q = 3 ∨ q = 4 by omega) with rfl | rfl | rfl | rfl | rfl <;> rfl
theorem B5L_take (b : B5) (q : Nat) (h : q < 5) : (B5L b).take (q + 1) = (B5L b).take q ++ [getB b q] := by
  rw [List.take_add_one, B5L_at b q h]; rfl
theorem charsL_take {vs : List Nat} {k v : Nat} (h : vs[k]? = some v) : charsL (vs.take (k + 1)) = charsL (vs.take k) ++ cBits v := by
  rw [List.take_add_one, h, charsL_append]; simp [charsL]
/-- A box of five bits is kept while a row of bits grows. -/
theorem BBox.grown {w w' : World} {base n X : Nat} {v : Value} {xs : List Value} {d : B5} (h : BBox w X d) (hown : w.ownsRow base 4 1 v n xs) (hg : w.grownBy w' v.ownBlock) : BBox w' X d := by
  refine (hg.block X h.lt ?_).trans h
  intro e
  rcases hown.2 with ⟨rfl, _⟩ | ⟨g, cap, cur, rfl, _, hgg, _⟩
  · cases e
  · have e2 : X = g := by simpa [Value.ownBlock] using e
    subst e2
    rw [BBox, hgg] at h
    simp at h
theorem bbox_rd {w : World} {X : Nat} {d : B5} (h : BBox w X d) : ∀ j u, (BL (B5L d))[j]? = some u → w.cell? ((⟨X, 0, none⟩ : Addr).add j) = some u := by
  obtain ⟨h0, h1, h2, h3, h4⟩ := h.cells
  intro j u hu
  rw [at_add]
  match j, hu with
  | 0, hu => cases hu; exact h0
  | 1, hu => cases hu; exact h1
  | 2, hu => cases hu; exact h2
  | 3, hu => cases hu; exact h3
  | 4, hu => cases hu; exact h4
  | j + 5, hu => simp [BL, B5L] at hu
set_option linter.unusedVariables false
open Go.ChangeShapes Go.WideShapes Go.ChangeAt Go.RowKit

theorem digits_take {d : List Nat} {k x : Nat} (h : d[k]? = some x) : digitsOk (d.take (k + 1)) = (digitsOk (d.take k) && decide (x ≤ 9)) := by
  rw [List.take_add_one, h, digitsOk, digitsOk, List.all_append]; simp
theorem digits_bad {d : List Nat} {k x : Nat} (h : d[k]? = some x) (hx : ¬ x ≤ 9) : digitsOk d = false := by
  cases hs : digitsOk d with
  | false => rfl
  | true =>
    have := (List.all_eq_true.1 hs) x (List.mem_of_getElem? h)
    simp at this
    omega
theorem pv_lt {d : List Nat} (h : digitsOk d = true) : ∀ v ∈ putVals d, v < 16 := by
  intro v hv
  simp only [putVals, List.mem_cons, List.mem_append, List.not_mem_nil, or_false] at hv
  rcases hv with rfl | hv | rfl
  · omega
  · have := (List.all_eq_true.1 h) v hv
    simp at this
    omega
  · omega
theorem tv_lt {d : List Nat} (h : digitsOk d = true) : ∀ v ∈ trackV d, v < 16 := by
  intro v hv
  simp only [trackV, List.mem_append, List.mem_singleton] at hv
  rcases hv with hv | rfl
  · exact pv_lt h v hv
  · exact xorL_lt _ (pv_lt h)
theorem nz_step {d : List Nat} {k x : Nat} (h : d[k]? = some x) : NZ (11 :: d.take (k + 1)) = NZ (11 :: d.take k) ++ [(x : Int)] := by
  rw [List.take_add_one, h]; simp [NZ]
theorem nz_pv (d : List Nat) : NZ (putVals d) = NZ (11 :: d) ++ [15] := by simp [NZ, putVals]
theorem nz_tv (d : List Nat) : NZ (trackV d) = NZ (putVals d) ++ [((xorL (putVals d) : Nat) : Int)] := by simp [NZ, trackV]
theorem int_lit (w : World) (x : Int) : ∀ j u, (I64 [x])[j]? = some u → (w.alloc (.cells #[.int .i64 x] 3)).cell? ((⟨w.heap.size, 0, none⟩ : Addr).add j) = some u := by
  intro j u hu
  rw [at_add, cell_of_row _ _ j _ 3 (0, 0) (heap_alloc_new w _)]
  simpa [I64] using hu
set_option linter.unusedVariables false
open Go.ChangeShapes Go.WideShapes Go.ChangeAt Go.RowKit

def exE : Except Int (List Nat) → Int
  | .error e => e
  | .ok _ => 0
def exL : Except Int (List Nat) → List Nat
  | .error _ => []
  | .ok d => d
theorem getE_x (b : List Nat) : getE b = exE (getX b) := by
  unfold getE exE; cases getX b <;> rfl
theorem getL_x (b : List Nat) : getL b = exL (getX b) := by
  unfold getL exL; cases getX b <;> rfl
theorem get_len {b : List Nat} (h : b.length < 2 ∨ 50 < b.length) : getE b = 14 ∧ getL b = [] := by
  rw [getE_x, getL_x, getX, if_pos h]; exact ⟨rfl, rfl⟩
theorem get_start {b : List Nat} (h : ¬ (b.length < 2 ∨ 50 < b.length)) (h2 : chAt (unpackL b) 0 ≠ 11) : getE b = 4 ∧ getL b = [] := by
  rw [getE_x, getL_x, getX, if_neg h, if_pos h2]; exact ⟨rfl, rfl⟩
theorem get_scan {b : List Nat} (h : ¬ (b.length < 2 ∨ 50 < b.length)) (h2 : chAt (unpackL b) 0 = 11) {R : Except Int (List Nat × Nat)} (hR : scanL (unpackL b) (unpackL b).length 5 [] = R) :
    (∀ e, R = .error e → getE b = e ∧ getL b = []) ∧ (∀ out i, R = .ok (out, i) → getE b = exE (lastL b (unpackL b) out i) ∧ getL b = exL (lastL b (unpackL b) out i)) := by
  rw [getE_x, getL_x, getX, if_neg h, if_neg (by rw [h2]; decide), hR]
  constructor
  · intro e he; subst he; exact ⟨rfl, rfl⟩
  · intro out i he; subst he; exact ⟨rfl, rfl⟩
section
variable {l : List Bool} {f i : Nat} {out : List Nat}
theorem scan_end (h : l.length < i + 5) : scanL l f i out = .error 5 := by
  cases f with
  | zero => rfl
  | succ f => rw [scanL, if_pos h]
theorem scan_par (hf : l.length + 5 ≤ f + i) (h : i + 5 ≤ l.length) (h1 : ones5 (chAt l i) % 2 = 0) : scanL l f i out = .error 3 := by
  obtain ⟨g, rfl⟩ : ∃ g, f = g + 1 := ⟨f - 1, by omega⟩
  rw [scanL, if_neg (by omega), if_pos h1]
theorem scan_dig (hf : l.length + 5 ≤ f + i) (h : i + 5 ≤ l.length) (h1 : ¬ ones5 (chAt l i) % 2 = 0) (h2 : 9 < chAt l i % 16) (h3 : chAt l i % 16 ≠ 15) : scanL l f i out = .error 7 := by
  obtain ⟨g, rfl⟩ : ∃ g, f = g + 1 := ⟨f - 1, by omega⟩
  rw [scanL, if_neg (by omega), if_neg h1, if_pos ⟨h2, h3⟩]
theorem scan_15 (hf : l.length + 5 ≤ f + i) (h : i + 5 ≤ l.length) (h1 : ¬ ones5 (chAt l i) % 2 = 0) (h3 : chAt l i % 16 = 15) : scanL l f i out = .ok (out, i + 5) := by
  obtain ⟨g, rfl⟩ : ∃ g, f = g + 1 := ⟨f - 1, by omega⟩
  rw [scanL, if_neg (by omega), if_neg h1, if_neg (by omega), if_pos h3]
theorem scan_more (hf : l.length + 5 ≤ f + i) (h : i + 5 ≤ l.length) (h1 : ¬ ones5 (chAt l i) % 2 = 0) (h2 : ¬ 9 < chAt l i % 16) : ∃ g, l.length + 5 ≤ g + (i + 5) ∧ scanL l f i out = scanL l g (i + 5) (out ++ [chAt l i % 16]) := by
  obtain ⟨g, rfl⟩ : ∃ g, f = g + 1 := ⟨f - 1, by omega⟩
  refine ⟨g, by omega, ?_⟩
  rw [scanL, if_neg (by omega), if_neg h1, if_neg (by omega), if_neg (by omega)]
variable {b : List Nat}
theorem last_end (h : l.length < i + 5) : lastL b l out i = .error 5 := by rw [lastL, if_pos h]
theorem last_par (h : i + 5 ≤ l.length) (h1 : ones5 (chAt l i) % 2 = 0) : lastL b l out i = .error 3 := by rw [lastL, if_neg (by omega), if_pos h1]
theorem last_sum (h : i + 5 ≤ l.length) (h1 : ¬ ones5 (chAt l i) % 2 = 0) (h2 : chAt l i % 16 ≠ xorL (putVals out)) : lastL b l out i = .error 6 := by rw [lastL, if_neg (by omega), if_neg h1, if_pos h2]
theorem last_lim (h : i + 5 ≤ l.length) (h1 : ¬ ones5 (chAt l i) % 2 = 0) (h2 : chAt l i % 16 = xorL (putVals out)) (h3 : 77 < out.length) : lastL b l out i = .error 21 := by rw [lastL, if_neg (by omega), if_neg h1, if_neg (by rw [h2]; exact fun h => h rfl), if_pos h3]
theorem last_len (h : i + 5 ≤ l.length) (h1 : ¬ ones5 (chAt l i) % 2 = 0) (h2 : chAt l i % 16 = xorL (putVals out)) (h3 : ¬ 77 < out.length) (h4 : packL (l.take (i + 5)) ≠ b) : lastL b l out i = .error 14 := by rw [lastL, if_neg (by omega), if_neg h1, if_neg (by rw [h2]; exact fun h => h rfl), if_neg h3, if_pos h4]
theorem last_ok (h : i + 5 ≤ l.length) (h1 : ¬ ones5 (chAt l i) % 2 = 0) (h2 : chAt l i % 16 = xorL (putVals out)) (h3 : ¬ 77 < out.length) (h4 : packL (l.take (i + 5)) = b) : lastL b l out i = .ok out := by rw [lastL, if_neg (by omega), if_neg h1, if_neg (by rw [h2]; exact fun h => h rfl), if_neg h3, if_neg (by rw [h4]; exact fun h => h rfl)]
end
theorem val_odd (c : Nat) (hc : c < 32) (h : ¬ ones5 c % 2 = 0) : valV (c : Int) = ((c % 16 : Nat) : Int) ∧ valE (c : Int) = 0 := by
  have hi : isC (c : Int) = true := (isC_iff _).2 ⟨by omega, by omega⟩
  rw [valV, valE, if_pos hi, if_pos hi, Int.toNat_natCast, if_neg h, if_neg h]
  exact ⟨by omega, rfl⟩
theorem val_even (c : Nat) (hc : c < 32) (h : ones5 c % 2 = 0) : valV (c : Int) = 0 ∧ valE (c : Int) = 3 := by
  have hi : isC (c : Int) = true := (isC_iff _).2 ⟨by omega, by omega⟩
  rw [valV, valE, if_pos hi, if_pos hi, Int.toNat_natCast, if_pos h, if_pos h]
  exact ⟨rfl, rfl⟩
/-- Rows of unlike elements lie in unlike blocks. -/
theorem own_apart {w : World} {base base' n m : Nat} {e e' : TypeId} {v u : Value} {xs ys : List Value} (h : w.ownsRow base e 1 v n xs) (h' : w.ownsRow base' e' 1 u m ys) (hne : e ≠ e') : v.ownBlock = none ∨ v.ownBlock ≠ u.ownBlock := by
  rcases h.2 with ⟨rfl, _⟩ | ⟨g, cap, cur, rfl, _, hg, _⟩
  · exact .inl rfl
  · right
    rcases h'.2 with ⟨rfl, _⟩ | ⟨g', cap', cur', rfl, _, hg', _⟩
    · simp [Value.ownBlock]
    · intro e2
      have e3 : g = g' := by simpa [Value.ownBlock] using e2
      subst e3
      rw [hg] at hg'
      simp at hg'
      exact hne hg'.2
theorem own_kept {w w' : World} {base base' n m : Nat} {e e' : TypeId} {v u : Value} {xs ys : List Value} (hg : w.grownBy w' u.ownBlock) (h : w.ownsRow base e 1 v n xs) (h' : w.ownsRow base' e' 1 u m ys) (hne : e ≠ e') : w'.ownsRow base e 1 v n xs := h.kept hg (own_apart h h' hne)
theorem nz_snoc (out : List Nat) (d : Nat) : NZ (11 :: (out ++ [d])) = NZ (11 :: out) ++ [(d : Int)] := by simp [NZ]
theorem last_ne {out : List Nat} (h : digitsOk out = true) : ∃ z : Nat, (NZ (11 :: out))[out.length]? = some ((z : Int)) ∧ z < 15 := by
  obtain ⟨x, hx⟩ : ∃ x, (11 :: out)[out.length]? = some x := ⟨_, List.getElem?_eq_getElem (by simp)⟩
  refine ⟨x, NZ_at hx, ?_⟩
  have := List.mem_of_getElem? hx
  rcases List.mem_cons.1 this with rfl | hm
  · omega
  · have := (List.all_eq_true.1 h) x hm
    simp at this
    omega
theorem last_15 (out : List Nat) : (NZ (putVals out))[out.length + 1]? = some 15 := by
  have : (putVals out)[out.length + 1]? = some 15 := by simp [putVals]
  exact NZ_at this
theorem u8_lit (w : World) (x : Nat) : ∀ j u, (U8 [x])[j]? = some u → (w.alloc (.cells #[.int .u8 (x : Int)] 5)).cell? ((⟨w.heap.size, 0, none⟩ : Addr).add j) = some u := by
  intro j u hu
  rw [at_add, cell_of_row _ _ j _ 5 (0, 0) (heap_alloc_new w _)]
  simpa [U8] using hu
set_option linter.unusedVariables false
open Go.ChangeShapes Go.WideShapes Go.ChangeAt Go.RowKit

set_option maxRecDepth 100000 in
set_option maxHeartbeats 1600000 in
theorem pcharof_any (v c : Nat) (hv : v < 16) (hc : charN v = c) (w : World) : Calls Tryz.prog 90 #[.int .i64 (v : Int)] w fun e w' => e = .returned (.int .i64 (c : Int)) ∧ Below w.heap.size w w' := by
  have cf := char_facts v hv
  rw [hc] at cf
  have HCF := Lib.hid cf
  clear cf hc
  go_enter Tryz.func90, Tryz.ntmps90
  go_wp2_with (go_at_call 124; refine (pchar_any _ _ _ HCF.out.1 HCF.out.2.1 _).mono ?_; rintro e w2 ⟨rfl, hb⟩)
  go_ret
  exact ⟨rfl, hb⟩
set_option maxRecDepth 100000 in
set_option maxHeartbeats 1600000 in
theorem psumof_any (vs : List Nat) (hv : ∀ v ∈ vs, v < 16) (n : Nat) (hn : n = vs.length) (A : Option Addr) (c : Nat) (x : Nat) (hx : xorL vs = x) (w : World) (hA : Zs w w.heap.size (NZ vs) A c) : Calls Tryz.prog 66 #[.slice A n c] w fun e w' => e = .returned (.int .i64 (x : Int)) ∧ w' = w := by
  have cf := sum_nz hv
  rw [hx] at cf
  have HCF := Lib.hid cf
  have HN := Lib.hid (show n = (NZ vs).length by rw [NZ_len]; exact hn)
  have HA := Lib.hid hA
  clear cf hx hn hA
  go_enter Tryz.func66, Tryz.ntmps66
  go_wp2_with (go_at_call 99; refine (psum_any _ _ HN.out _ _ _ _ HCF.out.1 HCF.out.2 _ HA.out).mono ?_; rintro e w2 ⟨rfl, rfl⟩)
  go_ret
  exact ⟨rfl, rfl⟩
set_option maxRecDepth 100000 in
set_option maxHeartbeats 1600000 in
theorem pbitsof_any (vs : List Nat) (hv : ∀ v ∈ vs, v < 16) (n : Nat) (hn : n = vs.length) (hn2 : n ≤ 2000) (A : Option Addr) (c : Nat) (w : World) (hA : Zs w w.heap.size (NZ vs) A c) : Calls Tryz.prog 65 #[.slice A n c] w fun e w' => ∃ A' c', e = .returned (.slice A' ((5 * n : Nat)) c') ∧ Vs w' w'.heap.size (charsL vs) A' c' ∧ Below w.heap.size w w' := by
  obtain ⟨i0, hi, hz0, hz1, hz2⟩ := info_parts infoBoolT
  have HN := Lib.hid hn
  have HA := Lib.hid hA
  have HV := Lib.hid hv
  have hn3 : n ≤ 9223372036854775807 := by omega
  clear hn hA hv
  go_enter Tryz.func65, Tryz.ntmps65
  go_wp2
  go_loopw [3, 11] (fun v i wr => ∃ k : Nat, k ≤ n ∧ i = .int .i64 k ∧ wr.ownsRow w.heap.size 4 1 v (5 * k) (BL (charsL (vs.take k))) ∧ Below w.heap.size w wr) (fun _ i _ => n - (intOf i).toNat)
  case atStart => exact ⟨0, by omega, rfl, World.ownsRow_lit w #[] 0 (Nat.le_refl _) (by decide) rfl, below_lit w _ _⟩
  case round =>
    obtain ⟨k, hk, rfl, hown, hbel⟩ := hrel
    by_cases hlt : k < n
    · obtain ⟨x, hx⟩ : ∃ x, vs[k]? = some x := ⟨_, List.getElem?_eq_getElem (by rw [← HN.out]; exact hlt)⟩
      have hx16 : x < 16 := HV.out x (List.mem_of_getElem? hx)
      obtain ⟨ad, rfl, hadl, hc0⟩ := HA.out.at (NZ_at hx)
      have hc : wr.cell? (ad.add k) = some (.int .i64 (x : Int)) := (hbel.cell (by rw [add_block]; exact hadl)).trans hc0
      have HX := Lib.hid hx
      have HOW := Lib.hid hown
      have HBL := Lib.hid hbel
      have cf := char_facts x hx16
      obtain ⟨ch, hch⟩ : ∃ ch, charN x = ch := ⟨_, rfl⟩
      rw [hch] at cf
      obtain ⟨b, hb⟩ : ∃ b, bitsB (ch : Int) = b := ⟨_, rfl⟩
      rw [hb] at cf
      have HCF := Lib.hid cf
      have HB := Lib.hid hb
      have HCH := Lib.hid hch
      have b0 : (0 : Int) ≤ (k : Int) := by omega
      have b1 : (k : Int) < (n : Int) := by omega
      clear hown hbel hx hadl hc0 cf hb hch
      go_wp2_with (go_at_call 90; refine (pcharof_any x ch hx16 HCH.out _).mono ?_; rintro e w2 ⟨rfl, hb2⟩)
      have HO2 := Lib.hid (own_below HOW.out hb2)
      have HB2 := Lib.hid (HBL.out.trans (hb2.mono HBL.out.size))
      clear hb2 hc
      have hm1 : 5 * k + 5 ≤ maxLen := by unfold maxLen; omega
      have hm2 : (5 * k + 5) * 1 ≤ 140737488355328 := by omega
      have hsz := HB2.out.size
      go_wp2_with (first | (go_at_call 98; refine (pbits_any _ b 0 HB.out HCF.out.2.2.1 _).mono ?_; rintro e w3 ⟨rfl, hb3⟩) | (at_builtin; refine wpList_append_own _ rfl (.tmp 21) (.tmp 22) 67 rfl w.heap.size 4 i0 (.bool false) 1 1 Tryz.underlying67 hi hz0 hz1 hz2 rfl (by decide) _ (5 * k) (BL (charsL (vs.take k))) rfl (own_below (own_below HO2.out hb3) (below_lit w3 _ _)) ⟨w3.heap.size, 0, none⟩ 5 5 (BL (B5L b)) rfl rfl (bbox_rd (BBox.new w3 b)) (BL_one _) hm1 hm2 (by have := hb3.size; simp; omega) ?_))
      have hszA : w.heap.size ≤ w3.heap.size := Nat.le_trans hsz hb3.size
      replace HOW := Lib.hid (own_below (own_below HO2.out hb3) (below_lit w3 #[.bool b.b0, .bool b.b1, .bool b.b2, .bool b.b3, .bool b.b4] 127))
      replace HBL := Lib.hid ((HB2.out.trans (hb3.mono HB2.out.size)).trans ((below_lit w3 #[.bool b.b0, .bool b.b1, .bool b.b2, .bool b.b3, .bool b.b4] 127).mono hszA))
      clear hb3 HO2 HB2 hsz
      intro v8 w8 hown8 hg8 _
      have HO8 := Lib.hid (show w8.ownsRow w.heap.size 4 1 v8 (5 * (k + 1)) (BL (charsL (vs.take (k + 1)))) by
        rw [charsL_take HX.out, ← HCF.out.2.2.2, BL_append, show 5 * (k + 1) = 5 * k + 5 by omega]
        exact hown8)
      have HB8 := Lib.hid (HBL.out.grown hg8 (by simp; omega) (fun p hp => own_ge HOW.out hp))
      clear hown8 hg8 HOW HBL
      go_wp2
      go_roundw
      case rel => exact ⟨k + 1, by omega, by go_num, HO8.out, HB8.out⟩
      case measure => simp [intOf]; omega
    · have e : k = n := by omega
      have hb : ¬ ((k : Int) < (n : Int)) := by omega
      have ht : charsL (vs.take k) = charsL vs := by rw [e, HN.out, List.take_length]
      rw [ht, e] at hown
      clear ht hlt
      obtain ⟨A', c', hv, _, hbs⟩ := vs_of_own hown
      subst hv
      go_wp2
      go_ret
      exact ⟨_, _, rfl, hbs, hbel⟩
set_option linter.unusedVariables false
open Go.ChangeShapes Go.WideShapes Go.ChangeAt Go.RowKit

set_option maxRecDepth 100000 in
set_option maxHeartbeats 1600000 in
theorem or_u8 : ∀ r : Nat, r < 8 → ∀ p : Nat, p < 2 ^ r → bits BinOp.or IntKind.u8 ((p * 2 ^ (8 - r) : Nat) : Int) ((2 ^ (7 - r) : Nat) : Int) = ((p * 2 ^ (8 - r) + 1 * 2 ^ (7 - r) : Nat) : Int) := by decide +kernel
set_option maxRecDepth 100000 in
set_option maxHeartbeats 1600000 in
theorem and_u8 : ∀ x : Nat, x < 256 → ∀ r : Nat, r < 8 → (bits BinOp.and IntKind.u8 (x : Int) ((2 ^ (7 - r) : Nat) : Int) != 0) = (x / 2 ^ (7 - r) % 2 == 1) := by decide +kernel
theorem mask_u8 : ∀ r : Nat, r < 8 → (2 : Int) ^ (7 - r) % 256 = ((2 ^ (7 - r) : Nat) : Int) := by decide
set_option maxRecDepth 100000 in
set_option maxHeartbeats 1600000 in
theorem pmask_any (i : Nat) (hi : i < 100000000) (w : World) : Calls Tryz.prog 88 #[.int .i64 (i : Int)] w fun e w' => e = .returned (.int .u8 ((2 ^ (7 - i % 8) : Nat) : Int)) ∧ w' = w := by
  obtain ⟨r, hr⟩ : ∃ r, i % 8 = r := ⟨_, rfl⟩
  have hr8 : r < 8 := by omega
  have hm : ((i : Int) % 8) = (r : Int) := by omega
  have hm2 : ((i : Int).tmod 8) = (r : Int) := by rw [Int.tmod_eq_emod_of_nonneg (by omega)]; omega
  have b0 : 0 ≤ 7 - (r : Int) := by omega
  have b1 : 7 - (r : Int) ≤ 64 := by omega
  have hk := mask_u8 r hr8
  rw [hr]
  go_enter Tryz.func88, Tryz.ntmps88
  go_wp2
  go_ret
  exact ⟨congrArg (fun z => Ending.returned (Value.int IntKind.u8 z)) hk, rfl⟩
set_option linter.unusedVariables false
open Go.ChangeShapes Go.WideShapes Go.ChangeAt Go.RowKit

set_option maxRecDepth 100000 in
set_option maxHeartbeats 1600000 in
theorem ppack_any (l : List Bool) (n : Nat) (hn : n = l.length) (hn2 : n ≤ 8388608) (A : Option Addr) (c : Nat) (w : World) (hA : Vs w w.heap.size l A c) : Calls Tryz.prog 47 #[.slice A n c] w fun e w' => ∃ A' c', e = .returned (.slice A' ((n + 7) / 8) c') ∧ Bs w' w'.heap.size (packL l) A' c' ∧ Below w.heap.size w w' := by
  obtain ⟨i0, hi, hz0, hz1, hz2⟩ := info_parts infoU8
  obtain ⟨m, hm⟩ : ∃ m, (n + 7) / 8 = m := ⟨_, rfl⟩
  have HM := Lib.hid hm
  have HN := Lib.hid hn
  have HA := Lib.hid hA
  have hm2 : m ≤ 8388608 := by omega
  have e1 : ((n : Int) + 8 - 1) / 8 = (m : Int) := by omega
  have e2 : ((n : Int) + 8 - 1).tdiv 8 = (m : Int) := by rw [Int.tdiv_eq_ediv_of_nonneg (by omega)]; exact e1
  rw [hm]
  clear hn hA hm
  go_enter Tryz.func47, Tryz.ntmps47
  go_wp2_with (at_make; refine wpList_make_full _ rfl _ _ 30 rfl w.heap.size 5 i0 (.int .u8 0) 1 Tryz.underlying30 hi hz0 hz1 _ _ _ _ m rfl rfl (by omega) (by omega) ?b2 ?b3 (Nat.le_refl _) ?_)
  case b2 => rw [hz2]; omega
  case b3 => unfold maxLen; omega
  intro w1 hown hg
  have HOW := Lib.hid (show w1.ownsRow w.heap.size 5 1 (.slice (some ⟨w.heap.size, 0, none⟩) m m) m (U8 (packN (l.take 0) m)) by
    rw [toList_madeCells_one] at hown
    rw [pk_zero, U8, List.map_replicate]
    exact hown)
  have HBL := Lib.hid (show Below w.heap.size w w1 from (Below.refl _ _).grown hg (Nat.le_refl _) (by simp))
  clear hown hg
  go_wp2
  go_loopw [14] (fun i wr => ∃ k : Nat, k ≤ n ∧ i = .int .i64 k ∧ wr.ownsRow w.heap.size 5 1 (.slice (some ⟨w.heap.size, 0, none⟩) m m) m (U8 (packN (l.take k) m)) ∧ Below w.heap.size w wr) (fun i _ => n - (intOf i).toNat)
  case atStart => exact ⟨0, Nat.zero_le _, rfl, HOW.out, HBL.out⟩
  case round =>
    obtain ⟨k, hk, rfl, hown, hbel⟩ := hrel
    replace HOW := Lib.hid hown
    replace HBL := Lib.hid hbel
    clear hown hbel
    by_cases hlt : k < n
    · have hkl : k < l.length := by rw [← HN.out]; exact hlt
      obtain ⟨x, hx⟩ : ∃ x, l[k]? = some x := ⟨_, List.getElem?_eq_getElem hkl⟩
      obtain ⟨ad, rfl, hadl, hc0⟩ := HA.out.at hx
      have hc : wr.cell? (ad.add k) = some (.bool x) := (HBL.out.cell (by rw [add_block]; exact hadl)).trans hc0
      obtain ⟨j, hj⟩ : ∃ j, k / 8 = j := ⟨_, rfl⟩
      have hjm : j < m := by have := HM.out; omega
      have e3 : (k : Int) / 8 = (j : Int) := by omega
      have e4 : (k : Int).tdiv 8 = (j : Int) := by rw [Int.tdiv_eq_ediv_of_nonneg (by omega)]; exact e3
      have hst := pk_step l k m (by rw [hj]; exact hjm)
      have hol := pk_old l k m (by rw [hj]; exact hjm)
      have hg : l.getD k false = x := by rw [List.getD_eq_getElem?_getD, hx]; rfl
      rw [hj] at hst hol
      rw [hg] at hst
      have HPB := Lib.hid (pk_bit l k)
      obtain ⟨y, hy⟩ : ∃ y, pkOld l k = y := ⟨_, rfl⟩
      rw [hy] at hst hol HPB
      have hf := HOW.out.frozenAt j
      have hc2 : wr.cell? ⟨w.heap.size, j, none⟩ = some (.int .u8 (y : Int)) := by
        rw [HOW.out.cellAt j (by omega), U8, List.getElem?_map, hol]; rfl
      have HST := Lib.hid hst
      have b0 : (0 : Int) ≤ (j : Int) := by omega
      have wj : IntKind.i64.wrap (j : Int) = (j : Int) := IntWalk.i64_in _ (by omega)
      have b1 : (j : Int) < (m : Int) := by omega
      have b2 : (k : Int) < (n : Int) := by omega
      clear hst hol hg hy hx hc0 hadl hkl hlt hj
      cases x with
      | false =>
        have hs0 : packN (l.take (k + 1)) m = packN (l.take k) m := by
          rw [HST.out]
          simp only [bit, Bool.false_eq_true, if_false, Nat.zero_mul, Nat.add_zero]
          exact List.ext_getElem? fun q => by
            by_cases hq : q = j
            · subst hq
              rw [List.getElem?_set_self (by rw [packN_len]; exact hjm)]
              have := HOW.out.cellAt q (by omega)
              rw [hc2, U8, List.getElem?_map] at this
              cases hz : (packN (l.take k) m)[q]? with
              | none => rw [hz] at this; cases this
              | some z =>
                rw [hz] at this
                simp at this
                congr 1
                omega
            · rw [List.getElem?_set_ne (by omega)]
        have HS0 := Lib.hid hs0
        clear hs0 hc2
        go_wp2
        go_roundw
        case rel => exact ⟨k + 1, by omega, by go_num, by rw [HS0.out]; exact HOW.out, HBL.out⟩
        case measure => simp [intOf]; omega
      | true =>
        obtain ⟨r, p, hr8, hp, hkr, hyp⟩ := HPB.out
        have hor : bits BinOp.or IntKind.u8 (y : Int) ((2 ^ (7 - k % 8) : Nat) : Int) = ((y + 1 * 2 ^ (7 - k % 8) : Nat) : Int) := by rw [hyp, hkr]; exact or_u8 r hr8 p hp
        obtain ⟨z, hz⟩ : ∃ z, 2 ^ (7 - k % 8) = z := ⟨_, rfl⟩
        have hmask := pmask_any k (by omega)
        rw [hz] at hor hmask
        have HMK := Lib.hid hmask
        have HSR := Lib.hid (HOW.out.stored j (.int .u8 ((y : Int) + (z : Int)))).1
        have HSE := Lib.hid (show (U8 (packN (l.take k) m)).set j (.int .u8 ((y : Int) + (z : Int))) = U8 (packN (l.take (k + 1)) m) by rw [HST.out, hz, U8, U8, List.map_set]; simp [bit])
        clear hp hkr hyp hz hmask HPB HST
        go_wp2
        go_region_with (go_at_call 88; refine (HMK.out _).mono ?_; rintro e w8 ⟨rfl, rfl⟩)
        all_goals
          go_wp2
          go_roundw
          case rel => exact ⟨k + 1, by omega, by go_num, by rw [← HSE.out]; exact HSR.out.drew, (HBL.out.setCell (p := ⟨w.heap.size, j, none⟩) (Nat.le_refl _) _).drew⟩
          case measure => simp [intOf]; omega
    · have e : k = n := by omega
      have hb : ¬ ((k : Int) < (n : Int)) := by omega
      have ht : packN (l.take k) m = packL l := by rw [e, HN.out, List.take_length, packL, ← HM.out, HN.out]
      rw [ht] at HOW
      clear ht hlt e
      go_wp2
      go_ret
      refine ⟨_, _, rfl, ?_, HBL.out⟩
      have h := bs_of_own HOW.out (packL_lt l)
      obtain ⟨A', c', hv, hbs⟩ := h
      cases hv
      exact hbs
set_option linter.unusedVariables false
open Go.ChangeShapes Go.WideShapes Go.ChangeAt Go.RowKit

set_option maxRecDepth 100000 in
set_option maxHeartbeats 1600000 in
theorem punpack_own (b : List Nat) (n : Nat) (hn : n = b.length) (hn2 : n ≤ 1048576) (A : Option Addr) (c : Nat) (w : World) (hA : Bs w w.heap.size b A c) : Calls Tryz.prog 46 #[.slice A n c] w fun e w' => e = .returned (.slice (some ⟨w.heap.size, 0, none⟩) (8 * n) (8 * n)) ∧ w'.ownsRow w.heap.size 4 1 (.slice (some ⟨w.heap.size, 0, none⟩) (8 * n) (8 * n)) (8 * n) (BL (unpackL b)) ∧ Below w.heap.size w w' := by
  obtain ⟨i0, hi, hz0, hz1, hz2⟩ := info_parts infoBoolT
  obtain ⟨m, hm⟩ : ∃ m, 8 * n = m := ⟨_, rfl⟩
  have HM := Lib.hid hm
  have HN := Lib.hid hn
  have HA := Lib.hid hA
  have hm2 : m ≤ 8388608 := by omega
  have e1 : (n : Int) * 8 = (m : Int) := by omega
  have wm : IntKind.i64.wrap (m : Int) = (m : Int) := IntWalk.i64_in _ (by omega)
  rw [hm]
  clear hn hA hm
  go_enter Tryz.func46, Tryz.ntmps46
  go_wp2_with (at_make; refine wpList_make_full _ rfl _ _ 67 rfl w.heap.size 4 i0 (.bool false) 1 Tryz.underlying67 hi hz0 hz1 _ _ _ _ m rfl rfl (by omega) (by omega) ?b2 ?b3 (Nat.le_refl _) ?_)
  case b2 => rw [hz2]; omega
  case b3 => unfold maxLen; omega
  intro w1 hown hg
  have HOW := Lib.hid (show w1.ownsRow w.heap.size 4 1 (.slice (some ⟨w.heap.size, 0, none⟩) m m) m (BL (upPart b 0)) by
    rw [toList_madeCells_one] at hown
    rw [upPart_zero, BL, List.map_replicate, ← HN.out, HM.out]
    exact hown)
  have HBL := Lib.hid (show Below w.heap.size w w1 from (Below.refl _ _).grown hg (Nat.le_refl _) (by simp))
  clear hown hg
  go_wp2
  go_loopw [11] (fun i wr => ∃ k : Nat, k ≤ m ∧ i = .int .i64 k ∧ wr.ownsRow w.heap.size 4 1 (.slice (some ⟨w.heap.size, 0, none⟩) m m) m (BL (upPart b k)) ∧ Below w.heap.size w wr) (fun i _ => m - (intOf i).toNat)
  case atStart => exact ⟨0, Nat.zero_le _, rfl, HOW.out, HBL.out⟩
  case round =>
    obtain ⟨k, hk, rfl, hown, hbel⟩ := hrel
    replace HOW := Lib.hid hown
    replace HBL := Lib.hid hbel
    clear hown hbel
    by_cases hlt : k < m
    · obtain ⟨j, hj⟩ : ∃ j, k / 8 = j := ⟨_, rfl⟩
      have hjn : j < n := by have := HM.out; omega
      have hjl : j < b.length := by rw [← HN.out]; exact hjn
      obtain ⟨x, hx⟩ : ∃ x, b[j]? = some x := ⟨_, List.getElem?_eq_getElem hjl⟩
      have hx256 : x < 256 := HA.out.lt x (List.mem_of_getElem? hx)
      have hU : (U8 b)[j]? = some (.int .u8 (x : Int)) := by simp [U8, hx]
      obtain ⟨ad, rfl, hadl, hc0⟩ := HA.out.rd j _ hU
      have hc : wr.cell? (ad.add j) = some (.int .u8 (x : Int)) := (HBL.out.cell (by rw [add_block]; exact hadl)).trans hc0
      have e3 : (k : Int) / 8 = (j : Int) := by omega
      have e4 : (k : Int).tdiv 8 = (j : Int) := by rw [Int.tdiv_eq_ediv_of_nonneg (by omega)]; exact e3
      have wj : IntKind.i64.wrap (j : Int) = (j : Int) := IntWalk.i64_in _ (by omega)
      have hub := up_bit b k x (by rw [hj]; exact hx)
      have hst := upPart_set b k (by rw [← HN.out, HM.out]; exact hlt)
      obtain ⟨t, ht⟩ : ∃ t, (unpackL b).getD k false = t := ⟨_, rfl⟩
      rw [ht] at hub hst
      have hand := and_u8 x hx256 (k % 8) (by omega)
      rw [← hub] at hand
      have hmask := pmask_any k (by omega)
      obtain ⟨z, hz⟩ : ∃ z, 2 ^ (7 - k % 8) = z := ⟨_, rfl⟩
      rw [hz] at hand hmask
      have HMK := Lib.hid hmask
      have hf := HOW.out.frozenAt k
      have hc2 : ∃ v, wr.cell? ⟨w.heap.size, k, none⟩ = some v := by
        rw [HOW.out.cellAt k (by omega), BL, List.getElem?_map]
        rw [List.getElem?_eq_getElem (by rw [upPart_len _ _ (by rw [← HN.out, HM.out]; exact hk), ← HN.out, HM.out]; exact hlt)]
        exact ⟨_, rfl⟩
      obtain ⟨v2, hc2⟩ := hc2
      have HSR := Lib.hid (show (wr.setCell ⟨w.heap.size, k, none⟩ (.bool t)).ownsRow w.heap.size 4 1 (.slice (some ⟨w.heap.size, 0, none⟩) m m) m (BL (upPart b (k + 1))) by
        have h := (HOW.out.stored k (.bool t)).1
        have e : (BL (upPart b k)).set k (.bool t) = BL (upPart b (k + 1)) := by rw [← hst, BL, BL, List.map_set]
        rw [e] at h
        exact h)
      have b0 : (0 : Int) ≤ (j : Int) := by omega
      have b1 : (j : Int) < (n : Int) := by omega
      have b2 : (k : Int) < (m : Int) := by omega
      have b3 : (0 : Int) ≤ (k : Int) := by omega
      clear hmask hst hub ht hz hx hU hc0 hadl hjl hj
      go_wp2
      go_region_with (go_at_call 88; refine (HMK.out _).mono ?_; rintro e w8 ⟨rfl, rfl⟩)
      all_goals
        go_wp2
        go_roundw
        case rel => exact ⟨k + 1, by omega, by go_num, HSR.out.drew, (HBL.out.setCell (p := ⟨w.heap.size, k, none⟩) (Nat.le_refl _) _).drew⟩
        case measure => simp [intOf]; omega
    · have e : k = m := by omega
      have hb : ¬ ((k : Int) < (m : Int)) := by omega
      have ht : upPart b k = unpackL b := by rw [e, ← HM.out, HN.out]; exact upPart_all b
      rw [ht] at HOW
      clear ht hlt e
      go_wp2
      go_ret
      exact ⟨rfl, HOW.out, HBL.out⟩
theorem punpack_any (b : List Nat) (n : Nat) (hn : n = b.length) (hn2 : n ≤ 1048576) (A : Option Addr) (c : Nat) (w : World) (hA : Bs w w.heap.size b A c) : Calls Tryz.prog 46 #[.slice A n c] w fun e w' => ∃ A' c', e = .returned (.slice A' ((8 * n : Nat)) c') ∧ Vs w' w'.heap.size (unpackL b) A' c' ∧ Below w.heap.size w w' := by
  refine (punpack_own b n hn hn2 A c w hA).mono ?_
  rintro e w' ⟨rfl, ho, hb⟩
  obtain ⟨A', c', hv, _, hbs⟩ := vs_of_own ho
  cases hv
  exact ⟨_, _, rfl, hbs, hb⟩
set_option linter.unusedVariables false
open Go.ChangeShapes Go.WideShapes Go.ChangeAt Go.RowKit

theorem top_step (b : B5) (j : Nat) (hj : j < 5) : (ofB b).toNat / 2 ^ j = 2 * ((ofB b).toNat / 2 ^ (j + 1)) + (getB b j).toNat := by
  obtain ⟨b0, b1, b2, b3, b4⟩ := b
  rcases (show j = 0 ∨ j = 1 ∨ j = 2 ∨ j = 3 ∨ j = 4 by omega) with rfl | rfl | rfl | rfl | rfl <;> cases b0 <;> cases b1 <;> cases b2 <;> cases b3 <;> cases b4 <;> decide
theorem ofB_lt (b : B5) : 0 ≤ ofB b ∧ ofB b ≤ 31 := (isC_iff _).1 (of_facts b).1
set_option maxRecDepth 100000 in
set_option maxHeartbeats 1600000 in
theorem refof_any (b : B5) (v : Int) (hv : ofB b = v) (w : World) : Calls Tryz.prog 144 #[.agg #[.bool b.b0, .bool b.b1, .bool b.b2, .bool b.b3, .bool b.b4]] w fun e w' => e = .returned (.int .i64 v) ∧ Below w.heap.size w w' := by
  obtain ⟨w1, hw1⟩ : ∃ w1, w1 = w.alloc (.cells #[.bool b.b0, .bool b.b1, .bool b.b2, .bool b.b3, .bool b.b4] 127) := ⟨_, rfl⟩
  have HB : Hid (Below w.heap.size w w1) := Lib.hid (by rw [hw1]; exact below_lit w _ _)
  have HX : Hid (BBox w1 w.heap.size b) := Lib.hid (by rw [hw1]; exact BBox.new w b)
  have HW : Hid (w.alloc (.cells #[.bool b.b0, .bool b.b1, .bool b.b2, .bool b.b3, .bool b.b4] 127) = w1) := Lib.hid hw1.symm
  clear hw1
  have hlt := ofB_lt b
  have HN := Lib.hid (show (ofB b).toNat < 32 by omega)
  have HV := Lib.hid (show (((ofB b).toNat : Nat) : Int) = v by rw [← hv]; omega)
  clear hv hlt
  go_enter Tryz.func144, Tryz.ntmps144
  go_wp2
  rw [HW.out]
  go_loop [3, 4] (fun n i => ∃ k : Nat, k ≤ 5 ∧ i = .int .i64 ((k : Int) - 1) ∧ n = .int .i64 ((ofB b).toNat / 2 ^ k : Nat)) (fun _ i => (intOf i + 1).toNat)
  case atStart => exact ⟨5, by omega, rfl, by rw [Nat.div_eq_of_lt (by have := HN.out; omega)]; rfl⟩
  case round =>
    obtain ⟨k, hk, rfl, rfl⟩ := hrel
    by_cases h0 : k = 0
    · subst h0
      have hx : (ofB b).toNat / 2 ^ 0 = (ofB b).toNat := by simp
      rw [hx, HV.out]
      clear hx hk
      go_wp2
      go_ret
      exact ⟨rfl, HB.out⟩
    · obtain ⟨j, hj⟩ : ∃ j, k = j + 1 := ⟨k - 1, by omega⟩
      subst hj
      have hij : ((j + 1 : Nat) : Int) - 1 = (j : Int) := by omega
      rw [hij]
      have hj5 : j < 5 := by omega
      have hst := top_step b j hj5
      obtain ⟨m, hm⟩ : ∃ m, (ofB b).toNat / 2 ^ (j + 1) = m := ⟨_, rfl⟩
      rw [hm] at hst
      rw [hm]
      have hmle : m ≤ 31 := by have := HN.out; rw [← hm]; exact Nat.le_trans (Nat.div_le_self _ _) (by omega)
      have b0 : (0 : Int) ≤ (j : Int) := by omega
      have b1 : (j : Int) < 5 := by omega
      have hbit := HX.out.get j hj5
      have w2m : IntKind.i64.wrap (2 * (m : Int)) = 2 * (m : Int) := IntWalk.i64_in _ (by omega)
      have w2m1 : IntKind.i64.wrap (2 * (m : Int) + 1) = 2 * (m : Int) + 1 := IntWalk.i64_in _ (by omega)
      have wj : IntKind.i64.wrap ((j : Int) - 1) = (j : Int) - 1 := IntWalk.i64_in _ (by omega)
      cases hg : getB b j
      all_goals
        rw [hg] at hst hbit
        have HS := Lib.hid hst
        clear hst hg hij h0 hm
        go_wp2
        go_round
        case rel => exact ⟨j, by omega, by first | rfl | (rw [wj]; done) | go_num, by rw [HS.out]; first | rfl | go_num | (simp; omega)⟩
        case measure => first | (simp [intOf]; done) | (simp [intOf]; omega)
set_option linter.unusedVariables false
open Go.ChangeShapes Go.WideShapes Go.ChangeAt Go.RowKit

theorem ch_of {l : List Bool} {i : Nat} (h : i + 5 ≤ l.length) : ∃ b : B5, l[i]? = some b.b0 ∧ l[i + 1]? = some b.b1 ∧ l[i + 2]? = some b.b2 ∧ l[i + 3]? = some b.b3 ∧ l[i + 4]? = some b.b4 ∧ ofB b = ((chAt l i : Nat) : Int) := by
  obtain ⟨b0, h0⟩ : ∃ b, l[i]? = some b := ⟨_, List.getElem?_eq_getElem (by omega)⟩
  obtain ⟨b1, h1⟩ : ∃ b, l[i + 1]? = some b := ⟨_, List.getElem?_eq_getElem (by omega)⟩
  obtain ⟨b2, h2⟩ : ∃ b, l[i + 2]? = some b := ⟨_, List.getElem?_eq_getElem (by omega)⟩
  obtain ⟨b3, h3⟩ : ∃ b, l[i + 3]? = some b := ⟨_, List.getElem?_eq_getElem (by omega)⟩
  obtain ⟨b4, h4⟩ : ∃ b, l[i + 4]? = some b := ⟨_, List.getElem?_eq_getElem (by omega)⟩
  refine ⟨⟨b0, b1, b2, b3, b4⟩, h0, h1, h2, h3, h4, ?_⟩
  simp only [chAt, List.getD_eq_getElem?_getD, h0, h1, h2, h3, h4, Option.getD_some, ofB]
  cases b0 <;> cases b1 <;> cases b2 <;> cases b3 <;> cases b4 <;> rfl
set_option maxRecDepth 100000 in
set_option maxHeartbeats 1600000 in
theorem refat_any (l : List Bool) (n : Nat) (hn : n = l.length) (hn2 : n ≤ 10000) (i : Nat) (hi : i + 5 ≤ n) (v : Nat) (hv : chAt l i = v) (A : Option Addr) (c : Nat) (w : World) (hA : Vs w w.heap.size l A c) : Calls Tryz.prog 111 #[.slice A n c, .int .i64 (i : Int)] w fun e w' => e = .returned (.int .i64 (v : Int)) ∧ Below w.heap.size w w' := by
  obtain ⟨b, h0, h1, h2, h3, h4, hof⟩ := ch_of (l := l) (i := i) (by rw [← hn]; exact hi)
  obtain ⟨ad, rfl, hadl, c0⟩ := hA.at h0
  have c1 := hA.cells _ _ (BL_at h1)
  have c2 := hA.cells _ _ (BL_at h2)
  have c3 := hA.cells _ _ (BL_at h3)
  have c4 := hA.cells _ _ (BL_at h4)
  rw [hv] at hof
  have HOF := Lib.hid hof
  have HAD := Lib.hid hadl
  obtain ⟨i0, hi0⟩ : ∃ i0, i = i0 := ⟨_, rfl⟩
  obtain ⟨i1, hi1⟩ : ∃ i1, i + 1 = i1 := ⟨_, rfl⟩
  obtain ⟨i2, hi2⟩ : ∃ i2, i + 2 = i2 := ⟨_, rfl⟩
  obtain ⟨i3, hi3⟩ : ∃ i3, i + 3 = i3 := ⟨_, rfl⟩
  obtain ⟨i4, hi4⟩ : ∃ i4, i + 4 = i4 := ⟨_, rfl⟩
  rw [hi0] at c0
  rw [hi1] at c1
  rw [hi2] at c2
  rw [hi3] at c3
  rw [hi4] at c4
  have k1 : (i0 : Int) + 1 = (i1 : Int) := by omega
  have k2 : (i0 : Int) + 2 = (i2 : Int) := by omega
  have k3 : (i0 : Int) + 3 = (i3 : Int) := by omega
  have k4 : (i0 : Int) + 4 = (i4 : Int) := by omega
  have b0 : (0 : Int) ≤ (i0 : Int) := by omega
  have b1 : (i0 : Int) < (n : Int) := by omega
  have b2 : (i1 : Int) < (n : Int) := by omega
  have b3 : (i2 : Int) < (n : Int) := by omega
  have b4 : (i3 : Int) < (n : Int) := by omega
  have b5 : (i4 : Int) < (n : Int) := by omega
  have z1 : (0 : Int) ≤ (i1 : Int) := by omega
  have z2 : (0 : Int) ≤ (i2 : Int) := by omega
  have z3 : (0 : Int) ≤ (i3 : Int) := by omega
  have z4 : (0 : Int) ≤ (i4 : Int) := by omega
  have w1 : IntKind.i64.wrap (i1 : Int) = (i1 : Int) := IntWalk.i64_in _ (by omega)
  have w2 : IntKind.i64.wrap (i2 : Int) = (i2 : Int) := IntWalk.i64_in _ (by omega)
  have w3 : IntKind.i64.wrap (i3 : Int) = (i3 : Int) := IntWalk.i64_in _ (by omega)
  have w4 : IntKind.i64.wrap (i4 : Int) = (i4 : Int) := IntWalk.i64_in _ (by omega)
  rw [hi0]
  clear h0 h1 h2 h3 h4 hof hA hn hv hadl hi hi0 hi1 hi2 hi3 hi4 hn2
  go_enter Tryz.func111, Tryz.ntmps111
  go_wp2
  go_region_held3 (fun w' => w'.cell? (ad.add i0) = some (.bool b.b0) ∧ w'.cell? (ad.add i1) = some (.bool b.b1) ∧ w'.cell? (ad.add i2) = some (.bool b.b2) ∧ w'.cell? (ad.add i3) = some (.bool b.b3) ∧ w'.cell? (ad.add i4) = some (.bool b.b4))
    (first | exact ⟨(hb8.cell (by rw [add_block]; exact HAD.out)).trans c0, (hb8.cell (by rw [add_block]; exact HAD.out)).trans c1, (hb8.cell (by rw [add_block]; exact HAD.out)).trans c2, (hb8.cell (by rw [add_block]; exact HAD.out)).trans c3, (hb8.cell (by rw [add_block]; exact HAD.out)).trans c4⟩ | go_keep)
    ((go_at_call 144; refine (refof_any b _ HOF.out _).mono ?_; rintro e w8 ⟨rfl, hb8⟩))
  go_wp2
  go_ret
  exact ⟨rfl, (Below.refl w.heap.size w).drew.trans hb8⟩
set_option linter.unusedVariables false
open Go.ChangeShapes Go.WideShapes Go.ChangeAt Go.RowKit

set_option maxRecDepth 100000 in
set_option maxHeartbeats 1600000 in
theorem refpack_any (l : List Bool) (n : Nat) (hn : n = l.length) (hn2 : n ≤ 400000) (A : Option Addr) (c : Nat) (w : World) (hA : Vs w w.heap.size l A c) : Calls Tryz.prog 74 #[.slice A n c] w fun e w' => ∃ A' c', e = .returned (.slice A' ((n + 7) / 8) c') ∧ Bs w' w'.heap.size (packL l) A' c' ∧ Below w.heap.size w w' := by
  obtain ⟨i0, hi, hz0, hz1, hz2⟩ := info_parts infoU8
  obtain ⟨m, hm⟩ : ∃ m, (n + 7) / 8 = m := ⟨_, rfl⟩
  have HM := Lib.hid hm
  have HN := Lib.hid hn
  have HA := Lib.hid hA
  have hmn : 8 * m ≤ n + 7 := by omega
  have hnm : n ≤ 8 * m := by omega
  have hn3 : n ≤ 9223372036854775807 := by omega
  rw [hm]
  clear hn hA hm
  go_enter Tryz.func74, Tryz.ntmps74
  go_wp2
  go_loopw [3, 4] (fun v i wr => ∃ j : Nat, j ≤ m ∧ i = .int .i64 ((8 * j : Nat) : Int) ∧ wr.ownsRow w.heap.size 5 1 v j (U8 (packN l j)) ∧ Below w.heap.size w wr) (fun _ i _ => 8 * m - (intOf i).toNat)
  case atStart => exact ⟨0, by omega, rfl, World.ownsRow_lit w #[] 0 (Nat.le_refl _) (by decide) rfl, below_lit w _ _⟩
  case round =>
    obtain ⟨j, hj, rfl, hown, hbel⟩ := hrel
    have HOW := Lib.hid hown
    have HBL := Lib.hid hbel
    clear hown hbel
    obtain ⟨s, hs⟩ : ∃ s, 8 * j = s := ⟨_, rfl⟩
    have HSJ := Lib.hid hs
    rw [hs]
    by_cases hlt : s < n
    · have b0 : (0 : Int) ≤ (s : Int) := by omega
      have b1 : (s : Int) < (n : Int) := by omega
      have hjm : j < m := by omega
      have ws8 : IntKind.i64.wrap ((s : Int) + 8) = (s : Int) + 8 := IntWalk.i64_in _ (by omega)
      have HWS := Lib.hid ws8
      have HSB := Lib.hid (show s ≤ 400000 by omega)
      clear ws8 hs
      go_wp2
      go_loopw [5, 6] (fun x k wr => ∃ q : Nat, q ≤ 8 ∧ k = .int .i64 ((s + q : Nat) : Int) ∧ x = .int .i64 ((accB l s q : Nat) : Int) ∧ wr.ownsRow w.heap.size 5 1 u3 j (U8 (packN l j)) ∧ Below w.heap.size w wr) (fun _ k _ => s + 8 - (intOf k).toNat)
      case atStart => exact ⟨0, by omega, rfl, rfl, HOW.out, HBL.out⟩
      case round =>
        obtain ⟨q, hq, rfl, rfl, hown, hbel⟩ := hrel
        replace HOW := Lib.hid hown
        replace HBL := Lib.hid hbel
        clear hown hbel
        have ws8 := HWS.out
        by_cases hq8 : q < 8
        · obtain ⟨k, hk⟩ : ∃ k, s + q = k := ⟨_, rfl⟩
          have hlt2 := accB_lt l s q
          have hp8 : 2 ^ q ≤ 128 := by
            have := Nat.pow_le_pow_right (n := 2) (by omega) (show q ≤ 7 by omega)
            simpa using this
          obtain ⟨a, ha⟩ : ∃ a, accB l s q = a := ⟨_, rfl⟩
          have hacc : accB l s (q + 1) = 2 * a + bit (l.getD k false) := by rw [accB, ha, hk]
          rw [ha, hk]
          have hk1 : s + (q + 1) = k + 1 := by omega
          have ha2 : a < 128 := by omega
          have hkb := HSB.out
          have b2 : (k : Int) < (s : Int) + 8 := by omega
          have b3 : (0 : Int) ≤ (k : Int) := by omega
          have w2 : IntKind.i64.wrap (2 * (a : Int)) = 2 * (a : Int) := IntWalk.i64_in _ (by omega)
          have w21 : IntKind.i64.wrap (2 * (a : Int) + 1) = 2 * (a : Int) + 1 := IntWalk.i64_in _ (by omega)
          have wk : IntKind.i64.wrap ((k : Int) + 1) = (k : Int) + 1 := IntWalk.i64_in _ (by omega)
          clear hlt2 hp8 ha
          by_cases hkn : k < n
          · obtain ⟨z, hz⟩ : ∃ z, l[k]? = some z := ⟨_, List.getElem?_eq_getElem (by rw [← HN.out]; exact hkn)⟩
            obtain ⟨ad, rfl, hadl, hc0⟩ := HA.out.at hz
            have hc : wr.cell? (ad.add k) = some (.bool z) := (HBL.out.cell (by rw [add_block]; exact hadl)).trans hc0
            have hg : l.getD k false = z := by rw [List.getD_eq_getElem?_getD, hz]; rfl
            rw [hg] at hacc
            have b4 : (k : Int) < (n : Int) := by omega
            have HK1 := Lib.hid hk1
            have HKM := Lib.hid hk
            have HAC := Lib.hid hacc
            clear hadl hc0 hz hg hk1 hk hacc
            cases z
            all_goals
              have HA1 := Lib.hid HAC.out
              simp only [bit, Bool.false_eq_true, if_false, if_true] at HA1
              clear HAC
              go_wp2
              go_roundw
              case rel => exact ⟨q + 1, by omega, by rw [HK1.out]; go_num, by rw [HA1.out]; go_num, HOW.out, HBL.out⟩
              case measure => simp [intOf]; have := HKM.out; omega
          · have hg : l.getD k false = false := by rw [List.getD_eq_getElem?_getD, List.getElem?_eq_none (by rw [← HN.out]; omega)]; rfl
            rw [hg] at hacc
            have b4 : ¬ ((k : Int) < (n : Int)) := by omega
            have HK1 := Lib.hid hk1
            have HKM := Lib.hid hk
            have HA1 := Lib.hid hacc
            simp only [bit, Bool.false_eq_true, if_false] at HA1
            clear hg hk1 hk hacc
            go_wp2
            go_roundw
            case rel => exact ⟨q + 1, by omega, by rw [HK1.out]; go_num, by rw [HA1.out]; go_num, HOW.out, HBL.out⟩
            case measure => simp [intOf]; have := HKM.out; omega
        · have e : q = 8 := by omega
          subst e
          have hab := accB_lt l s 8
          have hpk := packN_succ l j
          have hs2 := HSJ.out
          rw [hs2] at hpk
          obtain ⟨a, ha⟩ : ∃ a, accB l s 8 = a := ⟨_, rfl⟩
          rw [ha] at hab hpk ⊢
          have ha2 : a < 256 := by simpa using hab
          have HPK := Lib.hid hpk
          have hm1 : j + 1 ≤ maxLen := by unfold maxLen; omega
          have hm2 : (j + 1) * 1 ≤ 140737488355328 := by omega
          have hb2 : ¬ (((s + 8 : Nat) : Int) < (s : Int) + 8) := by omega
          have hss : ((s + 8 : Nat) : Int) = (s : Int) + 8 := by omega
          rw [hss] at hb2 ⊢
          have hwa : IntKind.u8.wrap (a : Int) = (a : Int) := by simp [IntKind.wrap, IntKind.signed, IntKind.bits]; omega
          have hsz := HBL.out.size
          clear hab hpk ha hlt
          go_wp2_with (at_builtin; refine wpList_append_own _ rfl (.tmp 35) (.tmp 38) 30 rfl w.heap.size 5 i0 (.int .u8 0) 1 1 Tryz.underlying30 hi hz0 hz1 hz2 rfl (by decide) _ j (U8 (packN l j)) rfl (HOW.out.alloc _) ⟨_, 0, none⟩ 1 1 (U8 [a]) rfl rfl ?rd (U8_one _) hm1 hm2 (by simp; omega) ?_)
          case rd =>
            intro q u hu
            first | exact hu | (simpa [U8] using hu) | (simpa [U8, hwa] using hu)
          intro v8 w8 hown8 hg8 _
          have HO8 := Lib.hid (show w8.ownsRow w.heap.size 5 1 v8 (j + 1) (U8 (packN l (j + 1))) by
            rw [HPK.out, U8, List.map_append]
            exact hown8)
          have HB8 := Lib.hid ((HBL.out.alloc HBL.out.size _).grown hg8 (by simp; omega) (fun p hp => own_ge HOW.out hp))
          clear hown8 hg8 HOW HBL HPK
          go_wp2
          go_roundw
          case rel => exact ⟨j + 1, by omega, by rw [show 8 * (j + 1) = s + 8 by omega]; go_num, HO8.out, HB8.out⟩
          case measure => simp [intOf]; omega
    · have e : j = m := by omega
      have hb : ¬ ((s : Int) < (n : Int)) := by omega
      have ht : packN l j = packL l := by rw [e, packL, ← HN.out, HM.out]
      rw [ht, e] at HOW
      clear ht hlt hs
      obtain ⟨A', c', hv, hbs⟩ := bs_of_own HOW.out (packL_lt l)
      subst hv
      go_wp2
      go_ret
      exact ⟨_, _, rfl, hbs, HBL.out⟩
set_option linter.unusedVariables false
open Go.ChangeShapes Go.WideShapes Go.ChangeAt Go.RowKit

theorem up_half (q : Nat) (h : q < 8) : 128 / 2 ^ q = 2 ^ (7 - q) ∧ 128 / 2 ^ (q + 1) = 2 ^ (7 - q) / 2 ∧ 1 ≤ 2 ^ (7 - q) ∧ 2 ^ (7 - q) ≤ 128 := by
  rcases (show q = 0 ∨ q = 1 ∨ q = 2 ∨ q = 3 ∨ q = 4 ∨ q = 5 ∨ q = 6 ∨ q = 7 by omega) with rfl | rfl | rfl | rfl | rfl | rfl | rfl | rfl <;> decide
theorem up_beq (d : Nat) : ((d : Int) % 2 == 1) = (d % 2 == 1) := by
  cases h : (d % 2 == 1)
  · rw [beq_eq_false_iff_ne] at h ⊢; omega
  · rw [beq_iff_eq] at h ⊢; omega
set_option maxRecDepth 100000 in
set_option maxHeartbeats 1600000 in
theorem refunpack_any (b : List Nat) (n : Nat) (hn : n = b.length) (hn2 : n ≤ 1000) (A : Option Addr) (c : Nat) (w : World) (hA : Bs w w.heap.size b A c) : Calls Tryz.prog 110 #[.slice A n c] w fun e w' => ∃ A' c', e = .returned (.slice A' ((8 * n : Nat)) c') ∧ Vs w' w'.heap.size (unpackL b) A' c' ∧ Below w.heap.size w w' := by
  obtain ⟨i0, hi, hz0, hz1, hz2⟩ := info_parts infoBoolT
  have HN := Lib.hid hn
  have HA := Lib.hid hA
  have hn3 : n ≤ 9223372036854775807 := by omega
  clear hn hA
  go_enter Tryz.func110, Tryz.ntmps110
  go_wp2
  go_loopw [3, 4] (fun v i wr => ∃ k : Nat, k ≤ n ∧ i = .int .i64 k ∧ wr.ownsRow w.heap.size 4 1 v (8 * k) (BL (unpackL (b.take k))) ∧ Below w.heap.size w wr) (fun _ i _ => n - (intOf i).toNat)
  case atStart => exact ⟨0, by omega, rfl, World.ownsRow_lit w #[] 0 (Nat.le_refl _) (by decide) rfl, below_lit w _ _⟩
  case round =>
    obtain ⟨k, hk, rfl, hown, hbel⟩ := hrel
    by_cases hlt : k < n
    · have hkl : k < b.length := by rw [← HN.out]; exact hlt
      obtain ⟨x, hx⟩ : ∃ x, b[k]? = some x := ⟨_, List.getElem?_eq_getElem hkl⟩
      have hx256 : x < 256 := HA.out.lt x (List.mem_of_getElem? hx)
      have hU : (U8 b)[k]? = some (.int .u8 (x : Int)) := by simp [U8, hx]
      obtain ⟨ad, rfl, hadl, hc⟩ := HA.out.rd k _ hU
      have HAD := Lib.hid hadl
      have HC := Lib.hid hc
      have HX := Lib.hid hx
      have HOW := Lib.hid hown
      have HBL := Lib.hid hbel
      have b0 : (0 : Int) ≤ (k : Int) := by omega
      have b1 : (k : Int) < (n : Int) := by omega
      clear hown hbel hx hkl hU hadl hc
      go_wp2
      go_loopw [3, 5, 6] (fun v y j wr => ∃ q : Nat, q ≤ 8 ∧ j = .int .i64 q ∧ y = .int .i64 (128 / 2 ^ q : Nat) ∧ wr.ownsRow w.heap.size 4 1 v (8 * k + q) (BL (unpackL (b.take k) ++ bitsOf x q)) ∧ Below w.heap.size w wr) (fun _ _ j _ => 8 - (intOf j).toNat)
      case atStart => exact ⟨0, by omega, rfl, rfl, by simpa [bitsOf] using HOW.out, HBL.out⟩
      case round =>
        obtain ⟨q, hq, rfl, rfl, hown, hbel⟩ := hrel
        replace HOW := Lib.hid hown
        replace HBL := Lib.hid hbel
        clear hown hbel
        by_cases hq8 : q < 8
        · have hc := (HBL.out.cell (by rw [add_block]; exact HAD.out)).trans HC.out
          have hsz := HBL.out.size
          have hu := up_half q hq8
          rw [hu.1]
          obtain ⟨y, hy⟩ : ∃ y, 2 ^ (7 - q) = y := ⟨_, rfl⟩
          have hbs0 := bitsOf_succ x q
          rw [hy] at hu hbs0 ⊢
          have hy1 := hu.2.2.1
          have hy2 := hu.2.2.2
          obtain ⟨d, hd⟩ : ∃ d, x / y = d := ⟨_, rfl⟩
          rw [hd, ← up_beq] at hbs0
          obtain ⟨t, ht⟩ : ∃ t, ((d : Int) % 2 == 1) = t := ⟨_, rfl⟩
          rw [ht] at hbs0
          have hdle : d ≤ x := by rw [← hd]; exact Nat.div_le_self _ _
          have hne : ¬ (y : Int) = 0 := by omega
          have hcast : ((x : Int) / (y : Int)) = (d : Int) := by rw [← hd]; simp
          have wd : IntKind.i64.wrap (d : Int) = (d : Int) := IntWalk.i64_in _ (by omega)
          have HU := Lib.hid hu.2.1
          have HBS := Lib.hid hbs0
          have b2 : (q : Int) < 8 := by omega
          have hm1 : 8 * k + q + 1 ≤ maxLen := by unfold maxLen; omega
          have hm2 : (8 * k + q + 1) * 1 ≤ 140737488355328 := by omega
          clear hu hbs0 hd hy
          go_wp2_with (at_builtin; refine wpList_append_own _ rfl (.tmp 18) (.tmp 28) 67 rfl w.heap.size 4 i0 (.bool false) 1 1 Tryz.underlying67 hi hz0 hz1 hz2 rfl (by decide) _ (8 * k + q) (BL (unpackL (b.take k) ++ bitsOf x q)) rfl (HOW.out.alloc _) ⟨_, 0, none⟩ 1 1 [.bool t] rfl rfl (bool_lit _ _) (bool_one _) hm1 hm2 (by simp; omega) ?_)
          intro v8 w8 hown8 hg8 _
          have HO8 := Lib.hid (show w8.ownsRow w.heap.size 4 1 v8 (8 * k + (q + 1)) (BL (unpackL (b.take k) ++ bitsOf x (q + 1))) by
            rw [HBS.out, ← List.append_assoc, BL_append, ← Nat.add_assoc]
            exact hown8)
          have HB8 := Lib.hid ((HBL.out.alloc HBL.out.size _).grown hg8 (by simp; omega) (fun p hp => own_ge HOW.out hp))
          clear hown8 hg8 hc HC HA HX HN HBS HOW HBL hcast ht
          have wy : IntKind.i64.wrap ((y : Int) / 2) = (y : Int) / 2 := IntWalk.i64_in _ (by omega)
          have HY := Lib.hid (show (y : Int) / 2 = ((y / 2 : Nat) : Int) by omega)
          clear hy1 hdle hx256 hlt hn3 hne hm1 hm2 wd b0 b1
          go_wp2
          go_roundw
          case rel => exact ⟨q + 1, by omega, by go_num, by rw [HY.out, HU.out], HO8.out, HB8.out⟩
          case measure => simp [intOf]; omega
        · have e : q = 8 := by omega
          have hb : ¬ ((q : Int) < 8) := by omega
          have HOK := Lib.hid (show wr.ownsRow w.heap.size 4 1 u3 (8 * (k + 1)) (BL (unpackL (b.take (k + 1)))) by
            rw [unpackL_take HX.out, ← show bitsOf x q = bitsOf x 8 by rw [e], show 8 * (k + 1) = 8 * k + q by omega]
            exact HOW.out)
          clear HOW
          go_wp2
          go_roundw
          case rel => exact ⟨k + 1, by omega, by go_num, HOK.out, HBL.out⟩
          case measure => simp [intOf]; omega
    · have e : k = n := by omega
      have hb : ¬ ((k : Int) < (n : Int)) := by omega
      have ht : unpackL (b.take k) = unpackL b := by rw [e, HN.out, List.take_length]
      rw [ht, e] at hown
      clear ht hlt
      obtain ⟨A', c', hv, _, hbs⟩ := vs_of_own hown
      subst hv
      go_wp2
      go_ret
      exact ⟨_, _, rfl, hbs, hbel⟩
set_option linter.unusedVariables false
open Go.ChangeShapes Go.WideShapes Go.ChangeAt Go.RowKit

theorem bs_nil (w : World) (B : Nat) : Bs w B [] none 0 := ⟨by intro k u hu; simp [U8] at hu, fun _ => rfl, by simp, by omega, by simp⟩
theorem Vs.below {w w' : World} {B : Nat} {l : List Bool} {A : Option Addr} {c : Nat} (h : Vs w B l A c) (hb : Below B w w') : Vs w' B l A c := ⟨h.rd.below hb, h.nil, h.len, h.cap⟩
theorem Vs.more {w : World} {B B' : Nat} {l : List Bool} {A : Option Addr} {c : Nat} (h : Vs w B l A c) (hB : B ≤ B') : Vs w B' l A c := ⟨h.rd.more hB, h.nil, h.len, h.cap⟩
theorem Vs.take {w : World} {B : Nat} {l : List Bool} {A : Option Addr} {c : Nat} (h : Vs w B l A c) (k : Nat) (hk : k ≤ c) : Vs w B (l.take k) A c := by
  refine ⟨fun j u hu => h.rd j u ?_, h.nil, by rw [List.length_take]; omega, h.cap⟩
  rw [BL, List.map_take, List.getElem?_take] at hu
  split at hu
  · exact hu
  · cases hu
end Go.Proofs.YtpniolinndlepaaGreatDoor
