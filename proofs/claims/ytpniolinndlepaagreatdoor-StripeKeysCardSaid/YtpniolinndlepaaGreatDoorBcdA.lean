/-
  Package bcd's numbers, plainly, and contracts of its Put, Get, Join.
-/
import Derived.Test.YtpniolinndlepaaGreatDoorBase
namespace Go.Proofs.YtpniolinndlepaaGreatDoor
set_option linter.unusedVariables false

/-- The lowest k digits of n, the highest one first. -/
def dg (n : Nat) : Nat → List Nat
  | 0 => []
  | k + 1 => n / 10 ^ k % 10 :: dg n k
theorem dg_len (n : Nat) : ∀ k, (dg n k).length = k
  | 0 => rfl
  | k + 1 => by rw [dg, List.length_cons, dg_len n k]
theorem dg_lt (n : Nat) : ∀ k, ∀ x ∈ dg n k, x ≤ 9
  | 0, x, h => by simp [dg] at h
  | k + 1, x, h => by
    rw [dg, List.mem_cons] at h
    rcases h with rfl | h
    · have := Nat.mod_lt (n / 10 ^ k) (show 0 < 10 by omega); omega
    · exact dg_lt n k x h
theorem dg_snoc (n : Nat) : ∀ k, dg n (k + 1) = dg (n / 10) k ++ [n % 10]
  | 0 => by simp [dg]
  | k + 1 => by
    rw [dg, dg_snoc n k, dg, List.cons_append]
    congr 2
    rw [Nat.pow_succ, Nat.mul_comm, Nat.div_div_eq_div_mul]
/-- Behind k rounds: the lowest k digits, zeros ahead of them. -/
def dgTo (n w k : Nat) : List Nat := List.replicate (w - k) 0 ++ dg n k
theorem dgTo_len (n w k : Nat) (h : k ≤ w) : (dgTo n w k).length = w := by rw [dgTo, List.length_append, List.length_replicate, dg_len]; omega
theorem dgTo_zero (n w : Nat) : dgTo n w 0 = List.replicate w 0 := by simp [dgTo, dg]
theorem dgTo_all (n w : Nat) : dgTo n w w = dg n w := by simp [dgTo]
theorem dgTo_set (n w k : Nat) (h : k < w) : (dgTo n w k).set (w - 1 - k) (n / 10 ^ k % 10) = dgTo n w (k + 1) := by
  obtain ⟨m, hm⟩ : ∃ m, m = w - 1 - k := ⟨_, rfl⟩
  rw [dgTo, dgTo, show w - k = m + 1 by omega, show w - (k + 1) = m by omega, ← hm, dg, List.replicate_succ', List.append_assoc, List.set_append_right _ _ (by simp)]
  simp
def valD (l : List Nat) : Nat := l.foldl (fun a x => 10 * a + x) 0
theorem valD_snoc (l : List Nat) (x : Nat) : valD (l ++ [x]) = 10 * valD l + x := by simp [valD]
theorem valD_lt : ∀ (n : Nat) (l : List Nat), l.length = n → (∀ x ∈ l, x ≤ 9) → valD l < 10 ^ n
  | 0, l, h, _ => by
    obtain rfl := List.eq_nil_of_length_eq_zero h
    decide
  | n + 1, l, h, h9 => by
    rcases List.eq_nil_or_concat l with rfl | ⟨c, x, rfl⟩
    · simp at h
    · rw [List.concat_eq_append] at h9 ⊢
      have := valD_lt n c (by simpa using h) (fun y hy => h9 y (by simp [hy]))
      have := h9 x (by simp)
      rw [valD_snoc, Nat.pow_succ]; omega
theorem valD_dg : ∀ (k n : Nat), valD (dg n k) = n % 10 ^ k
  | 0, n => by simp [dg, valD, Nat.mod_one]
  | k + 1, n => by
    rw [dg_snoc, valD_snoc, valD_dg k (n / 10), Nat.pow_succ, Nat.mul_comm (10 ^ k) 10, Nat.mod_mul]; omega
theorem dg_valD : ∀ (k : Nat) (l : List Nat), l.length = k → (∀ x ∈ l, x ≤ 9) → dg (valD l) k = l
  | 0, l, h, _ => by rw [List.eq_nil_of_length_eq_zero h]; rfl
  | k + 1, l, h, h9 => by
    rcases List.eq_nil_or_concat l with rfl | ⟨c, x, rfl⟩
    · simp at h
    · rw [List.concat_eq_append] at h9 ⊢
      have hx := h9 x (by simp)
      have e1 : (10 * valD c + x) / 10 = valD c := by omega
      have e2 : (10 * valD c + x) % 10 = x := by omega
      rw [dg_snoc, valD_snoc, e1, e2, dg_valD k c (by simpa using h) (fun y hy => h9 y (by simp [hy]))]
theorem pow_pos10 (k : Nat) : 0 < 10 ^ k := Nat.pow_pos (by omega)

/-- Put: the error, and the digits. -/
def bputE (n w : Int) : Int := if n < 0 ∨ w < 0 ∨ 18 < w then 1 else if 10 ^ w.toNat ≤ n.toNat then 23 else 0
def bputL (n w : Int) : List Nat := if bputE n w = 0 then dg n.toNat w.toNat else []
theorem bput_arg {n w : Int} (h : n < 0 ∨ w < 0 ∨ 18 < w) : bputE n w = 1 ∧ bputL n w = [] := by
  have h1 : bputE n w = 1 := by rw [bputE, if_pos h]
  exact ⟨h1, by rw [bputL, h1, if_neg (by decide)]⟩
theorem bput_over {n w : Nat} (h : w ≤ 18) (h2 : 10 ^ w ≤ n) : bputE n w = 23 ∧ bputL n w = [] := by
  have h1 : bputE n w = 23 := by rw [bputE, if_neg (by omega), if_pos (by simpa using h2)]
  exact ⟨h1, by rw [bputL, h1, if_neg (by decide)]⟩
theorem bput_ok {n w : Nat} (h : w ≤ 18) (h2 : n < 10 ^ w) : bputE n w = 0 ∧ bputL n w = dg n w := by
  have h1 : bputE n w = 0 := by rw [bputE, if_neg (by omega), if_neg (by simpa using h2)]
  exact ⟨h1, by rw [bputL, h1, if_pos rfl]; simp⟩
theorem put_zero {n w : Int} (h : bputE n w = 0) : ∃ N W : Nat, n = N ∧ w = W ∧ W ≤ 18 ∧ N < 10 ^ W ∧ bputL n w = dg N W := by
  by_cases h1 : n < 0 ∨ w < 0 ∨ 18 < w
  · rw [(bput_arg h1).1] at h; cases h
  · by_cases h2 : 10 ^ w.toNat ≤ n.toNat
    · rw [bputE, if_neg h1, if_pos h2] at h; cases h
    · exact ⟨n.toNat, w.toNat, by omega, by omega, by omega, by omega, by rw [bputL, h, if_pos rfl]⟩
theorem put_lt (n w : Int) : ∀ x ∈ bputL n w, x ≤ 9 := by
  intro x hx
  rw [bputL] at hx
  split at hx
  · exact dg_lt _ _ x hx
  · simp at hx
theorem bput_len {n w : Int} (h : bputE n w = 0) : ((bputL n w).length : Int) = w := by
  obtain ⟨N, W, rfl, rfl, _, _, h1⟩ := put_zero h
  rw [h1, dg_len]
theorem put_le (n w : Int) : (bputL n w).length ≤ 18 := by
  by_cases h : bputE n w = 0
  · obtain ⟨N, W, rfl, rfl, hW, _, h1⟩ := put_zero h
    rw [h1, dg_len]; exact hW
  · rw [bputL, if_neg h]; simp

/-- Get: behind the digits that were read, a is the number. -/
def getR : List Nat → Nat → Int × Nat
  | [], a => (0, a)
  | x :: l, a => if 9 < x then (7, 0) else getR l (10 * a + x)
def bgetX (l : List Nat) : Int × Nat := if 18 < l.length then (1, 0) else getR l 0
theorem getR_ok : ∀ (l : List Nat) (a : Nat), (∀ x ∈ l, x ≤ 9) → getR l a = (0, l.foldl (fun a x => 10 * a + x) a)
  | [], a, _ => rfl
  | x :: l, a, h => by
    have := h x (by simp)
    rw [getR, if_neg (by omega), getR_ok l _ (fun y hy => h y (by simp [hy]))]; rfl
theorem getR_bad : ∀ (l : List Nat) (a x : Nat), x ∈ l → 9 < x → getR l a = (7, 0)
  | [], a, x, h, _ => by simp at h
  | y :: l, a, x, h, hx => by
    rw [getR]
    by_cases hy : 9 < y
    · rw [if_pos hy]
    · rw [if_neg hy]
      rw [List.mem_cons] at h
      rcases h with rfl | h
      · exact (hy hx).elim
      · exact getR_bad l _ x h hx
theorem getX_ok {l : List Nat} (h : l.length ≤ 18) (h9 : ∀ x ∈ l, x ≤ 9) : bgetX l = (0, valD l) := by rw [bgetX, if_neg (by omega), getR_ok l 0 h9]; rfl
theorem getX_zero {l : List Nat} (h : (bgetX l).1 = 0) : l.length ≤ 18 ∧ (∀ x ∈ l, x ≤ 9) ∧ (bgetX l).2 = valD l := by
  by_cases h18 : 18 < l.length
  · rw [bgetX, if_pos h18] at h; cases h
  · by_cases h9 : ∃ x ∈ l, 9 < x
    · obtain ⟨x, hx, hx9⟩ := h9
      rw [bgetX, if_neg h18, getR_bad l 0 x hx hx9] at h; cases h
    · have h9' : ∀ x ∈ l, x ≤ 9 := fun x hx => Nat.le_of_not_lt (fun hh => h9 ⟨x, hx, hh⟩)
      exact ⟨by omega, h9', by rw [getX_ok (by omega) h9']⟩
/-- What was put is got again. -/
theorem bput_get {n w : Int} (h : bputE n w = 0) : bgetX (bputL n w) = (0, n.toNat) := by
  obtain ⟨N, W, rfl, rfl, hW, hN, h1⟩ := put_zero h
  rw [h1, getX_ok (by rw [dg_len]; exact hW) (dg_lt _ _), valD_dg, Nat.mod_eq_of_lt hN]; simp
/-- What was got is put again. -/
theorem bget_put {l : List Nat} (h : (bgetX l).1 = 0) : bputE ((bgetX l).2 : Nat) (l.length : Nat) = 0 ∧ bputL ((bgetX l).2 : Nat) (l.length : Nat) = l := by
  obtain ⟨h1, h2, h3⟩ := getX_zero h
  have h4 := bput_ok (n := valD l) (w := l.length) h1 (valD_lt _ l rfl h2)
  rw [h3]
  exact ⟨h4.1, by rw [h4.2, dg_valD _ l rfl h2]⟩

/-- Join: out is what the numbers before gave. -/
def joinR : List Int → List Int → List Nat → Int × List Nat
  | [], _, out => (0, out)
  | v :: vs, ws, out => if bputE v (ws.headD 0) = 0 then joinR vs ws.tail (out ++ bputL v (ws.headD 0)) else (bputE v (ws.headD 0), [])
def joinX (vs ws : List Int) : Int × List Nat := if vs.length ≠ ws.length ∨ 20 < vs.length then (1, []) else joinR vs ws []
/-- The widths' sum, and whether all are. -/
def totR : List Int → Int → Int × Int
  | [], s => (s, 0)
  | w :: ws, s => if 0 ≤ w ∧ w ≤ 18 then totR ws (s + w) else (0, 1)
def totX (ws : List Int) : Int × Int := if 20 < ws.length then (0, 1) else totR ws 0
def cuts : List Nat → List Int → List (List Nat)
  | _, [] => []
  | l, w :: ws => l.take w.toNat :: cuts (l.drop w.toNat) ws
def getsR : List (List Nat) → List Int → Int × List Int
  | [], out => (0, out)
  | p :: ps, out => if (bgetX p).1 = 0 then getsR ps (out ++ [(((bgetX p).2 : Nat) : Int)]) else ((bgetX p).1, [])
def splitX (l : List Nat) (ws : List Int) : Int × List Int := if (totX ws).2 ≠ 0 then ((totX ws).2, []) else if (l.length : Int) ≠ (totX ws).1 then (14, []) else getsR (cuts l ws) []
theorem totR_ok : ∀ (ws : List Int) (s : Int), (totR ws s).2 = 0 → (∀ w ∈ ws, 0 ≤ w ∧ w ≤ 18) ∧ (totR ws s).1 = s + ws.sum
  | [], s, _ => ⟨by simp, by simp [totR]⟩
  | w :: ws, s, h => by
    rw [totR] at h ⊢
    split at h
    · rename_i hw
      rw [if_pos hw]
      obtain ⟨h1, h2⟩ := totR_ok ws (s + w) h
      refine ⟨fun x hx => ?_, by rw [h2, List.sum_cons]; omega⟩
      rw [List.mem_cons] at hx
      rcases hx with rfl | hx
      · exact hw
      · exact h1 x hx
    · cases h
theorem totR_all : ∀ (ws : List Int) (s : Int), (∀ w ∈ ws, 0 ≤ w ∧ w ≤ 18) → totR ws s = (s + ws.sum, 0)
  | [], s, _ => by simp [totR]
  | w :: ws, s, h => by
    rw [totR, if_pos (h w (by simp)), totR_all ws _ (fun x hx => h x (by simp [hx])), List.sum_cons]
    congr 1; omega
theorem totX_ok {ws : List Int} (h : (totX ws).2 = 0) : ws.length ≤ 20 ∧ (∀ w ∈ ws, 0 ≤ w ∧ w ≤ 18) ∧ (totX ws).1 = ws.sum := by
  rw [totX] at h ⊢
  split
  · rename_i h20; rw [if_pos h20] at h; cases h
  · rename_i h20
    rw [if_neg h20] at h
    obtain ⟨h1, h2⟩ := totR_ok ws 0 h
    exact ⟨by omega, h1, by rw [h2]; omega⟩
theorem sum_nat : ∀ (ws : List Int), (∀ w ∈ ws, 0 ≤ w ∧ w ≤ 18) → 0 ≤ ws.sum ∧ ws.sum ≤ 18 * ws.length
  | [], _ => by simp
  | w :: ws, h => by
    have := sum_nat ws (fun x hx => h x (by simp [hx]))
    have := h w (by simp)
    rw [List.sum_cons, List.length_cons]; omega
theorem joinR_zero : ∀ (vs ws : List Int) (out : List Nat), vs.length = ws.length → (joinR vs ws out).1 = 0 →
    (∀ w ∈ ws, 0 ≤ w ∧ w ≤ 18) ∧ ∃ t, (joinR vs ws out).2 = out ++ t ∧ (t.length : Int) = ws.sum ∧ ∀ o, getsR (cuts t ws) o = (0, o ++ vs)
  | [], ws, out, hl, _ => by
    obtain rfl := List.eq_nil_of_length_eq_zero hl.symm
    exact ⟨by simp, [], by simp [joinR], by simp, by simp [cuts, getsR]⟩
  | v :: vs, [], out, hl, _ => by simp at hl
  | v :: vs, w :: ws, out, hl, h => by
    rw [joinR, List.headD_cons, List.tail_cons] at h ⊢
    split at h
    · rename_i h0
      rw [if_pos h0]
      obtain ⟨h1, t, h2, h3, h4⟩ := joinR_zero vs ws _ (by simpa using hl) h
      have hlen := bput_len h0
      obtain ⟨N, W, rfl, rfl, hW, hN, _⟩ := put_zero h0
      refine ⟨fun x hx => ?_, bputL N W ++ t, by rw [h2, List.append_assoc], by rw [List.length_append, List.sum_cons]; omega, fun o => ?_⟩
      · rw [List.mem_cons] at hx
        rcases hx with rfl | hx
        · omega
        · exact h1 x hx
      · have hl2 : (bputL N W).length = W := by omega
        have e1 : (bputL N W ++ t).take (W : Int).toNat = bputL N W := by rw [Int.toNat_natCast]; exact List.take_left' hl2
        have e2 : (bputL N W ++ t).drop (W : Int).toNat = t := by rw [Int.toNat_natCast]; exact List.drop_left' hl2
        rw [cuts, e1, e2, getsR, bput_get h0, if_pos rfl, h4]
        simp
    · rename_i h0; exact (h0 h).elim
/-- What was joined is split. -/
theorem join_split {vs ws : List Int} (h : (joinX vs ws).1 = 0) : splitX (joinX vs ws).2 ws = (0, vs) := by
  rw [joinX] at h ⊢
  split
  · rename_i h1; rw [if_pos h1] at h; cases h
  · rename_i h1
    rw [if_neg h1] at h
    have hl : vs.length = ws.length := by omega
    obtain ⟨h2, t, h3, h4, h5⟩ := joinR_zero vs ws [] hl h
    have ht : totX ws = (ws.sum, 0) := by rw [totX, if_neg (by omega), totR_all ws 0 h2]; congr 1; omega
    rw [splitX, ht, if_neg (by simp), h3, List.nil_append, if_neg (by simpa using h4), h5 []]; rfl
theorem getsR_zero : ∀ (ws : List Int) (l : List Nat) (o : List Int) (out : List Nat), (∀ w ∈ ws, 0 ≤ w ∧ w ≤ 18) → (l.length : Int) = ws.sum → (getsR (cuts l ws) o).1 = 0 →
    ∃ vs, (getsR (cuts l ws) o).2 = o ++ vs ∧ vs.length = ws.length ∧ joinR vs ws out = (0, out ++ l)
  | [], l, o, out, _, hl, _ => by
    have : l = [] := List.eq_nil_of_length_eq_zero (by simpa using hl)
    subst this
    exact ⟨[], by simp [cuts, getsR], rfl, by simp [joinR]⟩
  | w :: ws, l, o, out, hw, hl, h => by
    rw [cuts, getsR] at h ⊢
    split at h
    · rename_i h0
      rw [if_pos h0]
      have hw0 := hw w (by simp)
      have hs := sum_nat ws (fun x hx => hw x (by simp [hx]))
      rw [List.sum_cons] at hl
      have hlt : (l.take w.toNat).length = w.toNat := by rw [List.length_take]; omega
      obtain ⟨vs, h1, h2, h3⟩ := getsR_zero ws (l.drop w.toNat) _ (out ++ l.take w.toNat) (fun x hx => hw x (by simp [hx])) (by rw [List.length_drop]; omega) h
      obtain ⟨h4, h5⟩ := bget_put h0
      have e : ((l.take w.toNat).length : Int) = w := by omega
      rw [e] at h4 h5
      refine ⟨((bgetX (l.take w.toNat)).2 : Nat) :: vs, by rw [h1, List.append_assoc]; rfl, by rw [List.length_cons, List.length_cons, h2], ?_⟩
      rw [joinR, List.headD_cons, List.tail_cons, if_pos h4, h5, h3, List.append_assoc, List.take_append_drop]
    · rename_i h0; exact (h0 h).elim
/-- What was split is joined. -/
theorem split_join {l : List Nat} {ws : List Int} (h : (splitX l ws).1 = 0) : joinX (splitX l ws).2 ws = (0, l) := by
  rw [splitX] at h ⊢
  split
  · rename_i h1; rw [if_pos h1] at h; exact (h1 h).elim
  · rename_i h1
    rw [if_neg h1] at h
    split
    · rename_i h2; rw [if_pos h2] at h; cases h
    · rename_i h2
      rw [if_neg h2] at h
      obtain ⟨h3, h4, h5⟩ := totX_ok (ws := ws) (by simpa using h1)
      obtain ⟨vs, h6, h7, h8⟩ := getsR_zero ws l [] [] h4 (by rw [← h5]; omega) h
      rw [h6, List.nil_append, joinX, if_neg (by omega), h8]; rfl
theorem getsR_not : ∀ (ps : List (List Nat)) (o : List Int), (getsR ps o).1 ≠ 0 → (getsR ps o).2 = []
  | [], o, h => (h rfl).elim
  | p :: ps, o, h => by
    rw [getsR] at h ⊢
    split
    · rename_i h0; rw [if_pos h0] at h; exact getsR_not ps _ h
    · rfl
theorem split_not {l : List Nat} {ws : List Int} (h : (splitX l ws).1 ≠ 0) : (splitX l ws).2 = [] := by
  rw [splitX] at h ⊢
  split
  · rfl
  · rename_i h1
    rw [if_neg h1] at h
    split
    · rfl
    · rename_i h2; rw [if_neg h2] at h; exact getsR_not _ _ h
theorem pow18 {k : Nat} (h : k ≤ 18) : 10 ^ k ≤ 1000000000000000000 := by
  have := Nat.pow_le_pow_right (show 0 < 10 by omega) h
  simpa using this
theorem drop_at {α : Type} {l : List α} {k : Nat} (h : k < l.length) : l.drop k = l[k] :: l.drop (k + 1) := List.drop_eq_getElem_cons h
set_option linter.unusedVariables false
open Go.ChangeShapes Go.WideShapes Go.ChangeAt Go.RowKit

theorem bbs_own {w : World} {base n c : Nat} {A : Option Addr} {s : List Nat} (h : w.ownsRow base 5 1 (.slice A n c) n (U8 s)) (hs : ∀ x ∈ s, x < 256) : Bs w w.heap.size s A c := by
  obtain ⟨A', c', e, hz⟩ := bs_of_own h hs
  cases e
  exact hz
theorem bbs_nil (w : World) : Bs w w.heap.size [] none 0 := ⟨by intro j u hu; simp [U8] at hu, fun _ => rfl, by simp, by omega, by simp⟩
theorem bzs_own {w : World} {base n c : Nat} {A : Option Addr} {l : List Int} (h : w.ownsRow base 3 1 (.slice A n c) n (I64 l)) : Zs w w.heap.size l A c := by
  obtain ⟨A', c', e, _, hz⟩ := zs_of_own h
  cases e
  exact hz
theorem zs_nil (w : World) : Zs w w.heap.size [] none 0 := ⟨by intro j u hu; simp [I64] at hu, fun _ => rfl, by simp, by omega⟩
theorem bint_lit (w : World) (x : Int) : ∀ j u, (I64 [x])[j]? = some u → (w.alloc (.cells #[.int .i64 x] 3)).cell? ((⟨w.heap.size, 0, none⟩ : Addr).add j) = some u := by
  intro j u hu
  obtain ⟨ad, e, _, hc⟩ := rd_lit w #[.int .i64 x] 3 j u hu
  cases e
  exact hc
set_option linter.unusedVariables false
open Go.ChangeShapes Go.WideShapes Go.ChangeAt Go.RowKit

theorem pwidth_any (n : Int) (b : Bool) (hb : decide (0 ≤ n ∧ n ≤ 18) = b) (w : World) : Calls Tryz.prog 135 #[.int .i64 n] w fun e w' => e = .returned (.bool b) ∧ w = w' := by
  have HB := Lib.hid hb
  clear hb
  by_cases h0 : ¬ 0 ≤ n
  · have h1 : n < 0 := by omega
    obtain rfl : b = false := by rw [← HB.out]; exact decide_eq_false (by omega)
    clear HB
    go_enter Tryz.func135, Tryz.ntmps135
    go_wp2
    go_ret
    exact ⟨rfl, rfl⟩
  have h1 : 0 ≤ n := by omega
  by_cases h2 : n ≤ 18
  · obtain rfl : b = true := by rw [← HB.out]; exact decide_eq_true (by omega)
    clear HB h0
    go_enter Tryz.func135, Tryz.ntmps135
    go_wp2
    go_ret
    exact ⟨rfl, rfl⟩
  · obtain rfl : b = false := by rw [← HB.out]; exact decide_eq_false (by omega)
    have h3 : 18 < n := by omega
    clear HB h0
    go_enter Tryz.func135, Tryz.ntmps135
    go_wp2
    go_ret
    exact ⟨rfl, rfl⟩
set_option linter.unusedVariables false
open Go.ChangeShapes Go.WideShapes Go.ChangeAt Go.RowKit

set_option maxRecDepth 100000 in
set_option maxHeartbeats 1600000 in
theorem bpget_any (l : List Nat) (n : Nat) (hn : n = l.length) (E : Int) (N : Nat) (hE : bgetX l = (E, N)) (A : Option Addr) (c : Nat) (w : World) (hA : Bs w w.heap.size l A c) :
    Calls Tryz.prog 140 #[.slice A n c] w fun e w' => e = .returned (.tuple #[.int .i64 (N : Nat), .int .i64 E]) ∧ w = w' := by
  have h63 : n ≤ 9223372036854775807 := by have := hA.len; have := hA.cap; omega
  have HN := Lib.hid hn
  have HA := Lib.hid hA
  have HE := Lib.hid hE
  clear hn hA hE
  by_cases h18 : 18 < n
  · have h1 : bgetX l = (1, 0) := by rw [bgetX, if_pos (by rw [← HN.out]; exact h18)]
    obtain ⟨rfl, rfl⟩ : E = 1 ∧ N = 0 := by have := HE.out; rw [h1] at this; exact ⟨(Prod.mk.inj this).1.symm, (Prod.mk.inj this).2.symm⟩
    clear HE h1
    have hd := decide_eq_false (show ¬ ((0 : Int) ≤ (n : Int) ∧ (n : Int) ≤ 18) by omega)
    go_enter Tryz.func140, Tryz.ntmps140
    go_wp2_with (go_at_call 135; refine (pwidth_any (n : Int) false hd _).mono ?_; rintro e w1 ⟨rfl, rfl⟩)
    go_ret2
    exact ⟨rfl, rfl⟩
  have h18' : n ≤ 18 := by omega
  have HR := Lib.hid (show getR l 0 = (E, N) by rw [← HE.out, bgetX, if_neg (by rw [← HN.out]; exact h18)])
  clear h18 HE h63
  have hd := decide_eq_true (show (0 : Int) ≤ (n : Int) ∧ (n : Int) ≤ 18 by omega)
  go_enter Tryz.func140, Tryz.ntmps140
  go_wp2_with (go_at_call 135; refine (pwidth_any (n : Int) true hd _).mono ?_; rintro e w1 ⟨rfl, rfl⟩)
  clear hd
  go_loop [4, 6, 13] (fun t _ i => ∃ (k a : Nat), k ≤ n ∧ i = .int .i64 k ∧ t = .int .i64 (a : Nat) ∧ a < 10 ^ k ∧ getR (l.drop k) a = (E, N)) (fun _ _ i => n - (intOf i).toNat)
  case atStart => exact ⟨0, 0, Nat.zero_le _, rfl, rfl, by decide, HR.out⟩
  case round =>
    obtain ⟨k, a, hk, rfl, rfl, ha, hr⟩ := hrel
    by_cases hlt : k < n
    · have hkl : k < l.length := by rw [← HN.out]; exact hlt
      obtain ⟨ad, rfl, hb, hc⟩ := HA.out.rd k _ (U8_at l k hkl)
      rw [drop_at hkl] at hr
      generalize l[k] = x at *
      have h10 := pow18 (show k ≤ 18 by omega)
      have h11 : k + 1 ≤ 18 := by omega
      have HS := Lib.hid hr
      clear hr hkl
      by_cases hx : 9 < x
      · obtain ⟨rfl, rfl⟩ : E = 7 ∧ N = 0 := by have := HS.out; rw [getR, if_pos hx] at this; exact ⟨(Prod.mk.inj this).1.symm, (Prod.mk.inj this).2.symm⟩
        clear HS
        go_wp2
        go_ret2
        exact ⟨rfl, rfl⟩
      · have hx9 : x ≤ 9 := by omega
        have hr2 : getR (l.drop (k + 1)) (10 * a + x) = (E, N) := by have := HS.out; rwa [getR, if_neg hx] at this
        have ha2 : 10 * a + x < 10 ^ (k + 1) := by rw [Nat.pow_succ]; omega
        have hb2 := Nat.lt_of_lt_of_le ha2 (pow18 h11)
        have HR2 := Lib.hid hr2
        have HA2 := Lib.hid ha2
        have HAK := Lib.hid ha
        have w1 : IntKind.i64.wrap (10 * (a : Int)) = 10 * (a : Int) := IntWalk.i64_in _ (by omega)
        have w2 : IntKind.i64.wrap ((a : Int) * 10) = (a : Int) * 10 := IntWalk.i64_in _ (by omega)
        have w3 : IntKind.i64.wrap (10 * (a : Int) + (x : Int)) = 10 * (a : Int) + (x : Int) := IntWalk.i64_in _ (by omega)
        have w4 : IntKind.i64.wrap ((a : Int) * 10 + (x : Int)) = (a : Int) * 10 + (x : Int) := IntWalk.i64_in _ (by omega)
        clear HS hx hr2 ha2 ha h10
        go_wp2
        go_round
        case rel => exact ⟨k + 1, 10 * a + x, by omega, by go_num, by go_num, HA2.out, HR2.out⟩
        case measure => simp [intOf]; omega
    · have e : l.drop k = [] := List.drop_of_length_le (by rw [← HN.out]; omega)
      rw [e, getR] at hr
      obtain ⟨rfl, rfl⟩ : E = 0 ∧ N = a := ⟨(Prod.mk.inj hr).1.symm, (Prod.mk.inj hr).2.symm⟩
      have h10 := Nat.lt_of_lt_of_le ha (pow18 (show k ≤ 18 by omega))
      clear hr e ha
      go_wp2
      go_ret2
      exact ⟨rfl, rfl⟩
set_option linter.unusedVariables false
open Go.ChangeShapes Go.WideShapes Go.ChangeAt Go.RowKit

theorem pput_arg (n s : Int) (w : World) (h : n < 0 ∨ s < 0 ∨ 18 < s) : Calls Tryz.prog 96 #[.int .i64 n, .int .i64 s] w fun e w' => e = .returned (.tuple #[.slice none 0 0, .int .i64 1]) ∧ w = w' := by
  by_cases h1 : n < 0
  · clear h
    go_enter Tryz.func96, Tryz.ntmps96
    go_wp2
    go_ret2
    exact ⟨rfl, rfl⟩
  · have h2 : 0 ≤ n := by omega
    have hd := decide_eq_false (show ¬ (0 ≤ s ∧ s ≤ 18) by omega)
    clear h
    go_enter Tryz.func96, Tryz.ntmps96
    go_wp2_with (go_at_call 135; refine (pwidth_any s false hd _).mono ?_; rintro e w1 ⟨rfl, rfl⟩)
    go_ret2
    exact ⟨rfl, rfl⟩
set_option maxRecDepth 100000 in
set_option maxHeartbeats 1600000 in
theorem pput_fit (N s : Nat) (E : Int) (p : List Nat) (hE : bputE N s = E) (hp : bputL N s = p) (w : World) (hN : N < 9223372036854775808) (hs : s ≤ 18) :
    Calls Tryz.prog 96 #[.int .i64 N, .int .i64 s] w fun e w' => ∃ A c, e = .returned (.tuple #[.slice A (p.length : Nat) c, .int .i64 E]) ∧ Bs w' w'.heap.size p A c ∧ Below w.heap.size w w' := by
  obtain ⟨i0, hi, hz0, hz1, hz2⟩ := info_parts infoU8
  have HE := Lib.hid hE
  have HP := Lib.hid hp
  have hd := decide_eq_true (show (0 : Int) ≤ (s : Int) ∧ (s : Int) ≤ 18 by omega)
  have g1 : (0 : Int) ≤ (s : Int) := by omega
  clear hE hp
  go_enter Tryz.func96, Tryz.ntmps96
  go_wp2_with (first | (go_at_call 135; refine (pwidth_any (s : Int) true hd _).mono ?_; rintro e w1 ⟨rfl, rfl⟩) | (at_make; refine wpList_make_full _ rfl _ _ 30 rfl w.heap.size 5 i0 (.int .u8 0) 1 Tryz.underlying30 hi hz0 hz1 _ _ _ _ s rfl rfl (by omega) (by omega) ?b2 ?b3 (Nat.le_refl _) ?_))
  case b2 => rw [hz2]; omega
  case b3 => unfold maxLen; omega
  intro w1 hown hg
  have hown1 : w1.ownsRow w.heap.size 5 1 (.slice (some ⟨w.heap.size, 0, none⟩) s s) s (U8 (dgTo N s 0)) := by
    rw [toList_madeCells_one] at hown
    rw [dgTo_zero, U8, List.map_replicate]
    exact hown
  have hbel : Below w.heap.size w w1 := (Below.refl _ _).grown hg (Nat.le_refl _) (by simp)
  have s1 : IntKind.i64.wrap ((s : Int) - 1) = (s : Int) - 1 := IntWalk.i64_in _ (by omega)
  clear hown hg
  go_wp2
  go_loopw [0, 7] (fun m i wr => ∃ k : Nat, k ≤ s ∧ i = .int .i64 ((s : Int) - 1 - (k : Int)) ∧ m = .int .i64 (N / 10 ^ k : Nat) ∧ wr.ownsRow w.heap.size 5 1 (.slice (some ⟨w.heap.size, 0, none⟩) s s) s (U8 (dgTo N s k)) ∧ Below w.heap.size w wr) (fun _ i _ => (intOf i + 1).toNat)
  case atStart => exact ⟨0, Nat.zero_le _, by simp, by simp, hown1, hbel⟩
  case round =>
    clear hown1 hbel
    obtain ⟨k, hk, rfl, rfl, hown, hbel⟩ := hrel
    have hy : N / 10 ^ k < 9223372036854775808 := Nat.lt_of_le_of_lt (Nat.div_le_self _ _) hN
    by_cases hlt : k < s
    · have hc2 : ∃ v, wr.cell? ⟨w.heap.size, s - 1 - k, none⟩ = some v := by
        rw [hown.cellAt (s - 1 - k) (by omega), U8, List.getElem?_map]
        rw [List.getElem?_eq_getElem (by rw [dgTo_len _ _ _ hk]; omega)]
        exact ⟨_, rfl⟩
      obtain ⟨v2, hc2⟩ := hc2
      have hf := hown.frozenAt (s - 1 - k)
      have hst := (hown.stored (s - 1 - k) (.int .u8 ((N / 10 ^ k % 10 : Nat) : Int))).1
      have hset : (U8 (dgTo N s k)).set (s - 1 - k) (.int .u8 ((N / 10 ^ k % 10 : Nat) : Int)) = U8 (dgTo N s (k + 1)) := by
        rw [← dgTo_set N s k hlt, U8, U8, List.map_set]
      rw [hset] at hst
      have hnx : N / 10 ^ (k + 1) = N / 10 ^ k / 10 := by rw [Nat.pow_succ, Nat.div_div_eq_div_mul]
      have HNX := Lib.hid hnx
      clear hset hnx
      generalize N / 10 ^ k = y at *
      have HST := Lib.hid hst
      have HOW := Lib.hid hown
      have HC2 := hc2
      clear hst hown
      obtain ⟨j, hj⟩ : ∃ j : Nat, j = s - 1 - k := ⟨_, rfl⟩
      have hj2 : (s : Int) - 1 - (k : Int) = (j : Int) := by omega
      have hjs : (j : Int) < (s : Int) := by omega
      have hj3 : IntKind.i64.wrap ((j : Int) - 1) = (j : Int) - 1 := IntWalk.i64_in _ (by omega)
      rw [← hj] at HC2 hf HST hc2
      rw [hj2]
      have HJ := Lib.hid hj
      have HJ2 := Lib.hid hj2
      clear hj hj2 HC2
      go_wp2
      go_roundw
      case rel =>
        refine ⟨k + 1, by omega, ?_, ?_, ?_, hbel.setCell (Nat.le_refl _) _⟩
        · have := HJ2.out; exact congrArg (Value.int .i64) (by omega)
        · rw [HNX.out]; go_num
        · exact HST.out
      case measure => simp only [intOf]; omega
    · have e1 : k = s := by omega
      subst e1
      rw [dgTo_all] at hown
      have hneg : (k : Int) - 1 - (k : Int) = -1 := by omega
      rw [hneg]
      have HO := Lib.hid hown
      clear hown
      by_cases hov : 10 ^ k ≤ N
      · have hpos : 0 < N / 10 ^ k := Nat.div_pos hov (pow_pos10 k)
        obtain ⟨e1, e2⟩ := bput_over hs hov
        obtain rfl : E = 23 := by rw [← HE.out, e1]
        obtain rfl : p = [] := by rw [← HP.out, e2]
        clear HE HP e1 e2 hov
        generalize N / 10 ^ k = y at *
        go_wp2
        go_ret2
        exact ⟨none, 0, rfl, ⟨by intro j u hu; simp [U8] at hu, fun _ => rfl, by simp, by omega, by simp⟩, hbel⟩
      · have hz : N / 10 ^ k = 0 := Nat.div_eq_of_lt (by omega)
        obtain ⟨e1, e2⟩ := bput_ok hs (show N < 10 ^ k by omega)
        obtain rfl : E = 0 := by rw [← HE.out, e1]
        have hpl : p = dg N k := by rw [← HP.out, e2]
        have hl : p.length = k := by rw [hpl, dg_len]
        have HPL := Lib.hid hpl
        have HL := Lib.hid hl
        rw [hz]
        clear HE HP e1 e2 hov hpl hl hz
        go_wp2
        go_ret2
        refine ⟨some ⟨w.heap.size, 0, none⟩, k, by rw [HL.out]; rfl, ?_, hbel⟩
        rw [HPL.out]
        exact ⟨Rd.of_own HO.out, by simp, by rw [dg_len]; omega, by omega, fun x hx => by have := dg_lt N k x hx; omega⟩
theorem bpput_any (n s : Int) (E : Int) (p : List Nat) (hE : bputE n s = E) (hp : bputL n s = p) (w : World) (hn : n ≤ 9223372036854775807) :
    Calls Tryz.prog 96 #[.int .i64 n, .int .i64 s] w fun e w' => ∃ A c, e = .returned (.tuple #[.slice A (p.length : Nat) c, .int .i64 E]) ∧ Bs w' w'.heap.size p A c ∧ Below w.heap.size w w' := by
  by_cases h : n < 0 ∨ s < 0 ∨ 18 < s
  · obtain ⟨e1, e2⟩ := bput_arg h
    obtain rfl : E = 1 := by rw [← hE, e1]
    obtain rfl : p = [] := by rw [← hp, e2]
    refine (pput_arg n s w h).mono ?_
    rintro e w1 ⟨rfl, rfl⟩
    exact ⟨none, 0, rfl, ⟨by intro j u hu; simp [U8] at hu, fun _ => rfl, by simp, by omega, by simp⟩, Below.refl _ _⟩
  · obtain ⟨N, rfl⟩ : ∃ N : Nat, n = N := ⟨n.toNat, by omega⟩
    obtain ⟨S, rfl⟩ : ∃ S : Nat, s = S := ⟨s.toNat, by omega⟩
    exact pput_fit N S E p hE hp w (by omega) (by omega)
set_option linter.unusedVariables false
open Go.ChangeShapes Go.WideShapes Go.ChangeAt Go.RowKit

set_option maxRecDepth 100000 in
set_option maxHeartbeats 1600000 in
theorem pjoin_any (vs ws : List Int) (n m : Nat) (hn : n = vs.length) (hm : m = ws.length) (E : Int) (p : List Nat) (hE : joinX vs ws = (E, p)) (A A' : Option Addr) (c c' : Nat) (w : World) (hA : Zs w w.heap.size vs A c) (hA' : Zs w w.heap.size ws A' c') (hv : ∀ v ∈ vs, In64 v) :
    Calls Tryz.prog 63 #[.slice A n c, .slice A' m c'] w fun e w' => ∃ A2 c2, e = .returned (.tuple #[.slice A2 (p.length : Nat) c2, .int .i64 E]) ∧ Bs w' w'.heap.size p A2 c2 ∧ Below w.heap.size w w' := by
  obtain ⟨i0, hi, hz0, hz1, hz2⟩ := info_parts infoU8
  have h63 : n ≤ 9223372036854775807 := by have := hA.len; have := hA.cap; omega
  have h63' : m ≤ 9223372036854775807 := by have := hA'.len; have := hA'.cap; omega
  have HN := Lib.hid hn
  have HM := Lib.hid hm
  have HA := Lib.hid hA
  have HA' := Lib.hid hA'
  have HE := Lib.hid hE
  have HV := Lib.hid hv
  clear hn hm hA hA' hE hv
  by_cases h1 : n ≠ m ∨ 20 < n
  · have h2 : joinX vs ws = (1, []) := by rw [joinX, if_pos (by rw [← HN.out, ← HM.out]; exact h1)]
    obtain ⟨rfl, rfl⟩ : E = 1 ∧ p = [] := by have := HE.out; rw [h2] at this; exact ⟨(Prod.mk.inj this).1.symm, (Prod.mk.inj this).2.symm⟩
    clear HE h2
    by_cases h3 : n ≠ m
    · have b1 : ((n : Int) != (m : Int)) = true := by simp; omega
      have b2 : (n != m) = true := by simpa using h3
      clear h1
      go_enter Tryz.func63, Tryz.ntmps63
      go_wp2
      go_ret2
      exact ⟨none, 0, rfl, bbs_nil _, Below.refl _ _⟩
    · obtain rfl : n = m := by omega
      have h4 : 20 < n := by omega
      clear h1 h3
      go_enter Tryz.func63, Tryz.ntmps63
      go_wp2
      go_ret2
      exact ⟨none, 0, rfl, bbs_nil _, Below.refl _ _⟩
  obtain rfl : n = m := by omega
  have h20 : n ≤ 20 := by omega
  have HR := Lib.hid (show joinR vs ws [] = (E, p) by rw [← HE.out, joinX, if_neg (by rw [← HN.out, ← HM.out]; exact h1)])
  clear h1 HE
  go_enter Tryz.func63, Tryz.ntmps63
  go_wp2
  go_loopw [6, 24] (fun v i wr => ∃ (k : Nat) (out : List Nat), k ≤ n ∧ i = .int .i64 k ∧ wr.ownsRow w.heap.size 5 1 v out.length (U8 out) ∧ (∀ x ∈ out, x ≤ 9) ∧ out.length ≤ 18 * k ∧ joinR (vs.drop k) (ws.drop k) out = (E, p) ∧ Below w.heap.size w wr) (fun _ i _ => n - (intOf i).toNat)
  case atStart => exact ⟨0, [], Nat.zero_le _, rfl, World.ownsRow_lit w #[] 0 (Nat.le_refl _) (by decide) rfl, by simp, by simp, HR.out, (Below.refl _ _).alloc (Nat.le_refl _) _⟩
  case round =>
    obtain ⟨k, out, hk, rfl, hown, h9, hlen, hjr, hbel⟩ := hrel
    have HO := Lib.hid hown
    have H9 := Lib.hid h9
    have HBL := Lib.hid hbel
    have HJR := Lib.hid hjr
    clear hown h9 hjr hbel
    by_cases hlt : k < n
    · have hkv : k < vs.length := by rw [← HN.out]; exact hlt
      have hkw : k < ws.length := by rw [← HM.out]; exact hlt
      obtain ⟨x, hx⟩ : ∃ x, vs[k]? = some x := ⟨_, List.getElem?_eq_getElem hkv⟩
      obtain ⟨y, hy⟩ : ∃ y, ws[k]? = some y := ⟨_, List.getElem?_eq_getElem hkw⟩
      have hdv : vs.drop k = x :: vs.drop (k + 1) := by rw [drop_at hkv]; congr 1; rw [List.getElem?_eq_getElem hkv] at hx; exact Option.some.inj hx
      have hdw : ws.drop k = y :: ws.drop (k + 1) := by rw [drop_at hkw]; congr 1; rw [List.getElem?_eq_getElem hkw] at hy; exact Option.some.inj hy
      have hx64 : In64 x := HV.out x (List.mem_of_getElem? hx)
      obtain ⟨ad, rfl, hb, hc⟩ := (HA.out.next HBL.out).at hx
      obtain ⟨ad', rfl, hb', hc'⟩ := (HA'.out.next HBL.out).at hy
      have HX := Lib.hid hx64
      have hj := HJR.out
      rw [hdv, hdw, joinR, List.headD_cons, List.tail_cons] at hj
      have b1 : (0 : Int) ≤ (k : Int) := by omega
      have b2 : (k : Int) < (n : Int) := by omega
      clear hkv hkw hx hy hdv hdw HJR
      by_cases h0 : bputE x y = 0
      · rw [if_pos h0] at hj
        have HJ := Lib.hid hj
        clear hj
        obtain ⟨q, hq⟩ : ∃ q, q = bputL x y := ⟨_, rfl⟩
        have hq18 : q.length ≤ 18 := by rw [hq]; exact put_le x y
        have hq9 : ∀ z ∈ q, z ≤ 9 := by rw [hq]; exact put_lt x y
        have HQ9 := Lib.hid hq9
        have HP0 := Lib.hid h0
        have HQ := Lib.hid hq
        rw [← hq] at HJ
        clear hq9 h0 hq
        go_wp2_with (first | (go_at_call 96; refine (bpput_any x y 0 q HP0.out HQ.out.symm _ HX.out.2).mono ?_; rintro e w1 ⟨A1, c1, rfl, hb1, hbd⟩; have HB1 := Lib.hid hb1; have HBD := Lib.hid (hbd.mono (Nat.le_refl _)); have HBL1 := Lib.hid (HBL.out.trans (hbd.mono HBL.out.size)); clear hb1 hbd) | (at_builtin; refine wpList_append_rd _ rfl _ _ 30 rfl w.heap.size 5 i0 (.int .u8 0) 1 Tryz.underlying30 hi hz0 hz1 hz2 rfl _ out.length (U8 out) rfl (own_below HO.out HBD.out) _ _ q.length c1 (U8 q) rfl HB1.out.rd (by simp [U8]) HB1.out.nil (U8_one _) ?c3 ?c4 ?c5 ?_))
        case c3 => unfold maxLen; omega
        case c4 => omega
        case c5 => have := HBL1.out.size; omega
        intro v' w2 hown' hgrow
        have hown1 : w2.ownsRow w.heap.size 5 1 v' (out ++ q).length (U8 (out ++ q)) := by
          rw [List.length_append, U8, List.map_append]; exact hown'
        have hbel2 : Below w.heap.size w w2 := HBL1.out.grown hgrow HBL1.out.size (fun j hj => own_ge (own_below HO.out HBD.out) hj)
        have HO2 := Lib.hid hown1
        clear hown' hgrow hown1
        go_wp2
        go_roundw
        case rel => exact ⟨k + 1, out ++ q, by omega, by go_num, HO2.out, fun z hz => (List.mem_append.1 hz).elim (H9.out z) (HQ9.out z), by rw [List.length_append]; omega, HJ.out, hbel2⟩
        case measure => simp [intOf]; omega
      · rw [if_neg h0] at hj
        have hEE : bputE x y = E := (Prod.mk.inj hj).1
        obtain rfl : p = [] := (Prod.mk.inj hj).2.symm
        obtain ⟨q, hq⟩ : ∃ q, q = bputL x y := ⟨_, rfl⟩
        have hne : (E != 0) = true := by rw [← hEE]; simpa using h0
        have HEE := Lib.hid hEE
        have HQ := Lib.hid hq
        clear h0 hj hEE hq
        go_wp2_with (go_at_call 96; refine (bpput_any x y E q HEE.out HQ.out.symm _ HX.out.2).mono ?_; rintro e w1 ⟨A1, c1, rfl, hb1, hbd⟩; have HBL1 := Lib.hid (HBL.out.trans (hbd.mono HBL.out.size)); clear hb1 hbd)
        go_ret2
        exact ⟨none, 0, rfl, bbs_nil _, HBL1.out⟩
    · have e1 : k = n := by omega
      subst e1
      have hj := HJR.out
      rw [List.drop_of_length_le (by rw [← HN.out]; omega), joinR] at hj
      obtain ⟨rfl, rfl⟩ : E = 0 ∧ p = out := ⟨(Prod.mk.inj hj).1.symm, (Prod.mk.inj hj).2.symm⟩
      obtain ⟨A2, c2, rfl, hbs⟩ := bs_of_own HO.out (fun x hx => by have := H9.out x hx; omega)
      have HBS := Lib.hid hbs
      clear HJR hj hbs
      go_wp2
      go_ret2
      exact ⟨A2, c2, rfl, HBS.out, HBL.out⟩
end Go.Proofs.YtpniolinndlepaaGreatDoor
