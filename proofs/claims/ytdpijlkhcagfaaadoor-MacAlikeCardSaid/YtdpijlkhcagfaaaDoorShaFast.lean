/-
  The digest, reckoned so that the kernel can follow it: each number is reckoned out before it is used again. No memory and no program here.
-/
import Derived.Test.YtdpijlkhcagfaaaDoorShaPSum
namespace Go.Proofs.YtdpijlkhcagfaaaDoor

/-- k at n; n is reckoned out first. -/
def force {β : Type} (n : Nat) (k : Nat → β) : β :=
  match n with
  | 0 => k 0
  | m + 1 => k (m + 1)
theorem force_eq {β : Type} (n : Nat) (k : Nat → β) : force n k = k n := by cases n <;> rfl
def forceL {β : Type} : List Nat → (List Nat → β) → β
  | [], k => k []
  | x :: l, k => force x fun y => forceL l fun m => k (y :: m)
theorem forceL_eq {β : Type} : ∀ (l : List Nat) (k : List Nat → β), forceL l k = k l
  | [], _ => rfl
  | x :: l, k => by rw [forceL, force_eq, forceL_eq l]

def rq (x k : Nat) : Nat := x / 2 ^ k ||| x * 2 ^ (32 - k) % 4294967296
theorem rq_eq {x k : Nat} (hx : x < 4294967296) (hk : k < 32) : rq x k = itr k x := or_rot x k hx hk

/-- The word of place t. -/
def wAt (w : List Nat) (t : Nat) : Nat := wNext w (wl w t) t
theorem wl_get (w : List Nat) (n t : Nat) (h : t < n) : (wl w n).getD t 0 = wAt w t := by
  induction n with
  | zero => omega
  | succ n ih =>
    rw [wl, List.getD_eq_getElem?_getD]
    by_cases e : t < n
    · rw [List.getElem?_append_left (by rw [length_wl]; exact e), ← List.getD_eq_getElem?_getD, ih e]
    · have e' : t = n := by omega
      subst e'
      rw [List.getElem?_append_right (by rw [length_wl]; exact Nat.le_refl _), length_wl, Nat.sub_self]
      rfl
theorem wAt_small (w : List Nat) (t : Nat) (h : t < 16) : wAt w t = w.getD t 0 := by unfold wAt wNext; rw [if_pos h]
theorem wAt_next (w : List Nat) (t : Nat) : wAt w (t + 16) = (wAt w t + twoN (wAt w (t + 1)) 7 18 8 + wAt w (t + 9) + twoN (wAt w (t + 14)) 17 19 1024) % 4294967296 := by
  rw [wAt, wNext, if_neg (by omega), wl_get w _ _ (by omega), wl_get w _ _ (by omega), wl_get w _ _ (by omega), wl_get w _ _ (by omega)]
  rfl
theorem wAt_lt (w : List Nat) (hw : ∀ x ∈ w, x < 4294967296) (t : Nat) : wAt w t < 4294967296 := by
  rw [← wl_get w (t + 1) t (by omega)]
  exact getD_lt (wl_lt w hw (t + 1)) t

/-- The rounds that are left: their constants; the sixteen words that come; the eight. -/
def goF : List Nat → (x0 x1 x2 x3 x4 x5 x6 x7 x8 x9 x10 x11 x12 x13 x14 x15 a b c d e f g h : Nat) → St
  | [], _, _, _, _, _, _, _, _, _, _, _, _, _, _, _, _, a, b, c, d, e, f, g, h => ⟨a, b, c, d, e, f, g, h⟩
  | k :: ks, x0, x1, x2, x3, x4, x5, x6, x7, x8, x9, x10, x11, x12, x13, x14, x15, a, b, c, d, e, f, g, h =>
    force ((h + (rq e 6 ^^^ rq e 11 ^^^ rq e 25) + ((e &&& f) ||| ((4294967295 ^^^ e) &&& g)) + k + x0) % 4294967296) fun t1 =>
    force ((t1 + ((rq a 2 ^^^ rq a 13 ^^^ rq a 22) + ((a &&& b) ||| (a &&& c) ||| (b &&& c))) % 4294967296) % 4294967296) fun a' =>
    force ((d + t1) % 4294967296) fun e' =>
    force ((x0 + (rq x1 7 ^^^ rq x1 18 ^^^ x1 / 8) + x9 + (rq x14 17 ^^^ rq x14 19 ^^^ x14 / 1024)) % 4294967296) fun y =>
    goF ks x1 x2 x3 x4 x5 x6 x7 x8 x9 x10 x11 x12 x13 x14 x15 y a' a b c e' e f g

theorem goF_eq (h : St) (w : List Nat) (hh : h.ok) (hw : ∀ x ∈ w, x < 4294967296) : ∀ (n t : Nat), t + n = 64 → ∀ v, v = rnds h (wl w 64) t →
    goF (kTab.drop t) (wAt w t) (wAt w (t + 1)) (wAt w (t + 2)) (wAt w (t + 3)) (wAt w (t + 4)) (wAt w (t + 5)) (wAt w (t + 6)) (wAt w (t + 7)) (wAt w (t + 8)) (wAt w (t + 9)) (wAt w (t + 10)) (wAt w (t + 11)) (wAt w (t + 12)) (wAt w (t + 13)) (wAt w (t + 14)) (wAt w (t + 15)) v.a v.b v.c v.d v.e v.f v.g v.h = rnds h (wl w 64) 64
  | 0, t, ht, v, hv => by
    have e : t = 64 := by omega
    subst e
    rw [List.drop_of_length_le (by rw [length_kTab]; exact Nat.le_refl _), ← hv]
    rfl
  | n + 1, t, ht, v, hv => by
    have hok : v.ok := by rw [hv]; exact rnds_ok hh _ _
    obtain ⟨h1, h2, h3, h4, h5, h6, h7, h8⟩ := hok
    have l1 := wAt_lt w hw (t + 1)
    have l14 := wAt_lt w hw (t + 14)
    have hk : kTab.drop t = kTab.getD t 0 :: kTab.drop (t + 1) := by
      have hl : t < kTab.length := by rw [length_kTab]; omega
      rw [List.drop_eq_getElem_cons hl, List.getD_eq_getElem?_getD, List.getElem?_eq_getElem hl]; rfl
    have hx : (wl w 64).getD t 0 = wAt w t := wl_get w 64 t (by omega)
    have hnx : rnds h (wl w 64) (t + 1) = rnd v (kTab.getD t 0) (wAt w t) := by rw [hv, ← hx]; rfl
    have hN := wAt_next w t
    have ih := goF_eq h w hh hw n (t + 1) (by omega) _ hnx.symm
    simp only [Nat.add_assoc, Nat.reduceAdd] at ih
    rw [hk, goF]
    simp only [force_eq]
    rw [rq_eq h5 (by omega), rq_eq h5 (by omega), rq_eq h5 (by omega), rq_eq h1 (by omega), rq_eq h1 (by omega), rq_eq h1 (by omega), rq_eq l1 (by omega), rq_eq l1 (by omega), rq_eq l14 (by omega), rq_eq l14 (by omega), choose_nat _ _ _ h5 h6 h7, most_nat _ _ _ h1 h2 h3]
    have e2 : (wAt w t + (itr 7 (wAt w (t + 1)) ^^^ itr 18 (wAt w (t + 1)) ^^^ wAt w (t + 1) / 8) + wAt w (t + 9) + (itr 17 (wAt w (t + 14)) ^^^ itr 19 (wAt w (t + 14)) ^^^ wAt w (t + 14) / 1024)) % 4294967296 = wAt w (t + 16) := hN.symm
    rw [e2]
    exact ih

/-- The sums of each place, each reckoned out. -/
def sumF {β : Type} : St → St → (St → β) → β
  | ⟨a', b', c', d', e', f', g', i'⟩, ⟨a, b, c, d, e, f, g, i⟩, k =>
    force ((a' + a) % 4294967296) fun a => force ((b' + b) % 4294967296) fun b => force ((c' + c) % 4294967296) fun c => force ((d' + d) % 4294967296) fun d =>
    force ((e' + e) % 4294967296) fun e => force ((f' + f) % 4294967296) fun f => force ((g' + g) % 4294967296) fun g => force ((i' + i) % 4294967296) fun i => k ⟨a, b, c, d, e, f, g, i⟩
theorem sumF_eq {β : Type} (v h : St) (k : St → β) : sumF v h k = k (sumSt v h) := by
  obtain ⟨a', b', c', d', e', f', g', i'⟩ := v
  obtain ⟨a, b, c, d, e, f, g, i⟩ := h
  simp only [sumF, force_eq, sumSt]
/-- The rounds of a block whose words lie before us. -/
def rowF : St → List Nat → St
  | ⟨a, b, c, d, e, f, g, i⟩, w => goF kTab (w.getD 0 0) (w.getD 1 0) (w.getD 2 0) (w.getD 3 0) (w.getD 4 0) (w.getD 5 0) (w.getD 6 0) (w.getD 7 0) (w.getD 8 0) (w.getD 9 0) (w.getD 10 0) (w.getD 11 0) (w.getD 12 0) (w.getD 13 0) (w.getD 14 0) (w.getD 15 0) a b c d e f g i
theorem rowF_eq (h : St) (w : List Nat) (hh : h.ok) (hw : ∀ x ∈ w, x < 4294967296) : rowF h w = rnds h (wl w 64) 64 := by
  have e := goF_eq h w hh hw 64 0 (by omega) h rfl
  rw [List.drop_zero] at e
  simp only [Nat.zero_add, wAt_small w _ (show (0:Nat) < 16 by omega), wAt_small w _ (show (1:Nat) < 16 by omega), wAt_small w _ (show (2:Nat) < 16 by omega), wAt_small w _ (show (3:Nat) < 16 by omega), wAt_small w _ (show (4:Nat) < 16 by omega), wAt_small w _ (show (5:Nat) < 16 by omega), wAt_small w _ (show (6:Nat) < 16 by omega), wAt_small w _ (show (7:Nat) < 16 by omega), wAt_small w _ (show (8:Nat) < 16 by omega), wAt_small w _ (show (9:Nat) < 16 by omega), wAt_small w _ (show (10:Nat) < 16 by omega), wAt_small w _ (show (11:Nat) < 16 by omega), wAt_small w _ (show (12:Nat) < 16 by omega), wAt_small w _ (show (13:Nat) < 16 by omega), wAt_small w _ (show (14:Nat) < 16 by omega), wAt_small w _ (show (15:Nat) < 16 by omega)] at e
  rw [← e]
  obtain ⟨a, b, c, d, e, f, g, i⟩ := h
  rw [rowF]
/-- A block; each number of what comes of it is reckoned out. -/
def blockF {β : Type} (h : St) (w : List Nat) (k : St → β) : β :=
  forceL w fun w => sumF (rowF h w) h k
theorem blockF_eq {β : Type} (h : St) (w : List Nat) (k : St → β) (hh : h.ok) (hw : ∀ x ∈ w, x < 4294967296) : blockF h w k = k (blockN h w) := by
  rw [blockF, forceL_eq, sumF_eq, rowF_eq h w hh hw, blockN]

/-- The words behind all blocks of p. -/
def blocksF {β : Type} : (n : Nat) → St → List Nat → (St → β) → β
  | 0, h, _, k => k h
  | n + 1, h, p, k => forceL (p.drop 64) fun r => blockF h (wordsOf (p.take 64)) fun h' => blocksF n h' r k
theorem blocksN_shift (h : St) (p : List Nat) (j : Nat) : blocksN h p (j + 1) = blocksN (blockN h (wordsOf (p.take 64))) (p.drop 64) j := by
  induction j with
  | zero => rfl
  | succ j ih =>
    have e1 : blocksN h p (j + 1 + 1) = blockN (blocksN h p (j + 1)) (wordsOf ((p.drop (64 * (j + 1))).take 64)) := by rw [blocksN]
    have e2 : blocksN (blockN h (wordsOf (p.take 64))) (p.drop 64) (j + 1) = blockN (blocksN (blockN h (wordsOf (p.take 64))) (p.drop 64) j) (wordsOf (((p.drop 64).drop (64 * j)).take 64)) := by rw [blocksN]
    rw [e1, e2, ih, List.drop_drop, show 64 * (j + 1) = 64 + 64 * j by omega]
theorem blocksF_eq {β : Type} : ∀ (n : Nat) (h : St) (p : List Nat) (k : St → β), h.ok → (∀ x ∈ p, x < 256) → blocksF n h p k = k (blocksN h p n)
  | 0, _, _, _, _, _ => rfl
  | n + 1, h, p, k, hh, hp => by
    have hw : ∀ x ∈ wordsOf (p.take 64), x < 4294967296 := wordsOf_lt _ (fun x hx => hp x (List.mem_of_mem_take hx))
    have hok : (blockN h (wordsOf (p.take 64))).ok := sumSt_ok _ _
    rw [blocksF, forceL_eq, blockF_eq h _ _ hh hw, blocksF_eq n _ _ k hok (fun x hx => hp x (List.mem_of_mem_drop hx)), blocksN_shift]
/-- The digest. -/
def digestF (l : List Nat) : List Nat := forceL (padN l) fun p => blocksF (p.length / 64) beginN p fun h => forceL (bytesOf h.list) id
theorem digestF_eq (l : List Nat) (hl : ∀ x ∈ l, x < 256) : digestN l = digestF l := by
  rw [digestF, forceL_eq, blocksF_eq _ _ _ _ beginN_ok (padN_lt l hl), forceL_eq, digestN, sumSt8, nblk, id]
theorem abc_fast : digestN [97, 98, 99] = [186, 120, 22, 191, 143, 1, 207, 234, 65, 65, 64, 222, 93, 174, 34, 35, 176, 3, 97, 163, 150, 23, 122, 156, 180, 16, 255, 97, 242, 0, 21, 173] := by
  rw [digestF_eq _ (by decide)]; kernel_rfl
end Go.Proofs.YtdpijlkhcagfaaaDoor
