/-
  What package layout's functions answer, plainly: widths, what a stripe says as numbers, as digits, and back; that these are one another's. No program; conditions: none.
-/
import Derived.Test.YtpeccmcojocgkaaTicketMath
import Derived.Test.YtpeccmcojocgkaaBcdMath
namespace Go.Proofs.Ytpeccmcojocgkaa
set_option linter.unusedVariables false

/-- What a stripe says: the ticket, the key's number, the journey, the version. -/
structure Rg where
  t : Tk
  key : Int
  left : Int
  inn : Int
  ver : Int
def suitB (u left inn : Int) : Bool := decide (0 ≤ left) && (decide (left ≤ u) && (decide (0 ≤ inn) && decide (inn ≤ 40)))
theorem suitB_iff (u left inn : Int) : suitB u left inn = true ↔ 0 ≤ left ∧ left ≤ u ∧ 0 ≤ inn ∧ inn ≤ 40 := by simp [suitB]
/-- The widths ahead of the journey's. -/
def widF (k : Int) : List Int := if k = 3 then [1, 7, 1, 1, 5, 3, 1, 1, 1] else if k = 4 then [1, 7, 1, 1, 5, 3, 1, 2, 2, 2] else [1, 7, 1, 1, 5, 3, 1, 2, 2]
def widE (k : Int) : Int := if 1 ≤ k ∧ k ≤ 4 then 0 else 8
def widL (k : Int) : List Int := if 1 ≤ k ∧ k ≤ 4 then widF k ++ [2, 2, 2] else []
/-- The numbers ahead of the journey's. -/
def valF (t : Tk) : List Int := if t.kind = 4 then [t.kind, t.ser, t.cls, t.card, t.day, t.days, t.epoch, t.frm, t.till, t.uses] else [t.kind, t.ser, t.cls, t.card, t.day, t.days, t.epoch, t.frm, t.till]
def valL (r : Rg) : List Int := valF r.t ++ [r.left, r.inn, r.key]
def argB (r : Rg) : Bool := okT r.t && (suitB r.t.uses r.left r.inn && (decide (0 ≤ r.key) && (decide (r.key ≤ 99) && (r.ver == 0))))
theorem argB_iff (r : Rg) : argB r = true ↔ okT r.t = true ∧ suitB r.t.uses r.left r.inn = true ∧ 0 ≤ r.key ∧ r.key ≤ 99 ∧ r.ver = 0 := by simp [argB]
def fitB (r : Rg) : Bool := (r.t.seat == 0) && decide (r.t.ser ≤ 9999999)
theorem fitB_iff (r : Rg) : fitB r = true ↔ r.t.seat = 0 ∧ r.t.ser ≤ 9999999 := by simp [fitB]
def lputX (r : Rg) : Int × List Nat := if argB r = false then (1, []) else if fitB r = false then (18, []) else joinX (valL r) (widL r.t.kind)
def zeroR : Rg := ⟨⟨0, 0, 0, 0, 0, 0, 0, 0, 0, 0, 0⟩, 0, 0, 0, 0⟩
/-- What the numbers v of a stripe of kind k say. -/
def toldR (k : Int) (v : List Int) : Rg :=
  if k = 4 then ⟨⟨v.getD 1 0, v.getD 0 0, v.getD 7 0, v.getD 8 0, v.getD 2 0, v.getD 3 0, 0, v.getD 4 0, v.getD 5 0, v.getD 9 0, v.getD 6 0⟩, v.getD 12 0, v.getD 10 0, v.getD 11 0, 0⟩
  else ⟨⟨v.getD 1 0, v.getD 0 0, v.getD 7 0, v.getD 8 0, v.getD 2 0, v.getD 3 0, 0, v.getD 4 0, v.getD 5 0, k.tmod 3, v.getD 6 0⟩, v.getD 11 0, v.getD 9 0, v.getD 10 0, 0⟩
def rightR (r : Rg) : Bool := okT r.t && suitB r.t.uses r.left r.inn
theorem rightR_iff (r : Rg) : rightR r = true ↔ okT r.t = true ∧ suitB r.t.uses r.left r.inn = true := by simp [rightR]
def lgetN (k : Int) (s : Int × List Int) : Int × Rg := if s.1 ≠ 0 then (s.1, zeroR) else if rightR (toldR k s.2) = true then (0, toldR k s.2) else (9, zeroR)
def lgetX : List Nat → Int × Rg
  | [] => (14, zeroR)
  | x :: l => if 9 < x then (7, zeroR) else if widE (x : Int) ≠ 0 then (8, zeroR) else lgetN x (splitX (x :: l) (widL x))
theorem widL_cases (k : Int) (h : 1 ≤ k ∧ k ≤ 4) : ∃ ws, widL k = 1 :: ws := by
  rw [widL, if_pos h, widF]
  split
  · exact ⟨_, rfl⟩
  · split <;> exact ⟨_, rfl⟩
theorem totX_pos {ws : List Int} (h : (totX (1 :: ws)).2 = 0) : 1 ≤ (totX (1 :: ws)).1 := by
  obtain ⟨_, h2, h3⟩ := totX_ok h
  rw [h3, List.sum_cons]
  have := sum_nat ws (fun w hw => h2 w (by simp [hw]))
  omega
theorem getX_one (x : Nat) : getX [x] = if 9 < x then (7, 0) else (0, x) := by
  rw [getX, if_neg (by simp), getR]
  by_cases h : 9 < x
  · rw [if_pos h, if_pos h]
  · rw [if_neg h, if_neg h, getR]; simp
theorem getsR_out : ∀ (ps : List (List Nat)) (o : List Int), (getsR ps o).1 = 0 → ∃ vs, (getsR ps o).2 = o ++ vs ∧ vs.length = ps.length
  | [], o, _ => ⟨[], by simp [getsR], rfl⟩
  | p :: ps, o, h => by
    rw [getsR] at h ⊢
    by_cases h0 : (getX p).1 = 0
    · rw [if_pos h0] at h ⊢
      obtain ⟨vs, h1, h2⟩ := getsR_out ps _ h
      exact ⟨((getX p).2 : Nat) :: vs, by rw [h1, List.append_assoc]; rfl, by simp [h2]⟩
    · rw [if_neg h0] at h; exact (h0 h).elim
theorem cutsN_len : ∀ (ws : List Int) (l : List Nat), (cuts l ws).length = ws.length
  | [], _ => rfl
  | w :: ws, l => by rw [cuts, List.length_cons, List.length_cons, cutsN_len ws]
/-- The first number of a split whose first width is 1 is the first digit. -/
theorem split_head {l : List Nat} {ws v : List Int} (h : splitX l (1 :: ws) = (0, v)) : ∃ x q vs, l = x :: q ∧ x ≤ 9 ∧ v = (x : Int) :: vs ∧ vs.length = ws.length := by
  rw [splitX] at h
  by_cases h1 : (totX (1 :: ws)).2 ≠ 0
  · rw [if_pos h1] at h; exact (h1 (Prod.mk.inj h).1).elim
  · rw [if_neg h1] at h
    by_cases h2 : (l.length : Int) ≠ (totX (1 :: ws)).1
    · rw [if_pos h2] at h; exact absurd (Prod.mk.inj h).1 (by decide)
    · rw [if_neg h2] at h
      have h3 := totX_pos (ws := ws) (by omega)
      match l, h with
      | [], _ => simp at h2; omega
      | x :: q, h =>
        rw [cuts, getsR, show (x :: q).take (1 : Int).toNat = [x] from rfl, getX_one] at h
        by_cases hx : 9 < x
        · rw [if_pos hx, if_neg (by decide)] at h; exact absurd (Prod.mk.inj h).1 (by decide)
        · rw [if_neg hx, if_pos rfl] at h
          obtain ⟨vs, h4, h5⟩ := getsR_out _ [(x : Int)] (by have := congrArg Prod.fst h; simpa using this)
          refine ⟨x, q, vs, rfl, by omega, ?_, by rw [h5, cutsN_len]⟩
          have := congrArg Prod.snd h
          simp only [List.nil_append] at this
          rw [← this]
          exact h4
theorem splitN_len {l : List Nat} {ws v : List Int} (h : splitX l ws = (0, v)) : v.length = ws.length := by
  rw [splitX] at h
  by_cases h1 : (totX ws).2 ≠ 0
  · rw [if_pos h1] at h; exact (h1 (Prod.mk.inj h).1).elim
  · rw [if_neg h1] at h
    by_cases h2 : (l.length : Int) ≠ (totX ws).1
    · rw [if_pos h2] at h; exact absurd (Prod.mk.inj h).1 (by decide)
    · rw [if_neg h2] at h
      obtain ⟨vs, h4, h5⟩ := getsR_out (cuts l ws) [] (by rw [h])
      rw [h, List.nil_append] at h4
      rw [show v = vs from h4, h5, cutsN_len]
/-- Digits of a number, each of its width, one behind the other. -/
def flat (vs ws : List Int) : List Nat := (List.zipWith (fun v w => dg v.toNat w.toNat) vs ws).flatten
theorem joinR_flat : ∀ (vs ws : List Int) (out : List Nat), vs.length = ws.length → (joinR vs ws out).1 = 0 → (joinR vs ws out).2 = out ++ flat vs ws ∧ ∀ p ∈ vs.zip ws, putE p.1 p.2 = 0
  | [], ws, out, hl, _ => by simp [joinR, flat]
  | v :: vs, [], out, hl, _ => by simp at hl
  | v :: vs, w :: ws, out, hl, h => by
    rw [joinR, List.headD_cons, List.tail_cons] at h ⊢
    by_cases h0 : putE v w = 0
    · rw [if_pos h0] at h ⊢
      obtain ⟨h1, h2⟩ := joinR_flat vs ws _ (by simpa using hl) h
      obtain ⟨N, W, rfl, rfl, _, _, h3⟩ := put_zero h0
      refine ⟨?_, ?_⟩
      · rw [h1, h3, List.append_assoc]
        simp [flat]
      · intro p hp
        rw [List.zip_cons_cons, List.mem_cons] at hp
        rcases hp with rfl | hp
        · exact h0
        · exact h2 p hp
    · rw [if_neg h0] at h; exact (h0 h).elim
theorem join_flat {vs ws : List Int} {p : List Nat} (h : joinX vs ws = (0, p)) : vs.length = ws.length ∧ p = flat vs ws ∧ ∀ q ∈ vs.zip ws, putE q.1 q.2 = 0 := by
  rw [joinX] at h
  split at h
  · exact absurd (Prod.mk.inj h).1 (by decide)
  · rename_i h1
    have hl : vs.length = ws.length := by omega
    obtain ⟨h2, h3⟩ := joinR_flat vs ws [] hl (by rw [h])
    rw [h, List.nil_append] at h2
    exact ⟨hl, h2, h3⟩
theorem flat_append : ∀ (a b c d : List Int), a.length = b.length → flat (a ++ c) (b ++ d) = flat a b ++ flat c d := by
  intro a b c d h
  rw [flat, List.zipWith_append h, List.flatten_append]
  rfl
theorem putE_lt {n w : Int} (h : putE n w = 0) : 0 ≤ n ∧ n < 10 ^ w.toNat := by
  obtain ⟨N, W, rfl, rfl, _, h1, _⟩ := put_zero h
  refine ⟨by omega, ?_⟩
  rw [Int.toNat_natCast]
  exact_mod_cast h1
theorem lput_ok {r : Rg} {p : List Nat} (h : lputX r = (0, p)) : argB r = true ∧ fitB r = true ∧ joinX (valL r) (widL r.t.kind) = (0, p) := by
  rw [lputX] at h
  cases ha : argB r with
  | false => rw [ha, if_pos rfl] at h; exact absurd (Prod.mk.inj h).1 (by decide)
  | true =>
    cases hf : fitB r with
    | false => rw [ha, hf, if_neg (by decide), if_pos rfl] at h; exact absurd (Prod.mk.inj h).1 (by decide)
    | true => rw [ha, hf, if_neg (by decide), if_neg (by decide)] at h; exact ⟨rfl, rfl, h⟩
theorem lput_not {r : Rg} {E : Int} {p : List Nat} (h : lputX r = (E, p)) (hE : E ≠ 0) : p = [] := by
  rw [lputX] at h
  split at h
  · exact (Prod.mk.inj h).2.symm
  · split at h
    · exact (Prod.mk.inj h).2.symm
    · rw [joinX] at h
      split at h
      · exact (Prod.mk.inj h).2.symm
      · have : ∀ (vs ws : List Int) (o : List Nat), (joinR vs ws o).1 ≠ 0 → (joinR vs ws o).2 = [] := by
          intro vs
          induction vs with
          | nil => intro ws o h; exact (h rfl).elim
          | cons v vs ih =>
            intro ws o h
            rw [joinR] at h ⊢
            by_cases h0 : putE v (ws.headD 0) = 0
            · rw [if_pos h0] at h ⊢; exact ih _ _ h
            · rw [if_neg h0]
        have := this _ _ _ (by rw [h]; exact hE)
        rw [h] at this
        exact this
theorem kind_in {t : Tk} (h : okT t = true) : 1 ≤ t.kind ∧ t.kind ≤ 4 := by
  have := (numsB_iff t).1 ((okT_iff t).1 h).1
  omega
theorem told_val {r : Rg} (ha : argB r = true) (hf : fitB r = true) : toldR r.t.kind (valL r) = r := by
  obtain ⟨ho, _, _, _, hv⟩ := (argB_iff r).1 ha
  obtain ⟨hs, _⟩ := (fitB_iff r).1 hf
  have hu := uses_of ho
  obtain ⟨⟨ser, kind, frm, till, cls, card, seat, day, days, uses, epoch⟩, key, left, inn, ver⟩ := r
  simp only at hv hs hu
  subst hv hs
  by_cases h4 : kind = 4
  · subst h4; simp [toldR, valL, valF]
  · obtain rfl := hu.2 h4
    simp [toldR, valL, valF, if_neg h4]
theorem lput_get {r : Rg} {p : List Nat} (h : lputX r = (0, p)) : lgetX p = (0, r) := by
  obtain ⟨ha, hf, hj⟩ := lput_ok h
  obtain ⟨ho, hs, _, _, _⟩ := (argB_iff r).1 ha
  have hk := kind_in ho
  have hsp := join_split (vs := valL r) (ws := widL r.t.kind) (by rw [hj])
  rw [hj] at hsp
  obtain ⟨ws, hw⟩ := widL_cases _ hk
  have hsp2 := hsp
  simp only at hsp2
  rw [hw] at hsp2
  obtain ⟨x, q, vs, rfl, hx, hv, _⟩ := split_head hsp2
  have hkx : r.t.kind = (x : Int) := by
    have : valL r = r.t.kind :: (valL r).tail := by unfold valL valF; split <;> rfl
    rw [this] at hv
    exact (List.cons.inj hv).1
  rw [lgetX, if_neg (by omega), ← hkx, widE, if_pos hk, if_neg (by decide)]
  simp only at hsp
  rw [hsp, lgetN, if_neg (by simp), told_val ha hf, if_pos ((rightR_iff r).2 ⟨ho, hs⟩)]
theorem list12 {α : Type} {v : List α} (h : v.length = 12) : ∃ a b c d e f g i j k l m, v = [a, b, c, d, e, f, g, i, j, k, l, m] := by
  match v, h with
  | [a, b, c, d, e, f, g, i, j, k, l, m], _ => exact ⟨a, b, c, d, e, f, g, i, j, k, l, m, rfl⟩
theorem list13 {α : Type} {v : List α} (h : v.length = 13) : ∃ a b c d e f g i j k l m n, v = [a, b, c, d, e, f, g, i, j, k, l, m, n] := by
  match v, h with
  | [a, b, c, d, e, f, g, i, j, k, l, m, n], _ => exact ⟨a, b, c, d, e, f, g, i, j, k, l, m, n, rfl⟩
theorem widL_len {k : Int} (h : 1 ≤ k ∧ k ≤ 4) : (widL k).length = if k = 4 then 13 else 12 := by
  rw [widL, if_pos h, widF]
  by_cases h3 : k = 3
  · rw [if_pos h3, if_neg (by omega)]; rfl
  · rw [if_neg h3]
    by_cases h4 : k = 4
    · rw [if_pos h4, if_pos h4]; rfl
    · rw [if_neg h4, if_neg h4]; rfl
/-- What a split of that kind says has just these numbers. -/
theorem val_told {k : Int} {v : List Int} (hk : 1 ≤ k ∧ k ≤ 4) (hl : v.length = (widL k).length) (h0 : v.head? = some k) : valL (toldR k v) = v ∧ (toldR k v).t.kind = k ∧ (toldR k v).t.seat = 0 ∧ (toldR k v).ver = 0 := by
  rw [widL_len hk] at hl
  by_cases h4 : k = 4
  · rw [if_pos h4] at hl
    obtain ⟨a, b, c, d, e, f, g, i, j, x, l, m, n, rfl⟩ := list13 hl
    obtain rfl : a = k := by simpa using h0
    subst h4
    simp [toldR, valL, valF]
  · rw [if_neg h4] at hl
    obtain ⟨a, b, c, d, e, f, g, i, j, x, l, m, rfl⟩ := list12 hl
    obtain rfl : a = k := by simpa using h0
    simp [toldR, valL, valF, if_neg h4]
theorem told_lt {k : Int} {v : List Int} {p : List Nat} (hk : 1 ≤ k ∧ k ≤ 4) (hj : joinX v (widL k) = (0, p)) : (toldR k v).t.ser ≤ 9999999 ∧ 0 ≤ (toldR k v).key ∧ (toldR k v).key ≤ 99 := by
  obtain ⟨hl, _, hz⟩ := join_flat hj
  rw [widL_len hk] at hl
  by_cases h4 : k = 4
  · rw [if_pos h4] at hl
    obtain ⟨a, b, c, d, e, f, g, i, j, x, l, m, n, rfl⟩ := list13 hl
    subst h4
    have h1 := putE_lt (hz (b, 7) (by simp [widL, widF]))
    have h2 := putE_lt (hz (n, 2) (by simp [widL, widF]))
    simp [toldR] at h1 h2 ⊢
    omega
  · rw [if_neg h4] at hl
    obtain ⟨a, b, c, d, e, f, g, i, j, x, l, m, rfl⟩ := list12 hl
    have h1 := putE_lt (hz (b, 7) (by by_cases h3 : k = 3 <;> simp [widL, widF, if_pos hk, h3, h4]))
    have h2 := putE_lt (hz (m, 2) (by by_cases h3 : k = 3 <;> simp [widL, widF, if_pos hk, h3, h4]))
    simp [toldR, if_neg h4] at h1 h2 ⊢
    omega
theorem lget_ok {l : List Nat} {r : Rg} (h : lgetX l = (0, r)) : ∃ x q v, l = x :: q ∧ x ≤ 9 ∧ (1 ≤ (x : Int) ∧ (x : Int) ≤ 4) ∧ splitX l (widL x) = (0, v) ∧ r = toldR x v ∧ rightR r = true := by
  match l, h with
  | [], h => exact absurd (Prod.mk.inj h).1 (by decide)
  | x :: q, h =>
    rw [lgetX] at h
    by_cases hx : 9 < x
    · rw [if_pos hx] at h; exact absurd (Prod.mk.inj h).1 (by decide)
    · rw [if_neg hx] at h
      by_cases hw : 1 ≤ (x : Int) ∧ (x : Int) ≤ 4
      · rw [widE, if_pos hw, if_neg (by decide), lgetN] at h
        by_cases hs : (splitX (x :: q) (widL x)).1 ≠ 0
        · rw [if_pos hs] at h; exact (hs (Prod.mk.inj h).1).elim
        · rw [if_neg hs] at h
          by_cases hr : rightR (toldR x (splitX (x :: q) (widL x)).2) = true
          · rw [if_pos hr] at h
            obtain rfl := (Prod.mk.inj h).2
            exact ⟨x, q, _, rfl, by omega, hw, by rw [show (0 : Int) = (splitX (x :: q) (widL x)).1 by omega], rfl, hr⟩
          · rw [if_neg hr] at h; exact absurd (Prod.mk.inj h).1 (by decide)
      · rw [widE, if_neg hw, if_pos (by decide)] at h; exact absurd (Prod.mk.inj h).1 (by decide)
theorem lget_not {l : List Nat} {E : Int} {r : Rg} (h : lgetX l = (E, r)) (hE : E ≠ 0) : r = zeroR := by
  match l, h with
  | [], h => exact (Prod.mk.inj h).2.symm
  | x :: q, h =>
    rw [lgetX] at h
    split at h
    · exact (Prod.mk.inj h).2.symm
    · split at h
      · exact (Prod.mk.inj h).2.symm
      · rw [lgetN] at h
        split at h
        · exact (Prod.mk.inj h).2.symm
        · split at h
          · exact absurd (Prod.mk.inj h).1.symm hE
          · exact (Prod.mk.inj h).2.symm
theorem lget_put {l : List Nat} {r : Rg} (h : lgetX l = (0, r)) : lputX r = (0, l) ∧ rightR r = true := by
  obtain ⟨x, q, v, rfl, hx, hw, hs, rfl, hr⟩ := lget_ok h
  refine ⟨?_, hr⟩
  obtain ⟨ws, hws⟩ := widL_cases _ hw
  have hs2 := hs
  rw [hws] at hs2
  obtain ⟨x', q', vs, e1, _, hv, _⟩ := split_head hs2
  obtain rfl : x = x' := (List.cons.inj e1).1
  have hj := split_join (l := x :: q) (ws := widL x) (by rw [hs])
  rw [hs] at hj
  simp only at hj
  obtain ⟨h1, h2, h3, h4⟩ := val_told hw (splitN_len hs) (by rw [hv]; rfl)
  obtain ⟨h5, h6, h7⟩ := told_lt hw hj
  obtain ⟨h8, h9⟩ := (rightR_iff _).1 hr
  rw [lputX, (argB_iff _).2 ⟨h8, h9, h6, h7, h4⟩, if_neg (by decide), (fitB_iff _).2 ⟨h3, h5⟩, if_neg (by decide), h1, h2, hj]
theorem valF_len {t : Tk} (h : 1 ≤ t.kind ∧ t.kind ≤ 4) : (valF t).length = (widF t.kind).length := by
  rw [valF, widF]
  by_cases h4 : t.kind = 4
  · rw [if_pos h4, if_neg (by omega), if_pos h4]; rfl
  · rw [if_neg h4]
    by_cases h3 : t.kind = 3
    · rw [if_pos h3]; rfl
    · rw [if_neg h3, if_neg h4]; rfl
/-- What is put: the digits of the ticket, then those of the journey and of the key. -/
theorem lput_form {r : Rg} {p : List Nat} (h : lputX r = (0, p)) : p = flat (valF r.t) (widF r.t.kind) ++ (dg r.left.toNat 2 ++ (dg r.inn.toNat 2 ++ dg r.key.toNat 2)) ∧ 0 ≤ r.left ∧ r.left < 100 ∧ 0 ≤ r.inn ∧ r.inn < 100 := by
  obtain ⟨ha, hf, hj⟩ := lput_ok h
  obtain ⟨ho, hs, _⟩ := (argB_iff r).1 ha
  have hk := kind_in ho
  obtain ⟨hl, rfl, hz⟩ := join_flat hj
  have hw : widL r.t.kind = widF r.t.kind ++ [2, 2, 2] := by rw [widL, if_pos hk]
  rw [hw] at hz
  have hfl := valF_len hk
  have z1 := putE_lt (hz (r.left, 2) (by rw [valL, List.zip_append hfl]; simp))
  have z2 := putE_lt (hz (r.inn, 2) (by rw [valL, List.zip_append hfl]; simp))
  refine ⟨?_, z1.1, by simpa using z1.2, z2.1, by simpa using z2.2⟩
  rw [hw, valL, flat_append _ _ _ _ hfl]
  congr 1
theorem lput_len {r s : Rg} {p q : List Nat} (h : lputX r = (0, p)) (h2 : lputX s = (0, q)) (hk : r.t.kind = s.t.kind) : p.length = q.length := by
  obtain ⟨ha, hf, hj⟩ := lput_ok h
  obtain ⟨ha', hf', hj'⟩ := lput_ok h2
  have e : ∀ {vs ws : List Int} {p : List Nat}, joinX vs ws = (0, p) → (p.length : Int) = ws.sum := by
    intro vs ws p hj
    have hj0 := hj
    rw [joinX] at hj
    split at hj
    · exact absurd (Prod.mk.inj hj).1 (by decide)
    · obtain ⟨_, t, h3, h4, _⟩ := joinR_zero vs ws [] (join_flat hj0).1 (by rw [hj])
      rw [hj, List.nil_append] at h3
      rw [show p = t from h3]; exact h4
  have e1 := e hj
  have e2 := e hj'
  rw [hk] at e1
  omega
theorem lput_inj {r s : Rg} {p : List Nat} (h : lputX r = (0, p)) (h2 : lputX s = (0, p)) : r = s := by
  have h3 := lput_get h
  rw [lput_get h2] at h3
  exact (Prod.mk.inj h3).2.symm
theorem dg_two {x : Int} (h : 0 ≤ x) (h1 : x < 100) : ∃ a b : Nat, dg x.toNat 2 = [a, b] ∧ ((a : Int) * 10 + (b : Int)) = x ∧ a ≤ 9 ∧ b ≤ 9 := by
  obtain ⟨n, rfl⟩ : ∃ n : Nat, x = n := ⟨x.toNat, by omega⟩
  refine ⟨n / 10 % 10, n % 10, by simp [dg], by omega, by omega, by omega⟩
theorem lput_lt {r : Rg} {E : Int} {p : List Nat} (h : lputX r = (E, p)) : ∀ x ∈ p, x < 256 := by
  by_cases hE : E = 0
  · subst hE
    intro x hx
    obtain ⟨ha, hf, hj⟩ := lput_ok h
    obtain ⟨hl, rfl, _⟩ := join_flat hj
    rw [flat, List.mem_flatten] at hx
    obtain ⟨l, hl1, hl2⟩ := hx
    obtain ⟨i, hi⟩ := List.mem_iff_getElem?.1 hl1
    rw [List.getElem?_zipWith] at hi
    split at hi
    · cases hi; have := dg_lt _ _ x hl2; omega
    · cases hi
  · rw [lput_not h hE]; simp
end Go.Proofs.Ytpeccmcojocgkaa
