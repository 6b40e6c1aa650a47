/-
  Package layout's readings, plainly; their boxes; the landed Widths.
-/
import Derived.Test.YtpniolinndlepaaGreatDoorTicketM
import Derived.Test.YtpniolinndlepaaGreatDoorBcdA
import Derived.Test.YtpniolinndlepaaGreatDoorBase
import Derived.BigRegion
import Derived.RegionTactic
import Derived.Laws.EntriesVeiled
import Derived.Shelf.Abstract
import Derived.OwnWalk
namespace Go.Proofs.YtpniolinndlepaaGreatDoor
set_option linter.unusedVariables false

/-- What a stripe says: the ticket, the key's number, the journey, the version. -/
structure Rg where
  t : Tk
  key : Int
  left : Int
  inn : Int
  ver : Int
def suitB (u left inn : Int) : Bool := decide (0 ≤ left) && (decide (left ≤ u) && (decide (0 ≤ inn) && decide (inn ≤ 40)))
theorem suitB_iff (u left inn : Int) : suitB u left inn = true ↔ 0 ≤ left ∧ left ≤ u ∧ 0 ≤ inn ∧ inn ≤ 40 := by simp [suitB]
/-- The widths ahead of the journey's. -/
def widF (k : Int) : List Int := if k = 3 then [1, 7, 1, 1, 5, 3, 1, 1, 1] else if k = 4 then [1, 7, 1, 1, 5, 3, 1, 2, 2, 2] else [1, 7, 1, 1, 5, 3, 1, 2, 2]
def widE (k : Int) : Int := if 1 ≤ k ∧ k ≤ 4 then 0 else 8
def widL (k : Int) : List Int := if 1 ≤ k ∧ k ≤ 4 then widF k ++ [2, 2, 2] else []
/-- The numbers ahead of the journey's. -/
def valF (t : Tk) : List Int := if t.kind = 4 then [t.kind, t.ser, t.cls, t.card, t.day, t.days, t.epoch, t.frm, t.till, t.uses] else [t.kind, t.ser, t.cls, t.card, t.day, t.days, t.epoch, t.frm, t.till]
def valL (r : Rg) : List Int := valF r.t ++ [r.left, r.inn, r.key]
def argB (r : Rg) : Bool := okT r.t && (suitB r.t.uses r.left r.inn && (decide (0 ≤ r.key) && (decide (r.key ≤ 99) && (r.ver == 0))))
theorem argB_iff (r : Rg) : argB r = true ↔ okT r.t = true ∧ suitB r.t.uses r.left r.inn = true ∧ 0 ≤ r.key ∧ r.key ≤ 99 ∧ r.ver = 0 := by simp [argB]
def fitB (r : Rg) : Bool := (r.t.seat == 0) && decide (r.t.ser ≤ 9999999)
theorem fitB_iff (r : Rg) : fitB r = true ↔ r.t.seat = 0 ∧ r.t.ser ≤ 9999999 := by simp [fitB]
def lputX (r : Rg) : Int × List Nat := if argB r = false then (1, []) else if fitB r = false then (18, []) else joinX (valL r) (widL r.t.kind)
def zeroR : Rg := ⟨⟨0, 0, 0, 0, 0, 0, 0, 0, 0, 0, 0⟩, 0, 0, 0, 0⟩
/-- What the numbers v of a stripe of kind k say. -/
def toldR (k : Int) (v : List Int) : Rg :=
  if k = 4 then ⟨⟨v.getD 1 0, v.getD 0 0, v.getD 7 0, v.getD 8 0, v.getD 2 0, v.getD 3 0, 0, v.getD 4 0, v.getD 5 0, v.getD 9 0, v.getD 6 0⟩, v.getD 12 0, v.getD 10 0, v.getD 11 0, 0⟩
  else ⟨⟨v.getD 1 0, v.getD 0 0, v.getD 7 0, v.getD 8 0, v.getD 2 0, v.getD 3 0, 0, v.getD 4 0, v.getD 5 0, k.tmod 3, v.getD 6 0⟩, v.getD 11 0, v.getD 9 0, v.getD 10 0, 0⟩
def rightR (r : Rg) : Bool := okT r.t && suitB r.t.uses r.left r.inn
theorem rightR_iff (r : Rg) : rightR r = true ↔ okT r.t = true ∧ suitB r.t.uses r.left r.inn = true := by simp [rightR]
def lgetN (k : Int) (s : Int × List Int) : Int × Rg := if s.1 ≠ 0 then (s.1, zeroR) else if rightR (toldR k s.2) = true then (0, toldR k s.2) else (9, zeroR)
def lgetX : List Nat → Int × Rg
  | [] => (14, zeroR)
  | x :: l => if 9 < x then (7, zeroR) else if widE (x : Int) ≠ 0 then (8, zeroR) else lgetN x (splitX (x :: l) (widL x))
theorem widL_cases (k : Int) (h : 1 ≤ k ∧ k ≤ 4) : ∃ ws, widL k = 1 :: ws := by
  rw [widL, if_pos h, widF]
  split
  · exact ⟨_, rfl⟩
  · split <;> exact ⟨_, rfl⟩
theorem totX_pos {ws : List Int} (h : (totX (1 :: ws)).2 = 0) : 1 ≤ (totX (1 :: ws)).1 := by
  obtain ⟨_, h2, h3⟩ := totX_ok h
  rw [h3, List.sum_cons]
  have := sum_nat ws (fun w hw => h2 w (by simp [hw]))
  omega
theorem getX_one (x : Nat) : bgetX [x] = if 9 < x then (7, 0) else (0, x) := by
  rw [bgetX, if_neg (by simp), getR]
  by_cases h : 9 < x
  · rw [if_pos h, if_pos h]
  · rw [if_neg h, if_neg h, getR]; simp
theorem getsR_out : ∀ (ps : List (List Nat)) (o : List Int), (getsR ps o).1 = 0 → ∃ vs, (getsR ps o).2 = o ++ vs ∧ vs.length = ps.length
  | [], o, _ => ⟨[], by simp [getsR], rfl⟩
  | p :: ps, o, h => by
    rw [getsR] at h ⊢
    by_cases h0 : (bgetX p).1 = 0
    · rw [if_pos h0] at h ⊢
      obtain ⟨vs, h1, h2⟩ := getsR_out ps _ h
      exact ⟨((bgetX p).2 : Nat) :: vs, by rw [h1, List.append_assoc]; rfl, by simp [h2]⟩
    · rw [if_neg h0] at h; exact (h0 h).elim
theorem cutsN_len : ∀ (ws : List Int) (l : List Nat), (cuts l ws).length = ws.length
  | [], _ => rfl
  | w :: ws, l => by rw [cuts, List.length_cons, List.length_cons, cutsN_len ws]
/-- The first number of a split whose first width is 1 is the first digit. -/
theorem split_head {l : List Nat} {ws v : List Int} (h : splitX l (1 :: ws) = (0, v)) : ∃ x q vs, l = x :: q ∧ x ≤ 9 ∧ v = (x : Int) :: vs ∧ vs.length = ws.length := by
  rw [splitX] at h
  by_cases h1 : (totX (1 :: ws)).2 ≠ 0
  · rw [if_pos h1] at h; exact (h1 (Prod.mk.inj h).1).elim
  · rw [if_neg h1] at h
    by_cases h2 : (l.length : Int) ≠ (totX (1 :: ws)).1
    · rw [if_pos h2] at h; exact absurd (Prod.mk.inj h).1 (by decide)
    · rw [if_neg h2] at h
      have h3 := totX_pos (ws := ws) (by omega)
      match l, h with
      | [], _ => simp at h2; omega
      | x :: q, h =>
        rw [cuts, getsR, show (x :: q).take (1 : Int).toNat = [x] from rfl, getX_one] at h
        by_cases hx : 9 < x
        · rw [if_pos hx, if_neg (by decide)] at h; exact absurd (Prod.mk.inj h).1 (by decide)
        · rw [if_neg hx, if_pos rfl] at h
          obtain ⟨vs, h4, h5⟩ := getsR_out _ [(x : Int)] (by have := congrArg Prod.fst h; simpa using this)
          refine ⟨x, q, vs, rfl, by omega, ?_, by rw [h5, cutsN_len]⟩
          have := congrArg Prod.snd h
          simp only [List.nil_append] at this
          rw [← this]
          exact h4
theorem splitN_len {l : List Nat} {ws v : List Int} (h : splitX l ws = (0, v)) : v.length = ws.length := by
  rw [splitX] at h
  by_cases h1 : (totX ws).2 ≠ 0
  · rw [if_pos h1] at h; exact (h1 (Prod.mk.inj h).1).elim
  · rw [if_neg h1] at h
    by_cases h2 : (l.length : Int) ≠ (totX ws).1
    · rw [if_pos h2] at h; exact absurd (Prod.mk.inj h).1 (by decide)
    · rw [if_neg h2] at h
      obtain ⟨vs, h4, h5⟩ := getsR_out (cuts l ws) [] (by rw [h])
      rw [h, List.nil_append] at h4
      rw [show v = vs from h4, h5, cutsN_len]
/-- Digits of a number, each of its width, one behind the other. -/
def flat (vs ws : List Int) : List Nat := (List.zipWith (fun v w => dg v.toNat w.toNat) vs ws).flatten
theorem joinR_flat : ∀ (vs ws : List Int) (out : List Nat), vs.length = ws.length → (joinR vs ws out).1 = 0 → (joinR vs ws out).2 = out ++ flat vs ws ∧ ∀ p ∈ vs.zip ws, bputE p.1 p.2 = 0
  | [], ws, out, hl, _ => by simp [joinR, flat]
  | v :: vs, [], out, hl, _ => by simp at hl
  | v :: vs, w :: ws, out, hl, h => by
    rw [joinR, List.headD_cons, List.tail_cons] at h ⊢
    by_cases h0 : bputE v w = 0
    · rw [if_pos h0] at h ⊢
      obtain ⟨h1, h2⟩ := joinR_flat vs ws _ (by simpa using hl) h
      obtain ⟨N, W, rfl, rfl, _, _, h3⟩ := put_zero h0
      refine ⟨?_, ?_⟩
      · rw [h1, h3, List.append_assoc]
        simp [flat]
      · intro p hp
        rw [List.zip_cons_cons, List.mem_cons] at hp
        rcases hp with rfl | hp
        · exact h0
        · exact h2 p hp
    · rw [if_neg h0] at h; exact (h0 h).elim
theorem join_flat {vs ws : List Int} {p : List Nat} (h : joinX vs ws = (0, p)) : vs.length = ws.length ∧ p = flat vs ws ∧ ∀ q ∈ vs.zip ws, bputE q.1 q.2 = 0 := by
  rw [joinX] at h
  split at h
  · exact absurd (Prod.mk.inj h).1 (by decide)
  · rename_i h1
    have hl : vs.length = ws.length := by omega
    obtain ⟨h2, h3⟩ := joinR_flat vs ws [] hl (by rw [h])
    rw [h, List.nil_append] at h2
    exact ⟨hl, h2, h3⟩
theorem putE_lt {n w : Int} (h : bputE n w = 0) : 0 ≤ n ∧ n < 10 ^ w.toNat := by
  obtain ⟨N, W, rfl, rfl, _, h1, _⟩ := put_zero h
  refine ⟨by omega, ?_⟩
  rw [Int.toNat_natCast]
  exact_mod_cast h1
theorem lput_ok {r : Rg} {p : List Nat} (h : lputX r = (0, p)) : argB r = true ∧ fitB r = true ∧ joinX (valL r) (widL r.t.kind) = (0, p) := by
  rw [lputX] at h
  cases ha : argB r with
  | false => rw [ha, if_pos rfl] at h; exact absurd (Prod.mk.inj h).1 (by decide)
  | true =>
    cases hf : fitB r with
    | false => rw [ha, hf, if_neg (by decide), if_pos rfl] at h; exact absurd (Prod.mk.inj h).1 (by decide)
    | true => rw [ha, hf, if_neg (by decide), if_neg (by decide)] at h; exact ⟨rfl, rfl, h⟩
theorem lput_not {r : Rg} {E : Int} {p : List Nat} (h : lputX r = (E, p)) (hE : E ≠ 0) : p = [] := by
  rw [lputX] at h
  split at h
  · exact (Prod.mk.inj h).2.symm
  · split at h
    · exact (Prod.mk.inj h).2.symm
    · rw [joinX] at h
      split at h
      · exact (Prod.mk.inj h).2.symm
      · have : ∀ (vs ws : List Int) (o : List Nat), (joinR vs ws o).1 ≠ 0 → (joinR vs ws o).2 = [] := by
          intro vs
          induction vs with
          | nil => intro ws o h; exact (h rfl).elim
          | cons v vs ih =>
            intro ws o h
            rw [joinR] at h ⊢
            by_cases h0 : bputE v (ws.headD 0) = 0
            · rw [if_pos h0] at h ⊢; exact ih _ _ h
            · rw [if_neg h0]
        have := this _ _ _ (by rw [h]; exact hE)
        rw [h] at this
        exact this
theorem kind_in {t : Tk} (h : okT t = true) : 1 ≤ t.kind ∧ t.kind ≤ 4 := by
  have := (numsB_iff t).1 ((okT_iff t).1 h).1
  omega
theorem told_val {r : Rg} (ha : argB r = true) (hf : fitB r = true) : toldR r.t.kind (valL r) = r := by
  obtain ⟨ho, _, _, _, hv⟩ := (argB_iff r).1 ha
  obtain ⟨hs, _⟩ := (fitB_iff r).1 hf
  have hu := uses_of ho
  obtain ⟨⟨ser, kind, frm, till, cls, card, seat, day, days, uses, epoch⟩, key, left, inn, ver⟩ := r
  simp only at hv hs hu
  subst hv hs
  by_cases h4 : kind = 4
  · subst h4; simp [toldR, valL, valF]
  · obtain rfl := hu.2 h4
    simp [toldR, valL, valF, if_neg h4]
theorem lput_get {r : Rg} {p : List Nat} (h : lputX r = (0, p)) : lgetX p = (0, r) := by
  obtain ⟨ha, hf, hj⟩ := lput_ok h
  obtain ⟨ho, hs, _, _, _⟩ := (argB_iff r).1 ha
  have hk := kind_in ho
  have hsp := join_split (vs := valL r) (ws := widL r.t.kind) (by rw [hj])
  rw [hj] at hsp
  obtain ⟨ws, hw⟩ := widL_cases _ hk
  have hsp2 := hsp
  simp only at hsp2
  rw [hw] at hsp2
  obtain ⟨x, q, vs, rfl, hx, hv, _⟩ := split_head hsp2
  have hkx : r.t.kind = (x : Int) := by
    have : valL r = r.t.kind :: (valL r).tail := by unfold valL valF; split <;> rfl
    rw [this] at hv
    exact (List.cons.inj hv).1
  rw [lgetX, if_neg (by omega), ← hkx, widE, if_pos hk, if_neg (by decide)]
  simp only at hsp
  rw [hsp, lgetN, if_neg (by simp), told_val ha hf, if_pos ((rightR_iff r).2 ⟨ho, hs⟩)]
theorem list12 {α : Type} {v : List α} (h : v.length = 12) : ∃ a b c d e f g i j k l m, v = [a, b, c, d, e, f, g, i, j, k, l, m] := by
  match v, h with
  | [a, b, c, d, e, f, g, i, j, k, l, m], _ => exact ⟨a, b, c, d, e, f, g, i, j, k, l, m, rfl⟩
theorem list13 {α : Type} {v : List α} (h : v.length = 13) : ∃ a b c d e f g i j k l m n, v = [a, b, c, d, e, f, g, i, j, k, l, m, n] := by
  match v, h with
  | [a, b, c, d, e, f, g, i, j, k, l, m, n], _ => exact ⟨a, b, c, d, e, f, g, i, j, k, l, m, n, rfl⟩
theorem widL_len {k : Int} (h : 1 ≤ k ∧ k ≤ 4) : (widL k).length = if k = 4 then 13 else 12 := by
  rw [widL, if_pos h, widF]
  by_cases h3 : k = 3
  · rw [if_pos h3, if_neg (by omega)]; rfl
  · rw [if_neg h3]
    by_cases h4 : k = 4
    · rw [if_pos h4, if_pos h4]; rfl
    · rw [if_neg h4, if_neg h4]; rfl
/-- What a split of that kind says has just these numbers. -/
theorem val_told {k : Int} {v : List Int} (hk : 1 ≤ k ∧ k ≤ 4) (hl : v.length = (widL k).length) (h0 : v.head? = some k) : valL (toldR k v) = v ∧ (toldR k v).t.kind = k ∧ (toldR k v).t.seat = 0 ∧ (toldR k v).ver = 0 := by
  rw [widL_len hk] at hl
  by_cases h4 : k = 4
  · rw [if_pos h4] at hl
    obtain ⟨a, b, c, d, e, f, g, i, j, x, l, m, n, rfl⟩ := list13 hl
    obtain rfl : a = k := by simpa using h0
    subst h4
    simp [toldR, valL, valF]
  · rw [if_neg h4] at hl
    obtain ⟨a, b, c, d, e, f, g, i, j, x, l, m, rfl⟩ := list12 hl
    obtain rfl : a = k := by simpa using h0
    simp [toldR, valL, valF, if_neg h4]
theorem told_lt {k : Int} {v : List Int} {p : List Nat} (hk : 1 ≤ k ∧ k ≤ 4) (hj : joinX v (widL k) = (0, p)) : (toldR k v).t.ser ≤ 9999999 ∧ 0 ≤ (toldR k v).key ∧ (toldR k v).key ≤ 99 := by
  obtain ⟨hl, _, hz⟩ := join_flat hj
  rw [widL_len hk] at hl
  by_cases h4 : k = 4
  · rw [if_pos h4] at hl
    obtain ⟨a, b, c, d, e, f, g, i, j, x, l, m, n, rfl⟩ := list13 hl
    subst h4
    have h1 := putE_lt (hz (b, 7) (by simp [widL, widF]))
    have h2 := putE_lt (hz (n, 2) (by simp [widL, widF]))
    simp [toldR] at h1 h2 ⊢
    omega
  · rw [if_neg h4] at hl
    obtain ⟨a, b, c, d, e, f, g, i, j, x, l, m, rfl⟩ := list12 hl
    have h1 := putE_lt (hz (b, 7) (by by_cases h3 : k = 3 <;> simp [widL, widF, if_pos hk, h3, h4]))
    have h2 := putE_lt (hz (m, 2) (by by_cases h3 : k = 3 <;> simp [widL, widF, if_pos hk, h3, h4]))
    simp [toldR, if_neg h4] at h1 h2 ⊢
    omega
theorem lget_ok {l : List Nat} {r : Rg} (h : lgetX l = (0, r)) : ∃ x q v, l = x :: q ∧ x ≤ 9 ∧ (1 ≤ (x : Int) ∧ (x : Int) ≤ 4) ∧ splitX l (widL x) = (0, v) ∧ r = toldR x v ∧ rightR r = true := by
  match l, h with
  | [], h => exact absurd (Prod.mk.inj h).1 (by decide)
  | x :: q, h =>
    rw [lgetX] at h
    by_cases hx : 9 < x
    · rw [if_pos hx] at h; exact absurd (Prod.mk.inj h).1 (by decide)
    · rw [if_neg hx] at h
      by_cases hw : 1 ≤ (x : Int) ∧ (x : Int) ≤ 4
      · rw [widE, if_pos hw, if_neg (by decide), lgetN] at h
        by_cases hs : (splitX (x :: q) (widL x)).1 ≠ 0
        · rw [if_pos hs] at h; exact (hs (Prod.mk.inj h).1).elim
        · rw [if_neg hs] at h
          by_cases hr : rightR (toldR x (splitX (x :: q) (widL x)).2) = true
          · rw [if_pos hr] at h
            obtain rfl := (Prod.mk.inj h).2
            exact ⟨x, q, _, rfl, by omega, hw, by rw [show (0 : Int) = (splitX (x :: q) (widL x)).1 by omega], rfl, hr⟩
          · rw [if_neg hr] at h; exact absurd (Prod.mk.inj h).1 (by decide)
      · rw [widE, if_neg hw, if_pos (by decide)] at h; exact absurd (Prod.mk.inj h).1 (by decide)
theorem lget_put {l : List Nat} {r : Rg} (h : lgetX l = (0, r)) : lputX r = (0, l) ∧ rightR r = true := by
  obtain ⟨x, q, v, rfl, hx, hw, hs, rfl, hr⟩ := lget_ok h
  refine ⟨?_, hr⟩
  obtain ⟨ws, hws⟩ := widL_cases _ hw
  have hs2 := hs
  rw [hws] at hs2
  obtain ⟨x', q', vs, e1, _, hv, _⟩ := split_head hs2
  obtain rfl : x = x' := (List.cons.inj e1).1
  have hj := split_join (l := x :: q) (ws := widL x) (by rw [hs])
  rw [hs] at hj
  simp only at hj
  obtain ⟨h1, h2, h3, h4⟩ := val_told hw (splitN_len hs) (by rw [hv]; rfl)
  obtain ⟨h5, h6, h7⟩ := told_lt hw hj
  obtain ⟨h8, h9⟩ := (rightR_iff _).1 hr
  rw [lputX, (argB_iff _).2 ⟨h8, h9, h6, h7, h4⟩, if_neg (by decide), (fitB_iff _).2 ⟨h3, h5⟩, if_neg (by decide), h1, h2, hj]
theorem lput_lt {r : Rg} {E : Int} {p : List Nat} (h : lputX r = (E, p)) : ∀ x ∈ p, x < 256 := by
  by_cases hE : E = 0
  · subst hE
    intro x hx
    obtain ⟨ha, hf, hj⟩ := lput_ok h
    obtain ⟨hl, rfl, _⟩ := join_flat hj
    rw [flat, List.mem_flatten] at hx
    obtain ⟨l, hl1, hl2⟩ := hx
    obtain ⟨i, hi⟩ := List.mem_iff_getElem?.1 hl1
    rw [List.getElem?_zipWith] at hi
    split at hi
    · cases hi; have := dg_lt _ _ x hl2; omega
    · cases hi
  · rw [lput_not h hE]; simp
set_option linter.unusedVariables false
open Go.ChangeShapes Go.WideShapes Go.ChangeAt Go.RowKit

theorem infoRd : (Tryz.prog.info? 28).map (·.size) = some 15 := by kernel_rfl
theorem infoFd : (Tryz.prog.info? 87).map (fun i => (i.zero, i.size, i.bytes)) = some (some (.agg #[.pointer none, .int .i64 0]), 2, 16) := by kernel_rfl
theorem rg_one (a0 a1 a2 a3 a4 a5 a6 a7 a8 a9 a10 a11 a12 a13 a14 : Int) : (#[.int .i64 a0, .int .i64 a1, .int .i64 a2, .int .i64 a3, .int .i64 a4, .int .i64 a5, .int .i64 a6, .int .i64 a7, .int .i64 a8, .int .i64 a9, .int .i64 a10, .int .i64 a11, .int .i64 a12, .int .i64 a13, .int .i64 a14] : Array Value).all (·.oneCell') = true := by
  rw [Array.all_eq_true_iff_forall_mem]
  intro u hu
  simp at hu
  rcases hu with rfl | rfl | rfl | rfl | rfl | rfl | rfl | rfl | rfl | rfl | rfl | rfl | rfl | rfl | rfl <;> rfl
/-- A reading in its block. -/
def RBox (w : World) (b : Nat) (r : Rg) : Prop := w.heap[b]? = some (.cells #[.int .i64 r.t.ser, .int .i64 r.t.kind, .int .i64 r.t.frm, .int .i64 r.t.till, .int .i64 r.t.cls, .int .i64 r.t.card, .int .i64 r.t.seat, .int .i64 r.t.day, .int .i64 r.t.days, .int .i64 r.t.uses, .int .i64 r.t.epoch, .int .i64 r.key, .int .i64 r.left, .int .i64 r.inn, .int .i64 r.ver] 28 (0, 0))
theorem RBox.lt {w : World} {b : Nat} {r : Rg} (h : RBox w b r) : b < w.heap.size := (Array.getElem?_eq_some_iff.1 h).1
theorem RBox.next {w w' : World} {b : Nat} {r : Rg} (h : RBox w b r) (hb : Below w.heap.size w w') : RBox w' b r := (hb.block _ h.lt).trans h
theorem RBox.below {w w' : World} {b B : Nat} {r : Rg} (h : RBox w b r) (hlt : b < B) (hb : Below B w w') : RBox w' b r := (hb.block _ hlt).trans h
theorem RBox.cells {w : World} {b : Nat} {r : Rg} (h : RBox w b r) : w.cell? ⟨b, 0, none⟩ = some (.int .i64 r.t.ser) ∧ w.cell? ⟨b, 1, none⟩ = some (.int .i64 r.t.kind) ∧ w.cell? ⟨b, 2, none⟩ = some (.int .i64 r.t.frm) ∧ w.cell? ⟨b, 3, none⟩ = some (.int .i64 r.t.till) ∧ w.cell? ⟨b, 4, none⟩ = some (.int .i64 r.t.cls) ∧ w.cell? ⟨b, 5, none⟩ = some (.int .i64 r.t.card) ∧ w.cell? ⟨b, 6, none⟩ = some (.int .i64 r.t.seat) ∧ w.cell? ⟨b, 7, none⟩ = some (.int .i64 r.t.day) ∧ w.cell? ⟨b, 8, none⟩ = some (.int .i64 r.t.days) ∧ w.cell? ⟨b, 9, none⟩ = some (.int .i64 r.t.uses) ∧ w.cell? ⟨b, 10, none⟩ = some (.int .i64 r.t.epoch) ∧ w.cell? ⟨b, 11, none⟩ = some (.int .i64 r.key) ∧ w.cell? ⟨b, 12, none⟩ = some (.int .i64 r.left) ∧ w.cell? ⟨b, 13, none⟩ = some (.int .i64 r.inn) ∧ w.cell? ⟨b, 14, none⟩ = some (.int .i64 r.ver) :=
  ⟨by rw [cell_of_row w b 0 _ _ (0, 0) h]; rfl, by rw [cell_of_row w b 1 _ _ (0, 0) h]; rfl, by rw [cell_of_row w b 2 _ _ (0, 0) h]; rfl, by rw [cell_of_row w b 3 _ _ (0, 0) h]; rfl, by rw [cell_of_row w b 4 _ _ (0, 0) h]; rfl, by rw [cell_of_row w b 5 _ _ (0, 0) h]; rfl, by rw [cell_of_row w b 6 _ _ (0, 0) h]; rfl, by rw [cell_of_row w b 7 _ _ (0, 0) h]; rfl, by rw [cell_of_row w b 8 _ _ (0, 0) h]; rfl, by rw [cell_of_row w b 9 _ _ (0, 0) h]; rfl, by rw [cell_of_row w b 10 _ _ (0, 0) h]; rfl, by rw [cell_of_row w b 11 _ _ (0, 0) h]; rfl, by rw [cell_of_row w b 12 _ _ (0, 0) h]; rfl, by rw [cell_of_row w b 13 _ _ (0, 0) h]; rfl, by rw [cell_of_row w b 14 _ _ (0, 0) h]; rfl⟩
theorem RBox.frozen {w : World} {b : Nat} {r : Rg} (h : RBox w b r) (j : Nat) : w.frozen? ⟨b, j, none⟩ = false := frozen_of_row w b j _ _ h
theorem RBox.new (w : World) (r : Rg) : RBox (w.alloc (.cells #[.int .i64 r.t.ser, .int .i64 r.t.kind, .int .i64 r.t.frm, .int .i64 r.t.till, .int .i64 r.t.cls, .int .i64 r.t.card, .int .i64 r.t.seat, .int .i64 r.t.day, .int .i64 r.t.days, .int .i64 r.t.uses, .int .i64 r.t.epoch, .int .i64 r.key, .int .i64 r.left, .int .i64 r.inn, .int .i64 r.ver] 28)) w.heap.size r := heap_alloc_new w _
theorem RBox.alloc {w : World} {b : Nat} {r : Rg} (h : RBox w b r) (o : Obj) : RBox (w.alloc o) b r := (heap_alloc_old w o h.lt).trans h
theorem RBox.made {w1 w2 : World} {cc : Array Value} {r : Rg} (h : w2 = (w1.alloc (.cells cc 28)).setRow w1.heap.size #[.int .i64 r.t.ser, .int .i64 r.t.kind, .int .i64 r.t.frm, .int .i64 r.t.till, .int .i64 r.t.cls, .int .i64 r.t.card, .int .i64 r.t.seat, .int .i64 r.t.day, .int .i64 r.t.days, .int .i64 r.t.uses, .int .i64 r.t.epoch, .int .i64 r.key, .int .i64 r.left, .int .i64 r.inn, .int .i64 r.ver]) : RBox w2 w1.heap.size r ∧ Below w1.heap.size w1 w2 := by
  subst h
  exact ⟨setRow_heap _ _ _ _ _ _ (heap_alloc_new w1 _), below_setRow ((Below.refl _ _).alloc (Nat.le_refl _) _) (Nat.le_refl _) _⟩
/-- A reading at work in its block. -/
def SBox (w : World) (b : Nat) (r : Rg) : Prop := w.heap[b]? = some (.cells #[.int .i64 r.t.ser, .int .i64 r.t.kind, .int .i64 r.t.frm, .int .i64 r.t.till, .int .i64 r.t.cls, .int .i64 r.t.card, .int .i64 r.t.seat, .int .i64 r.t.day, .int .i64 r.t.days, .int .i64 r.t.uses, .int .i64 r.t.epoch, .int .i64 r.key, .int .i64 r.left, .int .i64 r.inn, .int .i64 r.ver] 81 (0, 0))
theorem SBox.lt {w : World} {b : Nat} {r : Rg} (h : SBox w b r) : b < w.heap.size := (Array.getElem?_eq_some_iff.1 h).1
theorem SBox.next {w w' : World} {b : Nat} {r : Rg} (h : SBox w b r) (hb : Below w.heap.size w w') : SBox w' b r := (hb.block _ h.lt).trans h
theorem SBox.below {w w' : World} {b B : Nat} {r : Rg} (h : SBox w b r) (hlt : b < B) (hb : Below B w w') : SBox w' b r := (hb.block _ hlt).trans h
theorem SBox.cells {w : World} {b : Nat} {r : Rg} (h : SBox w b r) : w.cell? ⟨b, 0, none⟩ = some (.int .i64 r.t.ser) ∧ w.cell? ⟨b, 1, none⟩ = some (.int .i64 r.t.kind) ∧ w.cell? ⟨b, 2, none⟩ = some (.int .i64 r.t.frm) ∧ w.cell? ⟨b, 3, none⟩ = some (.int .i64 r.t.till) ∧ w.cell? ⟨b, 4, none⟩ = some (.int .i64 r.t.cls) ∧ w.cell? ⟨b, 5, none⟩ = some (.int .i64 r.t.card) ∧ w.cell? ⟨b, 6, none⟩ = some (.int .i64 r.t.seat) ∧ w.cell? ⟨b, 7, none⟩ = some (.int .i64 r.t.day) ∧ w.cell? ⟨b, 8, none⟩ = some (.int .i64 r.t.days) ∧ w.cell? ⟨b, 9, none⟩ = some (.int .i64 r.t.uses) ∧ w.cell? ⟨b, 10, none⟩ = some (.int .i64 r.t.epoch) ∧ w.cell? ⟨b, 11, none⟩ = some (.int .i64 r.key) ∧ w.cell? ⟨b, 12, none⟩ = some (.int .i64 r.left) ∧ w.cell? ⟨b, 13, none⟩ = some (.int .i64 r.inn) ∧ w.cell? ⟨b, 14, none⟩ = some (.int .i64 r.ver) :=
  ⟨by rw [cell_of_row w b 0 _ _ (0, 0) h]; rfl, by rw [cell_of_row w b 1 _ _ (0, 0) h]; rfl, by rw [cell_of_row w b 2 _ _ (0, 0) h]; rfl, by rw [cell_of_row w b 3 _ _ (0, 0) h]; rfl, by rw [cell_of_row w b 4 _ _ (0, 0) h]; rfl, by rw [cell_of_row w b 5 _ _ (0, 0) h]; rfl, by rw [cell_of_row w b 6 _ _ (0, 0) h]; rfl, by rw [cell_of_row w b 7 _ _ (0, 0) h]; rfl, by rw [cell_of_row w b 8 _ _ (0, 0) h]; rfl, by rw [cell_of_row w b 9 _ _ (0, 0) h]; rfl, by rw [cell_of_row w b 10 _ _ (0, 0) h]; rfl, by rw [cell_of_row w b 11 _ _ (0, 0) h]; rfl, by rw [cell_of_row w b 12 _ _ (0, 0) h]; rfl, by rw [cell_of_row w b 13 _ _ (0, 0) h]; rfl, by rw [cell_of_row w b 14 _ _ (0, 0) h]; rfl⟩
theorem SBox.frozen {w : World} {b : Nat} {r : Rg} (h : SBox w b r) (j : Nat) : w.frozen? ⟨b, j, none⟩ = false := frozen_of_row w b j _ _ h
theorem SBox.new (w : World) (r : Rg) : SBox (w.alloc (.cells #[.int .i64 r.t.ser, .int .i64 r.t.kind, .int .i64 r.t.frm, .int .i64 r.t.till, .int .i64 r.t.cls, .int .i64 r.t.card, .int .i64 r.t.seat, .int .i64 r.t.day, .int .i64 r.t.days, .int .i64 r.t.uses, .int .i64 r.t.epoch, .int .i64 r.key, .int .i64 r.left, .int .i64 r.inn, .int .i64 r.ver] 81)) w.heap.size r := heap_alloc_new w _
theorem SBox.alloc {w : World} {b : Nat} {r : Rg} (h : SBox w b r) (o : Obj) : SBox (w.alloc o) b r := (heap_alloc_old w o h.lt).trans h
theorem SBox.made {w1 w2 : World} {cc : Array Value} {r : Rg} (h : w2 = (w1.alloc (.cells cc 81)).setRow w1.heap.size #[.int .i64 r.t.ser, .int .i64 r.t.kind, .int .i64 r.t.frm, .int .i64 r.t.till, .int .i64 r.t.cls, .int .i64 r.t.card, .int .i64 r.t.seat, .int .i64 r.t.day, .int .i64 r.t.days, .int .i64 r.t.uses, .int .i64 r.t.epoch, .int .i64 r.key, .int .i64 r.left, .int .i64 r.inn, .int .i64 r.ver]) : SBox w2 w1.heap.size r ∧ Below w1.heap.size w1 w2 := by
  subst h
  exact ⟨setRow_heap _ _ _ _ _ _ (heap_alloc_new w1 _), below_setRow ((Below.refl _ _).alloc (Nat.le_refl _) _) (Nat.le_refl _) _⟩
/-- A journey in its block. -/
def JBox (w : World) (b : Nat) (l i : Int) : Prop := w.heap[b]? = some (.cells #[.int .i64 l, .int .i64 i] 26 (0, 0))
theorem JBox.lt {w : World} {b : Nat} {l i : Int} (h : JBox w b l i) : b < w.heap.size := (Array.getElem?_eq_some_iff.1 h).1
theorem JBox.next {w w' : World} {b : Nat} {l i : Int} (h : JBox w b l i) (hb : Below w.heap.size w w') : JBox w' b l i := (hb.block _ h.lt).trans h
theorem JBox.below {w w' : World} {b B : Nat} {l i : Int} (h : JBox w b l i) (hlt : b < B) (hb : Below B w w') : JBox w' b l i := (hb.block _ hlt).trans h
theorem JBox.cells {w : World} {b : Nat} {l i : Int} (h : JBox w b l i) : w.cell? ⟨b, 0, none⟩ = some (.int .i64 l) ∧ w.cell? ⟨b, 1, none⟩ = some (.int .i64 i) :=
  ⟨by rw [cell_of_row w b 0 _ _ (0, 0) h]; rfl, by rw [cell_of_row w b 1 _ _ (0, 0) h]; rfl⟩
theorem JBox.frozen {w : World} {b : Nat} {l i : Int} (h : JBox w b l i) (j : Nat) : w.frozen? ⟨b, j, none⟩ = false := frozen_of_row w b j _ _ h
theorem JBox.new (w : World) (l i : Int) : JBox (w.alloc (.cells #[.int .i64 l, .int .i64 i] 26)) w.heap.size l i := heap_alloc_new w _
theorem JBox.alloc {w : World} {b : Nat} {l i : Int} (h : JBox w b l i) (o : Obj) : JBox (w.alloc o) b l i := (heap_alloc_old w o h.lt).trans h
theorem JBox.made {w1 w2 : World} {cc : Array Value} {l i : Int} (h : w2 = (w1.alloc (.cells cc 26)).setRow w1.heap.size #[.int .i64 l, .int .i64 i]) : JBox w2 w1.heap.size l i ∧ Below w1.heap.size w1 w2 := by
  subst h
  exact ⟨setRow_heap _ _ _ _ _ _ (heap_alloc_new w1 _), below_setRow ((Below.refl _ _).alloc (Nat.le_refl _) _) (Nat.le_refl _) _⟩
/-- What a slice of fields reads as: where each number lies, and its width. -/
def FL (X : Nat) (l : List (Nat × Int)) : List Value := l.flatMap fun p => [.pointer (some ⟨X, p.1, none⟩), .int .i64 p.2]
theorem FL_append (X : Nat) (a b : List (Nat × Int)) : FL X (a ++ b) = FL X a ++ FL X b := by simp [FL]
theorem FL_len (X : Nat) : ∀ (l : List (Nat × Int)), (FL X l).length = l.length * 2
  | [] => rfl
  | p :: l => by rw [FL, List.flatMap_cons, List.length_append, ← FL, FL_len X l, List.length_cons]; simp; omega
theorem FL_one (X : Nat) (l : List (Nat × Int)) : ∀ u ∈ FL X l, u.oneCell' = true := by
  intro u hu
  simp only [FL, List.mem_flatMap] at hu
  obtain ⟨p, _, hp⟩ := hu
  simp at hp
  rcases hp with rfl | rfl <;> rfl
theorem FL_at (X : Nat) : ∀ (l : List (Nat × Int)) (k : Nat) (p : Nat × Int), l[k]? = some p → (FL X l)[k * 2]? = some (.pointer (some ⟨X, p.1, none⟩)) ∧ (FL X l)[k * 2 + 1]? = some (.int .i64 p.2)
  | [], k, p, h => by simp at h
  | q :: l, 0, p, h => by
    simp at h; subst h
    exact ⟨rfl, rfl⟩
  | q :: l, k + 1, p, h => by
    have := FL_at X l k p (by simpa using h)
    rw [FL, List.flatMap_cons, ← FL, show (k + 1) * 2 = k * 2 + 1 + 1 by omega]
    exact this
def begF : List (Nat × Int) := [(1, 1), (0, 7), (4, 1), (5, 1), (7, 5), (8, 3), (10, 1)]
def zonF : List (Nat × Int) := [(2, 1), (3, 1)]
def staF : List (Nat × Int) := [(2, 2), (3, 2)]
def useF : List (Nat × Int) := [(9, 2)]
def endF : List (Nat × Int) := [(12, 2), (13, 2), (11, 2)]
/-- The parts of a stripe of that kind; its fields. -/
def partsL (k : Int) : List (List (Nat × Int)) := if k = 1 ∨ k = 2 then [begF, staF, endF] else if k = 3 then [begF, zonF, endF] else if k = 4 then [begF, staF, useF, endF] else []
def fieldsL (k : Int) : List (Nat × Int) := (partsL k).flatten
theorem fieldsL_wid (k : Int) : (fieldsL k).map (·.2) = widL k := by
  unfold fieldsL partsL widL widF
  by_cases h1 : k = 1 ∨ k = 2
  · rw [if_pos h1, if_pos (by omega), if_neg (by omega), if_neg (by omega)]; rfl
  · by_cases h3 : k = 3
    · rw [if_neg h1, if_pos h3, if_pos (by omega), if_pos h3]; rfl
    · by_cases h4 : k = 4
      · rw [if_neg h1, if_neg h3, if_pos h4, if_pos (by omega), if_neg h3, if_pos h4]; rfl
      · rw [if_neg h1, if_neg h3, if_neg h4, if_neg (by omega)]; rfl
theorem fieldsL_len (k : Int) : (fieldsL k).length = (widL k).length := by rw [← fieldsL_wid, List.length_map]
theorem widL_le (k : Int) : (widL k).length ≤ 13 := by
  by_cases h : 1 ≤ k ∧ k ≤ 4
  · rw [widL_len h]; split <;> omega
  · rw [widL, if_neg h]; simp
set_option linter.unusedVariables false
open Go.ChangeShapes Go.WideShapes Go.ChangeAt Go.RowKit

theorem below_lit' (w : World) (cs : Array Value) (t : TypeId) : Below w.heap.size w (w.drew.alloc (.cells cs t)) := (show Below w.heap.size w w.drew from (below_drewN (Below.refl _ _) 1)).alloc (Nat.le_refl _) _
set_option maxRecDepth 100000 in
set_option maxHeartbeats 1600000 in
theorem fuses_any (X : Nat) (w : World) : Calls Tryz.prog 134 #[.pointer (some ⟨X, 0, none⟩)] w fun e w' => ∃ A, e = .returned (.slice (some A) 1 1) ∧ Rd w' w'.heap.size (some A) (FL X useF) ∧ Below w.heap.size w w' := by
  go_enter Tryz.func134, Tryz.ntmps134
  go_wp2
  all_goals go_ret
  all_goals exact ⟨_, rfl, rd_lit _ _ _, below_lit _ _ _⟩
set_option maxRecDepth 100000 in
set_option maxHeartbeats 1600000 in
theorem fzones_any (X : Nat) (w : World) : Calls Tryz.prog 133 #[.pointer (some ⟨X, 0, none⟩)] w fun e w' => ∃ A, e = .returned (.slice (some A) 2 2) ∧ Rd w' w'.heap.size (some A) (FL X zonF) ∧ Below w.heap.size w w' := by
  go_enter Tryz.func133, Tryz.ntmps133
  go_wp2
  go_region
  all_goals go_wp2
  all_goals go_ret
  all_goals exact ⟨_, rfl, rd_lit _ _ _, below_lit' _ _ _⟩
set_option maxRecDepth 100000 in
set_option maxHeartbeats 1600000 in
theorem fstations_any (X : Nat) (w : World) : Calls Tryz.prog 131 #[.pointer (some ⟨X, 0, none⟩)] w fun e w' => ∃ A, e = .returned (.slice (some A) 2 2) ∧ Rd w' w'.heap.size (some A) (FL X staF) ∧ Below w.heap.size w w' := by
  go_enter Tryz.func131, Tryz.ntmps131
  go_wp2
  go_region
  all_goals go_wp2
  all_goals go_ret
  all_goals exact ⟨_, rfl, rd_lit _ _ _, below_lit' _ _ _⟩
set_option maxRecDepth 100000 in
set_option maxHeartbeats 1600000 in
theorem fend_any (X : Nat) (w : World) : Calls Tryz.prog 132 #[.pointer (some ⟨X, 0, none⟩)] w fun e w' => ∃ A, e = .returned (.slice (some A) 3 3) ∧ Rd w' w'.heap.size (some A) (FL X endF) ∧ Below w.heap.size w w' := by
  go_enter Tryz.func132, Tryz.ntmps132
  go_wp2
  go_region
  all_goals go_wp2
  all_goals go_ret
  all_goals exact ⟨_, rfl, rd_lit _ _ _, below_lit' _ _ _⟩
set_option maxRecDepth 100000 in
set_option maxHeartbeats 1600000 in
theorem fbeginning_any (X : Nat) (w : World) : Calls Tryz.prog 130 #[.pointer (some ⟨X, 0, none⟩)] w fun e w' => ∃ A, e = .returned (.slice (some A) 7 7) ∧ Rd w' w'.heap.size (some A) (FL X begF) ∧ Below w.heap.size w w' := by
  go_enter Tryz.func130, Tryz.ntmps130
  go_wp2
  go_region
  all_goals go_wp2
  all_goals go_ret
  all_goals exact ⟨_, rfl, rd_lit _ _ _, below_lit' _ _ _⟩
set_option linter.unusedVariables false
open Go.ChangeShapes Go.WideShapes Go.ChangeAt Go.RowKit

/-- The methods that tell the parts of a stripe of that kind. -/
def partsV (k : Int) : List Value := if k = 1 ∨ k = 2 then [.func (.func 130) #[] #[], .func (.func 131) #[] #[], .func (.func 132) #[] #[]] else if k = 3 then [.func (.func 130) #[] #[], .func (.func 133) #[] #[], .func (.func 132) #[] #[]] else if k = 4 then [.func (.func 130) #[] #[], .func (.func 131) #[] #[], .func (.func 134) #[] #[], .func (.func 132) #[] #[]] else []
theorem partsV_len (k : Int) : (partsV k).length = (partsL k).length := by
  unfold partsV partsL
  by_cases h1 : k = 1 ∨ k = 2
  · rw [if_pos h1, if_pos h1]; rfl
  · by_cases h3 : k = 3
    · rw [if_neg h1, if_neg h1, if_pos h3, if_pos h3]; rfl
    · by_cases h4 : k = 4
      · rw [if_neg h1, if_neg h1, if_neg h3, if_neg h3, if_pos h4, if_pos h4]; rfl
      · rw [if_neg h1, if_neg h1, if_neg h3, if_neg h3, if_neg h4, if_neg h4]; rfl
def PartOK (v : Value) (l : List (Nat × Int)) : Prop := ∃ K, v = .func (.func K) #[] #[] ∧ l.length ≤ 7 ∧ (∀ args w, (callFunc K args).run Tryz.prog w = .ok (.enter K args) w) ∧ ∀ (X : Nat) (w : World), Calls Tryz.prog K #[.pointer (some ⟨X, 0, none⟩)] w fun e w' => ∃ A, e = .returned (.slice (some A) l.length l.length) ∧ Rd w' w'.heap.size (some A) (FL X l) ∧ Below w.heap.size w w'
theorem ok_begF : PartOK (.func (.func 130) #[] #[]) begF := ⟨_, rfl, by decide, enters_of Tryz.func130 (by kernel_rfl) rfl, fun X w => fbeginning_any X w⟩
theorem ok_staF : PartOK (.func (.func 131) #[] #[]) staF := ⟨_, rfl, by decide, enters_of Tryz.func131 (by kernel_rfl) rfl, fun X w => fstations_any X w⟩
theorem ok_zonF : PartOK (.func (.func 133) #[] #[]) zonF := ⟨_, rfl, by decide, enters_of Tryz.func133 (by kernel_rfl) rfl, fun X w => fzones_any X w⟩
theorem ok_useF : PartOK (.func (.func 134) #[] #[]) useF := ⟨_, rfl, by decide, enters_of Tryz.func134 (by kernel_rfl) rfl, fun X w => fuses_any X w⟩
theorem ok_endF : PartOK (.func (.func 132) #[] #[]) endF := ⟨_, rfl, by decide, enters_of Tryz.func132 (by kernel_rfl) rfl, fun X w => fend_any X w⟩
theorem parts_ok (k : Int) (j : Nat) (v : Value) (l : List (Nat × Int)) (h1 : (partsV k)[j]? = some v) (h2 : (partsL k)[j]? = some l) : PartOK v l := by
  unfold partsV at h1
  unfold partsL at h2
  by_cases q1 : k = 1 ∨ k = 2
  · rw [if_pos q1] at h1 h2
    match j, h1, h2 with
    | 0, h1, h2 => cases h1; cases h2; exact ok_begF
    | 1, h1, h2 => cases h1; cases h2; exact ok_staF
    | 2, h1, h2 => cases h1; cases h2; exact ok_endF
    | j + 3, h1, h2 => cases h1
  · by_cases q3 : k = 3
    · rw [if_neg q1, if_pos q3] at h1 h2
      match j, h1, h2 with
      | 0, h1, h2 => cases h1; cases h2; exact ok_begF
      | 1, h1, h2 => cases h1; cases h2; exact ok_zonF
      | 2, h1, h2 => cases h1; cases h2; exact ok_endF
      | j + 3, h1, h2 => cases h1
    · by_cases q4 : k = 4
      · rw [if_neg q1, if_neg q3, if_pos q4] at h1 h2
        match j, h1, h2 with
        | 0, h1, h2 => cases h1; cases h2; exact ok_begF
        | 1, h1, h2 => cases h1; cases h2; exact ok_staF
        | 2, h1, h2 => cases h1; cases h2; exact ok_useF
        | 3, h1, h2 => cases h1; cases h2; exact ok_endF
        | j + 4, h1, h2 => cases h1
      · rw [if_neg q1, if_neg q3, if_neg q4] at h1
        cases h1
theorem ppartsOf_1 (k : Int) (hk : k = 1) (w : World) : Calls Tryz.prog 95 #[.int .i64 k] w fun e w' => ∃ A c, e = .returned (.slice A 3 c) ∧ Rd w' w'.heap.size A (partsV k) ∧ Below w.heap.size w w' := by
  have hp : partsV k = [.func (.func 130) #[] #[], .func (.func 131) #[] #[], .func (.func 132) #[] #[]] := by rw [partsV, if_pos (by omega)]
  have q1 : (k == 1) = true := by rw [beq_iff_eq]; omega
  rw [hp]
  clear hp hk
  go_enter Tryz.func95, Tryz.ntmps95
  go_wp2
  go_ret
  exact ⟨_, _, rfl, rd_lit _ _ _, below_lit _ _ _⟩
theorem ppartsOf_2 (k : Int) (hk : k = 2) (w : World) : Calls Tryz.prog 95 #[.int .i64 k] w fun e w' => ∃ A c, e = .returned (.slice A 3 c) ∧ Rd w' w'.heap.size A (partsV k) ∧ Below w.heap.size w w' := by
  have hp : partsV k = [.func (.func 130) #[] #[], .func (.func 131) #[] #[], .func (.func 132) #[] #[]] := by rw [partsV, if_pos (by omega)]
  have q1 : (k == 1) = false := by rw [beq_eq_false_iff_ne]; omega
  have q2 : (k == 2) = true := by rw [beq_iff_eq]; omega
  rw [hp]
  clear hp hk
  go_enter Tryz.func95, Tryz.ntmps95
  go_wp2
  go_ret
  exact ⟨_, _, rfl, rd_lit _ _ _, below_lit _ _ _⟩
theorem ppartsOf_3 (k : Int) (hk : k = 3) (w : World) : Calls Tryz.prog 95 #[.int .i64 k] w fun e w' => ∃ A c, e = .returned (.slice A 3 c) ∧ Rd w' w'.heap.size A (partsV k) ∧ Below w.heap.size w w' := by
  have hp : partsV k = [.func (.func 130) #[] #[], .func (.func 133) #[] #[], .func (.func 132) #[] #[]] := by rw [partsV, if_neg (by omega), if_pos hk]
  have q1 : (k == 1) = false := by rw [beq_eq_false_iff_ne]; omega
  have q2 : (k == 2) = false := by rw [beq_eq_false_iff_ne]; omega
  have q3 : (k == 3) = true := by rw [beq_iff_eq]; omega
  rw [hp]
  clear hp hk
  go_enter Tryz.func95, Tryz.ntmps95
  go_wp2
  go_ret
  exact ⟨_, _, rfl, rd_lit _ _ _, below_lit _ _ _⟩
theorem ppartsOf_4 (k : Int) (hk : k = 4) (w : World) : Calls Tryz.prog 95 #[.int .i64 k] w fun e w' => ∃ A c, e = .returned (.slice A 4 c) ∧ Rd w' w'.heap.size A (partsV k) ∧ Below w.heap.size w w' := by
  have hp : partsV k = [.func (.func 130) #[] #[], .func (.func 131) #[] #[], .func (.func 134) #[] #[], .func (.func 132) #[] #[]] := by rw [partsV, if_neg (by omega), if_neg (by omega), if_pos hk]
  have q1 : (k == 1) = false := by rw [beq_eq_false_iff_ne]; omega
  have q2 : (k == 2) = false := by rw [beq_eq_false_iff_ne]; omega
  have q3 : (k == 3) = false := by rw [beq_eq_false_iff_ne]; omega
  have q4 : (k == 4) = true := by rw [beq_iff_eq]; omega
  rw [hp]
  clear hp hk
  go_enter Tryz.func95, Tryz.ntmps95
  go_wp2
  go_ret
  exact ⟨_, _, rfl, rd_lit _ _ _, below_lit _ _ _⟩
theorem ppartsOf_0 (k : Int) (hk : k < 1 ∨ 4 < k) (w : World) : Calls Tryz.prog 95 #[.int .i64 k] w fun e w' => ∃ A c, e = .returned (.slice A 0 c) ∧ Rd w' w'.heap.size A (partsV k) ∧ Below w.heap.size w w' := by
  have hp : partsV k = [] := by rw [partsV, if_neg (by omega), if_neg (by omega), if_neg (by omega)]
  have q1 : (k == 1) = false := by rw [beq_eq_false_iff_ne]; omega
  have q2 : (k == 2) = false := by rw [beq_eq_false_iff_ne]; omega
  have q3 : (k == 3) = false := by rw [beq_eq_false_iff_ne]; omega
  have q4 : (k == 4) = false := by rw [beq_eq_false_iff_ne]; omega
  rw [hp]
  clear hp hk
  go_enter Tryz.func95, Tryz.ntmps95
  go_wp2
  go_ret
  exact ⟨none, 0, rfl, by intro j u hu; simp at hu, Below.refl _ _⟩
theorem ppartsOf_any (k : Int) (m : Nat) (hm : m = (partsL k).length) (w : World) : Calls Tryz.prog 95 #[.int .i64 k] w fun e w' => ∃ A c, e = .returned (.slice A m c) ∧ Rd w' w'.heap.size A (partsV k) ∧ Below w.heap.size w w' := by
  rw [hm, ← partsV_len]
  by_cases h1 : k = 1
  · have := ppartsOf_1 k h1 w
    rwa [show (partsV k).length = 3 by rw [partsV, if_pos (by omega)]; rfl]
  · by_cases h2 : k = 2
    · have := ppartsOf_2 k h2 w
      rwa [show (partsV k).length = 3 by rw [partsV, if_pos (by omega)]; rfl]
    · by_cases h3 : k = 3
      · have := ppartsOf_3 k h3 w
        rwa [show (partsV k).length = 3 by rw [partsV, if_neg (by omega), if_pos h3]; rfl]
      · by_cases h4 : k = 4
        · have := ppartsOf_4 k h4 w
          rwa [show (partsV k).length = 4 by rw [partsV, if_neg (by omega), if_neg h3, if_pos h4]; rfl]
        · have := ppartsOf_0 k (by omega) w
          rwa [show (partsV k).length = 0 by rw [partsV, if_neg (by omega), if_neg h3, if_neg h4]; rfl]
/-- A slice that reads as fields of the reading at X. -/
structure Fs (w : World) (B X : Nat) (l : List (Nat × Int)) (A : Option Addr) (c : Nat) : Prop where
  rd : Rd w B A (FL X l)
  nil : A = none → c = 0
  len : l.length ≤ c
  cap : c ≤ 9223372036854775807
  lay : ∀ ad, A = some ad → ∃ g, ad = ⟨g, 0, none⟩
theorem Fs.next {w w' : World} {X : Nat} {l : List (Nat × Int)} {A : Option Addr} {c : Nat} (h : Fs w w.heap.size X l A c) (hb : Below w.heap.size w w') : Fs w' w'.heap.size X l A c := ⟨h.rd.next hb, h.nil, h.len, h.cap, h.lay⟩
theorem fs_of_own {w : World} {base n X : Nat} {v : Value} {l : List (Nat × Int)} (h : w.ownsRow base 87 2 v n (FL X l)) : ∃ A c, v = .slice A n c ∧ n = l.length ∧ Fs w w.heap.size X l A c ∧ ∀ ad, A = some ad → base ≤ ad.block := by
  have hn : l.length = n := by have := h.1; rw [FL_len] at this; omega
  rcases h.2 with ⟨rfl, h0⟩ | ⟨g, cap, cur, rfl, hgb, hg, h2, h3, _⟩
  · subst h0
    have : l = [] := List.eq_nil_of_length_eq_zero hn
    subst this
    exact ⟨none, 0, rfl, rfl, ⟨by intro k u hu; simp [FL] at hu, fun _ => rfl, by simp, by omega, by simp⟩, by simp⟩
  · unfold maxLen at h3
    refine ⟨_, cap, rfl, hn.symm, ⟨?_, by simp, by omega, h3, fun ad e => ⟨g, by cases e; rfl⟩⟩, fun ad e => by cases e; exact hgb⟩
    intro k u hu
    refine ⟨_, rfl, (Array.getElem?_eq_some_iff.1 hg).1, ?_⟩
    rw [at_add, h.cellAt k (by have := (List.getElem?_eq_some_iff.1 hu).1; rw [FL_len] at this; omega)]
    exact hu
theorem Fs.at {w : World} {B X : Nat} {l : List (Nat × Int)} {A : Option Addr} {c k : Nat} {p : Nat × Int} (h : Fs w B X l A c) (hp : l[k]? = some p) : ∃ g, A = some ⟨g, 0, none⟩ ∧ g < B ∧ w.cell? ⟨g, k * 2, none⟩ = some (.pointer (some ⟨X, p.1, none⟩)) ∧ w.cell? ⟨g, k * 2 + 1, none⟩ = some (.int .i64 p.2) := by
  obtain ⟨h1, h2⟩ := FL_at X l k p hp
  obtain ⟨ad, e0, hb, hc⟩ := h.rd _ _ h1
  obtain ⟨ad', e, _, hc'⟩ := h.rd _ _ h2
  obtain ⟨g, rfl⟩ := h.lay _ e0
  rw [e0] at e
  cases e
  rw [at_add] at hc hc'
  exact ⟨g, e0, hb, hc, hc'⟩
set_option linter.unusedVariables false
open Go.ChangeShapes Go.WideShapes Go.ChangeAt Go.RowKit

theorem flat_take {α : Type} (l : List (List α)) (j : Nat) (x : List α) (h : l[j]? = some x) : (l.take (j + 1)).flatten = (l.take j).flatten ++ x := by
  rw [List.take_add_one, h]; simp
theorem partsL_le (k : Int) : (partsL k).length ≤ 4 := by
  unfold partsL
  split
  · decide
  · split
    · decide
    · split <;> decide
theorem fields_le (k : Int) (j : Nat) : ((partsL k).take j).flatten.length ≤ 13 := by
  have h1 : ((partsL k).take j).flatten.length ≤ (partsL k).flatten.length := by
    conv => rhs; rw [← List.take_append_drop j (partsL k), List.flatten_append, List.length_append]
    omega
  have h2 := fieldsL_len k
  have h3 := widL_le k
  rw [fieldsL] at h2
  omega
set_option maxRecDepth 100000 in
set_option maxHeartbeats 1600000 in
theorem pfields_far (k : Int) (n : Nat) (hn : n = (fieldsL k).length) (X : Nat) (w : World) : Calls Tryz.prog 62 #[.pointer (some ⟨X, 0, none⟩), .int .i64 k] w fun e w' => ∃ A c, e = .returned (.slice A n c) ∧ Fs w' w'.heap.size X (fieldsL k) A c ∧ Below w.heap.size w w' ∧ ∀ ad, A = some ad → w.heap.size ≤ ad.block := by
  obtain ⟨i0, hi, hz0, hz1, hz2⟩ := info_parts infoFd
  obtain ⟨m, hm⟩ : ∃ m, m = (partsL k).length := ⟨_, rfl⟩
  have hm4 : m ≤ 4 := by rw [hm]; exact partsL_le k
  have HM := Lib.hid hm
  have HN := Lib.hid hn
  clear hm hn
  go_enter Tryz.func62, Tryz.ntmps62
  go_wp2_with fail
  refine (ppartsOf_any k m HM.out w).mono ?_
  rintro e w1 ⟨A, c, rfl, hrd, hb1⟩
  have HR := Lib.hid hrd
  have HB1 := Lib.hid hb1
  clear hrd hb1
  go_wp2
  go_loopw [5, 7, 11] (fun v _ i wr => ∃ j : Nat, j ≤ m ∧ i = .int .i64 j ∧ wr.ownsRow w1.heap.size 87 2 v ((partsL k).take j).flatten.length (FL X ((partsL k).take j).flatten) ∧ Below w1.heap.size w1 wr) (fun _ _ i _ => m - (intOf i).toNat)
  case atStart => exact ⟨0, Nat.zero_le _, rfl, ⟨rfl, .inl ⟨rfl, rfl⟩⟩, Below.refl _ _⟩
  case round =>
    obtain ⟨j, hj, rfl, hown, hbel⟩ := hrel
    have HO := Lib.hid hown
    have HBL := Lib.hid hbel
    clear hown hbel
    by_cases hlt : j < m
    · have hjl : j < (partsL k).length := by rw [← HM.out]; exact hlt
      have hjv : j < (partsV k).length := by rw [partsV_len]; exact hjl
      obtain ⟨x, hx⟩ : ∃ x, (partsL k)[j]? = some x := ⟨_, List.getElem?_eq_getElem hjl⟩
      obtain ⟨y, hy⟩ : ∃ y, (partsV k)[j]? = some y := ⟨_, List.getElem?_eq_getElem hjv⟩
      obtain ⟨K, rfl, h7, hent, hcon⟩ := parts_ok k j y x hy hx
      obtain ⟨ad, rfl, hb, hc⟩ := (HR.out.next HBL.out) j _ hy
      have hle := fields_le k j
      have HX := Lib.hid hx
      have HC := Lib.hid hcon
      obtain ⟨q, hq⟩ : ∃ q, q = x.length := ⟨_, rfl⟩
      rw [← hq] at h7
      have HQ := Lib.hid hq
      obtain ⟨p, hp⟩ : ∃ p, p = ((partsL k).take j).flatten.length := ⟨_, rfl⟩
      rw [← hp] at hle
      have HP := Lib.hid hp
      have HO1 : Hid (_) := Lib.hid (hp ▸ HO.out)
      have b1 : (0 : Int) ≤ (j : Int) := by omega
      have b2 : (j : Int) < (m : Int) := by omega
      clear hjl hjv hx hy hcon hq hp
      go_wp2_with (first | (refine (HC.out X _).mono ?_; rintro e w2 ⟨A2, rfl, hrd2, hb2⟩; have HR2 := Lib.hid hrd2; have HBD := Lib.hid hb2; have HBL1 := Lib.hid (HBL.out.trans (hb2.mono HBL.out.size)); clear hrd2 hb2; try rw [← HQ.out]) | (at_builtin; refine wpList_append_own _ rfl _ _ 83 rfl w1.heap.size 87 i0 (.agg #[.pointer none, .int .i64 0]) 2 16 Tryz.underlying83 hi hz0 hz1 hz2 rfl (by decide) _ p _ rfl (own_below HO1.out HBD.out) A2 q q (FL X x) rfl (by rw [FL_len, HQ.out]) (fun a u hu => by obtain ⟨ad, e, _, hc⟩ := HR2.out a u hu; cases e; exact hc) (FL_one X x) (by unfold maxLen; omega) (by omega) HBL1.out.size ?_; intro v' w3 hown' hgrow _))
      have hbel2 : Below w1.heap.size w1 w3 := HBL1.out.grown hgrow HBL1.out.size (fun j hj => own_ge (own_below HO1.out HBD.out) hj)
      have HO2 : Hid (w3.ownsRow w1.heap.size 87 2 v' ((partsL k).take (j + 1)).flatten.length (FL X ((partsL k).take (j + 1)).flatten)) := Lib.hid (by
        rw [flat_take _ j x HX.out, FL_append, List.length_append, ← HP.out, ← HQ.out]; exact hown')
      clear hown' hgrow
      go_wp2
      go_roundw
      case rel => exact ⟨j + 1, by omega, by go_num, HO2.out, hbel2⟩
      case measure => simp [intOf]; omega
    · have e1 : j = m := by omega
      subst e1
      obtain ⟨A2, c2, rfl, hl, hfs, hfar⟩ := fs_of_own HO.out
      have HFA := Lib.hid hfar
      have e2 : ((partsL k).take j).flatten = fieldsL k := by rw [List.take_of_length_le (by rw [← HM.out]; omega), fieldsL]
      rw [e2] at hfs
      have e3 : ((partsL k).take j).flatten.length = n := by rw [e2, HN.out]
      rw [e3]
      have HFS := Lib.hid hfs
      have HB2 := Lib.hid (HB1.out.trans (HBL.out.mono HB1.out.size))
      clear hl hfs hfar e2 e3
      go_wp2
      go_ret
      exact ⟨A2, c2, rfl, HFS.out, HB2.out, fun ad e => Nat.le_trans HB1.out.size (HFA.out ad e)⟩
theorem pfields_any (k : Int) (n : Nat) (hn : n = (fieldsL k).length) (X : Nat) (w : World) : Calls Tryz.prog 62 #[.pointer (some ⟨X, 0, none⟩), .int .i64 k] w fun e w' => ∃ A c, e = .returned (.slice A n c) ∧ Fs w' w'.heap.size X (fieldsL k) A c ∧ Below w.heap.size w w' :=
  (pfields_far k n hn X w).mono fun e w' ⟨A, c, h1, h2, h3, _⟩ => ⟨A, c, h1, h2, h3⟩
set_option linter.unusedVariables false
open Go.ChangeShapes Go.WideShapes Go.ChangeAt Go.RowKit

theorem int_lit2 (w : World) (o : Obj) (x : Int) : ∀ j u, ([.int .i64 x] : List Value)[j]? = some u → ((w.alloc o).alloc (.cells #[.int .i64 x] 3)).cell? ((⟨w.heap.size + 1, 0, none⟩ : Addr).add j) = some u := by
  have h := bint_lit (w.alloc o) x
  rw [show (w.alloc o).heap.size = w.heap.size + 1 by simp] at h
  exact h
theorem one_int (x : Int) : ∀ u ∈ ([.int .i64 x] : List Value), u.oneCell' = true := by
  intro u hu
  simp only [List.mem_singleton] at hu
  subst hu; rfl
theorem ltake_snoc {α : Type} {l : List α} {k : Nat} {x : α} (h : l[k]? = some x) : l.take (k + 1) = l.take k ++ [x] := by rw [List.take_add_one, h]; rfl
set_option maxRecDepth 100000 in
set_option maxHeartbeats 1600000 in
theorem pwidths_no (k : Int) (hk : ¬ (1 ≤ k ∧ k ≤ 4)) (w : World) : Calls Tryz.prog 106 #[.int .i64 k] w fun e w' => e = .returned (.tuple #[.slice none 0 0, .int .i64 8]) ∧ Below w.heap.size w w' := by
  have hn : 0 = (fieldsL k).length := by rw [fieldsL_len, widL, if_neg hk]; rfl
  have HN := Lib.hid hn
  clear hn
  go_enter Tryz.func106, Tryz.ntmps106
  go_wp2_with (go_at_call 62; refine (pfields_any k 0 HN.out _ _).mono ?_; rintro e w1 ⟨A, c, rfl, -, hb⟩; have HB := Lib.hid hb; clear hb)
  go_ret2
  exact ⟨rfl, (below_lit w _ _).trans (HB.out.mono (by simp))⟩
set_option maxRecDepth 100000 in
set_option maxHeartbeats 1600000 in
theorem pwidths_yes (k : Int) (hk : 1 ≤ k ∧ k ≤ 4) (n : Nat) (hn : n = (widL k).length) (w : World) : Calls Tryz.prog 106 #[.int .i64 k] w fun e w' => ∃ A c, e = .returned (.tuple #[.slice A n c, .int .i64 0]) ∧ Zs w' w'.heap.size (widL k) A c ∧ Below w.heap.size w w' := by
  obtain ⟨i0, hi, hz0, hz1, hz2⟩ := info_parts infoInt
  have h13 : n ≤ 13 := by rw [hn]; exact widL_le k
  have h12 : 12 ≤ n := by rw [hn, widL_len hk]; split <;> omega
  have hnf : n = (fieldsL k).length := by rw [fieldsL_len, hn]
  have HN := Lib.hid hn
  have HF := Lib.hid hnf
  have hz : ((n : Int) == 0) = false := by rw [beq_eq_false_iff_ne]; omega
  have hz' : (n == 0) = false := by rw [beq_eq_false_iff_ne]; omega
  clear hn hnf hk
  go_enter Tryz.func106, Tryz.ntmps106
  go_wp2_with (first | (go_at_call 62; refine (pfields_any k n HF.out _ _).mono ?_; rintro e w1 ⟨A, c, rfl, hfs, hb⟩; have HB := Lib.hid hb; have HFS := Lib.hid hfs; clear hb hfs) | (at_make; refine wpList_make_own _ rfl _ _ 82 rfl w1.heap.size 3 i0 (.int .i64 0) 1 Tryz.underlying82 hi hz0 hz1 _ _ _ n rfl rfl rfl ?b2 ?b3 ?b4 ?_))
  case b2 => rw [hz2]; omega
  case b3 => unfold maxLen; omega
  case b4 => exact Nat.le_refl _
  intro w2 hown hgr
  have HO0 := Lib.hid hown
  have HB2 := Lib.hid (show Below w1.heap.size w1 w2 from (Below.refl _ _).grown hgr (Nat.le_refl _) (fun j hj => by cases hj))
  clear hown hgr
  go_wp2
  go_loopw [6, 8, 19] (fun v _ i wr => ∃ j : Nat, j ≤ n ∧ i = .int .i64 j ∧ wr.ownsRow w1.heap.size 3 1 v j (I64 ((widL k).take j)) ∧ Below w1.heap.size w1 wr) (fun _ _ i _ => n - (intOf i).toNat)
  case atStart => exact ⟨0, Nat.zero_le _, rfl, HO0.out, HB2.out⟩
  case round =>
    obtain ⟨j, hj, rfl, hown, hbel⟩ := hrel
    have HO := Lib.hid hown
    have HBL := Lib.hid hbel
    clear hown hbel
    by_cases hlt : j < n
    · have hjl : j < (fieldsL k).length := by rw [← HF.out]; exact hlt
      obtain ⟨⟨o, wd⟩, hx⟩ : ∃ x, (fieldsL k)[j]? = some x := ⟨_, List.getElem?_eq_getElem hjl⟩
      obtain ⟨g, rfl, hb, hc, hc'⟩ := (HFS.out.next HBL.out).at hx
      have hw : (widL k)[j]? = some wd := by rw [← fieldsL_wid, List.getElem?_map, hx]; rfl
      have HW := Lib.hid hw
      have b1 : (0 : Int) ≤ (j : Int) := by omega
      have b2 : (j : Int) < (n : Int) := by omega
      clear hjl hx hw
      go_wp2_with (at_builtin; refine wpList_append_own _ rfl _ _ 82 rfl w1.heap.size 3 i0 (.int .i64 0) 1 8 Tryz.underlying82 hi hz0 hz1 hz2 rfl (by decide) _ j _ rfl ((HO.out.alloc _).alloc _) ⟨wr.heap.size + 1, 0, none⟩ 1 1 [.int .i64 wd] rfl rfl (int_lit2 _ _ _) (one_int _) (by unfold maxLen; omega) (by omega) (by have := HBL.out.size; simp; omega) ?_; intro v' w3 hown' hgrow _)
      have hbel2 : Below w1.heap.size w1 w3 := (((HBL.out.alloc HBL.out.size _).alloc (by have := HBL.out.size; simp; omega) _)).grown hgrow (by have := HBL.out.size; simp; omega) (fun j hj => own_ge HO.out hj)
      have HO2 : Hid (w3.ownsRow w1.heap.size 3 1 v' (j + 1) (I64 ((widL k).take (j + 1)))) := Lib.hid (by rw [ltake_snoc HW.out, I64_append]; exact hown')
      clear hown' hgrow
      go_wp2
      go_roundw
      case rel => exact ⟨j + 1, by omega, by go_num, HO2.out, hbel2⟩
      case measure => simp [intOf]; omega
    · have e1 : j = n := by omega
      subst e1
      have e2 : (widL k).take j = widL k := List.take_of_length_le (by rw [← HN.out]; omega)
      have ho := HO.out
      rw [e2] at ho
      obtain ⟨A2, c2, rfl, _, hzs⟩ := zs_of_own ho
      have HZ := Lib.hid hzs
      have HB3 := Lib.hid (((below_lit w _ _).trans (HB.out.mono (by simp))).trans (HBL.out.mono (by have := HB.out.size; simp at this; omega)))
      clear e2 ho hzs
      go_wp2
      go_ret2
      exact ⟨A2, c2, rfl, HZ.out, HB3.out⟩
theorem pwidths_any (k E : Int) (l : List Int) (n : Nat) (hn : n = l.length) (hE : widE k = E) (hl : widL k = l) (w : World) : Calls Tryz.prog 106 #[.int .i64 k] w fun e w' => ∃ A c, e = .returned (.tuple #[.slice A n c, .int .i64 E]) ∧ Zs w' w'.heap.size l A c ∧ Below w.heap.size w w' := by
  by_cases hk : 1 ≤ k ∧ k ≤ 4
  · obtain rfl : E = 0 := by rw [← hE, widE, if_pos hk]
    subst hl
    exact pwidths_yes k hk n hn w
  · obtain rfl : E = 8 := by rw [← hE, widE, if_neg hk]
    obtain rfl : l = [] := by rw [← hl, widL, if_neg hk]
    subst hn
    refine (pwidths_no k hk w).mono ?_
    rintro e w' ⟨rfl, hb⟩
    exact ⟨none, 0, rfl, zs_nil _, hb⟩
set_option linter.unusedVariables false
open Go.ChangeShapes Go.WideShapes Go.ChangeAt Go.RowKit

section
variable {P : Program} (w : World)
theorem wpList_append_side {ops : Array Oper} {rest : List Oper} {o : Oper} {a : Act} {Q : Exit → Act → World → Prop} (hgd : o.guard = none) (s x : Operand) (t : TypeId)
    (ho : o.op = .call { callee := .builtin .append, args := #[s, x], argTypes := #[t, t] })
    (base : Nat) (e : TypeId) (i : TypeInfo) (z : Value) (bytes : Nat) (ht : P.underlying t = some (.slice e)) (hi : P.info? e = some i) (hz : i.zero = some z) (hsize : i.size = 1) (hby : i.bytes = bytes) (hzs : z.cells.size = 1)
    (v : Value) (n : Nat) (xs : List Value) (hs : a.eval s = v) (hown : w.ownsRow base e 1 v n xs)
    (ad : Addr) (m c : Nat) (news : List Value) (hx : a.eval x = .slice (some ad) m c) (hl : news.length = m) (hm : 0 < m) (hnews : ∀ j u, news[j]? = some u → w.cell? (ad.add j) = some u)
    (h1 : ∀ u ∈ news, u.oneCell' = true) (h63 : n + m ≤ maxLen) (hbytes : (n + m) * bytes ≤ 140737488355328) (hbase : base ≤ w.heap.size)
    (h : ∀ v' w', w'.ownsRow base e 1 v' (n + m) (xs ++ news) → w.grownBy w' v.ownBlock → (∀ g, v'.ownBlock = some g → v.ownBlock = some g ∨ w.heap.size ≤ g) → wpList P ops Q rest (a.put o.dst v') w') : wpList P ops Q (o :: rest) a w := by
  rcases hown.2 with ⟨rfl, rfl⟩ | ⟨g, cap, cur, rfl, hb, hg, rest'⟩
  · have hown' : w.ownsRow w.heap.size e 1 (.slice none 0 0) 0 xs := ⟨hown.1, .inl ⟨rfl, rfl⟩⟩
    exact wpList_append_own w hgd s x t ho w.heap.size e i z 1 bytes ht hi hz hsize hby hzs (by omega) _ 0 xs hs hown' ad m c news hx (by omega) hnews h1 h63 hbytes (Nat.le_refl _) fun v' w' h2 h3 _ => h v' w' (own_base h2 hbase) h3 fun g hgb => .inr (own_ge h2 hgb)
  · exact wpList_append_apart w hgd s x t ho base e i z bytes ht hi hz hsize hby hzs g n cap xs hs hown ad m c news hx hl (by omega) hnews h1 h63 hbytes hbase fun g' cap' w' h2 h3 h4 => h _ w' h2 h3 fun k hk => by
      simp only [Value.ownBlock, Option.some.injEq] at hk ⊢
      subst hk
      rcases h4 with h4 | h4
      · exact .inl h4.symm
      · exact .inr h4
end
/-- The fifteen numbers of a reading. -/
def rgL (r : Rg) : List Int := [r.t.ser, r.t.kind, r.t.frm, r.t.till, r.t.cls, r.t.card, r.t.seat, r.t.day, r.t.days, r.t.uses, r.t.epoch, r.key, r.left, r.inn, r.ver]
theorem SBox.at {w : World} {X o : Nat} {r : Rg} {x : Int} (h : SBox w X r) (hx : (rgL r)[o]? = some x) : w.cell? ⟨X, o, none⟩ = some (.int .i64 x) := by
  rw [cell_of_row w X o _ _ (0, 0) h]
  have e : (#[.int .i64 r.t.ser, .int .i64 r.t.kind, .int .i64 r.t.frm, .int .i64 r.t.till, .int .i64 r.t.cls, .int .i64 r.t.card, .int .i64 r.t.seat, .int .i64 r.t.day, .int .i64 r.t.days, .int .i64 r.t.uses, .int .i64 r.t.epoch, .int .i64 r.key, .int .i64 r.left, .int .i64 r.inn, .int .i64 r.ver] : Array Value) = ((rgL r).map fun x => Value.int .i64 x).toArray := rfl
  rw [e]
  simp [hx]
theorem fields_map (r : Rg) (hk : 1 ≤ r.t.kind ∧ r.t.kind ≤ 4) : (fieldsL r.t.kind).map (fun p => (rgL r)[p.1]?) = (valL r).map some := by
  unfold fieldsL partsL valL valF
  by_cases h1 : r.t.kind = 1 ∨ r.t.kind = 2
  · rw [if_pos h1, if_neg (by omega)]; rfl
  · by_cases h3 : r.t.kind = 3
    · rw [if_neg h1, if_pos h3, if_neg (by omega)]; rfl
    · have h4 : r.t.kind = 4 := by omega
      rw [if_neg h1, if_neg h3, if_pos h4, if_pos h4]; rfl
theorem fields_val {r : Rg} (hk : 1 ≤ r.t.kind ∧ r.t.kind ≤ 4) {j : Nat} {p : Nat × Int} (h : (fieldsL r.t.kind)[j]? = some p) : ∃ x, (valL r)[j]? = some x ∧ (rgL r)[p.1]? = some x := by
  have h1 := congrArg (fun l => l[j]?) (fields_map r hk)
  simp only [List.getElem?_map, h, Option.map_some] at h1
  cases hv : (valL r)[j]? with
  | none => rw [hv] at h1; cases h1
  | some x => rw [hv] at h1; exact ⟨x, rfl, by simpa using h1⟩
theorem valL_len {r : Rg} (hk : 1 ≤ r.t.kind ∧ r.t.kind ≤ 4) : (valL r).length = (widL r.t.kind).length := by
  have := congrArg List.length (fields_map r hk)
  simp only [List.length_map] at this
  rw [← this, fieldsL_len]
def InR (r : Rg) : Prop := ∀ x ∈ rgL r, In64 x
theorem valL_in {r : Rg} (h : InR r) : ∀ v ∈ valL r, In64 v := by
  intro v hv
  refine h v ?_
  unfold valL valF at hv
  split at hv
  · simp only [List.cons_append, List.nil_append, List.mem_cons, List.not_mem_nil, or_false] at hv
    rcases hv with rfl | rfl | rfl | rfl | rfl | rfl | rfl | rfl | rfl | rfl | rfl | rfl | rfl <;> simp [rgL]
  · simp only [List.cons_append, List.nil_append, List.mem_cons, List.not_mem_nil, or_false] at hv
    rcases hv with rfl | rfl | rfl | rfl | rfl | rfl | rfl | rfl | rfl | rfl | rfl | rfl <;> simp [rgL]
theorem own_lt {w : World} {base n size : Nat} {e : TypeId} {v : Value} {xs : List Value} (h : w.ownsRow base e size v n xs) {g : Nat} (hg : v.ownBlock = some g) : g < w.heap.size := by
  rcases h.2 with ⟨rfl, _⟩ | ⟨g', cap, cur, rfl, _, hgg, _⟩
  · simp [Value.ownBlock] at hg
  · simp [Value.ownBlock] at hg
    subst hg
    exact (Array.getElem?_eq_some_iff.1 hgg).1
theorem own_ne {w : World} {base n size : Nat} {e : TypeId} {v : Value} {xs : List Value} (h : w.ownsRow base e size v n xs) {g : Nat} (hg : w.heap.size ≤ g) : some g ≠ v.ownBlock := fun e => by
  have := own_lt h e.symm
  omega
end Go.Proofs.YtpniolinndlepaaGreatDoor
