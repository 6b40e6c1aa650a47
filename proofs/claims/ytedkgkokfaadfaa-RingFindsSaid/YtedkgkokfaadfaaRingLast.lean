/-
  Contract for the landed last: the last place of a list of keys whose key fits, or -1. Conditions: at most 1000 keys; the function value's contract.
-/
import Derived.Test.YtedkgkokfaadfaaRingBack
namespace Go.Proofs.Ytedkgkokfaadfaa
set_option linter.unusedVariables false
open Go.ChangeShapes Go.WideShapes Go.ChangeAt Go.RowKit Go.Shelf
attribute [local go_sem] Oper.semAt_some

theorem back_in (F : Fence) (n : Nat) (hf : F.fn 29) (hro : F.round = none) (A : Option Addr) (m c : Nat) (w : World) :
    CallsIn F n Try.prog 29 #[.slice A m c] w fun e w' => e = .returned (.func (.func 30) #[] #[.pointer (some ⟨w.heap.size, 0, none⟩)]) ∧ w' = w.alloc (.cells #[.slice A m c] 22) := by
  refine callsIn_of_wp Try.func29 rfl hf ?_ hro
  simp only [Try.ntmps29, List.size_toArray, List.length_cons, List.length_nil, Nat.reduceAdd, Nat.reduceSub, Array.replicate_succ, Array.replicate_zero, List.push_toArray, List.append_toArray, List.nil_append, List.cons_append]
  gi_wp2
  go_ret
  exact ⟨rfl, rfl⟩

theorem back_stops (F : Fence) (n : Nat) (hf : F.fn 30) (hro : F.round = none) (hn : 1 ≤ n) (Bx n₀ : Nat) (A : Option Addr) (m c : Nat) (L : List KV) (hm : m = L.length) (h100 : m ≤ 1000) (hBx : Bx < n₀) (w : World) (hn₀ : n₀ ≤ w.heap.size)
    (hc : w.cell? ⟨Bx, 0, none⟩ = some (.slice A m c)) (hL : KVs w n₀ A L) :
    SeqStopsK F n Try.prog 30 #[.pointer (some ⟨Bx, 0, none⟩)] encB (Below n₀) (fun ys => ys = upto L m) (fun pre => ∃ k, k ≤ m ∧ pre = upto L k) m w := fun l J Jx W hW _ _ hY h0 =>
  back1_in F n hf hro hn l Bx n₀ A m c L hm h100 hBx J Jx hY W ((hW.cell (p := ⟨Bx, 0, none⟩) (Nat.lt_of_lt_of_le hBx hn₀)).trans hc) (hL.below (hW.mono hn₀)) h0

/-- The last of the first n places that fits, or -1. -/
def lastIx (p : Nat → Bool) : Nat → Int
  | 0 => -1
  | n + 1 => if p n = true then (n : Int) else lastIx p n
theorem lastIx_none {p : Nat → Bool} : ∀ n : Nat, (∀ j, j < n → p j = false) → lastIx p n = -1
  | 0, _ => rfl
  | n + 1, h => by rw [lastIx, h n (by omega)]; simpa using lastIx_none n (fun j hj => h j (by omega))
theorem lastIx_at {p : Nat → Bool} : ∀ (n k : Nat), k < n → p k = true → (∀ j, k < j → j < n → p j = false) → lastIx p n = (k : Int)
  | 0, k, hk, _, _ => by omega
  | n + 1, k, hk, hp, h => by
    by_cases e : k = n
    · subst e; rw [lastIx, if_pos hp]
    · rw [lastIx, h n (by omega) (by omega)]; simpa using lastIx_at n k (by omega) hp (fun j h1 h2 => h j h1 (by omega))
theorem lastIx_cases (p : Nat → Bool) : ∀ n : Nat, (lastIx p n = -1 ∧ ∀ j, j < n → p j = false) ∨ ∃ k : Nat, k < n ∧ lastIx p n = (k : Int) ∧ p k = true ∧ ∀ j, k < j → j < n → p j = false
  | 0 => .inl ⟨rfl, by omega⟩
  | n + 1 => by
    by_cases hp : p n = true
    · exact .inr ⟨n, by omega, by rw [lastIx, if_pos hp], hp, by omega⟩
    · have hf : p n = false := by simpa using hp
      rcases lastIx_cases p n with ⟨h1, h2⟩ | ⟨k, h1, h2, h3, h4⟩
      · refine .inl ⟨by rw [lastIx, hf]; simpa using h1, fun j hj => ?_⟩
        rcases Nat.lt_or_ge j n with h | h
        · exact h2 j h
        · have : j = n := by omega
          subst this; exact hf
      · refine .inr ⟨k, by omega, by rw [lastIx, hf]; simpa using h2, h3, fun j hj1 hj2 => ?_⟩
        rcases Nat.lt_or_ge j n with h | h
        · exact h4 j hj1 h
        · have : j = n := by omega
          subst this; exact hf

theorem getD_k {l : List K} {L : List KV} (h : L.map (·.k) = l) (j : Nat) : l.getD j K0 = (L.getD j KV0).k := by
  subst h
  rw [List.getD_eq_getElem?_getD, List.getD_eq_getElem?_getD, List.getElem?_map]
  cases L[j]? <;> rfl
theorem upto_none {l : List K} {L : List KV} {p : K → Bool} (h : L.map (·.k) = l) (k : Nat) (hk : k ≤ L.length) (hall : ∀ x ∈ upto L k, p x.2.k = false) : ∀ j, L.length - k ≤ j → j < L.length → p (l.getD j K0) = false := by
  intro j h1 h2
  have hm : back L (L.length - 1 - j) ∈ upto L k := by
    simp only [upto, List.mem_map, List.mem_range]
    exact ⟨_, by omega, rfl⟩
  have := hall _ hm
  rw [back, show L.length - 1 - (L.length - 1 - j) = j by omega] at this
  rw [getD_k h]
  exact this
theorem keeps_call {B : Nat} {W W' : World} (hb : Below W.heap.size W W') : KeepsFrom B W W' := ⟨hb.size, fun k o _ hk _ => (hb.block k (Array.getElem?_eq_some_iff.1 hk).1).trans hk⟩
/-- What the function value must do: tell of a key whether it fits. -/
def Fits (g : Nat) (lb : Array Value) (p : K → Bool) (w : World) : Prop :=
  ∀ (W : World) (q : KV), Below w.heap.size w W → Calls Try.prog g (#[.agg #[.int .i64 q.k.id, .slice q.S q.k.sec.length q.c, .int .i64 q.k.frm, .int .i64 q.k.til]] ++ lb) W fun e w' => e = .returned (.bool (p q.k)) ∧ Below W.heap.size W w'

set_option maxRecDepth 100000 in
set_option maxHeartbeats 2000000 in
theorem last_any (p : K → Bool) (l : List K) (m : Nat) (hm : m = l.length) (h100 : m ≤ 1000) (g : Nat) (lb : Array Value) (eg : ∀ args w, (callFunc g args).run Try.prog w = .ok (.enter g args) w) (A : Option Addr) (c : Nat) (w : World) (hA : Ks w w.heap.size A l) (hp : Fits g lb p w) :
    Calls Try.prog 20 #[.slice A m c, .func (.func g) #[] lb] w fun e w' => e = .returned (.int .i64 (lastIx (fun j => p (l.getD j K0)) m)) ∧ Below w.heap.size w w' := by
  obtain ⟨L, hL, hKV, _⟩ := kvs_of_ks hA
  have hmL : m = L.length := by rw [hm, ← hL, List.length_map]
  have HM := Lib.hid hm
  have HL := Lib.hid hL
  have HKV := Lib.hid hKV
  have HP := Lib.hid hp
  have HML := Lib.hid hmL
  clear hm hL hKV hp hmL hA
  refine (callsIn_wide (n := 3)).1 ?_
  refine callsIn_of_wp_marks Try.func20 rfl trivial ?_ rfl
  simp only [Try.ntmps20, List.size_toArray, List.length_cons, List.length_nil, Nat.reduceAdd, Nat.reduceSub, Array.replicate_succ, Array.replicate_zero, List.push_toArray, List.append_toArray, List.nil_append, List.cons_append]
  gi_wp2_with (refine ⟨trivial, ?_⟩; gi_at_call 29; refine (back_in Fence.wide _ trivial rfl _ _ _ _).mono ?_; rintro e w' ⟨rfl, rfl⟩)
  have bF := ((Boxed.new w 40 (.func (.func g) #[] lb)).alloc (.cells #[.int .i64 0] 3)).alloc (.cells #[.slice A m c] 22)
  have bR := (Boxed.new (w.alloc (.cells #[.func (.func g) #[] lb] 40)) 3 (.int .i64 0)).alloc (.cells #[.slice A m c] 22)
  have bS := Boxed.new ((w.alloc (.cells #[.func (.func g) #[] lb] 40)).alloc (.cells #[.int .i64 0] 3)) 22 (.slice A m c)
  simp only [World.size_alloc] at bR bS
  have hB0 : Below w.heap.size w (((w.alloc (.cells #[.func (.func g) #[] lb] 40)).alloc (.cells #[.int .i64 0] 3)).alloc (.cells #[.slice A m c] 22)) := (((Below.refl _ w).alloc (Nat.le_refl _) _).alloc (by simp) _).alloc (by simp; omega) _
  have hsz : (((w.alloc (.cells #[.func (.func g) #[] lb] 40)).alloc (.cells #[.int .i64 0] 3)).alloc (.cells #[.slice A m c] 22)).heap.size = w.heap.size + 3 := by simp
  obtain ⟨W0, hW0⟩ : ∃ W0, ((w.alloc (.cells #[.func (.func g) #[] lb] 40)).alloc (.cells #[.int .i64 0] 3)).alloc (.cells #[.slice A m c] 22) = W0 := ⟨_, rfl⟩
  rw [hW0] at bF bR bS hB0 hsz ⊢
  clear hW0
  have hKV0 : KVs W0 (w.heap.size + 3) A L := fun i q hq => by
    obtain ⟨ad, e, hlt, hk⟩ := (HKV.out.below hB0) i q hq
    exact ⟨ad, e, by omega, hk.more (by omega)⟩
  refine wpIn_rangeFunc_ownH rfl (by omega) (gf := 30) (lb := #[.pointer (some ⟨w.heap.size + 1 + 1, 0, none⟩)]) rfl trivial (enters_of Try.func30 (by kernel_rfl) rfl)
    (back_stops Fence.wide _ trivial rfl (by omega) (w.heap.size + 1 + 1) (w.heap.size + 3) A m c L HML.out h100 (by omega) W0 (by omega) bS.cell hKV0) belowK_t (belowK_b (by omega)) (Below.refl _ _) (fun _ => rfl)
    (fun pre W => ((∀ x ∈ pre, p x.2.k = false) ∧ Boxed W w.heap.size 40 (.func (.func g) #[] lb) ∧ Boxed W (w.heap.size + 1) 3 (.int .i64 0) ∧ w.heap.size + 3 ≤ W.heap.size) ∧ Below w.heap.size w W)
    (fun c pre W => (c = .ret ∧ ∃ (ini : List (Nat × KV)) (z : Nat × KV), pre = ini ++ [z] ∧ (∀ x ∈ ini, p x.2.k = false) ∧ p z.2.k = true ∧ Boxed W (w.heap.size + 1) 3 (.int .i64 (z.1 : Int))) ∧ Below w.heap.size w W)
    (OwnFrom.and (Own.from (fun s A B row hs hg hr => ⟨hs.1, hs.2.1.kept hg (fun e => by obtain ⟨o, h1, h2⟩ := hr _ e.symm; rw [show A.heap[w.heap.size]? = _ from hs.2.1] at h1; cases h1; cases h2), hs.2.2.1.kept hg (fun e => by obtain ⟨o, h1, h2⟩ := hr _ e.symm; rw [show A.heap[w.heap.size + 1]? = _ from hs.2.2.1] at h1; cases h1; cases h2), Nat.le_trans hs.2.2.2 hg.size⟩) _) (ownFrom_below (Nat.le_refl _) (by omega)))
    (fun c => OwnFrom.and (Own.from (fun s A B row hs hg hr => by
      obtain ⟨hc, ini, z, e1, e2, e3, e4⟩ := hs
      exact ⟨hc, ini, z, e1, e2, e3, e4.kept hg (fun e => by obtain ⟨o, h1, h2⟩ := hr _ e.symm; rw [show A.heap[w.heap.size + 1]? = _ from e4] at h1; cases h1; cases h2)⟩) _) (ownFrom_below (Nat.le_refl _) (by omega)))
    ⟨⟨by simp, bF, bR, by omega⟩, hB0⟩
    (fun x a' W => ∃ Bx, w.heap.size + 2 < Bx ∧ W.heap[Bx]? = some (.cells #[.int .i64 x.2.k.id, .slice x.2.S x.2.k.sec.length x.2.c, .int .i64 x.2.k.frm, .int .i64 x.2.k.til] 26 (0, 0)) ∧ a' = { tmps := #[.slice A m c, .func (.func g) #[] lb, undef, .pointer (some ⟨w.heap.size, 0, none⟩), .pointer (some ⟨w.heap.size + 1, 0, none⟩), .int .i64 (x.1 : Int), .pointer (some ⟨Bx, 0, none⟩), .slice A m c, .func (.func 30) #[] #[.pointer (some ⟨w.heap.size + 1 + 1, 0, none⟩)], .int .i64 (x.1 : Int), .agg #[.int .i64 x.2.k.id, .slice x.2.S x.2.k.sec.length x.2.c, .int .i64 x.2.k.frm, .int .i64 x.2.k.til], undef, undef, undef, undef], defers := [] })
    ?hax ?assign ?body ?done ?stop
  case hax =>
    intro x a' s X Y row hs hg hr
    obtain ⟨Bx, h1, h2, h3⟩ := hs
    refine ⟨Bx, h1, (hg.block Bx (Array.getElem?_eq_some_iff.1 h2).1 (fun e => ?_)).trans h2, h3⟩
    obtain ⟨o, h4, h5⟩ := (hr Bx e.symm).2
    rw [h2] at h4
    cases h4
    cases h5
  case assign =>
    rintro l pre x W K ⟨⟨hall, hF, hR, h3⟩, hB⟩ hK
    have HK := Lib.hid hK
    clear hK
    dsimp only [encB]
    gi_wp2
    exact HK.out _ _ ((KeepsOthers.alloc _ _).from _) ((Below.refl _ W).alloc h3 _) ⟨⟨hall, hF.alloc _, hR.alloc _, by simp; omega⟩, hB.alloc (by omega) _⟩ ⟨W.heap.size, by omega, World.alloc_heap_new W _, rfl⟩
  case body =>
    rintro l pre x a' W hl ⟨r, hr⟩ ⟨⟨hall, hF, hR, h3⟩, hB⟩ ⟨Bx, hBx, hX, rfl⟩ hlt
    have hX0 : W.cell? ⟨Bx, 0, none⟩ = some (.int .i64 x.2.k.id) := by rw [cell_of_row W Bx 0 _ _ (0, 0) hX]; rfl
    have hX1 : W.cell? ⟨Bx, 1, none⟩ = some (.slice x.2.S x.2.k.sec.length x.2.c) := by rw [cell_of_row W Bx 1 _ _ (0, 0) hX]; rfl
    have hX2 : W.cell? ⟨Bx, 2, none⟩ = some (.int .i64 x.2.k.frm) := by rw [cell_of_row W Bx 2 _ _ (0, 0) hX]; rfl
    have hX3 : W.cell? ⟨Bx, 3, none⟩ = some (.int .i64 x.2.k.til) := by rw [cell_of_row W Bx 3 _ _ (0, 0) hX]; rfl
    have hcF := hF.cell
    have hfit := HP.out W x.2 hB
    have HF := Lib.hid hF
    have HR := Lib.hid hR
    have HALL := Lib.hid hall
    clear hX hF hR hall
    cases hpx : p x.2.k with
    | true =>
      rw [hpx] at hfit
      gi_wp2_with (refine ⟨trivial, ?_⟩; refine (CallsIn.inRound l (callsIn_wide.2 hfit)).mono ?_; rintro e w' ⟨rfl, hb⟩; have hR1 : Boxed w' (w.heap.size + 1) 3 (.int .i64 0) := (hb.block _ HR.out.lt).trans HR.out; have hc1 := hR1.cell; have hf1 := hR1.frozen; have HR1 := Lib.hid hR1; have HB1 := Lib.hid hb; clear hR1 hb)
      exact ⟨(keeps_call HB1.out).trans ((KeepsOthers.setCell _ _ _).from _), ⟨rfl, pre, x, rfl, HALL.out, hpx, HR1.out.set _⟩, (hB.trans (HB1.out.mono hB.size)).setCell (p := ⟨w.heap.size + 1, 0, none⟩) (by simp) _⟩
    | false =>
      rw [hpx] at hfit
      gi_wp2_with (refine ⟨trivial, ?_⟩; refine (CallsIn.inRound l (callsIn_wide.2 hfit)).mono ?_; rintro e w' ⟨rfl, hb⟩; have HB1 := Lib.hid hb; clear hb)
      exact ⟨keeps_call HB1.out, HB1.out.mono h3, ⟨fun y hy => (List.mem_append.1 hy).elim (HALL.out y) (fun e => by simp at e; subst e; exact hpx), (HB1.out.block _ HF.out.lt).trans HF.out, (HB1.out.block _ HR.out.lt).trans HR.out, Nat.le_trans h3 HB1.out.size⟩, hB.trans (HB1.out.mono hB.size)⟩
  case done =>
    rintro D ys W hD rfl ⟨⟨hall, hF, hR, h3⟩, hB⟩ hK
    have hcr := hR.cell
    have hfr := hR.frozen
    have HALL := Lib.hid hall
    clear hall
    gi_wp2
    have hK' := (KeepsOthers.setCell W ⟨w.heap.size + 1, 0, none⟩ (.int .i64 (-1))).same D _ hK rfl
    refine ⟨by simp, .inl ⟨_, _, rfl, run_takeDeferred hK', ?_⟩⟩
    have hc5 := cell_kept (World.cell?_setCell_same' W ⟨w.heap.size + 1, 0, none⟩ (.int .i64 (-1)) (by rw [hcr]; rfl)) (grownBy_putObj' _ D (.deferred none)) (fun r e => by cases e; exact ⟨_, hK', rfl⟩)
    have hix : lastIx (fun j => p (l.getD j K0)) m = -1 := lastIx_none m (fun j hj => by
      have := HML.out
      exact upto_none HL.out m (by omega) HALL.out j (by omega) (by omega))
    refine ⟨.int .i64 (-1), ?_, by rw [hix], (hB.setCell (p := ⟨w.heap.size + 1, 0, none⟩) (by simp) _).trans (belowK_b (w := w) (Nat.le_refl _) _ D _ _ (by omega) hK' rfl rfl)⟩
    simp [results, Try.results20, go_sem, hc5]
  case stop =>
    rintro D cc pre W hD ⟨k, hk, rfl⟩ ⟨⟨rfl, ini, z, e1, e2, e3, hR⟩, hB⟩ hK
    have hcr := hR.cell
    gi_wp2
    refine ⟨by simp, .inl ⟨_, _, rfl, run_takeDeferred hK, ?_⟩⟩
    have hc5 := cell_kept hcr (grownBy_putObj' _ D (.deferred none)) (fun r e => by cases e; exact ⟨_, hK, rfl⟩)
    obtain ⟨k', rfl⟩ : ∃ k', k = k' + 1 := by
      cases k with
      | zero => simp [upto] at e1
      | succ k' => exact ⟨k', rfl⟩
    rw [upto_succ] at e1
    obtain ⟨rfl, e5⟩ := List.append_inj' e1 rfl
    obtain rfl : back L k' = z := by simpa using e5
    have hml := HML.out
    have hix : lastIx (fun j => p (l.getD j K0)) m = ((L.length - 1 - k' : Nat) : Int) := lastIx_at m _ (by omega) (by
      have := e3
      rw [back] at this
      show p (l.getD (L.length - 1 - k') K0) = true
      rw [getD_k HL.out]
      exact this) (fun j h1 h2 => upto_none HL.out k' (by omega) e2 j (by omega) (by omega))
    refine ⟨.int .i64 ((L.length - 1 - k' : Nat) : Int), ?_, by rw [hix], hB.trans (belowK_b (w := w) (Nat.le_refl _) W D _ _ (by omega) hK rfl rfl)⟩
    have hc6 := hc5
    simp only [back] at hc6
    simp [results, Try.results20, go_sem, hc6]
end Go.Proofs.Ytedkgkokfaadfaa
