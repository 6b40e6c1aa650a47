/-
  Contracts for the landed groups: the function that tells bytes by so many at a time, whatever the loop's body does that keeps the two boxes. Conditions: three at a time at most; 4000 bytes at most.
-/
import Derived.RangeFuncNested
import Derived.RangeFuncBound
import Derived.RangeFuncLeaves
import Derived.RangeFuncBox
import Derived.Shelf.Abstract
import Derived.WalkKit
import Derived.OwnWalkIn
import Derived.TacticsInMore
import Derived.LoopNIn
import Derived.LoopIn
import Derived.Maps.OwnIn
import Derived.Maps.AppendAt
import Derived.Maps.Views
import Derived.Test.YtmedfelkoknadaaBsRow
import Derived.Test.YtmedfelkoknadaaFortyMath
namespace Go.Proofs.Ytmedfelkoknadaa
set_option linter.unusedVariables false
open Go.ChangeShapes Go.WideShapes Go.ChangeAt Go.RowKit Go.Shelf
attribute [local go_sem] Oper.semAt_some

/-- The k-th group. -/
def grp (l : List Nat) (sz k : Nat) : List Nat := (l.drop (sz * k)).take sz
def eOf (n sz f : Nat) : Nat := if n < f + sz then n else f + sz
theorem grp_len (l : List Nat) (sz k : Nat) (h : sz * k < l.length) : (grp l sz k).length = eOf l.length sz (sz * k) - sz * k := by
  rw [grp, List.length_take, List.length_drop, eOf]
  split <;> omega
theorem fadd_addr (ad : Addr) (i j : Nat) : (ad.add i).add j = ad.add (i + j) := by
  unfold Addr.add
  split <;> split <;> simp_all <;> omega
theorem grp_mem {l : List Nat} {sz k x : Nat} (h : x ∈ grp l sz k) : x ∈ l := List.mem_of_mem_drop (List.mem_of_mem_take h)
theorem grp_bs {W : World} {B : Nat} {l : List Nat} {A : Option Addr} {c : Nat} (h : Bs W B l A c) (sz k : Nat) (hk : sz * k < l.length) : Bs W B (grp l sz k) (A.map (fun x => x.add (sz * k))) (c - sz * k) := by
  have hl := h.len
  have hcap := h.cap
  refine ⟨fun j u hu => ?_, fun he => ?_, ?_, by omega, fun x hx => h.lt x (grp_mem hx)⟩
  · have hat : (U8 l)[sz * k + j]? = some u := by
      rw [U8, List.getElem?_map] at hu ⊢
      rw [grp] at hu
      have hj : j < sz := by
        rcases Nat.lt_or_ge j sz with h1 | h1
        · exact h1
        · rw [List.getElem?_eq_none (by rw [List.length_take]; omega)] at hu; cases hu
      rw [List.getElem?_take_of_lt hj, List.getElem?_drop] at hu
      exact hu
    obtain ⟨ad, rfl, hb, hc⟩ := h.rd _ _ hat
    refine ⟨ad.add (sz * k), rfl, by rw [add_block]; exact hb, ?_⟩
    rw [fadd_addr]; exact hc
  · obtain ⟨ad, rfl, hb, hc⟩ := h.rd _ _ (U8_at l _ hk)
    cases he
  · rw [grp, List.length_take, List.length_drop]; omega
def encG {m : Nat} (A : Option Addr) (n sz c : Nat) (x : Fin m) : Array Value := #[.slice (A.map (fun a => a.add (sz * x.val))) (eOf n sz (sz * x.val) - sz * x.val) (c - sz * x.val)]
def idx {m : Nat} (pre : List (Fin m)) : List Nat := pre.map (·.val)
theorem idx_snoc {m : Nat} (pre : List (Fin m)) (x : Fin m) : idx (pre ++ [x]) = idx pre ++ [x.val] := by simp [idx]
theorem idx_len {m : Nat} (pre : List (Fin m)) : (idx pre).length = pre.length := by simp [idx]
/-- The two boxes that the function value has captured hold what they held. -/
def KpG (BA BB : Nat) (W W' : World) : Prop := ∀ k v, (k = BA ∨ k = BB) → W.cell? ⟨k, 0, none⟩ = some v → W'.cell? ⟨k, 0, none⟩ = some v
theorem KpG.refl (BA BB : Nat) (W : World) : KpG BA BB W W := fun _ _ _ h => h
theorem KpG.trans {BA BB : Nat} {X Y Z : World} (h : KpG BA BB X Y) (g : KpG BA BB Y Z) : KpG BA BB X Z := fun k v hk hv => g k v hk (h k v hk hv)
theorem KpG.put {BA BB : Nat} (W : World) (l : Nat) (o o' : Obj) (hl : W.heap[l]? = some o) (ho : o.isCells = false) : KpG BA BB W (W.putObj l o') := fun k v _ hv => cell_kept hv (grownBy_putObj' W l o') (fun r e => by cases e; exact ⟨o, hl, ho⟩)
theorem KpG.boxed {BA BB : Nat} {t t' : TypeId} {u u' : Value} {W W' : World} (h1 : Boxed W BA t u) (h2 : Boxed W BB t' u') (g1 : Boxed W' BA t u) (g2 : Boxed W' BB t' u') : KpG BA BB W W' := by
  intro k v hk hv
  rcases hk with rfl | rfl
  · rw [h1.cell] at hv; cases hv; exact g1.cell
  · rw [h2.cell] at hv; cases hv; exact g2.cell
theorem groups_in (F : Fence) (n : Nat) (hf : F.fn 14) (hro : F.round = none) (A : Option Addr) (m c : Nat) (sz : Int) (w : World) :
    CallsIn F n Try.prog 14 #[.slice A m c, .int .i64 sz] w fun e w' => e = .returned (.func (.func 22) #[] #[.pointer (some ⟨w.heap.size, 0, none⟩), .pointer (some ⟨w.heap.size + 1, 0, none⟩)]) ∧ w' = (w.alloc (.cells #[.slice A m c] 22)).alloc (.cells #[.int .i64 sz] 3) := by
  refine callsIn_of_wp Try.func14 rfl hf ?_ hro
  simp only [Try.ntmps14, List.size_toArray, List.length_cons, List.length_nil, Nat.reduceAdd, Nat.reduceSub, Array.replicate_succ, Array.replicate_zero, List.push_toArray, List.append_toArray, List.nil_append, List.cons_append]
  gi_wp2
  go_ret
  exact ⟨rfl, rfl⟩
set_option maxRecDepth 100000 in
set_option maxHeartbeats 2000000 in
theorem groups1_in (F : Fence) (N : Nat) (hf : F.fn 22) (hro : F.round = none) (hN : 1 ≤ N) (lp BA BB : Nat) (A : Option Addr) (n c sz m : Nat) (hm : ∀ k, k < m ↔ sz * k < n) (hsz : sz ≤ 3) (hn4 : n ≤ 4000) (hnc : n ≤ c) (hcc : c ≤ 9223372036854775807) (J Jx : List (Fin m) → World → Prop)
    (hY : ∀ pre x W, J pre W → pre.length < m → YieldAt F (N - 1) Try.prog lp (encG A n sz c x) W fun e W' =>
      (e = .returned (.bool true) ∧ J (pre ++ [x]) W' ∧ KpG BA BB W W') ∨ (e = .returned (.bool false) ∧ Jx (pre ++ [x]) W'))
    (W : World) (hA : W.cell? ⟨BA, 0, none⟩ = some (.slice A n c)) (hB : W.cell? ⟨BB, 0, none⟩ = some (.int .i64 sz)) (h0 : J [] W) :
    CallsIn F N Try.prog 22 #[.func (.yield lp) #[] #[], .pointer (some ⟨BA, 0, none⟩), .pointer (some ⟨BB, 0, none⟩)] W fun e W' => (∃ v, e = .returned v) ∧
      ((∃ ys, idx ys = List.range m ∧ J ys W') ∨ (∃ pre, (∃ k, k ≤ m ∧ idx pre = List.range k) ∧ Jx pre W')) := by
  have HA := Lib.hid hA
  have HB := Lib.hid hB
  have HM := Lib.hid hm
  have HY := Lib.hid hY
  clear hm hY
  refine callsIn_of_wp Try.func22 rfl hf ?_ hro
  simp only [Try.ntmps22, List.size_toArray, List.length_cons, List.length_nil, Nat.reduceAdd, Nat.reduceSub, Array.replicate_succ, Array.replicate_zero, List.push_toArray, List.append_toArray, List.nil_append, List.cons_append]
  gi_wp2
  gi_loopw [4] (fun i wr => ∃ (k : Nat) (pre : List (Fin m)), k ≤ m ∧ i = .int .i64 ((sz * k : Nat) : Int) ∧ idx pre = List.range k ∧ J pre wr ∧ KpG BA BB W wr)
    (fun i _ => ((n : Int) - intOf i).toNat)
  case atStart =>
    exact ⟨0, [], Nat.zero_le _, rfl, rfl, h0, KpG.refl _ _ _⟩
  case round =>
    obtain ⟨k, pre, hk, rfl, hpre, hJs, hnx⟩ := hrel
    have hcA : wr.cell? ⟨BA, 0, none⟩ = some (.slice A n c) := hnx BA _ (.inl rfl) HA.out
    have hcB : wr.cell? ⟨BB, 0, none⟩ = some (.int .i64 sz) := hnx BB _ (.inr rfl) HB.out
    have hpl : pre.length = k := by rw [← idx_len, hpre, List.length_range]
    by_cases hlt : k < m
    · have hf := (HM.out k).1 hlt
      have hs1 : 1 ≤ sz := by
        rcases Nat.eq_zero_or_pos sz with h1 | h1
        · have := (HM.out m).2 (by rw [h1, Nat.zero_mul]; rw [h1, Nat.zero_mul] at hf; exact hf); omega
        · exact h1
      obtain ⟨x, hx⟩ : ∃ x : Fin m, x.val = k := ⟨⟨k, hlt⟩, rfl⟩
      obtain ⟨fn, tmps, assign, body, hy, hR⟩ := HY.out pre x wr hJs (by rw [hpl]; exact hlt)
      dsimp only [encG] at hy
      have hsn : idx (pre ++ [x]) = List.range (k + 1) := by rw [idx_snoc, hpre, List.range_succ, hx]
      rw [hx] at hy
      have hnext : sz * (k + 1) = sz * k + sz := Nat.mul_succ sz k
      have HSN := Lib.hid hsn
      have HNEXT := Lib.hid hnext
      have HK := Lib.hid hlt
      have HNX := Lib.hid hnx
      have HR := Lib.hid hR
      clear hnx hlt hsn hnext hpre hpl hR hJs
      generalize sz * k = f at *
      obtain ⟨e, he⟩ : ∃ e, e = eOf n sz f := ⟨_, rfl⟩
      rw [← he] at hy
      have hmin : (if (n : Int) < (f : Int) + (sz : Int) then (n : Int) else (f : Int) + (sz : Int)) = (e : Int) := by
        rw [he, eOf]
        split <;> split <;> omega
      have he1 : e ≤ n := by rw [he, eOf]; split <;> omega
      have he2 : f < e := by rw [he, eOf]; split <;> omega
      have hcf : ¬ c = f := by omega
      have w1 : IntKind.i64.wrap ((f : Int) + (sz : Int)) = (f : Int) + (sz : Int) := IntWalk.i64_in _ (by omega)
      have b1 : (f : Int) < (n : Int) := by omega
      have b2 : (f : Int) ≤ (e : Int) := by omega
      have b3 : (e : Int) ≤ (c : Int) := by omega
      have b4 : (0 : Int) ≤ (f : Int) := by omega
      clear he
      clear hx
      gi_wp2
      refine HR.out.mono ?_
      rintro e' W3 (⟨rfl, hJ3, hk3⟩ | ⟨rfl, hJx3⟩)
      · have hcB3 : W3.cell? ⟨BB, 0, none⟩ = some (.int .i64 sz) := hk3 BB _ (.inr rfl) hcB
        gi_wp2
        go_roundw
        case rel => exact ⟨k + 1, pre ++ [x], by have := HK.out; omega, by rw [HNEXT.out]; go_num, HSN.out, hJ3, HNX.out.trans hk3⟩
        case measure => simp [intOf] <;> omega
      · gi_wp2
        refine bodyPost_ret (results_none rfl _ _ _) rfl ?_
        exact ⟨⟨_, rfl⟩, .inr ⟨_, ⟨k + 1, by have := HK.out; omega, HSN.out⟩, hJx3⟩⟩
    · obtain rfl : k = m := by omega
      have hf : ¬ sz * k < n := fun h => hlt ((HM.out k).2 h)
      generalize sz * k = f at *
      have b1 : ¬ ((f : Int) < (n : Int)) := by omega
      have HPRE := Lib.hid hpre
      clear hpre hpl
      gi_wp2
      go_end0
      exact ⟨⟨_, rfl⟩, .inl ⟨pre, HPRE.out, hJs⟩⟩
theorem groups_stops (F : Fence) (N : Nat) (hf : F.fn 22) (hro : F.round = none) (hN : 1 ≤ N) (BA BB : Nat) (A : Option Addr) (n c sz m : Nat) (hm : ∀ k, k < m ↔ sz * k < n) (hsz : sz ≤ 3) (hn4 : n ≤ 4000) (hnc : n ≤ c) (hcc : c ≤ 9223372036854775807) (w : World) (hBA : BA < w.heap.size) (hBB : BB < w.heap.size)
    (hA : w.cell? ⟨BA, 0, none⟩ = some (.slice A n c)) (hB : w.cell? ⟨BB, 0, none⟩ = some (.int .i64 sz)) :
    SeqStopsK F N Try.prog 22 #[.pointer (some ⟨BA, 0, none⟩), .pointer (some ⟨BB, 0, none⟩)] (encG (m := m) A n sz c) (KpG BA BB) (fun ys => idx ys = List.range m) (fun pre => ∃ k, k ≤ m ∧ idx pre = List.range k) m w := fun lp J Jx W hW _ _ hY h0 =>
  groups1_in F N hf hro hN lp BA BB A n c sz m hm hsz hn4 hnc hcc J Jx hY W ((hW.cell (p := ⟨BA, 0, none⟩) hBA).trans hA) ((hW.cell (p := ⟨BB, 0, none⟩) hBB).trans hB) h0
end Go.Proofs.Ytmedfelkoknadaa
