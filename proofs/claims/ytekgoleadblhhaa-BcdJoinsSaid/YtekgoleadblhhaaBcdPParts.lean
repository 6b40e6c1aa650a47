/-
  Contracts for the landed parts: the function that tells the parts of a row of bytes, cut by widths, whatever the loop's body does that keeps what lay. Conditions: the widths are, and together as many as the bytes.
-/
import Derived.Test.YtekgoleadblhhaaBcdVals
import Derived.RangeFuncNested
import Derived.RangeFuncBound
import Derived.RangeFuncLeaves
import Derived.RangeFuncBox
import Derived.Shelf.Abstract
import Derived.WalkKit
import Derived.OwnWalkIn
import Derived.TacticsInMore
import Derived.LoopNIn
import Derived.LoopIn
import Derived.Maps.OwnIn
import Derived.Maps.AppendAt
import Derived.Maps.Views
namespace Go.Proofs.Ytekgoleadblhhaa
set_option linter.unusedVariables false
open Go.ChangeShapes Go.WideShapes Go.ChangeAt Go.RowKit Go.Shelf
attribute [local go_sem] Oper.semAt_some

theorem add_zero0 (ad : Addr) : ad.add 0 = ad := by simp [Addr.add]
theorem add_addr (ad : Addr) (i j : Nat) : (ad.add i).add j = ad.add (i + j) := by
  unfold Addr.add
  split <;> split <;> simp_all <;> omega
/-- A part of l, where l lies at A: where it lies, if it has a byte. -/
def IsPart (A : Option Addr) (l : List Nat) (a : Option Addr) (s : List Nat) : Prop := s ≠ [] → ∃ o, a = A.map (fun x => x.add o) ∧ ∃ t, l.drop o = s ++ t
theorem part_bs {W : World} {B : Nat} {l : List Nat} {A : Option Addr} {c : Nat} (h : Bs W B l A c) {a : Option Addr} {s : List Nat} (hp : IsPart A l a s) (h63 : s.length ≤ 9223372036854775807) : Bs W B s a s.length := by
  by_cases hs : s = []
  · subst hs
    exact ⟨by intro j u hu; simp [U8] at hu, fun _ => rfl, by simp, by simp, by simp⟩
  obtain ⟨o, ha, t, ht⟩ := hp hs
  have hat : ∀ k u, (U8 s)[k]? = some u → (U8 l)[o + k]? = some u := by
    intro k u hu
    have hk : k < s.length := by
      rcases Nat.lt_or_ge k s.length with h1 | h1
      · exact h1
      · rw [List.getElem?_eq_none (by simpa [U8] using h1)] at hu; cases hu
    have : (l.drop o)[k]? = s[k]? := by rw [ht, List.getElem?_append_left hk]
    rw [List.getElem?_drop] at this
    rw [U8, List.getElem?_map] at hu ⊢
    rw [this]; exact hu
  refine ⟨fun k u hu => ?_, fun he => ?_, Nat.le_refl _, h63, fun x hx => h.lt x ?_⟩
  · obtain ⟨ad, rfl, hb, hc⟩ := h.rd _ _ (hat k u hu)
    refine ⟨ad.add o, ha, by rw [add_block]; exact hb, ?_⟩
    rw [add_addr]; exact hc
  · have : 0 < s.length := List.length_pos_iff.2 hs
    obtain ⟨ad, rfl, hb, hc⟩ := h.rd _ _ (hat 0 _ (by rw [U8, List.getElem?_map, List.getElem?_eq_getElem this]; rfl))
    rw [ha] at he; cases he
  · have : x ∈ l.drop o := by rw [ht]; exact List.mem_append_left _ hx
    exact List.mem_of_mem_drop this
/-- What is left of l. -/
def IsRest (A : Option Addr) (l : List Nat) (a : Option Addr) (r : List Nat) : Prop := r ≠ [] → ∃ o, a = A.map (fun x => x.add o) ∧ l.drop o = r
theorem rest_all (A : Option Addr) (l : List Nat) : IsRest A l A l := fun _ => ⟨0, by cases A <;> simp [add_zero0], rfl⟩
theorem rest_part {A : Option Addr} {l : List Nat} {a : Option Addr} {r : List Nat} (h : IsRest A l a r) (y : Nat) : IsPart A l a (r.take y) := by
  intro hs
  have hr : r ≠ [] := by intro e; apply hs; rw [e]; simp
  obtain ⟨o, h1, h2⟩ := h hr
  exact ⟨o, h1, r.drop y, by rw [h2, List.take_append_drop]⟩
theorem rest_drop {A : Option Addr} {l : List Nat} {a a' : Option Addr} {r : List Nat} {c : Nat} (h : IsRest A l a r) (y : Nat) (hc : r.length ≤ c) (ha : a' = if c = y then a else a.map (fun x => x.add y)) : IsRest A l a' (r.drop y) := by
  intro hs
  have hlt : y < r.length := by
    rcases Nat.lt_or_ge y r.length with h1 | h1
    · exact h1
    · exact (hs (List.drop_of_length_le h1)).elim
  have hr : r ≠ [] := by intro e; rw [e] at hlt; simp at hlt
  obtain ⟨o, h1, h2⟩ := h hr
  refine ⟨o + y, ?_, by rw [← List.drop_drop, h2]⟩
  rw [ha, if_neg (by omega), h1]
  cases A <;> simp [add_addr]
abbrev Pt (A : Option Addr) (l : List Nat) := { p : Option Addr × List Nat // IsPart A l p.1 p.2 }
def encP {A : Option Addr} {l : List Nat} (x : Pt A l) : Array Value := #[.slice x.1.1 x.1.2.length x.1.2.length]
def strs {A : Option Addr} {l : List Nat} (pre : List (Pt A l)) : List (List Nat) := pre.map (fun x => x.1.2)
theorem strs_snoc {A : Option Addr} {l : List Nat} (pre : List (Pt A l)) (x : Pt A l) : strs (pre ++ [x]) = strs pre ++ [x.1.2] := by simp [strs]
theorem Zs.belowB {w w' : World} {B : Nat} {l : List Int} {A : Option Addr} {c : Nat} (h : Zs w B l A c) (hb : Below B w w') : Zs w' B l A c := ⟨h.rd.below hb, h.nil, h.len, h.cap⟩
theorem parts_in (F : Fence) (n : Nat) (hf : F.fn 21) (hro : F.round = none) (A A' : Option Addr) (m c m' c' : Nat) (w : World) :
    CallsIn F n Try.prog 21 #[.slice A m c, .slice A' m' c'] w fun e w' => e = .returned (.func (.func 22) #[] #[.pointer (some ⟨w.heap.size, 0, none⟩), .pointer (some ⟨w.heap.size + 1, 0, none⟩)]) ∧ w' = (w.alloc (.cells #[.slice A m c] 22)).alloc (.cells #[.slice A' m' c'] 31) := by
  refine callsIn_of_wp Try.func21 rfl hf ?_ hro
  simp only [Try.ntmps21, List.size_toArray, List.length_cons, List.length_nil, Nat.reduceAdd, Nat.reduceSub, Array.replicate_succ, Array.replicate_zero, List.push_toArray, List.append_toArray, List.nil_append, List.cons_append]
  gi_wp2
  go_ret
  exact ⟨rfl, rfl⟩
set_option maxRecDepth 100000 in
set_option maxHeartbeats 1600000 in
theorem parts1_in (F : Fence) (n : Nat) (hf : F.fn 22) (hro : F.round = none) (hn : 1 ≤ n) (lp BA BB n₀ : Nat) (l : List Nat) (ws : List Int) (A A' : Option Addr) (ml c m c' : Nat) (hml : ml = l.length) (hm : m = ws.length) (hcl : l.length ≤ c) (hcc : c ≤ 9223372036854775807) (hw : ∀ x ∈ ws, 0 ≤ x ∧ x ≤ 18) (hsum : (l.length : Int) = ws.sum) (h20 : m ≤ 20) (J Jx : List (Pt A l) → World → Prop)
    (hY : ∀ pre x W, J pre W → pre.length < m → YieldAt F (n - 1) Try.prog lp (encP x) W fun e W' =>
      (e = .returned (.bool true) ∧ J (pre ++ [x]) W' ∧ Below n₀ W W') ∨ (e = .returned (.bool false) ∧ Jx (pre ++ [x]) W'))
    (W : World) (hA : W.cell? ⟨BA, 0, none⟩ = some (.slice A ml c)) (hB : W.cell? ⟨BB, 0, none⟩ = some (.slice A' m c')) (hZ : Zs W n₀ ws A' c') (h0 : J [] W) :
    CallsIn F n Try.prog 22 #[.func (.yield lp) #[] #[], .pointer (some ⟨BA, 0, none⟩), .pointer (some ⟨BB, 0, none⟩)] W fun e W' => (∃ v, e = .returned v) ∧
      ((∃ ys, strs ys = cuts l ws ∧ J ys W') ∨ (∃ pre, (∃ t, cuts l ws = strs pre ++ t) ∧ Jx pre W')) := by
  have HA := Lib.hid hA
  have HB := Lib.hid hB
  have HZ := Lib.hid hZ
  have HW := Lib.hid hw
  have HM := Lib.hid hm
  have HML := Lib.hid hml
  have HSUM := Lib.hid hsum
  have HCL := Lib.hid (show ml ≤ c by rw [hml]; exact hcl)
  clear hZ hw hm hml hsum hcl
  refine callsIn_of_wp Try.func22 rfl hf ?_ hro
  simp only [Try.ntmps22, List.size_toArray, List.length_cons, List.length_nil, Nat.reduceAdd, Nat.reduceSub, Array.replicate_succ, Array.replicate_zero, List.push_toArray, List.append_toArray, List.nil_append, List.cons_append]
  gi_wp2
  gi_loopw [4, 10] (fun v i wr => ∃ (k : Nat) (pre : List (Pt A l)) (r : List Nat) (a : Option Addr) (mr cr : Nat), k ≤ m ∧ i = .int .i64 (k : Int) ∧ v = .slice a mr cr ∧ mr = r.length ∧ pre.length = k ∧ cuts l ws = strs pre ++ cuts r (ws.drop k) ∧ (r.length : Int) = (ws.drop k).sum ∧ mr ≤ cr ∧ cr ≤ 9223372036854775807 ∧ IsRest A l a r ∧ J pre wr ∧ Below n₀ W wr)
    (fun _ i _ => m - (intOf i).toNat)
  case atStart => exact ⟨0, [], l, A, ml, c, Nat.zero_le _, rfl, rfl, HML.out, rfl, rfl, HSUM.out, HCL.out, hcc, rest_all A l, h0, Below.refl _ _⟩
  case round =>
    obtain ⟨k, pre, r, a, mr, cr, hk, rfl, rfl, hmr, hpk, hcut, hs, hrc, hcr, hrest, hJ, hbl⟩ := hrel
    have HMR := Lib.hid hmr
    have HPK := Lib.hid hpk
    have HCUT := Lib.hid hcut
    have HS := Lib.hid hs
    have HREST := Lib.hid hrest
    have HBL := Lib.hid hbl
    clear hmr hpk hcut hs hrest hbl
    by_cases hlt : k < m
    · have hkw : k < ws.length := by rw [← HM.out]; exact hlt
      obtain ⟨y, hy⟩ : ∃ y, ws[k]? = some y := ⟨_, List.getElem?_eq_getElem hkw⟩
      have hdw : ws.drop k = y :: ws.drop (k + 1) := by rw [drop_at hkw]; congr 1; rw [List.getElem?_eq_getElem hkw] at hy; exact Option.some.inj hy
      obtain ⟨hy0, hy18⟩ := HW.out y (List.mem_of_getElem? hy)
      obtain ⟨Y, rfl⟩ : ∃ Y : Nat, y = Y := ⟨y.toNat, by omega⟩
      have hsr := sum_nat (ws.drop (k + 1)) (fun x hx => HW.out x (List.mem_of_mem_drop hx))
      have hss := HS.out
      rw [hdw, List.sum_cons] at hss
      have hYr : Y ≤ mr := by have := HMR.out; omega
      have hsd : ((r.drop Y).length : Int) = (ws.drop (k + 1)).sum := by rw [List.length_drop]; have := HMR.out; omega
      have hcut2 : cuts l ws = strs pre ++ (r.take Y :: cuts (r.drop Y) (ws.drop (k + 1))) := by rw [HCUT.out, hdw, cuts, Int.toNat_natCast]
      obtain ⟨ad', rfl, hb', hc'⟩ := (HZ.out.belowB HBL.out).at hy
      have HSD := Lib.hid hsd
      have HC2 := Lib.hid hcut2
      have b1 : (0 : Int) ≤ (k : Int) := by omega
      have b2 : (k : Int) < (m : Int) := by omega
      have b3 : (Y : Int) ≤ (cr : Int) := by omega
      have b4 : (Y : Int) ≤ (mr : Int) := by omega
      have b5 : Y ≤ cr := by omega
      clear hkw hy hdw hsr hss hsd hcut2
      have htl : (r.take Y).length = Y := by rw [List.length_take]; have := HMR.out; omega
      obtain ⟨fn, tmps, assign, body, hy, hR⟩ := hY pre ⟨(a, r.take Y), rest_part HREST.out Y⟩ wr hJ (by rw [HPK.out]; exact hlt)
      dsimp only [encP] at hy
      rw [htl] at hy
      have HR := Lib.hid hR
      have HLT := Lib.hid hlt
      have w1 : IntKind.i64.wrap ((k : Int) + 1) = (k : Int) + 1 := IntWalk.i64_in _ (by omega)
      clear htl hR hJ hlt
      gi_wp2
      refine HR.out.mono ?_
      rintro e' W3 (⟨rfl, hJ3, hk3⟩ | ⟨rfl, hJx3⟩)
      · have HJ3 := Lib.hid hJ3
        have HK3 := Lib.hid hk3
        clear hJ3 hk3 HR hy
        obtain ⟨a2, ha2⟩ : ∃ a2, a2 = if cr = Y then a else a.map (fun x => x.add Y) := ⟨_, rfl⟩
        have HRD := Lib.hid (rest_drop HREST.out Y (by rw [← HMR.out]; exact hrc) ha2)
        have hnew : ∀ (i v : Value), i = .int .i64 ((k : Int) + 1) → v = .slice a2 (mr - Y) (cr - Y) → ∃ (k : Nat) (pre : List (Pt A l)) (r : List Nat) (a : Option Addr) (mr cr : Nat), k ≤ m ∧ i = .int .i64 (k : Int) ∧ v = .slice a mr cr ∧ mr = r.length ∧ pre.length = k ∧ cuts l ws = strs pre ++ cuts r (ws.drop k) ∧ (r.length : Int) = (ws.drop k).sum ∧ mr ≤ cr ∧ cr ≤ 9223372036854775807 ∧ IsRest A l a r ∧ J pre W3 ∧ Below n₀ W W3 := fun i v hi hv =>
          ⟨k + 1, _, r.drop Y, a2, mr - Y, cr - Y, by have := HLT.out; omega, by rw [hi]; rfl, hv, by rw [List.length_drop, ← HMR.out], by rw [List.length_append, HPK.out]; rfl, by rw [strs_snoc, List.append_assoc]; exact HC2.out, HSD.out, by omega, by omega, HRD.out, HJ3.out, HBL.out.trans HK3.out⟩
        have HNEW := Lib.hid hnew
        clear hnew
        by_cases hcy : cr = Y
        · rw [if_pos hcy] at ha2
          subst ha2
          gi_wp2
          go_roundw
          case rel => exact HNEW.out _ _ rfl (by rw [hcy, Nat.sub_self])
          case measure => have := HLT.out; simp [intOf]; omega
        · rw [if_neg hcy] at ha2
          subst ha2
          gi_wp2
          go_roundw
          case rel => exact HNEW.out _ _ rfl rfl
          case measure => have := HLT.out; simp [intOf]; omega
      · gi_wp2
        refine bodyPost_ret (results_none rfl _ _ _) rfl ?_
        exact ⟨⟨_, rfl⟩, .inr ⟨_, ⟨cuts (r.drop Y) (ws.drop (k + 1)), by rw [strs_snoc, List.append_assoc]; exact HC2.out⟩, hJx3⟩⟩
    · obtain rfl : k = m := by omega
      have e1 : ws.drop k = [] := List.drop_of_length_le (by rw [← HM.out]; omega)
      have hJe : strs pre = cuts l ws := by have := HCUT.out; rw [e1, cuts, List.append_nil] at this; exact this.symm
      have HJE := Lib.hid hJe
      clear e1 hJe
      gi_wp2
      go_end0
      exact ⟨⟨_, rfl⟩, .inl ⟨pre, HJE.out, hJ⟩⟩
theorem parts_stops (F : Fence) (n : Nat) (hf : F.fn 22) (hro : F.round = none) (hn : 1 ≤ n) (BA BB n₀ : Nat) (l : List Nat) (ws : List Int) (A A' : Option Addr) (ml c m c' : Nat) (hml : ml = l.length) (hm : m = ws.length) (hcl : l.length ≤ c) (hcc : c ≤ 9223372036854775807) (hw : ∀ x ∈ ws, 0 ≤ x ∧ x ≤ 18) (hsum : (l.length : Int) = ws.sum) (h20 : m ≤ 20) (w : World) (hn₀ : n₀ ≤ w.heap.size) (hBA : BA < w.heap.size) (hBB : BB < w.heap.size)
    (hA : w.cell? ⟨BA, 0, none⟩ = some (.slice A ml c)) (hB : w.cell? ⟨BB, 0, none⟩ = some (.slice A' m c')) (hZ : Zs w n₀ ws A' c') :
    SeqStopsK F n Try.prog 22 #[.pointer (some ⟨BA, 0, none⟩), .pointer (some ⟨BB, 0, none⟩)] (encP (A := A) (l := l)) (Below n₀) (fun ys => strs ys = cuts l ws) (fun pre => ∃ t, cuts l ws = strs pre ++ t) m w := fun lp J Jx W hW _ _ hY h0 =>
  parts1_in F n hf hro hn lp BA BB n₀ l ws A A' ml c m c' hml hm hcl hcc hw hsum h20 J Jx hY W ((hW.cell (p := ⟨BA, 0, none⟩) hBA).trans hA) ((hW.cell (p := ⟨BB, 0, none⟩) hBB).trans hB) (hZ.belowB (hW.mono hn₀)) h0
end Go.Proofs.Ytekgoleadblhhaa
