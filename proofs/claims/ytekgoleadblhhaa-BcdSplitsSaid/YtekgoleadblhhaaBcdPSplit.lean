/-
  Contract for the landed Split: the numbers of the parts, or the document's error. Conditions: none.
-/
import Derived.Test.YtekgoleadblhhaaBcdPParts
import Derived.Test.YtekgoleadblhhaaBcdPGet
import Derived.Test.YtekgoleadblhhaaBcdPTotal
namespace Go.Proofs.Ytekgoleadblhhaa
set_option linter.unusedVariables false
open Go.ChangeShapes Go.WideShapes Go.ChangeAt Go.RowKit Go.Shelf
attribute [local go_sem] Oper.semAt_some

def nums {A : Option Addr} {l : List Nat} (pre : List (Pt A l)) : List Int := pre.map (fun x => (((getX x.1.2).2 : Nat) : Int))
def good {A : Option Addr} {l : List Nat} (pre : List (Pt A l)) : Prop := ∀ x ∈ pre, (getX x.1.2).1 = 0
theorem nums_snoc {A : Option Addr} {l : List Nat} (pre : List (Pt A l)) (x : Pt A l) : nums (pre ++ [x]) = nums pre ++ [(((getX x.1.2).2 : Nat) : Int)] := by simp [nums]
theorem gets_good {A : Option Addr} {l : List Nat} : ∀ (pre : List (Pt A l)) (t : List (List Nat)) (o : List Int), good pre → getsR (strs pre ++ t) o = getsR t (o ++ nums pre)
  | [], t, o, _ => by simp [strs, nums]
  | x :: pre, t, o, h => by
    have h1 := h x (by simp)
    rw [strs, List.map_cons, List.cons_append, getsR, if_pos h1]
    have := gets_good pre t (o ++ [(((getX x.1.2).2 : Nat) : Int)]) (fun y hy => h y (by simp [hy]))
    rw [strs] at this
    rw [this]; simp [nums]
theorem part_len {A : Option Addr} {l : List Nat} {a : Option Addr} {s : List Nat} (h : IsPart A l a s) : s.length ≤ l.length := by
  by_cases hs : s = []
  · subst hs; simp
  · obtain ⟨o, _, t, ht⟩ := h hs
    have := congrArg List.length ht
    rw [List.length_append, List.length_drop] at this
    omega
theorem int_one (x : Int) : ∀ u ∈ ([.int .i64 x] : List Value), u.oneCell' = true := by
  intro u hu
  simp at hu
  subst hu
  rfl
theorem keeps_call {B : Nat} {W W' : World} (hb : Below W.heap.size W W') : KeepsFrom B W W' := ⟨hb.size, fun k o _ hk _ => (hb.block k (Array.getElem?_eq_some_iff.1 hk).1).trans hk⟩
set_option maxRecDepth 100000 in
set_option maxHeartbeats 1600000 in
theorem psplit_bad (l : List Nat) (ws : List Int) (ml m : Nat) (hml : ml = l.length) (hm : m = ws.length) (S E : Int) (hT : totX ws = (S, E)) (hE : E ≠ 0) (A A' : Option Addr) (c c' : Nat) (w : World) (hA : Bs w w.heap.size l A c) (hA' : Zs w w.heap.size ws A' c') :
    Calls Try.prog 16 #[.slice A ml c, .slice A' m c'] w fun e w' => e = .returned (.tuple #[.slice none 0 0, .int .i64 E]) ∧ Below w.heap.size w w' := by
  have HM := Lib.hid hm
  have HT := Lib.hid hT
  have HA' := Lib.hid hA'
  have hne : (E != 0) = true := by rw [bne_iff_ne]; exact hE
  obtain ⟨W2, hW2⟩ : ∃ W2, (w.alloc (.cells #[.slice none 0 0] 31)).alloc (.cells #[.int .i64 0] 23) = W2 := ⟨_, rfl⟩
  have hb2 : Below w.heap.size w W2 := by rw [← hW2]; exact ((Below.refl _ w).alloc (Nat.le_refl _) _).alloc (by simp) _
  have b4 : Boxed W2 w.heap.size 31 (.slice none 0 0) := by rw [← hW2]; exact (Boxed.new w _ _).alloc _
  have b5 : Boxed W2 (w.heap.size + 1) 23 (.int .i64 0) := by rw [← hW2]; have := Boxed.new (w.alloc (.cells #[.slice none 0 0] 31)) 23 (.int .i64 0); rwa [World.size_alloc] at this
  have HB2 := Lib.hid hb2
  have HW2 := Lib.hid hW2
  have c4 := b4.cell
  have c5 := b5.cell
  have f4 := b4.frozen
  have f5 := b5.frozen
  have B4 := Lib.hid b4
  have B5 := Lib.hid b5
  clear hm hT hA' hb2 hW2 b4 b5
  go_enter Try.func16, Try.ntmps16
  go_wp2_with fail
  rw [HW2.out]
  refine (ptotal_any ws m HM.out S E HT.out A' c' W2 (HA'.out.next HB2.out)).mono ?_
  rintro e w1 ⟨rfl, rfl⟩
  have d5 := (B5.out.other (B' := w.heap.size) (by omega) (.slice none 0 0)).cell
  have d5f := (B5.out.other (B' := w.heap.size) (by omega) (.slice none 0 0)).frozen
  go_wp2
  have b4' := (B4.out.set (.slice none 0 0)).other (B' := w.heap.size + 1) (by omega) (.int .i64 E)
  have b5' := (B5.out.other (B' := w.heap.size) (by omega) (.slice none 0 0)).set (.int .i64 E)
  have e4 := b4'.cell
  have e5 := b5'.cell
  refine bodyPost_ret (v := .tuple #[.slice none 0 0, .int .i64 E]) (by simp [results, Try.results16, go_sem, e4, e5]) rfl ?_
  exact ⟨rfl, (HB2.out.setCell (p := ⟨w.heap.size, 0, none⟩) (Nat.le_refl _) _).setCell (p := ⟨w.heap.size + 1, 0, none⟩) (by simp) _⟩
set_option maxRecDepth 100000 in
set_option maxHeartbeats 1600000 in
theorem psplit_len (l : List Nat) (ws : List Int) (ml m : Nat) (hml : ml = l.length) (hm : m = ws.length) (S : Int) (hT : totX ws = (S, 0)) (hE : (ml : Int) ≠ S) (A A' : Option Addr) (c c' : Nat) (w : World) (hA : Bs w w.heap.size l A c) (hA' : Zs w w.heap.size ws A' c') :
    Calls Try.prog 16 #[.slice A ml c, .slice A' m c'] w fun e w' => e = .returned (.tuple #[.slice none 0 0, .int .i64 14]) ∧ Below w.heap.size w w' := by
  have HM := Lib.hid hm
  have HT := Lib.hid hT
  have HA' := Lib.hid hA'
  have hne : ((ml : Int) != S) = true := by rw [bne_iff_ne]; exact hE
  have h63 : ml ≤ 9223372036854775807 := by have := hA.len; have := hA.cap; omega
  obtain ⟨W2, hW2⟩ : ∃ W2, (w.alloc (.cells #[.slice none 0 0] 31)).alloc (.cells #[.int .i64 0] 23) = W2 := ⟨_, rfl⟩
  have hb2 : Below w.heap.size w W2 := by rw [← hW2]; exact ((Below.refl _ w).alloc (Nat.le_refl _) _).alloc (by simp) _
  have b4 : Boxed W2 w.heap.size 31 (.slice none 0 0) := by rw [← hW2]; exact (Boxed.new w _ _).alloc _
  have b5 : Boxed W2 (w.heap.size + 1) 23 (.int .i64 0) := by rw [← hW2]; have := Boxed.new (w.alloc (.cells #[.slice none 0 0] 31)) 23 (.int .i64 0); rwa [World.size_alloc] at this
  have HB2 := Lib.hid hb2
  have HW2 := Lib.hid hW2
  have c4 := b4.cell
  have c5 := b5.cell
  have f4 := b4.frozen
  have f5 := b5.frozen
  have B4 := Lib.hid b4
  have B5 := Lib.hid b5
  clear hm hml hA hT hA' hb2 hW2 b4 b5
  go_enter Try.func16, Try.ntmps16
  go_wp2_with fail
  rw [HW2.out]
  refine (ptotal_any ws m HM.out S 0 HT.out A' c' W2 (HA'.out.next HB2.out)).mono ?_
  rintro e w1 ⟨rfl, rfl⟩
  have d5 := (B5.out.other (B' := w.heap.size) (by omega) (.slice none 0 0)).cell
  have d5f := (B5.out.other (B' := w.heap.size) (by omega) (.slice none 0 0)).frozen
  go_wp2
  have b4' := (B4.out.set (.slice none 0 0)).other (B' := w.heap.size + 1) (by omega) (.int .i64 14)
  have b5' := (B5.out.other (B' := w.heap.size) (by omega) (.slice none 0 0)).set (.int .i64 14)
  have e4 := b4'.cell
  have e5 := b5'.cell
  refine bodyPost_ret (v := .tuple #[.slice none 0 0, .int .i64 14]) (by simp [results, Try.results16, go_sem, e4, e5]) rfl ?_
  exact ⟨rfl, (HB2.out.setCell (p := ⟨w.heap.size, 0, none⟩) (Nat.le_refl _) _).setCell (p := ⟨w.heap.size + 1, 0, none⟩) (by simp) _⟩
set_option maxRecDepth 100000 in
set_option maxHeartbeats 1600000 in
theorem split_in (n : Nat) (hn : 4 ≤ n) (l : List Nat) (ws : List Int) (ml m : Nat) (hml : ml = l.length) (hm : m = ws.length) (S : Int) (hT : totX ws = (S, 0)) (hS : (l.length : Int) = S) (E : Int) (p : List Int) (hR : getsR (cuts l ws) [] = (E, p)) (A A' : Option Addr) (c c' : Nat) (w : World) (hA : Bs w w.heap.size l A c) (hA' : Zs w w.heap.size ws A' c') :
    CallsIn Fence.wide n Try.prog 16 #[.slice A ml c, .slice A' m c'] w fun e w' => ∃ A2 c2, e = .returned (.tuple #[.slice A2 (p.length : Nat) c2, .int .i64 E]) ∧ Zs w' w'.heap.size p A2 c2 ∧ Below w.heap.size w w' := by
  have h1 : 1 ≤ n := by omega
  obtain ⟨i0, hi, hz0, hz1, hz2⟩ := info_parts infoInt
  obtain ⟨hws20, hw18, hsum⟩ := totX_ok (ws := ws) (by rw [hT])
  have hsum2 : (l.length : Int) = ws.sum := by rw [hS, ← hsum, hT]
  have hlen := sum_nat ws hw18
  have hm20 : m ≤ 20 := by omega
  have h63 : ml ≤ 360 := by omega
  have hmlS : ((ml : Int) != S) = false := by rw [bne_eq_false_iff_eq, hml]; exact hS
  have HML := Lib.hid hml
  have HM := Lib.hid hm
  have HT := Lib.hid hT
  have HR := Lib.hid hR
  have HA := Lib.hid hA
  have HA' := Lib.hid hA'
  have HW18 := Lib.hid hw18
  have HSUM := Lib.hid hsum2
  clear hml hm hT hR hA hA' hS hws20 hw18 hsum hsum2 hlen
  obtain ⟨W2, hW2⟩ : ∃ W2, (w.alloc (.cells #[.slice none 0 0] 31)).alloc (.cells #[.int .i64 0] 23) = W2 := ⟨_, rfl⟩
  have hb2 : Below w.heap.size w W2 := by rw [← hW2]; exact ((Below.refl _ w).alloc (Nat.le_refl _) _).alloc (by simp) _
  have b4 : Boxed W2 w.heap.size 31 (.slice none 0 0) := by rw [← hW2]; exact (Boxed.new w _ _).alloc _
  have b5 : Boxed W2 (w.heap.size + 1) 23 (.int .i64 0) := by rw [← hW2]; have := Boxed.new (w.alloc (.cells #[.slice none 0 0] 31)) 23 (.int .i64 0); rwa [World.size_alloc] at this
  have hs2 : W2.heap.size = w.heap.size + 1 + 1 := by rw [← hW2]; simp
  have HB2 := Lib.hid hb2
  have HW2 := Lib.hid hW2
  have B4 := Lib.hid b4
  have B5 := Lib.hid b5
  clear hb2 hW2 b4 b5
  refine callsIn_of_wp_marks Try.func16 rfl trivial ?_ rfl
  simp only [Try.ntmps16, List.size_toArray, List.length_cons, List.length_nil, Nat.reduceAdd, Nat.reduceSub, Array.replicate_succ, Array.replicate_zero, List.push_toArray, List.append_toArray, List.nil_append, List.cons_append]
  gi_wp2
  rw [HW2.out]
  refine ⟨trivial, (callsIn_wide.2 (ptotal_any ws m HM.out S 0 HT.out A' c' W2 (HA'.out.next HB2.out))).mono ?_⟩
  rintro e w1 ⟨rfl, rfl⟩
  gi_wp2_with (gi_at_make; refine wpListIn_make_own _ rfl _ _ 31 rfl w.heap.size 3 i0 (.int .i64 0) 1 Try.underlying31 hi hz0 hz1 _ _ _ m rfl rfl rfl ?b2 ?b3 ?b4 ?_)
  case b2 => rw [hz2]; omega
  case b3 => unfold maxLen; omega
  case b4 => omega
  intro w3 hown hg3
  have hg6 : w.heap.size + 1 + 1 < w3.heap.size := by
    obtain ⟨h0, hrow⟩ := hown
    rcases hrow with ⟨e, _⟩ | ⟨g, cap, cur, e, _, hgb, _⟩
    · cases e
    · cases e; exact (Array.getElem?_eq_some_iff.1 hgb).1
  have hb3 : Below w.heap.size w w3 := HB2.out.grown hg3 (by omega) (fun j hj => by cases hj)
  have b43 := B4.out.kept hg3 (fun e => by cases e)
  have b53 := B5.out.kept hg3 (fun e => by cases e)
  obtain ⟨X, hX⟩ : ∃ X, X = w3.heap.size := ⟨_, rfl⟩
  have hXg : w.heap.size + 1 + 1 < X := by omega
  obtain ⟨W4, hW4⟩ : ∃ W4, w3.alloc (.cells #[.slice (some ⟨w.heap.size + 1 + 1, 0, none⟩) 0 m] 31) = W4 := ⟨_, rfl⟩
  have hs4 : W4.heap.size = X + 1 := by rw [← hW4, hX]; simp
  have b74 : Boxed W4 X 31 (.slice (some ⟨w.heap.size + 1 + 1, 0, none⟩) 0 m) := by rw [← hW4, hX]; exact Boxed.new w3 _ _
  have b44 : Boxed W4 w.heap.size 31 (.slice none 0 0) := by rw [← hW4]; exact b43.alloc _
  have b54 : Boxed W4 (w.heap.size + 1) 23 (.int .i64 0) := by rw [← hW4]; exact b53.alloc _
  have hb4 : Below w.heap.size w W4 := by rw [← hW4]; exact hb3.alloc (by omega) _
  have hr4 : W4.ownsRow w.heap.size 3 1 (.slice (some ⟨w.heap.size + 1 + 1, 0, none⟩) 0 m) 0 [] := by rw [← hW4]; exact hown.alloc _
  have HW4 := Lib.hid hW4
  have HB43 := Lib.hid b44
  have HB53 := Lib.hid b54
  have HB73 := Lib.hid b74
  have HB4 := Lib.hid hb4
  have HR4 := Lib.hid hr4
  clear hown hg3 hb3 b43 b53 b44 b54 b74 hb4 hr4 hW4
  gi_wp2
  rw [HW4.out, ← hX]
  clear hX
  refine ⟨trivial, (parts_in Fence.wide (n - 1) trivial rfl _ _ _ _ _ _ _).mono ?_⟩
  rintro e w' ⟨rfl, rfl⟩
  obtain ⟨W0, hW0⟩ : ∃ W0, (W4.alloc (.cells #[.slice A ml c] 22)).alloc (.cells #[.slice A' m c'] 31) = W0 := ⟨_, rfl⟩
  have hs0 : W0.heap.size = X + 1 + 1 + 1 := by rw [← hW0]; simp [hs4]
  have b40 : Boxed W0 w.heap.size 31 (.slice none 0 0) := by rw [← hW0]; exact (HB43.out.alloc _).alloc _
  have b50 : Boxed W0 (w.heap.size + 1) 23 (.int .i64 0) := by rw [← hW0]; exact (HB53.out.alloc _).alloc _
  have b70 : Boxed W0 X 31 (.slice (some ⟨w.heap.size + 1 + 1, 0, none⟩) 0 m) := by rw [← hW0]; exact (HB73.out.alloc _).alloc _
  have b80 : Boxed W0 (X + 1) 22 (.slice A ml c) := by rw [← hW0, ← hs4]; exact (Boxed.new W4 _ _).alloc _
  have b90 : Boxed W0 (X + 1 + 1) 31 (.slice A' m c') := by rw [← hW0]; have := Boxed.new (W4.alloc (.cells #[.slice A ml c] 22)) 31 (.slice A' m c'); rwa [World.size_alloc, hs4] at this
  have hb0 : Below w.heap.size w W0 := by rw [← hW0]; exact (HB4.out.alloc (by omega) _).alloc (by simp; omega) _
  have hr0 : W0.ownsRow w.heap.size 3 1 (.slice (some ⟨w.heap.size + 1 + 1, 0, none⟩) 0 m) 0 [] := by rw [← hW0]; exact (HR4.out.alloc _).alloc _
  gi_wp2
  clear hW0
  have hK1 : 1 ≤ n - 1 := by omega
  refine wpIn_rangeFunc_ownG rfl h1 (gf := 22) (lb := #[.pointer (some ⟨X + 1, 0, none⟩), .pointer (some ⟨X + 1 + 1, 0, none⟩)]) rfl trivial (enters_of Try.func22 (by kernel_rfl) rfl)
    (parts_stops Fence.wide (n - 1) trivial rfl hK1 (X + 1) (X + 1 + 1) w.heap.size l ws A A' ml c m c' HML.out HM.out HA.out.len HA.out.cap HW18.out HSUM.out hm20 W0 (by omega) (by omega) (by omega) b80.cell b90.cell (HA'.out.belowB hb0)) belowK_t (belowK_b (by omega)) (Below.refl _ _) (fun _ => rfl)
    (fun pre W => ((∃ v, Boxed W X 31 v ∧ W.ownsRow w.heap.size 3 1 v (nums pre).length (I64 (nums pre)) ∧ True) ∧ (good pre ∧ Boxed W w.heap.size 31 (.slice none 0 0) ∧ Boxed W (w.heap.size + 1) 23 (.int .i64 0) ∧ X + 1 + 1 + 1 ≤ W.heap.size)) ∧ Below w.heap.size w W)
    (fun cc pre W => (cc = .ret ∧ ∃ (ini : List (Pt A l)) (z : Pt A l), pre = ini ++ [z] ∧ good ini ∧ (getX z.1.2).1 ≠ 0 ∧ Boxed W w.heap.size 31 (.slice none 0 0) ∧ Boxed W (w.heap.size + 1) 23 (.int .i64 (getX z.1.2).1)) ∧ Below w.heap.size w W)
    (OwnFrom.and (OwnFrom.and (Own.from (holdsRow_own w.heap.size X 31 3 1 (fun pre => (nums pre).length) (fun pre => I64 (nums pre)) (fun _ _ => True)) _) (Own.from (fun s P Q row hs hg hr => ⟨hs.1, hs.2.1.kept hg (fun e => by obtain ⟨o, h1, h2⟩ := hr _ e.symm; rw [show P.heap[w.heap.size]? = _ from hs.2.1] at h1; cases h1; cases h2), hs.2.2.1.kept hg (fun e => by obtain ⟨o, h1, h2⟩ := hr _ e.symm; rw [show P.heap[w.heap.size + 1]? = _ from hs.2.2.1] at h1; cases h1; cases h2), Nat.le_trans hs.2.2.2 hg.size⟩) _)) (ownFrom_below (Nat.le_refl _) (by omega)))
    (fun cc => OwnFrom.and (Own.from (fun s P Q row hs hg hr => by
      obtain ⟨hc, ini, z, e1, e2, e3, e4, e5⟩ := hs
      exact ⟨hc, ini, z, e1, e2, e3, e4.kept hg (fun e => by obtain ⟨o, h1, h2⟩ := hr _ e.symm; rw [show P.heap[w.heap.size]? = _ from e4] at h1; cases h1; cases h2), e5.kept hg (fun e => by obtain ⟨o, h1, h2⟩ := hr _ e.symm; rw [show P.heap[w.heap.size + 1]? = _ from e5] at h1; cases h1; cases h2)⟩) _) (ownFrom_below (Nat.le_refl _) (by omega)))
    ⟨⟨⟨_, b70, hr0, trivial⟩, (fun y hy => by cases hy), b40, b50, by omega⟩, hb0⟩
    (fun x => { tmps := #[.slice A ml c, .slice A' m c', undef, undef, .pointer (some ⟨w.heap.size, 0, none⟩), .pointer (some ⟨w.heap.size + 1, 0, none⟩), .int .i64 S, .int .i64 0, .pointer (some ⟨X, 0, none⟩), .slice x.1.1 x.1.2.length x.1.2.length, undef, undef, .tuple #[.int .i64 S, .int .i64 0], .slice A' m c', .tuple #[.int .i64 S, .int .i64 0], .int .i64 S, .int .i64 0, .int .i64 0, .bool false, undef, .slice A ml c, .int .i64 (ml : Int), .int .i64 S, .bool false, .slice A' m c', .int .i64 (m : Int), .slice (some ⟨w.heap.size + 1 + 1, 0, none⟩) 0 m, .slice A ml c, .slice A' m c', .func (.func 22) #[] #[.pointer (some ⟨X + 1, 0, none⟩), .pointer (some ⟨X + 1 + 1, 0, none⟩)], .slice x.1.1 x.1.2.length x.1.2.length, undef, undef, undef, undef, undef, undef, undef, undef, undef, undef, undef, undef, undef], defers := [] }) ?assign ?body ?done ?stop
  case assign =>
    intro lp x W K hK
    dsimp only [encP]
    gi_wp2
    exact hK
  case body =>
    rintro lp pre x W ⟨⟨⟨v, h7, hrow, -⟩, hgood, h4, h5, hX3⟩, hB⟩ hlt
    have hbs : Bs W W.heap.size x.1.2 x.1.1 x.1.2.length := (part_bs (HA.out.below hB) x.2 (by have := part_len x.2; have := HML.out; omega)).more hB.size
    obtain ⟨eg, zg, hg⟩ : ∃ eg zg, getX x.1.2 = (eg, zg) := ⟨_, _, rfl⟩
    have hnum : nums (pre ++ [x]) = nums pre ++ [((zg : Nat) : Int)] := by rw [nums_snoc, hg]
    have hpl : (nums pre).length < m := by rw [nums, List.length_map]; exact hlt
    obtain ⟨k, hk⟩ : ∃ k, k = x.1.2.length := ⟨_, rfl⟩
    have hget := pget_any x.1.2 k hk eg zg hg x.1.1 k W (by rw [hk]; exact hbs)
    have hgx : (getX x.1.2).1 = eg := by rw [hg]
    have hgd : eg = 0 → good (pre ++ [x]) := fun e0 y hy => (List.mem_append.1 hy).elim (hgood y) (fun e => by simp only [List.mem_singleton] at e; subst e; rw [hgx, e0])
    rw [← hk]
    obtain ⟨ap, hap⟩ : ∃ ap, ap = x.1.1 := ⟨_, rfl⟩
    rw [← hap] at hget ⊢
    have hc7 := h7.cell
    have hc4 := h4.cell
    have hc5 := h5.cell
    have hf4 := h4.frozen
    have hf5 := h5.frozen
    have H7 := Lib.hid h7
    have HRW := Lib.hid hrow
    have H4 := Lib.hid h4
    have H5 := Lib.hid h5
    have HGX := Lib.hid hgx
    have HGD := Lib.hid hgd
    have HGO := Lib.hid hgood
    have HNUM := Lib.hid hnum
    have HBB := Lib.hid hB
    have HGET := Lib.hid hget
    have HPL := Lib.hid hpl
    clear h7 hrow h4 h5 hgx hgd hgood hnum hB hget hbs hg hk hap hpl b80 b90 b70 b40 b50
    have hn2 : 1 ≤ n - 1 - 1 := by omega
    by_cases e0 : eg = 0
    · subst e0
      obtain ⟨j, hj⟩ : ∃ j, j = (nums pre).length := ⟨_, rfl⟩
      have hjm : j < m := by rw [hj]; exact HPL.out
      have HJ := Lib.hid hj
      rw [← hj] at HRW
      have hm1 : j + 1 ≤ maxLen := by unfold maxLen; omega
      have hm2 : (j + 1) * 8 ≤ 140737488355328 := by omega
      have hsz := HBB.out.size
      clear hj
      gi_wp2_with (first | (refine ⟨trivial, ?_⟩; gi_at_call 10; refine (CallsIn.inRound lp (callsIn_wide.2 HGET.out)).mono ?_; rintro e w' ⟨rfl, rfl⟩) | (gi_at_builtin; refine wpListIn_append_own_at _ rfl _ _ 31 rfl w.heap.size 3 i0 (.int .i64 0) 1 8 Try.underlying31 hi hz0 hz1 hz2 rfl (by decide) v _ _ rfl (HRW.out.alloc _) ⟨W.heap.size, 0, none⟩ 1 1 [.int .i64 (zg : Int)] rfl rfl (cell_one_new _ _ _) (int_one _) hm1 hm2 (by simp; omega) ?_; intro v' w1' hown' hgrow _ hat; obtain ⟨g', cap', rfl⟩ := ownsRow_succ hown'; obtain ⟨hv1, hv2, hr2, hk2, hb2⟩ := H7.out.appended (by decide) HRW.out hsz (by omega) hown' hgrow; have hc1 := hv1.cell; have hf1 := hv1.frozen))
      refine ⟨hk2.from _, hb2, ⟨⟨_, hv2, ?_, trivial⟩, HGD.out (by first | trivial | rfl), ((H4.out.alloc _).kept hgrow (H4.out.not_row (by decide) HRW.out)).other (by omega) _, ((H5.out.alloc _).kept hgrow (H5.out.not_row (by decide) HRW.out)).other (by omega) _, Nat.le_trans hX3 hk2.size⟩, HBB.out.trans hb2⟩
      rw [HNUM.out, I64_append, List.length_append, ← HJ.out]
      exact hr2
    · have hne : (eg != 0) = true := by rw [bne_iff_ne]; exact e0
      have g5 := (H5.out.other (B' := w.heap.size) (by omega) (.slice none 0 0)).cell
      have g5f := (H5.out.other (B' := w.heap.size) (by omega) (.slice none 0 0)).frozen
      gi_wp2_with (refine ⟨trivial, ?_⟩; gi_at_call 10; refine (CallsIn.inRound lp (callsIn_wide.2 HGET.out)).mono ?_; rintro e w' ⟨rfl, rfl⟩)
      have q4 := (H4.out.set (.slice none 0 0)).other (B' := w.heap.size + 1) (by omega) (.int .i64 eg)
      have q5 := (H5.out.other (B' := w.heap.size) (by omega) (.slice none 0 0)).set (.int .i64 eg)
      exact ⟨((KeepsOthers.setCell _ _ _).trans (KeepsOthers.setCell _ _ _)).from _, ⟨rfl, pre, x, rfl, HGO.out, by rw [HGX.out]; exact e0, q4, by rw [HGX.out]; exact q5⟩, (HBB.out.setCell (p := ⟨w.heap.size, 0, none⟩) (Nat.le_refl _) _).setCell (p := ⟨w.heap.size + 1, 0, none⟩) (by simp) _⟩
  case done =>
    rintro D ys W hD hys ⟨⟨⟨v, h7, hrow, -⟩, hgood, h4, h5, hX3⟩, hB⟩ hK
    have hval : getsR (cuts l ws) [] = (0, nums ys) := by rw [← hys, ← List.append_nil (strs ys), gets_good ys [] [] hgood]; rfl
    obtain ⟨rfl, rfl⟩ : E = 0 ∧ p = nums ys := by have := HR.out; rw [hval] at this; exact ⟨(Prod.mk.inj this).1.symm, (Prod.mk.inj this).2.symm⟩
    obtain ⟨A2, c2, rfl, -, -⟩ := zs_of_own hrow
    obtain ⟨k, hk⟩ : ∃ k, k = (nums ys).length := ⟨_, rfl⟩
    rw [← hk] at h7 hrow
    have HKL := Lib.hid hk
    clear hk
    have hc7 := h7.cell
    have hc4 := h4.cell
    have hf4 := h4.frozen
    have g5 := (h5.other (B' := w.heap.size) (by omega) (.slice A2 k c2)).cell
    have g5f := (h5.other (B' := w.heap.size) (by omega) (.slice A2 k c2)).frozen
    have q4 := (h4.set (.slice A2 k c2)).other (B' := w.heap.size + 1) (by omega) (.int .i64 0)
    have q5 := (h5.other (B' := w.heap.size) (by omega) (.slice A2 k c2)).set (.int .i64 0)
    have hrow1 := hrow.kept (grownBy_setCell' W w.heap.size (.slice A2 k c2)) (.inr (h4.not_row (by decide) hrow).symm)
    have hrow2 := hrow1.kept (grownBy_setCell' _ (w.heap.size + 1) (.int .i64 0)) (.inr ((h5.other (B' := w.heap.size) (by omega) (.slice A2 k c2)).not_row (by decide) hrow1).symm)
    have hB2 := (hB.setCell (p := ⟨w.heap.size, 0, none⟩) (Nat.le_refl _) (.slice A2 k c2)).setCell (p := ⟨w.heap.size + 1, 0, none⟩) (by simp) (.int .i64 0)
    have hK' : ((W.setCell ⟨w.heap.size, 0, none⟩ (.slice A2 k c2)).setCell ⟨w.heap.size + 1, 0, none⟩ (.int .i64 0)).heap[D]? = some (.deferred (some [])) := ((KeepsOthers.setCell W ⟨w.heap.size, 0, none⟩ (.slice A2 k c2)).trans (KeepsOthers.setCell _ ⟨w.heap.size + 1, 0, none⟩ (.int .i64 0))).same D _ hK rfl
    have HQ4 := Lib.hid q4
    have HQ5 := Lib.hid q5
    have HRW := Lib.hid hrow2
    have HB2 := Lib.hid hB2
    have HK' := Lib.hid hK'
    clear q4 q5 hrow hrow1 hrow2 hB hB2 hK' hK h7 h4 h5 hval hys hgood b80 b90 b70 b40 b50
    gi_wp2
    refine ⟨by simp, .inl ⟨_, _, rfl, run_takeDeferred HK'.out, ?_⟩⟩
    have e4 := cell_kept HQ4.out.cell (grownBy_putObj' _ D (.deferred none)) (fun r e => by cases e; exact ⟨_, HK'.out, rfl⟩)
    have e5 := cell_kept HQ5.out.cell (grownBy_putObj' _ D (.deferred none)) (fun r e => by cases e; exact ⟨_, HK'.out, rfl⟩)
    refine ⟨.tuple #[.slice A2 k c2, .int .i64 0], ?_, A2, c2, by rw [HKL.out], zs_own (ownsRow_putObj HRW.out (.deferred none) HK'.out rfl), HB2.out.trans (belowK_b (w := w) (Nat.le_refl _) _ D _ _ (by omega) HK'.out rfl rfl)⟩
    simp [results, Try.results16, go_sem, e4, e5]
  case stop =>
    rintro D cc pre W hD ⟨t, ht⟩ ⟨⟨rfl, ini, z, e1, e2, e3, h4, h5⟩, hB⟩ hK
    have hval : getsR (cuts l ws) [] = ((getX z.1.2).1, []) := by rw [ht, e1, strs_snoc, List.append_assoc, gets_good ini _ [] e2, List.singleton_append, getsR, if_neg e3]
    obtain ⟨he, rfl⟩ : E = (getX z.1.2).1 ∧ p = [] := by have := HR.out; rw [hval] at this; exact ⟨(Prod.mk.inj this).1.symm, (Prod.mk.inj this).2.symm⟩
    rw [← he] at h5
    have q4 := cell_kept h4.cell (grownBy_putObj' _ D (.deferred none)) (fun r e => by cases e; exact ⟨_, hK, rfl⟩)
    have q5 := cell_kept h5.cell (grownBy_putObj' _ D (.deferred none)) (fun r e => by cases e; exact ⟨_, hK, rfl⟩)
    have HQ4 := Lib.hid q4
    have HQ5 := Lib.hid q5
    have HK := Lib.hid hK
    clear hval he e3 ht q4 q5 hK b80 b90 b70 b40 b50
    gi_wp2
    refine ⟨by simp, .inl ⟨_, _, rfl, run_takeDeferred HK.out, ?_⟩⟩
    have q4 := HQ4.out
    have q5 := HQ5.out
    refine ⟨.tuple #[.slice none 0 0, .int .i64 E], ?_, none, 0, rfl, zs_nil _, hB.trans (belowK_b (w := w) (Nat.le_refl _) W D _ _ (by omega) HK.out rfl rfl)⟩
    simp [results, Try.results16, go_sem, q4, q5]
theorem psplit_any (l : List Nat) (ws : List Int) (ml m : Nat) (hml : ml = l.length) (hm : m = ws.length) (E : Int) (p : List Int) (hR : splitX l ws = (E, p)) (A A' : Option Addr) (c c' : Nat) (w : World) (hA : Bs w w.heap.size l A c) (hA' : Zs w w.heap.size ws A' c') :
    Calls Try.prog 16 #[.slice A ml c, .slice A' m c'] w fun e w' => ∃ A2 c2, e = .returned (.tuple #[.slice A2 (p.length : Nat) c2, .int .i64 E]) ∧ Zs w' w'.heap.size p A2 c2 ∧ Below w.heap.size w w' := by
  obtain ⟨S, e, hT⟩ : ∃ S e, totX ws = (S, e) := ⟨_, _, rfl⟩
  rw [splitX, hT] at hR
  by_cases he : e ≠ 0
  · rw [if_pos he] at hR
    obtain ⟨rfl, rfl⟩ := Prod.mk.inj hR
    refine (psplit_bad l ws ml m hml hm S e hT he A A' c c' w hA hA').mono ?_
    rintro x w1 ⟨rfl, hb⟩
    exact ⟨none, 0, rfl, zs_nil _, hb⟩
  rw [if_neg he] at hR
  obtain rfl : e = 0 := by omega
  by_cases hS : (l.length : Int) ≠ S
  · rw [if_pos hS] at hR
    obtain ⟨rfl, rfl⟩ := Prod.mk.inj hR
    refine (psplit_len l ws ml m hml hm S hT (by rw [hml]; exact hS) A A' c c' w hA hA').mono ?_
    rintro x w1 ⟨rfl, hb⟩
    exact ⟨none, 0, rfl, zs_nil _, hb⟩
  rw [if_neg hS] at hR
  exact (callsIn_wide (n := 4)).1 (split_in 4 (Nat.le_refl _) l ws ml m hml hm S hT (by omega) E p hR A A' c c' w hA hA')
end Go.Proofs.Ytekgoleadblhhaa
