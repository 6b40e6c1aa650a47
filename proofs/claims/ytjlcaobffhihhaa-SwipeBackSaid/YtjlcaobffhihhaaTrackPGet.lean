/-
  Contract for the landed Get. Conditions: the slice reads as bytes; at most 1048576 of them.
-/
import Derived.Test.YtjlcaobffhihhaaTrackPCatch
namespace Go.Proofs.Ytjlcaobffhihhaa
set_option linter.unusedVariables false
open Go.ChangeShapes Go.WideShapes Go.ChangeAt Go.RowKit

theorem rd_set {w : World} {B D : Nat} {A : Option Addr} {xs : List Value} (h : Rd w B A xs) {v : Value} {t : TypeId} (hd : w.heap[D]? = some (.cells #[v] t (0, 0))) (hv : ∀ u ∈ xs, u ≠ v) (y : Value) : Rd (w.setCell ⟨D, 0, none⟩ y) B A xs := by
  intro k u hu
  obtain ⟨ad, e, lt, hc⟩ := h k u hu
  refine ⟨ad, e, lt, ?_⟩
  rw [World.cell?_setCell_other]
  · exact hc
  · intro e2
    rw [← e2, cell_of_row w D 0 _ _ _ hd] at hc
    have e3 : v = u := by simpa using hc
    exact hv u (List.mem_of_getElem? hu) e3.symm
theorem bl_ne (l : List Bool) (v : Value) (h : ∀ x, v ≠ .bool x) : ∀ u ∈ BL l, u ≠ v := by
  intro u hu e
  simp only [BL, List.mem_map] at hu
  obtain ⟨x, _, rfl⟩ := hu
  exact h x e.symm
theorem u8_ne (l : List Nat) (v : Value) (h : ∀ x, v ≠ .int .u8 x) : ∀ u ∈ U8 l, u ≠ v := by
  intro u hu e
  simp only [U8, List.mem_map] at hu
  obtain ⟨x, _, rfl⟩ := hu
  exact h _ e.symm
theorem Vs.set {w : World} {B D : Nat} {l : List Bool} {A : Option Addr} {c : Nat} (h : Vs w B l A c) {v : Value} {t : TypeId} (hd : w.heap[D]? = some (.cells #[v] t (0, 0))) (hv : ∀ x, v ≠ .bool x) (y : Value) : Vs (w.setCell ⟨D, 0, none⟩ y) B l A c := ⟨rd_set h.rd hd (bl_ne l v hv) y, h.nil, h.len, h.cap⟩
theorem Bs.set {w : World} {B D : Nat} {s : List Nat} {A : Option Addr} {c : Nat} (h : Bs w B s A c) {v : Value} {t : TypeId} (hd : w.heap[D]? = some (.cells #[v] t (0, 0))) (hv : ∀ x, v ≠ .int .u8 x) (y : Value) : Bs (w.setCell ⟨D, 0, none⟩ y) B s A c := ⟨rd_set h.rd hd (u8_ne s v hv) y, h.nil, h.len, h.cap, h.lt⟩
set_option maxRecDepth 100000 in
set_option maxHeartbeats 1600000 in
theorem pget_any (b : List Nat) (n : Nat) (hn : n = b.length) (hn2 : n ≤ 1048576) (E : Int) (hE : getE b = E) (p : List Nat) (hP : getL b = p) (A : Option Addr) (c : Nat) (w : World) (hA : Bs w w.heap.size b A c) : Calls Try.prog 14 #[.slice A n c] w fun e w' => ∃ A' c', e = .returned (.tuple #[.slice A' (p.length : Nat) c', .int .i64 E]) ∧ Bs w' w'.heap.size p A' c' ∧ Below w.heap.size w w' := by
  have hmf : ∀ (fn : Fn) (first cap : Array Value) (w : World), (Instr.makeFunc fn first cap).run Try.prog w = .ok (.func fn first cap) w := fun _ _ _ _ => rfl
  have HN := Lib.hid hn
  have HA := Lib.hid hA
  have HE := Lib.hid hE
  have HP := Lib.hid hP
  have hd1 : ((w.alloc (.cells #[.slice none 0 0] 22)).alloc (.cells #[.int .i64 0] 27)).heap[w.heap.size]? = some (.cells #[.slice none 0 0] 22 (0, 0)) := by
    rw [heap_alloc_old _ _ (by simp)]
    exact heap_alloc_new w _
  have hf1 : ((w.alloc (.cells #[.slice none 0 0] 22)).alloc (.cells #[.int .i64 0] 27)).heap[w.heap.size + 1]? = some (.cells #[.int .i64 0] 27 (0, 0)) := by
    rw [show w.heap.size + 1 = (w.alloc (.cells #[.slice none 0 0] 22)).heap.size from (World.size_alloc _ _).symm]
    exact heap_alloc_new _ _
  have hb1 : Below w.heap.size w ((w.alloc (.cells #[.slice none 0 0] 22)).alloc (.cells #[.int .i64 0] 27)) := (below_lit w _ _).trans ((below_lit _ _ _).mono (below_lit w #[.slice none 0 0] 22).size)
  by_cases h0 : n < 2
  · have b0 : decide ((15 : Int) ≤ (n : Int) * 8) = false := decide_eq_false (by omega)
    have HW := Lib.hid (get_len (b := b) (.inl (by omega)))
    have eE : E = 14 := HE.out.symm.trans HW.out.1
    have eP : p = [] := HP.out.symm.trans HW.out.2
    subst eE eP
    clear hn hA hE hP
    go_enter_defers Try.func14, Try.ntmps14
    go_wp2_with (go_at_call 26; refine (pdemand_no 14 _).mono ?_; rintro e w4 ⟨rfl, rfl⟩)
    refine leaves_cons (f := 25) (args := #[.pointer (some ⟨w.heap.size, 0, none⟩), .pointer (some ⟨w.heap.size + 1, 0, none⟩)]) (by simp) (by simp [go_sem]) ?_
    refine (catch_told w.heap.size (w.heap.size + 1) (by omega) _ 0 14 22 27 _ hd1 hf1).mono ?_
    rintro e u' w'' ⟨rfl, rfl, hD, hF, hB⟩
    have hD0 := cell_of_row w'' w.heap.size 0 _ _ _ hD
    have hF0 := cell_of_row w'' (w.heap.size + 1) 0 _ _ _ hF
    show Leaves _ _ _ _ [] .returning _
    exact ⟨.tuple #[.slice none 0 0, .int .i64 14], by simp [results, Try.results14, go_sem, hD0, hF0], none, 0, rfl, bs_nil _ _, hb1.trans (hB _ (Nat.le_refl _) (Nat.le_succ _))⟩
  by_cases h50 : 50 < n
  · have b0 : decide ((15 : Int) ≤ (n : Int) * 8) = true := decide_eq_true (by omega)
    have b1 : decide ((n : Int) ≤ 50) = false := decide_eq_false (by omega)
    have HW := Lib.hid (get_len (b := b) (.inr (by omega)))
    have eE : E = 14 := HE.out.symm.trans HW.out.1
    have eP : p = [] := HP.out.symm.trans HW.out.2
    subst eE eP
    clear hn hA hE hP
    go_enter_defers Try.func14, Try.ntmps14
    go_wp2_with (go_at_call 26; refine (pdemand_no 14 _).mono ?_; rintro e w9 ⟨rfl, rfl⟩)
    refine leaves_cons (f := 25) (args := #[.pointer (some ⟨w.heap.size, 0, none⟩), .pointer (some ⟨w.heap.size + 1, 0, none⟩)]) (by simp) (by simp [go_sem]) ?_
    refine (catch_told w.heap.size (w.heap.size + 1) (by omega) _ 0 14 22 27 _ hd1 hf1).mono ?_
    rintro e u' w'' ⟨rfl, rfl, hD, hF, hB⟩
    have hD0 := cell_of_row w'' w.heap.size 0 _ _ _ hD
    have hF0 := cell_of_row w'' (w.heap.size + 1) 0 _ _ _ hF
    show Leaves _ _ _ _ [] .returning _
    exact ⟨.tuple #[.slice none 0 0, .int .i64 14], by simp [results, Try.results14, go_sem, hD0, hF0], none, 0, rfl, bs_nil _ _, hb1.trans (hB _ (Nat.le_refl _) (Nat.le_succ _))⟩
  have b0 : decide ((15 : Int) ≤ (n : Int) * 8) = true := decide_eq_true (by omega)
  have b1 : decide ((n : Int) ≤ 50) = true := decide_eq_true (by omega)
  have HNL := Lib.hid (show ¬ (b.length < 2 ∨ 50 < b.length) by omega)
  obtain ⟨l, hl⟩ : ∃ l, unpackL b = l := ⟨_, rfl⟩
  obtain ⟨m, hm⟩ : ∃ m, 8 * n = m := ⟨_, rfl⟩
  have HL := Lib.hid hl
  have HM := Lib.hid (show m = l.length by rw [← hl, unpackL_len, ← hn, hm])
  have hm16 : 16 ≤ m := by omega
  have hm400 : m ≤ 400 := by omega
  have HM8 := Lib.hid hm
  obtain ⟨R, hR⟩ : ∃ R, digX l = R := ⟨_, rfl⟩
  have HR := Lib.hid hR
  have HX := Lib.hid (show getX b = getD b l R by rw [get_digX HNL.out, hl, hR])
  clear hn hA hE hP hl hm hR
  go_enter_defers Try.func14, Try.ntmps14
  go_wp2_with (first | (go_at_call 26; refine (pdemand_ok 14 _).mono ?_; rintro e w9 ⟨rfl, rfl⟩) | (go_at_call 15; refine (punpack_any b n HN.out (by omega) A c _ (HA.out.next hb1)).mono ?_; rintro e w2 ⟨A3, c3, rfl, hvs, hb2⟩; rw [HL.out] at hvs; rw [HM8.out]; obtain ⟨a3, rfl, _, _⟩ := hvs.at (show l[0]? = some (l[0]'(by rw [← HM.out]; omega)) from List.getElem?_eq_getElem _)))
  have hsz12 : w.heap.size + 2 ≤ w2.heap.size := by have := hb2.size; simp at this; omega
  have hb02 : Below w.heap.size w w2 := hb1.trans (hb2.mono hb1.size)
  have hd2 := (hb2.block w.heap.size (by simp; omega)).trans hd1
  have hf2 := (hb2.block (w.heap.size + 1) (by simp)).trans hf1
  obtain ⟨X, hXe⟩ : ∃ X, w2.heap.size = X := ⟨_, rfl⟩
  obtain ⟨w3, hw3⟩ : ∃ w3, w2.alloc (.cells #[.slice (some a3) m c3, .int .i64 0] 43) = w3 := ⟨_, rfl⟩
  rw [hw3, hXe]
  have hb23 : Below w2.heap.size w2 w3 := by rw [← hw3]; exact below_lit w2 _ _
  have hk3 : KBox w3 X a3 m c3 0 := by rw [← hw3, ← hXe]; exact heap_alloc_new w2 _
  have hv3 : Vs w3 X l (some a3) c3 := by rw [← hXe]; exact hvs.below hb23
  have hd3 := (hb23.block w.heap.size (by omega)).trans hd2
  have hf3 := (hb23.block (w.heap.size + 1) (by omega)).trans hf2
  have hb03 : Below w.heap.size w w3 := hb02.trans (hb23.mono hb02.size)
  have hX3 := hk3.lt
  rw [hXe] at hsz12
  have hmc : m ≤ c3 := by have := hvs.len; have := HM.out; omega
  have hc3 := hvs.cap
  clear hb2 hb23 hd2 hf2 hw3 hXe hvs hb02 hb1 hd1 hf1
  refine (pdigits_any l m HM.out (by omega) (by omega) X a3 c3 w3 hk3 hv3 R HR.out).mono ?_
  rintro e w4 (⟨E', hRE, rfl, hg⟩ | ⟨out, i, A4, c4, hRo, rfl, hdg, him, hbs, hk4, hg⟩)
  · have hgx : getX b = .error E' := by rw [HX.out, hRE]; rfl
    have eE : E = E' := by rw [← HE.out, getE_x, hgx]; rfl
    have eP : p = [] := by rw [← HP.out, getL_x, hgx]; rfl
    subst eE eP
    clear hgx
    have hd4 := (hg.block w.heap.size (by omega) (by simp; omega)).trans hd3
    have hf4 := (hg.block (w.heap.size + 1) (by omega) (by simp; omega)).trans hf3
    have hb04 : Below w.heap.size w w4 := hb03.grown hg hb03.size (fun p hp => by cases hp; omega)
    go_wp2
    refine leaves_cons (f := 25) (args := #[.pointer (some ⟨w.heap.size, 0, none⟩), .pointer (some ⟨w.heap.size + 1, 0, none⟩)]) (by simp) (by simp [go_sem]) ?_
    refine (catch_told w.heap.size (w.heap.size + 1) (by omega) _ 0 E 22 27 _ hd4 hf4).mono ?_
    rintro e u' w'' ⟨rfl, rfl, hD, hF, hB⟩
    have hD0 := cell_of_row w'' w.heap.size 0 _ _ _ hD
    have hF0 := cell_of_row w'' (w.heap.size + 1) 0 _ _ _ hF
    show Leaves _ _ _ _ [] .returning _
    exact ⟨.tuple #[.slice none 0 0, .int .i64 E], by simp [results, Try.results14, go_sem, hD0, hF0], none, 0, rfl, bs_nil _ _, hb04.trans ((hB _ (Nat.le_refl _) (Nat.le_succ _)))⟩
  have hd4 := (hg.block w.heap.size (by omega) (by simp; omega)).trans hd3
  have hf4 := (hg.block (w.heap.size + 1) (by omega) (by simp; omega)).trans hf3
  have hb04 : Below w.heap.size w w4 := hb03.grown hg hb03.size (fun p hp => by cases hp; omega)
  have cD := cell_of_row w4 w.heap.size 0 _ _ _ hd4
  have zD := frozen_of_row w4 w.heap.size 0 _ _ hd4
  have cF := cell_of_row w4 (w.heap.size + 1) 0 _ _ _ hf4
  have zF := frozen_of_row w4 (w.heap.size + 1) 0 _ _ hf4
  have k0 := hk4.bits
  have k1 := hk4.at
  have hX4 := hk4.lt
  have hv4 := hv3.grown hX3 hg
  obtain ⟨D, hDe⟩ : ∃ D, w.heap.size = D := ⟨_, rfl⟩
  obtain ⟨k, hk⟩ : ∃ k, out.length = k := ⟨_, rfl⟩
  have HK := Lib.hid hk
  have n1 : ¬ D = X := by omega
  have n2 : ¬ X = D := by omega
  have n3 : ¬ D + 1 = X := by omega
  have n4 : ¬ X = D + 1 := by omega
  have n5 : ¬ D = D + 1 := by omega
  have n6 : ¬ D + 1 = D := by omega
  have hgx : getX b = getD b l (.ok (out, i)) := by rw [HX.out, hRo]
  rw [hk]
  by_cases h77 : 77 < k
  · have s1 : decide ((k : Int) ≤ 77) = false := decide_eq_false (by omega)
    have hgx2 : getX b = .error 21 := by rw [hgx, getD, if_pos (by rw [hk]; exact h77)]
    have eE : E = 21 := by rw [← HE.out, getE_x, hgx2]; rfl
    have eP : p = [] := by rw [← HP.out, getL_x, hgx2]; rfl
    subst eE eP
    clear hgx hgx2
    rw [hDe] at cD zD cF zF hd4 hf4 hb04
    rw [hDe]
    go_wp2_with (go_at_call 26; refine (pdemand_no 21 _).mono ?_; rintro e w9 ⟨rfl, rfl⟩)
    have hd5 := heap_setCell_same w4 D 0 _ _ (.slice A4 k c4) hd4
    have hf5 := (heap_setCell_other w4 ⟨D, 0, none⟩ (D + 1) (.slice A4 k c4) n6).trans hf4
    refine leaves_cons (f := 25) (args := #[.pointer (some ⟨D, 0, none⟩), .pointer (some ⟨D + 1, 0, none⟩)]) (by simp) (by simp [go_sem]) ?_
    refine (catch_told D (D + 1) (by omega) _ 0 21 22 27 _ hd5 hf5).mono ?_
    rintro e u' w'' ⟨rfl, rfl, hD, hF, hB⟩
    have hD0 := cell_of_row w'' D 0 _ _ _ hD
    have hF0 := cell_of_row w'' (D + 1) 0 _ _ _ hF
    show Leaves _ _ _ _ [] .returning _
    exact ⟨.tuple #[.slice none 0 0, .int .i64 21], by simp [results, Try.results14, go_sem, hD0, hF0], none, 0, rfl, bs_nil _ _, (by first | exact ((hb04.setCell (p := ⟨D, 0, none⟩) (Nat.le_refl _) _).trans (hB _ (Nat.le_refl _) (Nat.le_succ _))) | (rw [hDe]; exact ((hb04.setCell (p := ⟨D, 0, none⟩) (Nat.le_refl _) _).trans (hB _ (Nat.le_refl _) (Nat.le_succ _)))))⟩
  have s1 : decide ((k : Int) ≤ 77) = true := decide_eq_true (by omega)
  obtain ⟨w5, hw5⟩ : ∃ w5, w4.setCell ⟨D, 0, none⟩ (.slice A4 k c4) = w5 := ⟨_, rfl⟩
  rw [hDe] at cD zD cF zF hd4 hf4 hb04
  rw [hDe]
  have hd5 : w5.heap[D]? = some (.cells #[.slice A4 k c4] 22 (0, 0)) := by rw [← hw5]; exact heap_setCell_same w4 D 0 _ _ (.slice A4 k c4) hd4
  have hf5 : w5.heap[D + 1]? = some (.cells #[.int .i64 0] 27 (0, 0)) := by rw [← hw5]; exact (heap_setCell_other w4 ⟨D, 0, none⟩ (D + 1) (.slice A4 k c4) n6).trans hf4
  have hsz5 : w4.heap.size = w5.heap.size := by rw [← hw5]; simp
  have hV5 : Vs w5 X l (some a3) c3 := by rw [← hw5]; exact hv4.set hd4 (by simp) _
  have hX5 : X ≤ w5.heap.size := by omega
  have hbs5 : Bs w5 w5.heap.size out A4 c4 := by rw [← hsz5, ← hw5]; exact hbs.set hd4 (by simp) _
  have hb05' : Below D w w5 := by rw [← hw5]; exact hb04.setCell (p := ⟨D, 0, none⟩) (Nat.le_refl _) _
  have hb05 : Below w.heap.size w w5 := by rw [hDe]; exact hb05'
  have hs05 := hb05.size
  have hsD : D ≤ w5.heap.size := by omega
  have hic : i ≤ c3 := by omega
  have i0 : (0 : Int) ≤ (i : Int) := by omega
  have i1 : (i : Int) ≤ (c3 : Int) := by omega
  have HLT := Lib.hid (show i = (l.take i).length by rw [List.length_take, ← HM.out]; omega)
  obtain ⟨TT, hTT⟩ : ∃ TT, packL (l.take i) = TT := ⟨_, rfl⟩
  have HTT := Lib.hid hTT
  have HTL := Lib.hid (show (i + 7) / 8 = TT.length by rw [← hTT, packL_len, ← HLT.out])
  have c5D := cell_of_row w5 D 0 _ _ _ hd5
  have z5D := frozen_of_row w5 D 0 _ _ hd5
  have c5F := cell_of_row w5 (D + 1) 0 _ _ _ hf5
  have z5F := frozen_of_row w5 (D + 1) 0 _ _ hf5
  have k50 : w5.cell? ⟨X, 0, none⟩ = some (.slice (some a3) m c3) := by
    rw [← hw5, World.cell?_setCell_other]
    · exact k0
    · intro e; exact n1 (congrArg Addr.block e)
  have k51 : w5.cell? ⟨X, 1, none⟩ = some (.int .i64 (i : Int)) := by
    rw [← hw5, World.cell?_setCell_other]
    · exact k1
    · intro e; exact n1 (congrArg Addr.block e)
  by_cases hTb : ¬ TT = b
  · have hgx2 : getX b = .error 14 := by rw [hgx, getD, if_neg (by rw [hk]; exact h77), if_pos (by rw [hTT]; exact hTb)]
    have eE : E = 14 := by rw [← HE.out, getE_x, hgx2]; rfl
    have eP : p = [] := by rw [← HP.out, getL_x, hgx2]; rfl
    have eT : (b == TT) = false := by rw [beq_eq_false_iff_ne]; exact fun e => hTb e.symm
    subst eE eP
    clear hgx hgx2 hTT hTb
    go_wp2_with (go_at_call 26; refine (pdemand_ok 21 _).mono ?_; rintro e w9 ⟨rfl, rfl⟩)
    go_wp2_with (first | (go_at_call 16; refine (ppack_any (l.take i) i HLT.out (by omega) (some a3) c3 _ ((hV5.take i hic).more hX5)).mono ?_; rintro e w6 ⟨A6, c6, rfl, hb6s, hb6⟩; rw [HTT.out] at hb6s) | (go_at_call 28; refine (equal_any b TT n ((i + 7) / 8) HN.out HTL.out A A6 c c6 _ _ (HA.out.next (hb05.trans (hb6.mono hs05))).rd hb6s.rd (by omega) (by omega)).mono ?_; rintro e w7 ⟨rfl, hb7⟩) | (go_at_call 26; refine (pdemand_no 14 _).mono ?_; rintro e w8 ⟨rfl, rfl⟩))
    have hb57 := hb6.trans (hb7.mono hb6.size)
    have hd7 := (hb57.block D (by omega)).trans hd5
    have hf7 := (hb57.block (D + 1) (by omega)).trans hf5
    refine leaves_cons (f := 25) (args := #[.pointer (some ⟨D, 0, none⟩), .pointer (some ⟨D + 1, 0, none⟩)]) (by simp) (by simp [go_sem]) ?_
    refine (catch_told D (D + 1) (by omega) _ 0 14 22 27 _ hd7 hf7).mono ?_
    rintro e u' w'' ⟨rfl, rfl, hD, hF, hB⟩
    have hD0 := cell_of_row w'' D 0 _ _ _ hD
    have hF0 := cell_of_row w'' (D + 1) 0 _ _ _ hF
    show Leaves _ _ _ _ [] .returning _
    exact ⟨.tuple #[.slice none 0 0, .int .i64 14], by simp [results, Try.results14, go_sem, hD0, hF0], none, 0, rfl, bs_nil _ _, (by first | exact ((hb05'.trans (hb57.mono hsD)).trans (hB _ (Nat.le_refl _) (Nat.le_succ _))) | (rw [hDe]; exact ((hb05'.trans (hb57.mono hsD)).trans (hB _ (Nat.le_refl _) (Nat.le_succ _)))))⟩
  have hTb2 : TT = b := Decidable.not_not.1 hTb
  have hgx2 : getX b = .ok out := by rw [hgx, getD, if_neg (by rw [hk]; exact h77), if_neg (by rw [hTT]; exact hTb)]
  have eE : E = 0 := by rw [← HE.out, getE_x, hgx2]; rfl
  have eP : p = out := by rw [← HP.out, getL_x, hgx2]; rfl
  have eT : (b == TT) = true := by rw [beq_iff_eq]; exact hTb2.symm
  subst eE eP
  clear hgx hgx2 hTT hTb hTb2
  go_wp2_with (go_at_call 26; refine (pdemand_ok 21 _).mono ?_; rintro e w9 ⟨rfl, rfl⟩)
  go_wp2_with (first | (go_at_call 16; refine (ppack_any (l.take i) i HLT.out (by omega) (some a3) c3 _ ((hV5.take i hic).more hX5)).mono ?_; rintro e w6 ⟨A6, c6, rfl, hb6s, hb6⟩; rw [HTT.out] at hb6s) | (go_at_call 28; refine (equal_any b TT n ((i + 7) / 8) HN.out HTL.out A A6 c c6 _ _ (HA.out.next (hb05.trans (hb6.mono hs05))).rd hb6s.rd (by omega) (by omega)).mono ?_; rintro e w7 ⟨rfl, hb7⟩))
  have hb57 := hb6.trans (hb7.mono hb6.size)
  have hd7 := (hb57.block D (by omega)).trans hd5
  have hf7 := (hb57.block (D + 1) (by omega)).trans hf5
  have hbs7 := hbs5.next hb57
  have hb07 := hb05'.trans (hb57.mono hsD)
  have c7D := cell_of_row w7 D 0 _ _ _ hd7
  have z7D := frozen_of_row w7 D 0 _ _ hd7
  have c7F := cell_of_row w7 (D + 1) 0 _ _ _ hf7
  have z7F := frozen_of_row w7 (D + 1) 0 _ _ hf7
  clear k50 k51 c5D z5D c5F z5F hd5 hf5 hb57 hb6 hb7
  go_wp2_with (go_at_call 26; refine (pdemand_ok 14 _).mono ?_; rintro e w8 ⟨rfl, rfl⟩)
  refine leaves_cons (f := 25) (args := #[.pointer (some ⟨D, 0, none⟩), .pointer (some ⟨D + 1, 0, none⟩)]) (by simp) (by simp [go_sem]) ?_
  refine (catch_idle _ _ _).mono ?_
  rintro e u' w'' ⟨rfl, rfl, rfl⟩
  show Leaves _ _ _ _ [] .returning _
  have hD9 := heap_setCell_same w8 D 0 _ _ (.slice A4 k c4) hd7
  have hF9 := (heap_setCell_other w8 ⟨D, 0, none⟩ (D + 1) (.slice A4 k c4) n6).trans hf7
  have hD10 := (heap_setCell_other _ ⟨D + 1, 0, none⟩ D (.int .i64 0) n5).trans hD9
  have hF10 := heap_setCell_same _ (D + 1) 0 _ _ (.int .i64 0) hF9
  have qD := cell_of_row _ D 0 _ _ _ hD10
  have qF := cell_of_row _ (D + 1) 0 _ _ _ hF10
  have hbs8 := hbs7.set hd7 (by simp) (.slice A4 k c4)
  have hbs9 := hbs8.set hF9 (by simp) (.int .i64 0)
  refine ⟨.tuple #[.slice A4 k c4, .int .i64 0], ?_, A4, c4, by rw [HK.out], hbs9.more (by simp), ?_⟩
  · simp only [Array.setIfInBounds, List.size_toArray, List.length_cons, List.length_nil] at qD qF
    simp [results, Try.results14, go_sem, qD, qF]
  · rw [hDe]
    exact (hb07.setCell (p := ⟨D, 0, none⟩) (Nat.le_refl _) _).setCell (p := ⟨D + 1, 0, none⟩) (Nat.le_succ _) _
end Go.Proofs.Ytjlcaobffhihhaa
