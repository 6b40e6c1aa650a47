/-
  The reference's Sum of sha.
-/
import Derived.Test.YtpniolinndlepaaGreatDoorBase
import Derived.Test.YtpniolinndlepaaGreatDoorShaE
namespace Go.Proofs.YtpniolinndlepaaGreatDoor
set_option maxRecDepth 100000
set_option linter.unusedVariables false
open Go.ChangeShapes Go.WideShapes Go.ChangeAt Go.RowKit

theorem valB_step (l : List Nat) (k j : Nat) (hj : j < 4) (h : 4 * k + 4 ≤ l.length) : valB ((l.drop (4 * k)).take (j + 1)) = valB ((l.drop (4 * k)).take j) * 256 + l[4 * k + j] := by
  rw [List.take_succ_eq_append_getElem (by simp; omega), valB_snoc]
  simp
theorem valB_room (l : List Nat) (hl : ∀ x ∈ l, x < 256) (k j : Nat) (hj : j < 4) : valB ((l.drop (4 * k)).take j) < 16777216 := by
  have h := valB_lt ((l.drop (4 * k)).take j) (fun x hx => hl x (List.mem_of_mem_drop (List.mem_of_mem_take hx)))
  have h2 : 256 ^ ((l.drop (4 * k)).take j).length ≤ 256 ^ 3 := Nat.pow_le_pow_right (by omega) (by simp; omega)
  omega
theorem wordAt_whole (l : List Nat) (k : Nat) : wordAt l l.length k = valB ((l.drop (4 * k)).take 4) := by
  unfold wordAt; rw [List.take_length]

theorem refwords_ok (l : List Nat) (A : Option Addr) (c : Nat) (w : World) (hA : Rd w w.heap.size A (U8 l)) (hb : ∀ x ∈ l, x < 256) (hl : l.length ≤ 4000) (h4 : l.length % 4 = 0) :
    Calls Tryz.prog 120 #[.slice A l.length c] w fun e w' => ∃ v, e = .returned (.tuple #[v, .int .i64 0]) ∧
      w'.ownsRow w.heap.size 134 1 v (l.length / 4) (U32 (wordsOf l)) ∧ Below w.heap.size w w' := by
  obtain ⟨i0, hi, hz0, hz1, hz2⟩ := info_parts infoU32
  obtain ⟨n, hn⟩ : ∃ n, n = l.length := ⟨_, rfl⟩
  rw [← hn] at hl h4 ⊢
  obtain ⟨m, hm⟩ : ∃ m, m = n / 4 := ⟨_, rfl⟩
  have HN := Lib.hid hn
  have HM := Lib.hid hm
  have HB := Lib.hid hb
  have hmn : 4 * m ≤ n := by omega
  have hnm : n ≤ 4 * m := by omega
  rw [← hm]
  clear hn hm hb
  have hb4 : ((n : Int) % 4 != 0) = false := by simp; omega
  go_enter Tryz.func120, Tryz.ntmps120
  go_wp2
  go_loopw [4, 5] (fun v i wr => ∃ k : Nat, k ≤ m ∧ i = .int .i64 (4 * k : Nat) ∧ wr.ownsRow w.heap.size 134 1 v k (U32 (wordsUpto l k n)) ∧ Below w.heap.size w wr) (fun _ i _ => n - (intOf i).toNat)
  case atStart => exact ⟨0, Nat.zero_le _, rfl, World.ownsRow_lit w #[] 0 (Nat.le_refl _) (by decide) rfl, (Below.refl _ _).alloc (Nat.le_refl _) _⟩
  case round =>
    obtain ⟨k, hk, rfl, hown, hbel⟩ := hrel
    by_cases hlt : k < m
    · have hkn : 4 * k + 4 ≤ n := by omega
      go_wp2
      go_loop [6, 7] (fun x t => ∃ j : Nat, j ≤ 4 ∧ t = .int .i64 j ∧ x = .int .u32 (valB ((l.drop (4 * k)).take j) : Nat)) (fun _ t => 4 - (intOf t).toNat)
      case atStart => exact ⟨0, Nat.zero_le _, rfl, rfl⟩
      case round =>
        obtain ⟨j, hj, rfl, rfl⟩ := hrel
        by_cases hj4 : j < 4
        · have hkl : 4 * k + j < l.length := by rw [← HN.out]; omega
          obtain ⟨ad, rfl, hab, hc0⟩ := hA (4 * k + j) _ (U8_at l (4 * k + j) hkl)
          have hc : wr.cell? (ad.add (4 * k + j)) = some (.int .u8 (l[4 * k + j] : Nat)) := (hbel.cell (by rw [add_block]; exact hab)).trans hc0
          have hx := HB.out _ (List.getElem_mem hkl)
          have hy := valB_room l HB.out k j hj4
          have hs := valB_step l k j hj4 (by rw [← HN.out]; exact hkn)
          generalize l[4 * k + j] = x at *
          generalize valB ((l.drop (4 * k)).take j) = y at *
          have HS := Lib.hid hs
          clear hs hc0 hA
          go_wp2
          go_round
          case rel => exact ⟨j + 1, by omega, by go_num, by rw [HS.out]; go_num⟩
          case measure => simp [intOf]; omega
        · have e4 : j = 4 := by omega
          subst e4
          obtain ⟨y, hy⟩ : ∃ y, y = valB ((l.drop (4 * k)).take 4) := ⟨_, rfl⟩
          have HY := Lib.hid hy
          rw [← hy]
          clear hy
          go_wp2_with (at_builtin; refine wpList_append_own _ rfl _ _ 141 rfl w.heap.size 134 i0 (.int .u32 0) 1 4 Tryz.underlying141 hi hz0 hz1 hz2 rfl (by decide) _ _ _ rfl (hown.alloc _) ⟨wr.heap.size, 0, none⟩ 1 1 [.int .u32 (y : Int)] rfl rfl ?c1 ?c2 ?c3 ?c4 ?c5 ?_)
          case c2 => first | rfl | (intro u hu; simp at hu; subst hu; rfl)
          case c3 => unfold maxLen; omega
          case c4 => omega
          case c5 => have := hbel.size; simp; omega
          intro v' w1 hown' hgrow _
          have hbel1 : Below w.heap.size w w1 := (hbel.alloc hbel.size _).grown hgrow (by have := hbel.size; simp; omega) (fun g hg => own_ge hown hg)
          have hown1 : w1.ownsRow w.heap.size 134 1 v' (k + 1) (U32 (wordsUpto l (k + 1) n)) := by
            rw [wordsUpto_succ, U32, List.map_append]
            rw [HN.out, wordAt_whole, ← HY.out, ← HN.out]
            exact hown'
          clear hown' hgrow hown hbel
          go_wp2
          go_roundw
          case rel => exact ⟨k + 1, by omega, by go_num, hown1, hbel1⟩
          case measure => simp [intOf]; omega
    · have e : wordsUpto l k n = wordsOf l := by
        have e1 : k = m := by omega
        rw [e1, HM.out, HN.out]; rfl
      have ek : k = m := by omega
      rw [e, ek] at hown
      have HO := Lib.hid hown
      clear e ek hown
      go_wp2
      go_ret2
      exact ⟨_, rfl, HO.out, hbel⟩
set_option linter.unusedVariables false
open Go.ChangeShapes Go.WideShapes Go.ChangeAt Go.RowKit

theorem quarters (x : Nat) (hx : x < 4294967296) : U8 [x / 16777216, x / 65536 % 256, x / 256 % 256, x % 256] =
    [.int .u8 (IntKind.u8.wrap (IntKind.u32.wrap ((x : Int) / 16777216))), .int .u8 (IntKind.u8.wrap ((IntKind.u32.wrap ((x : Int) / 65536)).tmod 256)), .int .u8 (IntKind.u8.wrap ((IntKind.u32.wrap ((x : Int) / 256)).tmod 256)), .int .u8 (IntKind.u8.wrap ((x : Int).tmod 256))] := by
  have w32 : ∀ z : Int, 0 ≤ z → z < 4294967296 → IntKind.u32.wrap z = z := fun z h1 h2 => by
    simp [IntKind.wrap, IntKind.signed, IntKind.bits]; omega
  have w8 : ∀ z : Int, 0 ≤ z → z < 256 → IntKind.u8.wrap z = z := fun z h1 h2 => by
    simp [IntKind.wrap, IntKind.signed, IntKind.bits]; omega
  rw [w32 ((x : Int) / 16777216) (by omega) (by omega), w32 ((x : Int) / 65536) (by omega) (by omega), w32 ((x : Int) / 256) (by omega) (by omega)]
  rw [Int.tmod_eq_emod_of_nonneg (by omega : (0 : Int) ≤ (x : Int) / 65536), Int.tmod_eq_emod_of_nonneg (by omega : (0 : Int) ≤ (x : Int) / 256), Int.tmod_eq_emod_of_nonneg (by omega : (0 : Int) ≤ (x : Int))]
  rw [w8 ((x : Int) / 16777216) (by omega) (by omega), w8 ((x : Int) / 65536 % 256) (by omega) (by omega), w8 ((x : Int) / 256 % 256) (by omega) (by omega), w8 ((x : Int) % 256) (by omega) (by omega)]
  simp [U8]

set_option maxRecDepth 100000 in
set_option maxHeartbeats 1600000 in
theorem refbytes_ok (l : List Nat) (A : Option Addr) (c : Nat) (w : World) (hA : Rd w w.heap.size A (U32 l)) (hb : ∀ x ∈ l, x < 4294967296) (hl : l.length ≤ 1000) :
    Calls Tryz.prog 122 #[.slice A l.length c] w fun e w' => ∃ v, e = .returned v ∧
      w'.ownsRow w.heap.size 5 1 v (4 * l.length) (U8 (bytesOf l)) ∧ Below w.heap.size w w' := by
  obtain ⟨i0, hi, hz0, hz1, hz2⟩ := info_parts infoU8
  obtain ⟨n, hn⟩ : ∃ n, n = l.length := ⟨_, rfl⟩
  rw [← hn] at hl ⊢
  have HN := Lib.hid hn
  have HB := Lib.hid hb
  clear hn hb
  go_enter Tryz.func122, Tryz.ntmps122
  go_wp2
  go_loopw [3, 4] (fun v i wr => ∃ k : Nat, k ≤ n ∧ i = .int .i64 k ∧ wr.ownsRow w.heap.size 5 1 v (4 * k) (U8 (bytesTo l k)) ∧ Below w.heap.size w wr) (fun _ i _ => n - (intOf i).toNat)
  case atStart => exact ⟨0, Nat.zero_le _, rfl, World.ownsRow_lit w #[] 0 (Nat.le_refl _) (by decide) rfl, (Below.refl _ _).alloc (Nat.le_refl _) _⟩
  case round =>
    obtain ⟨k, hk, rfl, hown, hbel⟩ := hrel
    by_cases hlt : k < n
    · have hkl : k < l.length := by rw [← HN.out]; exact hlt
      obtain ⟨ad, rfl, hab, hc0⟩ := hA k _ (U32_at l k hkl)
      have hc : wr.cell? (ad.add k) = some (.int .u32 (l[k] : Nat)) := (hbel.cell (by rw [add_block]; exact hab)).trans hc0
      have hx := HB.out _ (List.getElem_mem hkl)
      have hs := bytesTo_succ l k hkl HB.out
      generalize l[k] = x at *
      have HS := Lib.hid hs
      clear hs hc0 hA
      have hbs := hbel.size
      have b0 : (0 : Int) ≤ (k : Int) := Int.natCast_nonneg _
      have b1 : (k : Int) < (n : Int) := by omega
      have lk := World.block_lt_of_cell? wr _ hc
      obtain ⟨v, hv⟩ : ∃ v, v = u3 := ⟨_, rfl⟩
      rw [← hv] at hown ⊢
      clear hv
      have hge : ∀ g, v.ownBlock = some g → w.heap.size ≤ g := fun g hg => own_ge hown hg
      have hne : v.ownBlock ≠ some (ad.add k).block := by
        intro e
        have := hge _ e
        rw [add_block] at this
        omega
      have HGE := Lib.hid hge
      clear hge
      go_wp2
      go_region_held3 (fun w' => w'.cell? (ad.add k) = some (.int .u32 (x : Nat)))
        (first | go_keep | (rw [hgrow.cell_far _ (by simp; omega) (Ne.symm hne)]; assumption))
        ((refine step_append_lies _ (by rfl) _ _ _ (by rfl) w.heap.size 5 i0 _ 1 1 Tryz.underlying30 hi hz0 hz1 hz2 rfl (by omega) v (4 * k) (U8 (bytesTo l k)) (by rfl) ((hown.alloc _).drew)
            ⟨wr.heap.size, 0, none⟩ 4 4 [.int .u8 (IntKind.u8.wrap (IntKind.u32.wrap ((x : Int) / 16777216))), .int .u8 (IntKind.u8.wrap ((IntKind.u32.wrap ((x : Int) / 65536)).tmod 256)), .int .u8 (IntKind.u8.wrap ((IntKind.u32.wrap ((x : Int) / 256)).tmod 256)), .int .u8 (IntKind.u8.wrap ((x : Int).tmod 256))] (by rfl) (by rfl)
            (World.news_of_block (cs := #[.int .u8 (IntKind.u8.wrap (IntKind.u32.wrap ((x : Int) / 16777216))), .int .u8 (IntKind.u8.wrap ((IntKind.u32.wrap ((x : Int) / 65536)).tmod 256)), .int .u8 (IntKind.u8.wrap ((IntKind.u32.wrap ((x : Int) / 256)).tmod 256)), .int .u8 (IntKind.u8.wrap ((x : Int).tmod 256))]) (t := 5) (fr := (0, 0)) (heap_alloc_new wr _)) (by simp [Value.oneCell'])
            (by omega) (by unfold maxLen; omega) (by omega) (by simp; omega) (wr.heap.size + 1) (by simp) ?_; intro gg cap w1 hown1 hgrow hat hlt1))
      have hbel1 : Below w.heap.size w w1 := ((hbel.alloc hbs _).drew).grown hgrow (by simp; omega) HGE.out
      have hown2 : w1.ownsRow w.heap.size 5 1 (.slice (some ⟨gg, 0, none⟩) (4 * k + 4) cap) (4 * (k + 1)) (U8 (bytesTo l (k + 1))) := by
        have e : U8 (bytesTo l (k + 1)) = U8 (bytesTo l k) ++ U8 [x / 16777216, x / 65536 % 256, x / 256 % 256, x % 256] := by
          rw [HS.out, U8, U8, U8, List.map_append]
        rw [e, quarters x hx]
        exact hown1
      clear hown1 hgrow hat hlt1 hown hbel hc hne
      go_wp2
      go_roundw
      case rel => exact ⟨k + 1, by omega, by go_num, hown2, hbel1⟩
      case measure => simp [intOf]; omega
    · have e : bytesTo l k = bytesOf l := by
        have e1 : k = l.length := by rw [← HN.out]; omega
        rw [e1]; rfl
      have ek : k = n := by omega
      rw [e, ek] at hown
      have HO := Lib.hid hown
      clear e ek hown
      go_wp2
      go_ret
      exact ⟨_, rfl, HO.out, hbel⟩
set_option linter.unusedVariables false
open Go.ChangeShapes Go.WideShapes Go.ChangeAt Go.RowKit

theorem refpad_len (l : List Nat) (n : Nat) (hn : n = l.length) (A : Option Addr) (c : Nat) (w : World) (hA : Rd w w.heap.size A (U8 l)) (hnil : A = none → c = 0) (hl : n ≤ 5000) :
    Calls Tryz.prog 118 #[.slice A n c] w fun e w' => ∃ v, e = .returned v ∧ w'.ownsRow w.heap.size 5 1 v (padN l).length (U8 (padN l)) ∧ Below w.heap.size w w' := by
  subst hn
  exact refpad_ok l A c w hA hnil hl
theorem refwords_len (l : List Nat) (n : Nat) (hn : l.length = n) (A : Option Addr) (c : Nat) (w : World) (hA : Rd w w.heap.size A (U8 l)) (hb : ∀ x ∈ l, x < 256) (hl : n ≤ 4000) (h4 : n % 4 = 0) :
    Calls Tryz.prog 120 #[.slice A n c] w fun e w' => ∃ v, e = .returned (.tuple #[v, .int .i64 0]) ∧ w'.ownsRow w.heap.size 134 1 v (n / 4) (U32 (wordsOf l)) ∧ Below w.heap.size w w' := by
  subst hn
  exact refwords_ok l A c w hA hb hl h4

/-- The first k of a list, zeros behind them. -/
def upZ (W : List Nat) (n k : Nat) : List Nat := W.take k ++ List.replicate (n - k) 0
theorem upZ_zero (W : List Nat) (n : Nat) : upZ W n 0 = List.replicate n 0 := by simp [upZ]
theorem upZ_all (W : List Nat) (n : Nat) (h : W.length = n) : upZ W n n = W := by simp [upZ, ← h]
theorem length_upZ (W : List Nat) (n k : Nat) (h : W.length = n) (hk : k ≤ n) : (upZ W n k).length = n := by simp [upZ]; omega
theorem upZ_set (W : List Nat) (n k : Nat) (h : W.length = n) (hk : k < n) : (upZ W n k).set k (W.getD k 0) = upZ W n (k + 1) := by
  unfold upZ
  have hl : (W.take k).length = k := by simp; omega
  have hkW : k < W.length := by omega
  have e : W.take (k + 1) = W.take k ++ [W[k]] := List.take_succ_eq_append_getElem hkW
  have eg : W.getD k 0 = W[k] := by rw [List.getD_eq_getElem?_getD, List.getElem?_eq_getElem hkW]; rfl
  rw [List.set_append_right _ _ (by rw [hl]; exact Nat.le_refl _), hl, Nat.sub_self, show n - k = (n - (k + 1)) + 1 by omega, List.replicate_succ, List.set_cons_zero, e, eg, List.append_assoc, List.singleton_append]

set_option maxRecDepth 100000 in
set_option maxHeartbeats 1600000 in
theorem refsum_ok (l : List Nat) (A : Option Addr) (c : Nat) (w : World) (hA : Rd w w.heap.size A (U8 l)) (hnil : A = none → c = 0) (hb : ∀ x ∈ l, x < 256) (hl : l.length ≤ 5000) :
    Calls Tryz.prog 87 #[.slice A l.length c] w fun e w' => e = .returned (.agg (U8 (digestN l)).toArray) ∧ Below w.heap.size w w' := by
  obtain ⟨n0, hn0⟩ : ∃ n0, n0 = l.length := ⟨_, rfl⟩
  have HN0 := Lib.hid hn0
  have HNIL := Lib.hid hnil
  have HA := Lib.hid hA
  have HB := Lib.hid hb
  rw [← hn0] at hl ⊢
  clear hn0 hnil hA hb
  go_enter Tryz.func87, Tryz.ntmps87
  go_wp2_with fail
  refine (refpad_len l n0 HN0.out A c _ ((HA.out.alloc (Nat.le_refl _) _).more (by simp)) HNIL.out hl).mono ?_
  rintro e w1 ⟨v1, rfl, hown1, hb1⟩
  rw [nblk_eq] at hown1
  have hm0 := nblk_pos l
  have hm1 : nblk l ≤ 80 := by have := nblk_eq l; rw [length_padN, ← HN0.out] at this; unfold zerosN at this; omega
  obtain ⟨m, hm⟩ : ∃ m, m = nblk l := ⟨_, rfl⟩
  rw [← hm] at hown1 hm0 hm1
  obtain ⟨g, cap, rfl, hgb⟩ := hown1.form (by omega)
  have hcap : 64 * m ≤ cap ∧ cap ≤ maxLen := by
    rcases hown1.2 with ⟨h, _⟩ | ⟨g', cap', cur, h, _, _, h1, h2, _⟩
    · cases h
    · simp at h; obtain ⟨_, rfl⟩ := h; exact ⟨h1, h2⟩
  obtain ⟨hcap1, hcap2⟩ := hcap
  unfold maxLen at hcap2
  have hs1 : w.heap.size + 1 ≤ w1.heap.size := by have := hb1.size; simpa using this
  have hr1 : w1.heap[w.heap.size]? = some (.cells b32 63 (0, 0)) := (hb1.block _ (by simp)).trans (heap_alloc_new w _)
  have hbw : Below w.heap.size w w1 := ((Below.refl _ _).alloc (Nat.le_refl _) _).trans (hb1.mono (by simp))
  have hgl : g < w1.heap.size := by
    obtain ⟨ad, he, hlt, _⟩ := (Rd.of_own hown1) 0 _ (U8_at (padN l) 0 (by rw [nblk_eq, ← hm]; omega))
    cases he; exact hlt
  have HM := Lib.hid hm
  have HO1 := Lib.hid hown1
  have HR1 := Lib.hid hr1
  have HBW := Lib.hid hbw
  have HPB := Lib.hid (padN_lt l HB.out)
  clear hown1 hr1 hbw hb1 hm
  go_wp2_with fail
  refine (begin_any _).mono ?_
  rintro e w2 ⟨rfl, hb2⟩
  rw [St.val_eq]
  have HB2 := Lib.hid hb2
  clear hb2
  go_wp2_with ((with_reducible refine at_store 4 ?_); refine wpList_store_named (o := ⟨none, .store 135 (.tmp 4) (.tmp 15), _, _, _, _⟩) rfl 135 (.tmp 4) (.tmp 15) rfl w2.heap.size (U32 beginN.list).toArray rfl rfl 135 z8 (heap_alloc_new w2 _) info28 rfl (all_one32 _) ?_; intro w3 hw3)
  obtain ⟨hs3, hv3, hb3⟩ := row_made hw3.out
  have hs2 := HB2.out.size
  have hb13 : Below w1.heap.size w1 w3 := HB2.out.trans (hb3.mono hs2)
  have HO3 := Lib.hid (own_below HO1.out hb13)
  have HR3 := Lib.hid ((hb13.block w.heap.size (by omega)).trans HR1.out)
  have HV3 := Lib.hid hv3
  have hg3 : g < w2.heap.size := by omega
  have hb03 : Below w.heap.size w w3 := HBW.out.trans (hb13.mono (by omega))
  clear hv3 hb3 hb13 hw3
  go_loopw [5] (fun i wr => ∃ j o : Nat, Hid (o = 64 * j) ∧ j ≤ m ∧ i = .int .i64 o ∧ wr.heap[w2.heap.size]? = some (.cells (U32 (blocksN beginN (padN l) j).list).toArray 135 (0, 0)) ∧ Below w2.heap.size w3 wr) (fun i _ => 64 * m - (intOf i).toNat)
  case atStart => exact ⟨0, 0, Lib.hid rfl, Nat.zero_le _, rfl, HV3.out, Below.refl _ _⟩
  case round =>
    obtain ⟨j, o, HOJ, hj, rfl, hv, hbel⟩ := hrel
    by_cases hlt : j < m
    · have ho1 : o + 64 ≤ 64 * m := by have := HOJ.out; omega
      have hgw : g < wr.heap.size := by have := hbel.size; omega
      have hrd0 : Rd wr wr.heap.size (some ⟨g, 0, none⟩) (U8 (padN l)) := by
        intro k u hu
        obtain ⟨ad, he, _, hc⟩ := (Rd.of_own HO3.out) k u hu
        cases he
        refine ⟨_, rfl, hgw, ?_⟩
        rw [at_add] at hc ⊢
        exact (hbel.cell (p := ⟨g, k, none⟩) hg3).trans hc
      have hrd1 := hrd0.from (k := o)
      rw [U8_drop] at hrd1
      have hrd : Rd wr wr.heap.size (some ⟨g, o, none⟩) (U8 (((padN l).drop o).take 64)) := by
        intro k u hu
        refine hrd1 k u ?_
        simp only [U8, List.map_take, List.getElem?_take] at hu ⊢
        split at hu
        · exact hu
        · cases hu
      have hlq : (((padN l).drop o).take 64).length = 64 := by rw [List.length_take, List.length_drop, nblk_eq, ← HM.out]; omega
      have hbq : ∀ x ∈ ((padN l).drop o).take 64, x < 256 := fun x hx => HPB.out x (List.mem_of_mem_drop (List.mem_of_mem_take hx))
      have hnext : blocksN beginN (padN l) (j + 1) = blockN (blocksN beginN (padN l) j) (wordsOf (((padN l).drop o).take 64)) := by rw [HOJ.out]; rfl
      have hok := blocksN_ok beginN_ok (padN l) j
      obtain ⟨W, hWE⟩ : ∃ W, W = wordsOf (((padN l).drop o).take 64) := ⟨_, rfl⟩
      have hW1 : W.length = 16 := by rw [hWE, length_wordsOf, hlq]
      have hW2 : ∀ x ∈ W, x < 4294967296 := by rw [hWE]; exact wordsOf_lt _ hbq
      have hwc := refwords_len (((padN l).drop o).take 64) 64 hlq (some ⟨g, o, none⟩) (cap - o) wr hrd hbq (by omega) (by omega)
      rw [← hWE] at hnext hwc
      obtain ⟨V, hVE⟩ : ∃ V, V = blocksN beginN (padN l) j := ⟨_, rfl⟩
      rw [← hVE] at hv hnext hok
      have HNX := Lib.hid hnext
      have HWC := Lib.hid hwc
      have HOK := Lib.hid hok
      have HW1 := Lib.hid hW1
      have HW2 := Lib.hid hW2
      have HV := Lib.hid hv
      clear hrd0 hrd1 hrd hlq hbq hnext hok hW1 hW2 hWE hwc hv hVE
      go_wp2_with fail
      refine HWC.out.mono ?_
      rintro e w4 ⟨v4, rfl, hown4, hb4⟩
      obtain ⟨g4, cap4, rfl, hgb4⟩ := hown4.form (by omega)
      have hs4 := hb4.size
      have HO4 := Lib.hid hown4
      have HB4 := Lib.hid hb4
      clear hown4 hb4
      go_wp2_with ((with_reducible refine at_store 8 ?_); refine wpList_store_named (o := ⟨none, .store 137 (.tmp 8) (.tmp 31), _, _, _, _⟩) rfl 137 (.tmp 8) (.tmp 31) rfl w4.heap.size z16 rfl rfl 137 z16 (heap_alloc_new w4 _) info29 rfl (all_one32 (List.replicate 16 0)) ?_; intro w5 hw5)
      obtain ⟨hs5, hv5, hb5⟩ := row_made hw5.out
      have HV5 := Lib.hid hv5
      have HO5 := Lib.hid (own_below HO4.out hb5)
      clear hw5 hv5
      have hz : (.cells z16 137 (0, 0) : Obj) = .cells (U32 (upZ W 16 0)).toArray 137 (0, 0) := by rw [upZ_zero, z16_eq]
      obtain ⟨wo, rfl⟩ : ∃ wo : World, wo = wr := ⟨_, rfl⟩
      go_loopw [9] (fun i wr => ∃ k : Nat, k ≤ 16 ∧ i = .int .i64 k ∧ wr.heap[w4.heap.size]? = some (.cells (U32 (upZ W 16 k)).toArray 137 (0, 0)) ∧ Below w4.heap.size w5 wr) (fun i _ => 16 - (intOf i).toNat)
      case atStart => exact ⟨0, Nat.zero_le _, rfl, by rw [HV5.out, hz], Below.refl _ _⟩
      case round =>
        clear hz
        obtain ⟨k, hk, rfl, hw, hbk⟩ := hrel
        by_cases hk16 : k < 16
        · have hcs : wr.cell? ⟨g4, k, none⟩ = some (.int .u32 ((W.getD k 0 : Nat) : Int)) := by
            have hg4 : g4 < w4.heap.size := by
              obtain ⟨ad, he, hlt4, _⟩ := (Rd.of_own HO4.out) 0 _ (U32_getD W 0 (by rw [HW1.out]; omega))
              cases he; exact hlt4
            exact (hbk.cell (p := ⟨g4, k, none⟩) hg4).trans (own_cell32 HO5.out k (by omega))
          have hcur : wr.cell? ⟨w4.heap.size, k, none⟩ = some (.int .u32 (((upZ W 16 k).getD k 0 : Nat) : Int)) := by
            rw [cell_of_row wr _ k _ _ (0, 0) hw, List.getElem?_toArray, U32_getD _ k (by rw [length_upZ W 16 k HW1.out hk]; exact hk16)]
          have hfz := frozen_of_row wr _ k _ _ hw
          have hset := heap_setCell_same wr _ k _ 137 (.int .u32 ((W.getD k 0 : Nat) : Int)) hw
          have hst : (U32 (upZ W 16 k)).toArray.setIfInBounds k (.int .u32 ((W.getD k 0 : Nat) : Int)) = (U32 (upZ W 16 (k + 1))).toArray := by
            rw [List.setIfInBounds_toArray, ← upZ_set W 16 k HW1.out hk16, U32, U32, List.map_set]
          rw [hst] at hset
          have HSET := Lib.hid hset
          clear hset hst hw
          generalize W.getD k 0 = y at *
          generalize (upZ W 16 k).getD k 0 = z at *
          have bk0 : (0 : Int) ≤ (k : Int) := Int.natCast_nonneg _
          have bk1 : (k : Int) < 16 := by omega
          go_wp2
          go_roundw
          case rel => exact ⟨k + 1, by omega, by go_num, HSET.out, hbk.setCell (Nat.le_refl _) _⟩
          case measure => simp [intOf]; omega
        · have k16 : k = 16 := by omega
          subst k16
          rw [upZ_all W 16 HW1.out] at hw
          have hwv : wr.heap[w2.heap.size]? = some (.cells (U32 V.list).toArray 135 (0, 0)) := (hbk.block _ (by have := hbel.size; omega)).trans ((hb5.block _ (by have := hbel.size; omega)).trans ((HB4.out.block _ (by have := hbel.size; omega)).trans HV.out))
          have hin : (Tryz.prog.info? 137).map (·.size) = some (U32 W).toArray.size := by rw [show (U32 W).toArray.size = 16 by simp [U32, HW1.out]]; exact info29
          have HWW := Lib.hid hw
          have HWV := Lib.hid hwv
          have HIN := Lib.hid hin
          clear hw hwv hin
          go_wp2_with (first
            | ((with_reducible refine at_load 42 ?_); refine wpList_load_row (o := ⟨some 42, .load 135 (.tmp 4), _, _, _, _⟩) rfl 135 (.tmp 4) rfl w2.heap.size rfl 135 (U32 V.list).toArray (0, 0) _ HWV.out Tryz.underlying135 rfl info28 ?_)
            | ((with_reducible refine at_load 43 ?_); refine wpList_load_row (o := ⟨some 43, .load 137 (.tmp 8), _, _, _, _⟩) rfl 137 (.tmp 8) rfl w4.heap.size rfl 137 (U32 W).toArray (0, 0) _ HWW.out Tryz.underlying137 rfl HIN.out ?_))
          refine (refblock_list V W wr HOK.out HW2.out HW1.out).mono ?_
          rintro e w6 ⟨rfl, hb6⟩
          obtain ⟨R, hR⟩ : ∃ R, R = blockN V W := ⟨_, rfl⟩
          rw [← hR]
          have HRE := Lib.hid hR
          have HV6 := Lib.hid ((hb6.block w2.heap.size (by have h7 := hbel.size; have h8 := hbk.size; omega)).trans HWV.out)
          have hbf : Below w2.heap.size w3 w6 := (((hbel.trans (HB4.out.mono (by have := hbel.size; omega))).trans (hb5.mono (by have := hbel.size; omega))).trans (hbk.mono (by have := hbel.size; omega))).trans (hb6.mono (by have h7 := hbel.size; have h8 := hbk.size; omega))
          clear hR hb6
          go_wp2_with ((with_reducible refine at_store 4 ?_); refine wpList_store_named (o := ⟨none, .store 135 (.tmp 4) (.tmp 44), _, _, _, _⟩) rfl 135 (.tmp 4) (.tmp 44) rfl w2.heap.size (U32 R.list).toArray rfl rfl 135 (U32 V.list).toArray HV6.out info28 rfl (all_one32 _) ?_; intro w7 hw7)
          have hv7 : w7.heap[w2.heap.size]? = some (.cells (U32 (blocksN beginN (padN l) (j + 1)).list).toArray 135 (0, 0)) := by
            rw [hw7.out, HNX.out, ← HRE.out]; exact setRow_heap _ _ _ _ _ _ HV6.out
          have hb7 : Below w2.heap.size w3 w7 := hbf.trans (below_row hw7.out (Nat.le_refl _))
          clear hw7 hbf hbk
          go_roundw
          case rel => exact ⟨j + 1, o + 64, Lib.hid (by rw [HOJ.out]; omega), by omega, by go_num, hv7, hb7⟩
          case measure => simp [intOf]; omega
    · have hjm : j = m := by omega
      subst hjm
      obtain ⟨V, hVE⟩ : ∃ V, V = blocksN beginN (padN l) j := ⟨_, rfl⟩
      have hok : V.ok := by rw [hVE]; exact blocksN_ok beginN_ok _ _
      rw [← hVE] at hv
      have hdg : digestN l = bytesOf V.list := by rw [hVE, HM.out]; rfl
      obtain ⟨D, hD⟩ : ∃ D, D = bytesOf V.list := ⟨_, rfl⟩
      have hDl : D.length = 32 := by rw [hD, length_bytesOf]; rfl
      have ho2 : 64 * j ≤ o := by have := HOJ.out; omega
      have hsr : w2.heap.size < wr.heap.size := by have := hbel.size; omega
      have hres : wr.heap[w.heap.size]? = some (.cells b32 63 (0, 0)) := (hbel.block _ (by omega)).trans HR3.out
      have hbb : Below w.heap.size w wr := hb03.trans (hbel.mono (by omega))
      have HV := Lib.hid hv
      have HOK := Lib.hid hok
      have HDG := Lib.hid (hdg.trans hD.symm)
      have HD := Lib.hid hD
      have HDL := Lib.hid hDl
      have HRES := Lib.hid hres
      clear hv hVE hok hdg hres hbel hD hDl
      go_wp2_with ((with_reducible refine at_store 10 ?_); refine wpList_store_named (o := ⟨none, .store 63 (.tmp 10) (.tmp 45), _, _, _, _⟩) rfl 63 (.tmp 10) (.tmp 45) rfl wr.heap.size b32 rfl rfl 63 b32 (heap_alloc_new wr _) info32 rfl (all_one8 (List.replicate 32 0)) ?_; intro w4 hw4)
      obtain ⟨hs4, hv4, hb4⟩ := row_made hw4.out
      have hrd : Rd w4 w4.heap.size (some ⟨w2.heap.size, 0, none⟩) (U32 V.list) := by
        intro k u hu
        refine ⟨_, rfl, by show w2.heap.size < _; omega, ?_⟩
        rw [at_add, cell_of_row w4 _ k _ _ (0, 0) ((hb4.block _ hsr).trans HV.out)]
        simpa using hu
      have hrb := refbytes_ok V.list (some ⟨w2.heap.size, 0, none⟩) 8 w4 hrd (St.list_lt HOK.out) (by show 8 ≤ 1000; omega)
      rw [← HD.out, show 4 * V.list.length = 32 from rfl, show V.list.length = 8 from rfl] at hrb
      refine hrb.mono ?_
      clear hrb hrd
      rintro e w5 ⟨v5, rfl, hown5, hb5⟩
      obtain ⟨g5, cap5, rfl, hgb5⟩ := hown5.form (by omega)
      have hg5 : g5 < w5.heap.size := by
        obtain ⟨ad, he, hlt5, _⟩ := (Rd.of_own hown5) 0 _ (U8_at D 0 (by rw [HDL.out]; omega))
        cases he; exact hlt5
      have hge : w4.heap.size ≤ g5 := own_ge hown5 rfl
      have hs5 := hb5.size
      have hv5 : w5.heap[wr.heap.size]? = some (.cells (U8 (upZ D 32 0)).toArray 63 (0, 0)) := by rw [hb5.block _ (by omega), hv4, upZ_zero, ← b32_eq]
      have hr5 : w5.heap[w.heap.size]? = some (.cells b32 63 (0, 0)) := (hb5.block _ (by omega)).trans ((hb4.block _ (by omega)).trans HRES.out)
      have hbw5 : Below w.heap.size w w5 := (hbb.trans (hb4.mono (by omega))).trans (hb5.mono (by omega))
      have HO5 := Lib.hid hown5
      have HV5 := Lib.hid hv5
      have HR5 := Lib.hid hr5
      obtain ⟨wo, rfl⟩ : ∃ wo : World, wo = wr := ⟨_, rfl⟩
      clear hown5 hv5 hr5 hv4 hb4 hb5 hw4
      go_wp2_with fail
      go_loopw [12] (fun i wr => ∃ k : Nat, k ≤ 32 ∧ i = .int .i64 k ∧ wr.heap[wo.heap.size]? = some (.cells (U8 (upZ D 32 k)).toArray 63 (0, 0)) ∧ Below wo.heap.size w5 wr ∧ wr.heap[g5]? = w5.heap[g5]?) (fun i _ => 32 - (intOf i).toNat)
      case atStart => exact ⟨0, Nat.zero_le _, rfl, HV5.out, Below.refl _ _, rfl⟩
      case round =>
        obtain ⟨k, hk, rfl, hw, hbk, hgk⟩ := hrel
        by_cases hk32 : k < 32
        · have hcs : wr.cell? ⟨g5, k, none⟩ = some (.int .u8 ((D.getD k 0 : Nat) : Int)) := by
            have hkD : k < D.length := by rw [HDL.out]; exact hk32
            have h1 := HO5.out.cellAt k (by omega)
            rw [U8_at D k hkD] at h1
            rw [List.getD_eq_getElem?_getD, List.getElem?_eq_getElem hkD]
            exact (World.cell?_of_block (w := w5) (w' := wr) hgk).trans h1
          have hcur : wr.cell? ⟨wo.heap.size, k, none⟩ = some (.int .u8 (((upZ D 32 k).getD k 0 : Nat) : Int)) := by
            have hkU : k < (upZ D 32 k).length := by rw [length_upZ D 32 k HDL.out hk]; exact hk32
            rw [cell_of_row wr _ k _ _ (0, 0) hw, List.getElem?_toArray, U8_at _ k hkU, List.getD_eq_getElem?_getD, List.getElem?_eq_getElem hkU]
            rfl
          have hfz := frozen_of_row wr _ k _ _ hw
          have hset := heap_setCell_same wr _ k _ 63 (.int .u8 ((D.getD k 0 : Nat) : Int)) hw
          have hst : (U8 (upZ D 32 k)).toArray.setIfInBounds k (.int .u8 ((D.getD k 0 : Nat) : Int)) = (U8 (upZ D 32 (k + 1))).toArray := by
            rw [List.setIfInBounds_toArray, ← upZ_set D 32 k HDL.out hk32, U8, U8, List.map_set]
          rw [hst] at hset
          have HSET := Lib.hid hset
          have HGK := Lib.hid hgk
          clear hset hst hw hgk
          generalize D.getD k 0 = y at *
          generalize (upZ D 32 k).getD k 0 = z at *
          have bk0 : (0 : Int) ≤ (k : Int) := Int.natCast_nonneg _
          have bk1 : (k : Int) < 32 := by omega
          go_wp2
          go_roundw
          case rel => exact ⟨k + 1, by omega, by go_num, HSET.out, hbk.setCell (Nat.le_refl _) _, (heap_setCell_other _ _ _ _ (by show g5 ≠ wo.heap.size; omega)).trans HGK.out⟩
          case measure => simp [intOf]; omega
        · have k32 : k = 32 := by omega
          subst k32
          rw [upZ_all D 32 HDL.out] at hw
          have hsz : (U8 D).toArray.size = 32 := by simp [U8, HDL.out]
          have hin : (Tryz.prog.info? 63).map (·.size) = some (U8 D).toArray.size := by rw [hsz]; exact info32
          have HRES2 := Lib.hid ((hbk.block w.heap.size (by omega)).trans HR5.out)
          have hbf : Below w.heap.size w wr := hbw5.trans (hbk.mono (by omega))
          have HWW := Lib.hid hw
          have HSZ := Lib.hid hsz
          have HIN := Lib.hid hin
          clear hw hsz hin hgk hbk
          go_wp2_with (first
            | ((with_reducible refine at_load 58 ?_); refine wpList_load_row (o := ⟨some 58, .load 63 (.tmp 10), _, _, _, _⟩) rfl 63 (.tmp 10) rfl wo.heap.size rfl 63 (U8 D).toArray (0, 0) _ HWW.out Tryz.underlying63 rfl HIN.out ?_)
            | ((with_reducible refine at_store 2 ?_); refine wpList_store_named (o := ⟨none, .store 63 (.tmp 2) (.tmp 58), _, _, _, _⟩) rfl 63 (.tmp 2) (.tmp 58) rfl w.heap.size (U8 D).toArray rfl rfl 63 b32 HRES2.out HIN.out HSZ.out.symm (all_one8 D) ?_; intro w6 hw6))
          have hr6 : w6.heap[w.heap.size]? = some (.cells (U8 D).toArray 63 (0, 0)) := by rw [hw6.out]; exact setRow_heap _ _ _ _ _ _ HRES2.out
          refine bodyPost_ret (results_cell_row Tryz.results87 _ w6 w.heap.size 63 _ (0, 0) _ rfl hr6 Tryz.underlying63 rfl HIN.out) rfl ⟨by rw [HDG.out], ?_⟩
          exact hbf.trans (below_row hw6.out (Nat.le_refl _))
end Go.Proofs.YtpniolinndlepaaGreatDoor
