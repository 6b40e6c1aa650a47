/-
  The landed Turn and Read of swipe.
-/
import Derived.Test.YtpniolinndlepaaGreatDoorTrackM
import Derived.Test.YtpniolinndlepaaGreatDoorTrackA
import Derived.BigRegion
import Derived.Test.YtpniolinndlepaaGreatDoorBase
import Derived.Test.YtpniolinndlepaaGreatDoorTrackPGet
import Derived.Laws.EntriesVeiled
namespace Go.Proofs.YtpniolinndlepaaGreatDoor
set_option linter.unusedVariables false
open Go.ChangeShapes Go.WideShapes Go.ChangeAt Go.RowKit

set_option maxRecDepth 100000 in
set_option maxHeartbeats 1600000 in
theorem pturn_any (b : List Nat) (n : Nat) (hn : n = b.length) (hn2 : n ≤ 1048576) (A : Option Addr) (c : Nat) (w : World) (hA : Bs w w.heap.size b A c) : Calls Tryz.prog 18 #[.slice A n c] w fun e w' => ∃ A' c', e = .returned (.slice A' (n : Nat) c') ∧ Bs w' w'.heap.size (turnL b) A' c' ∧ Below w.heap.size w w' := by
  obtain ⟨m, hm⟩ : ∃ m, 8 * n = m := ⟨_, rfl⟩
  obtain ⟨L, hL⟩ : ∃ L, unpackL b = L := ⟨_, rfl⟩
  obtain ⟨h, hh⟩ : ∃ h, m / 2 = h := ⟨_, rfl⟩
  have hu := punpack_own b n hn hn2 A c w hA
  have hlen : L.length = m := by rw [← hL, unpackL_len, ← hn, hm]
  have hpk : packL L.reverse = turnL b := by rw [← hL]; rfl
  rw [hm, hL] at hu
  have hpm : (m + 7) / 8 = n := by omega
  have hm2 : m ≤ 8388608 := by omega
  have h8 : m % 2 = 0 := by omega
  have HU := Lib.hid hu
  have HL := Lib.hid hlen
  have HP := Lib.hid hpk
  have HPM := Lib.hid hpm
  have HH := Lib.hid hh
  have H8 := Lib.hid h8
  have eh : (m : Int) / 2 = (h : Int) := by omega
  have eh2 : (m : Int).tdiv 2 = (h : Int) := by rw [Int.tdiv_eq_ediv_of_nonneg (by omega)]; exact eh
  clear hn hA hm hL hh hu hlen hpk hpm h8
  go_enter Tryz.func18, Tryz.ntmps18
  go_wp2_with fail
  refine HU.out.mono ?_
  rintro e w1 ⟨rfl, ho, hb⟩
  have HOW := Lib.hid (show w1.ownsRow w.heap.size 4 1 (.slice (some ⟨w.heap.size, 0, none⟩) m m) m (BL (revP L 0)) by rw [revP_zero]; exact ho)
  have HBL := Lib.hid hb
  clear ho hb
  go_wp2
  go_loopw [14] (fun i wr => ∃ k : Nat, k ≤ h ∧ i = .int .i64 k ∧ wr.ownsRow w.heap.size 4 1 (.slice (some ⟨w.heap.size, 0, none⟩) m m) m (BL (revP L k)) ∧ Below w.heap.size w wr) (fun i _ => h - (intOf i).toNat)
  case atStart => exact ⟨0, Nat.zero_le _, rfl, HOW.out, HBL.out⟩
  case round =>
    obtain ⟨k, hk, rfl, hown, hbel⟩ := hrel
    replace HOW := Lib.hid hown
    replace HBL := Lib.hid hbel
    clear hown hbel
    by_cases hlt : k < h
    · obtain ⟨q, hq⟩ : ∃ q : Nat, q = m - 1 - k := ⟨_, rfl⟩
      have hkq : 2 * k + 1 < L.length := by rw [HL.out]; have := HH.out; have := H8.out; omega
      have hqm : q < m := by have := HL.out; omega
      have hkm : k < m := by have := HL.out; omega
      have hne : ¬ k = q := by have := HL.out; omega
      have hne2 : ¬ q = k := by omega
      have h1 := revP_low L k hkq
      have h2 := revP_high L k hkq
      have h3 := revP_step L k hkq
      rw [HL.out, ← hq] at h2 h3
      obtain ⟨x, hx⟩ : ∃ x, L.getD k false = x := ⟨_, rfl⟩
      obtain ⟨y, hy⟩ : ∃ y, L.getD q false = y := ⟨_, rfl⟩
      rw [hx] at h1 h3
      rw [hy] at h2 h3
      have cx : wr.cell? ⟨w.heap.size, k, none⟩ = some (.bool x) := by rw [HOW.out.cellAt k (by omega), BL, List.getElem?_map, h1]; rfl
      have cy : wr.cell? ⟨w.heap.size, q, none⟩ = some (.bool y) := by rw [HOW.out.cellAt q (by omega), BL, List.getElem?_map, h2]; rfl
      have fx := HOW.out.frozenAt k
      have fy := HOW.out.frozenAt q
      have HST := Lib.hid (show ((wr.setCell ⟨w.heap.size, k, none⟩ (.bool y)).setCell ⟨w.heap.size, q, none⟩ (.bool x)).ownsRow w.heap.size 4 1 (.slice (some ⟨w.heap.size, 0, none⟩) m m) m (BL (revP L (k + 1))) by
        have h := ((HOW.out.stored k (.bool y)).1.stored q (.bool x)).1
        have e : ((BL (revP L k)).set k (.bool y)).set q (.bool x) = BL (revP L (k + 1)) := by rw [← h3, BL, BL, List.map_set, List.map_set]
        rw [e] at h
        exact h)
      have HSB := Lib.hid (show Below w.heap.size w ((wr.setCell ⟨w.heap.size, k, none⟩ (.bool y)).setCell ⟨w.heap.size, q, none⟩ (.bool x)) from (HBL.out.setCell (p := ⟨w.heap.size, k, none⟩) (Nat.le_refl _) _).setCell (p := ⟨w.heap.size, q, none⟩) (Nat.le_refl _) _)
      have ezq : (m : Int) - 1 - (k : Int) = (q : Int) := by omega
      have wz : IntKind.i64.wrap ((m : Int) - 1 - (k : Int)) = (q : Int) := by rw [ezq]; exact IntWalk.i64_in _ (by omega)
      have b0 : (0 : Int) ≤ (k : Int) := by omega
      have b1 : (k : Int) < (m : Int) := by omega
      have b2 : (k : Int) < (h : Int) := by omega
      have b3 : (0 : Int) ≤ (q : Int) := by omega
      have b4 : (q : Int) < (m : Int) := by omega
      clear h1 h2 h3 hx hy hq hkq hlt
      go_wp2_with fail
      go_region
      all_goals
        go_wp2
        go_roundw
        case rel => exact ⟨k + 1, by omega, by go_num, HST.out.drew, HSB.out.drew⟩
        case measure => simp [intOf]; omega
    · have e : k = h := by omega
      have hb : ¬ ((k : Int) < (h : Int)) := by omega
      have ht : revP L k = L.reverse := revP_half L k (by rw [e, HL.out, HH.out])
      rw [ht] at HOW
      clear ht hlt e
      obtain ⟨A', c', hv, hvl, hvs⟩ := vs_of_own HOW.out
      clear hvl
      cases hv
      go_wp2_with fail
      refine (ppack_any L.reverse m (by rw [List.length_reverse, HL.out]) (by omega) _ m wr hvs).mono ?_
      rintro e w2 ⟨AP, cP, rfl, hs, hb2⟩
      rw [HPM.out]
      rw [HP.out] at hs
      have HS := Lib.hid hs
      have HB2 := Lib.hid (HBL.out.trans (hb2.mono HBL.out.size))
      clear hs hb2 hvs
      go_wp2
      go_ret
      exact ⟨_, _, rfl, HS.out, HB2.out⟩
set_option linter.unusedVariables false
open Go.ChangeShapes Go.WideShapes Go.ChangeAt Go.RowKit

set_option maxRecDepth 100000 in
set_option maxHeartbeats 1600000 in
theorem or_first (x : Int) (X : Nat) (w : World) (hx : x ≠ 0) (c0 : w.cell? ⟨X, 0, none⟩ = some (.int .i64 x)) : Calls Tryz.prog 54 #[.slice (some ⟨X, 0, none⟩) 2 2] w fun e w' => e = .returned (.int .i64 x) ∧ w = w' := by
  have s1 : (x == 0) = false := by rw [beq_eq_false_iff_ne]; exact hx
  have s2 : (x != 0) = true := by rw [bne_iff_ne]; exact hx
  have C0 := Lib.hid c0
  clear hx c0
  go_enter Tryz.func54, Tryz.ntmps54
  go_wp2
  go_loopw [8] (fun i wr => i = .int .i64 0 ∧ w = wr) (fun _ _ => 0)
  case atStart => exact ⟨rfl, rfl⟩
  case round =>
    obtain ⟨rfl, rfl⟩ := hrel
    have c0 := C0.out
    go_wp2
    go_ret
    exact ⟨rfl, rfl⟩
set_option maxRecDepth 100000 in
set_option maxHeartbeats 1600000 in
theorem or_second (x : Int) (X : Nat) (w : World) (hx : x ≠ 0) (c0 : w.cell? ⟨X, 0, none⟩ = some (.int .i64 0)) (c1 : w.cell? ⟨X, 1, none⟩ = some (.int .i64 x)) : Calls Tryz.prog 54 #[.slice (some ⟨X, 0, none⟩) 2 2] w fun e w' => e = .returned (.int .i64 x) ∧ w = w' := by
  have s1 : (x == 0) = false := by rw [beq_eq_false_iff_ne]; exact hx
  have s2 : (x != 0) = true := by rw [bne_iff_ne]; exact hx
  have C0 := Lib.hid c0
  have C1 := Lib.hid c1
  clear hx c0 c1
  go_enter Tryz.func54, Tryz.ntmps54
  go_wp2
  go_loopw [8] (fun i wr => (i = .int .i64 0 ∨ i = .int .i64 1) ∧ w = wr) (fun i _ => (1 - intOf i).toNat)
  case atStart => exact ⟨.inl rfl, rfl⟩
  case round =>
    obtain ⟨h, rfl⟩ := hrel
    have c0 := C0.out
    have c1 := C1.out
    rcases h with rfl | rfl
    · go_wp2
      go_roundw
      case rel => first | exact ⟨.inr rfl, rfl⟩ | exact ⟨.inr rfl, trivial⟩ | simp
      case measure => simp [intOf]
    · go_wp2
      go_ret
      exact ⟨rfl, rfl⟩
set_option linter.unusedVariables false
open Go.ChangeShapes Go.WideShapes Go.ChangeAt Go.RowKit

set_option maxRecDepth 100000 in
set_option maxHeartbeats 1600000 in
theorem read_asis (n c C : Nat) (A : Option Addr) (w : World) (hc : w.cell? ⟨C, 0, none⟩ = some (.slice A n c)) : Calls Tryz.prog 52 #[.pointer (some ⟨C, 0, none⟩)] w fun e w' => e = .returned (.slice A n c) ∧ w = w' := by
  go_enter Tryz.func52, Tryz.ntmps52
  go_wp2
  go_ret
  exact ⟨rfl, rfl⟩
set_option maxRecDepth 100000 in
set_option maxHeartbeats 1600000 in
theorem read_turned (b : List Nat) (n : Nat) (hn : n = b.length) (hn2 : n ≤ 1048576) (A : Option Addr) (c C : Nat) (w : World) (hA : Bs w w.heap.size b A c) (hc : w.cell? ⟨C, 0, none⟩ = some (.slice A n c)) : Calls Tryz.prog 53 #[.pointer (some ⟨C, 0, none⟩)] w fun e w' => ∃ A' c', e = .returned (.slice A' (n : Nat) c') ∧ Bs w' w'.heap.size (turnL b) A' c' ∧ Below w.heap.size w w' := by
  have hu := pturn_any b n hn hn2 A c w hA
  have HU := Lib.hid hu
  clear hn hA hu
  go_enter Tryz.func53, Tryz.ntmps53
  go_wp2_with fail
  refine HU.out.mono ?_
  rintro e w1 ⟨AU, cU, rfl, hs, hb⟩
  have HS := Lib.hid hs
  have HB := Lib.hid hb
  clear hs hb
  go_wp2
  go_ret
  exact ⟨_, _, rfl, HS.out, HB.out⟩
set_option maxRecDepth 100000 in
set_option maxHeartbeats 1600000 in
theorem pread_any (b : List Nat) (n : Nat) (hn : n = b.length) (hn2 : n ≤ 1048576) (E : Int) (hE : readE b = E) (o : Bool) (ho : readO b = o) (p : List Nat) (hP : readL b = p) (A : Option Addr) (c : Nat) (w : World) (hA : Bs w w.heap.size b A c) : Calls Tryz.prog 20 #[.slice A n c] w fun e w' => ∃ A' c', e = .returned (.tuple #[.slice A' (p.length : Nat) c', .bool o, .int .i64 E]) ∧ Bs w' w'.heap.size p A' c' ∧ Below w.heap.size w w' := by
  have hmf : ∀ (fn : Fn) (first cap : Array Value) (w : World), (Instr.makeFunc fn first cap).run Tryz.prog w = .ok (.func fn first cap) w := fun _ _ _ _ => rfl
  have HN := Lib.hid hn
  have HA := Lib.hid hA
  have HE := Lib.hid hE
  have HO := Lib.hid ho
  have HP := Lib.hid hP
  obtain ⟨E1, hE1⟩ : ∃ E1, getE b = E1 := ⟨_, rfl⟩
  obtain ⟨E2, hE2⟩ : ∃ E2, getE (turnL b) = E2 := ⟨_, rfl⟩
  obtain ⟨p1, hp1⟩ : ∃ p1, getL b = p1 := ⟨_, rfl⟩
  obtain ⟨p2, hp2⟩ : ∃ p2, getL (turnL b) = p2 := ⟨_, rfl⟩
  have HE1 := Lib.hid hE1
  have HE2 := Lib.hid hE2
  have Hp1 := Lib.hid hp1
  have Hp2 := Lib.hid hp2
  clear hn hA hE ho hP hE1 hE2 hp1 hp2
  go_enter Tryz.func20, Tryz.ntmps20
  go_wp2
  obtain ⟨w2, hw2⟩ : ∃ w2, (w.alloc (.cells #[.slice A n c] 30)).alloc (.cells #[(Value.func (.func 52) #[] #[.pointer (some ⟨w.heap.size, 0, none⟩)]), (Value.func (.func 53) #[] #[.pointer (some ⟨w.heap.size, 0, none⟩)])] 72) = w2 := ⟨_, rfl⟩
  rw [hw2]
  have hb2 : Below w.heap.size w w2 := by rw [← hw2]; exact (below_lit w _ _).trans ((below_lit _ _ _).mono (below_lit w #[.slice A n c] 30).size)
  have hx1 : w2.heap[w.heap.size]? = some (.cells #[.slice A n c] 30 (0, 0)) := by
    rw [← hw2, heap_alloc_old _ _ (by simp)]
    exact heap_alloc_new w _
  have hx2 : w2.heap[w.heap.size + 1]? = some (.cells #[(Value.func (.func 52) #[] #[.pointer (some ⟨w.heap.size, 0, none⟩)]), (Value.func (.func 53) #[] #[.pointer (some ⟨w.heap.size, 0, none⟩)])] 72 (0, 0)) := by
    rw [← hw2, show w.heap.size + 1 = (w.alloc (.cells #[.slice A n c] 30)).heap.size from (World.size_alloc _ _).symm]
    exact heap_alloc_new _ _
  have HX := Lib.hid (cell_of_row w2 w.heap.size 0 _ _ _ hx1)
  have HF1 := Lib.hid (cell_of_row w2 (w.heap.size + 1) 0 _ _ _ hx2)
  have HF2 := Lib.hid (cell_of_row w2 (w.heap.size + 1) 1 _ _ _ hx2)
  have HA2 := Lib.hid (HA.out.next hb2)
  have HB2 := Lib.hid hb2
  have HZ := Lib.hid (show w.heap.size + 1 < w2.heap.size from (Array.getElem?_eq_some_iff.1 hx2).1)
  clear hw2 hb2 hx1 hx2
  go_loopw [6, 16] (fun f i wr => ((i = .int .i64 0 ∧ f = .int .i64 0) ∨ (i = .int .i64 1 ∧ f = .int .i64 E1 ∧ E1 ≠ 0) ∨ (i = .int .i64 2 ∧ f = .int .i64 E1 ∧ E1 ≠ 0 ∧ E2 ≠ 0)) ∧ Below w2.heap.size w2 wr) (fun _ i _ => (2 - intOf i).toNat)
  case atStart => exact ⟨.inl ⟨rfl, rfl⟩, Below.refl _ _⟩
  case round =>
    obtain ⟨hc, hbel⟩ := hrel
    have c0 := (hbel.cell (p := ⟨w.heap.size, 0, none⟩) (by have := HZ.out; simp; omega)).trans HX.out
    have c1 := (hbel.cell (p := ⟨w.heap.size + 1, 0, none⟩) HZ.out).trans HF1.out
    have c2 := (hbel.cell (p := ⟨w.heap.size + 1, 1, none⟩) HZ.out).trans HF2.out
    have HA3 := Lib.hid (HA2.out.next hbel)
    have HBL := Lib.hid hbel
    clear hbel
    have HC0 := Lib.hid c0
    rcases hc with ⟨rfl, rfl⟩ | ⟨rfl, rfl, hne⟩ | ⟨rfl, rfl, hne, hne2⟩
    · clear c0 c2
      go_wp2_with fail
      refine (read_asis n c w.heap.size A wr HC0.out).mono ?_
      rintro e w3 ⟨rfl, rfl⟩
      go_wp2_with fail
      refine (pget_any b n HN.out (by omega) E1 HE1.out p1 Hp1.out A c wr HA3.out).mono ?_
      rintro e w4 ⟨AG, cG, rfl, hs, hb⟩
      have HS := Lib.hid hs
      have HB4 := Lib.hid hb
      clear hs hb c1
      cases q : (E1 == 0)
      · have hne : E1 ≠ 0 := by rw [beq_eq_false_iff_ne] at q; exact q
        have HNE := Lib.hid hne
        clear hne
        go_wp2_with fail
        have cc0 : (w4.alloc (.cells #[.int .i64 0, .int .i64 E1] 31)).cell? ⟨w4.heap.size, 0, none⟩ = some (.int .i64 0) := cell_of_row _ _ 0 _ _ _ (heap_alloc_new w4 _)
        have cc1 : (w4.alloc (.cells #[.int .i64 0, .int .i64 E1] 31)).cell? ⟨w4.heap.size, 1, none⟩ = some (.int .i64 E1) := cell_of_row _ _ 1 _ _ _ (heap_alloc_new w4 _)
        refine (or_second E1 w4.heap.size _ HNE.out cc0 cc1).mono ?_
        rintro e w5 ⟨rfl, rfl⟩
        clear cc0 cc1
        have HB5 := Lib.hid (show Below w2.heap.size w2 (w4.alloc (.cells #[.int .i64 0, .int .i64 E1] 31)) from HBL.out.trans ((HB4.out.trans ((below_lit w4 _ _).mono HB4.out.size)).mono HBL.out.size))
        go_wp2
        go_roundw
        case rel => exact ⟨.inr (.inl ⟨rfl, rfl, HNE.out⟩), HB5.out⟩
        case measure => simp [intOf]
      · have hz : E1 = 0 := by rw [beq_iff_eq] at q; exact q
        subst hz
        obtain ⟨h1, h2, h3⟩ := read_first HE1.out
        have eE : E = 0 := HE.out.symm.trans h1
        have eO : o = false := HO.out.symm.trans h2
        have eP : p = p1 := HP.out.symm.trans (h3.trans Hp1.out)
        subst eE eO eP
        clear h1 h2 h3 q
        have HBE := Lib.hid (show Below w.heap.size w w4 from HB2.out.trans ((HBL.out.trans (HB4.out.mono HBL.out.size)).mono HB2.out.size))
        go_wp2
        go_ret3
        exact ⟨_, _, rfl, HS.out, HBE.out⟩
    · clear c0 c1
      have HNE := Lib.hid hne
      clear hne
      go_wp2_with fail
      refine (read_turned b n HN.out (by omega) A c w.heap.size wr HA3.out HC0.out).mono ?_
      rintro e w3 ⟨AT, cT, rfl, hs, hb⟩
      have HT := Lib.hid hs
      have HB3 := Lib.hid hb
      clear hs hb c2
      go_wp2_with fail
      refine (pget_any (turnL b) n (by rw [turn_len]; exact HN.out) (by omega) E2 HE2.out p2 Hp2.out AT cT w3 HT.out).mono ?_
      rintro e w4 ⟨AG, cG, rfl, hs, hb⟩
      have HS := Lib.hid hs
      have HB4 := Lib.hid (HB3.out.trans (hb.mono HB3.out.size))
      clear hs hb
      cases q : (E2 == 0)
      · have hne : E2 ≠ 0 := by rw [beq_eq_false_iff_ne] at q; exact q
        have HNE2 := Lib.hid hne
        clear hne
        go_wp2_with fail
        have cc0 : (w4.alloc (.cells #[.int .i64 E1, .int .i64 E2] 31)).cell? ⟨w4.heap.size, 0, none⟩ = some (.int .i64 E1) := cell_of_row _ _ 0 _ _ _ (heap_alloc_new w4 _)
        refine (or_first E1 w4.heap.size _ HNE.out cc0).mono ?_
        rintro e w5 ⟨rfl, rfl⟩
        clear cc0
        have HB5 := Lib.hid (show Below w2.heap.size w2 (w4.alloc (.cells #[.int .i64 E1, .int .i64 E2] 31)) from HBL.out.trans ((HB4.out.trans ((below_lit w4 _ _).mono HB4.out.size)).mono HBL.out.size))
        go_wp2
        go_roundw
        case rel => exact ⟨.inr (.inr ⟨rfl, rfl, HNE.out, HNE2.out⟩), HB5.out⟩
        case measure => simp [intOf]
      · have hz : E2 = 0 := by rw [beq_iff_eq] at q; exact q
        subst hz
        obtain ⟨h1, h2, h3⟩ := read_second (by rw [HE1.out]; exact HNE.out) HE2.out
        have eE : E = 0 := HE.out.symm.trans h1
        have eO : o = true := HO.out.symm.trans h2
        have eP : p = p2 := HP.out.symm.trans (h3.trans Hp2.out)
        subst eE eO eP
        clear h1 h2 h3 q
        have HBE := Lib.hid (show Below w.heap.size w w4 from HB2.out.trans ((HBL.out.trans (HB4.out.mono HBL.out.size)).mono HB2.out.size))
        go_wp2
        go_ret3
        exact ⟨_, _, rfl, HS.out, HBE.out⟩
    · clear c0 c1 c2
      obtain ⟨h1, h2, h3⟩ := read_none (by rw [HE1.out]; exact hne) (by rw [HE2.out]; exact hne2)
      have eE : E = E1 := HE.out.symm.trans (h1.trans HE1.out)
      have eO : o = false := HO.out.symm.trans h2
      have eP : p = [] := HP.out.symm.trans h3
      subst eE eO eP
      clear h1 h2 h3 hne hne2
      have HBE := Lib.hid (show Below w.heap.size w wr from HB2.out.trans (HBL.out.mono HB2.out.size))
      go_wp2
      go_ret3
      exact ⟨none, 0, rfl, ⟨by intro k u hu; simp [U8] at hu, fun _ => rfl, by simp, by omega, by simp⟩, HBE.out⟩
end Go.Proofs.YtpniolinndlepaaGreatDoor
