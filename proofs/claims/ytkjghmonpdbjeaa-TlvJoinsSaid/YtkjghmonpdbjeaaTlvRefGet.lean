/-
  Contract for the reference's Get. Conditions: the slice reads as bytes; 1000000 of them at most.
-/
import Derived.Test.YtkjghmonpdbjeaaTlvMem
import Derived.IntWalk
namespace Go.Proofs.Ytkjghmonpdbjeaa
set_option linter.unusedVariables false
open Go.ChangeShapes Go.WideShapes Go.ChangeAt Go.RowKit

/-- A part of what is read. -/
theorem bs_part {w : World} {B i y c : Nat} {b : List Nat} {ad : Addr} (h : Bs w B b (some ad) c) (hb : ad.block < B) (hi : i + y ≤ b.length) : Bs w B ((b.drop i).take y) (some (ad.add i)) (c - i) := by
  have hl := h.len
  have hc := h.cap
  refine ⟨fun k u hu => ?_, by simp, by rw [List.length_take, List.length_drop]; omega, by omega, fun x hx => h.lt x (List.mem_of_mem_drop (List.mem_of_mem_take hx))⟩
  have hk : k < y := by
    have := (List.getElem?_eq_some_iff.1 hu).1
    simp [U8] at this; omega
  obtain ⟨ad', e, hlt, hcl⟩ := h.rd (i + k) u (by
    simp only [U8, List.map_take, List.map_drop] at hu ⊢
    rwa [List.getElem?_take_of_lt hk, List.getElem?_drop] at hu)
  cases e
  exact ⟨_, rfl, by rw [add_block]; exact hlt, by rw [Addr.add_add]; exact hcl⟩
theorem drop_two {b : List Nat} {i : Nat} (h : i + 2 ≤ b.length) : ∃ x y, b[i]? = some x ∧ b[i + 1]? = some y ∧ b.drop i = x :: y :: b.drop (i + 2) := by
  refine ⟨b[i], b[i + 1], List.getElem?_eq_getElem (by omega), List.getElem?_eq_getElem (by omega), ?_⟩
  rw [List.drop_eq_getElem_cons (by omega), List.drop_eq_getElem_cons (i := i + 1) (by omega)]
theorem u8_get {b : List Nat} {i x : Nat} (h : b[i]? = some x) : (U8 b)[i]? = some (.int .u8 (x : Int)) := by rw [U8, List.getElem?_map, h]; rfl
set_option maxRecDepth 100000 in
set_option maxHeartbeats 1600000 in
theorem refget_tlv (b : List Nat) (n : Nat) (hn : n = b.length) (hn6 : n ≤ 1000000) (E : Nat) (L : List Tf) (hg : gotT b = (E, L)) (A : Option Addr) (c : Nat) (w : World) (hA : Bs w w.heap.size b A c) :
    Calls Try.prog 17 #[.slice A n c] w fun e w' => ∃ A' c', e = .returned (.tuple #[.slice A' (L.length : Nat) c', .int .i64 (E : Int)]) ∧ Ts w' w'.heap.size L A' c' ∧ Below w.heap.size w w' := by
  have hmc : n ≤ c := by have := hA.len; omega
  have hcc := hA.cap
  have HN := Lib.hid hn
  have HG := Lib.hid hg
  have HA := Lib.hid hA
  clear hn hg hA
  go_enter Try.func17, Try.ntmps17
  go_wp2
  go_loopw [4, 5, 6] (fun v la iv wr => ∃ (k a i : Nat) (M : List TV), iv = .int .i64 i ∧ la = .int .i64 a ∧ i ≤ n ∧ n - i ≤ k ∧ preT (M.map (·.f)) (getT k a (b.drop i)) = (E, L) ∧ wr.ownsRow w.heap.size 40 2 v M.length (flatV M) ∧ (∀ q ∈ M, Bs wr w.heap.size q.f.val q.S q.c) ∧ Below w.heap.size w wr ∧ M.length ≤ i) (fun _ _ iv _ => n - (intOf iv).toNat)
  case atStart => exact ⟨n, 0, 0, [], rfl, rfl, Nat.zero_le _, by omega, by rw [show List.map (·.f) ([] : List TV) = [] from rfl, preT_nil, HN.out]; exact HG.out, World.ownsRow_lit w #[] 0 (Nat.le_refl _) (by decide) rfl, by simp, below_lit w _ _, by simp⟩
  case round =>
    obtain ⟨k, a, i, M, rfl, rfl, hin, hk, hpre, hown, hvals, hbel, hlen⟩ := hrel
    have hsz := hbel.size
    have HPRE := Lib.hid hpre
    have HOW := Lib.hid hown
    have HV := Lib.hid hvals
    have HBL := Lib.hid hbel
    have HKK := Lib.hid hk
    clear hpre hown hvals hbel hk HG
    have i0 : (0 : Int) ≤ (i : Int) := by omega
    by_cases hlt : i < n
    · have b2 : (i : Int) < (n : Int) := by omega
      obtain ⟨i2, hi2⟩ : ∃ i2, i2 = i + 2 := ⟨_, rfl⟩
      have wi2 : IntKind.i64.wrap ((i : Int) + 2) = (i2 : Int) := by rw [IntWalk.i64_in _ (by omega)]; omega
      by_cases q0 : n < i2
      · have q0' : (n : Int) < (i2 : Int) := by omega
        have hone : ∃ x, b.drop i = [x] := by
          obtain ⟨x, hx⟩ := List.length_eq_one_iff.1 (show (b.drop i).length = 1 by rw [List.length_drop, ← HN.out]; omega)
          exact ⟨x, hx⟩
        obtain ⟨x, hx⟩ := hone
        have hpre := HPRE.out
        rw [hx, getT_one (by have := HKK.out; omega), preT_bad _ (by decide)] at hpre
        cases hpre
        clear HPRE HKK hx hi2
        go_wp2
        go_ret2
        exact ⟨none, 0, rfl, Ts.empty _ _, HBL.out⟩
      have q0' : ¬ (n : Int) < (i2 : Int) := by omega
      obtain ⟨x, y, hx, hy, hd⟩ := drop_two (b := b) (i := i) (by rw [← HN.out]; omega)
      obtain ⟨ad, rfl, hab, hcx⟩ := HA.out.rd i _ (u8_get hx)
      obtain ⟨ad', e, _, hcy⟩ := HA.out.rd (i + 1) _ (u8_get hy)
      cases e
      have hx2 := HA.out.lt x (List.mem_of_getElem? hx)
      have hy2 := HA.out.lt y (List.mem_of_getElem? hy)
      obtain ⟨i1, hi1⟩ : ∃ i1, i1 = i + 1 := ⟨_, rfl⟩
      have wi1 : IntKind.i64.wrap ((i : Int) + 1) = (i1 : Int) := by rw [IntWalk.i64_in _ (by omega)]; omega
      rw [← hi1] at hcy
      rw [← hi2] at hd
      have c0 := (HBL.out.cell (p := ad.add i) (by rw [add_block]; exact hab)).trans hcx
      have c1 := (HBL.out.cell (p := ad.add i1) (by rw [add_block]; exact hab)).trans hcy
      have wx : IntKind.i64.wrap (x : Int) = (x : Int) := IntWalk.i64_in _ (by omega)
      have wy : IntKind.i64.wrap (y : Int) = (y : Int) := IntWalk.i64_in _ (by omega)
      obtain ⟨q, hq⟩ : ∃ q, q = i2 + y := ⟨_, rfl⟩
      have wq : IntKind.i64.wrap ((i2 : Int) + (y : Int)) = (q : Int) := by rw [IntWalk.i64_in _ (by omega)]; omega
      have p1 : (0 : Int) ≤ (i1 : Int) := by omega
      have p2 : (i1 : Int) < (n : Int) := by omega
      have HD := Lib.hid hd
      have hkk : 1 ≤ k := by have := HKK.out; omega
      have HI2 := Lib.hid hi2
      have HQ := Lib.hid hq
      have p3 : (0 : Int) ≤ (i2 : Int) := by omega
      have p4 : (i2 : Int) ≤ (q : Int) := by omega
      have p5 : i2 ≤ q := by omega
      clear hx hy hcx hcy hd hi1 hi2 hq
      by_cases q1 : x ≤ a
      · have q1' : (x : Int) ≤ (a : Int) := by omega
        have hpre := HPRE.out
        rw [HD.out, getT_order hkk q1, preT_bad _ (by decide)] at hpre
        cases hpre
        clear HPRE HKK
        go_wp2
        go_ret2
        exact ⟨none, 0, rfl, Ts.empty _ _, HBL.out⟩
      have q1' : ¬ (x : Int) ≤ (a : Int) := by omega
      by_cases q2 : n < q
      · have q2' : (n : Int) < (q : Int) := by omega
        have hpre := HPRE.out
        rw [HD.out, getT_over hkk (by omega) (by rw [List.length_drop, ← HN.out]; have := HQ.out; omega), preT_bad _ (by decide)] at hpre
        cases hpre
        clear HPRE HKK
        go_wp2
        go_ret2
        exact ⟨none, 0, rfl, Ts.empty _ _, HBL.out⟩
      have q2' : ¬ (n : Int) < (q : Int) := by omega
      have p6 : (q : Int) ≤ (n : Int) := by omega
      have p7 : (q : Int) ≤ (c : Int) := by omega
      have p8 : q ≤ c := by omega
      have p9 : (i2 : Int) ≤ (c : Int) := by omega
      obtain ⟨j, rfl⟩ : ∃ j, k = j + 1 := ⟨k - 1, by omega⟩
      have hyr : y ≤ (b.drop i2).length := by rw [List.length_drop, ← HN.out]; have := HQ.out; omega
      obtain ⟨f, hf⟩ : ∃ f : Tf, f = ⟨x, (b.drop i2).take y⟩ := ⟨_, rfl⟩
      have hpre := HPRE.out
      rw [HD.out, getT_step (by omega) hyr, ← hf, List.drop_drop, ← HQ.out] at hpre
      have hsl : q - i2 = f.val.length := by rw [hf]; simp only; rw [List.length_take, Nat.min_eq_left hyr, HQ.out]; omega
      have HSL := Lib.hid hsl
      have HF := Lib.hid (show (x : Int) = f.tag by rw [hf])
      have HFV := Lib.hid (show f.val = (b.drop i2).take y by rw [hf])
      replace HPRE := Lib.hid hpre
      have HJ := Lib.hid (show n - q ≤ j by have := HKK.out; have := HQ.out; have := HI2.out; omega)
      have HLEN := Lib.hid (show M.length + 1 ≤ q by have := HQ.out; have := HI2.out; omega)
      have hM6 : M.length ≤ 1000000 := by omega
      have hiq : i < q := by have := HI2.out; omega
      have HYQ := Lib.hid (show i2 + y ≤ b.length by rw [← HN.out]; have := HQ.out; omega)
      clear hpre hsl hf hyr HD
      by_cases q3 : c = i2
      · have hfv : f.val = [] := List.eq_nil_of_length_eq_zero (by rw [← HSL.out]; omega)
        have HFN := Lib.hid hfv
        clear hfv
        subst q3
        have HCS := Lib.hid (show (#[.int .i64 (x : Int), .slice (some ad) 0 0] : Array Value) = (⟨f, some ad, 0⟩ : TV).cells.toArray by rw [HF.out, TV.cells, HFN.out]; rfl)
        have HBV := Lib.hid (show Bs w w.heap.size f.val (some ad) 0 by rw [HFN.out]; exact bs_none _ _ _)
        go_wp2_with (at_builtin; refine wpList_append_field_by rfl (.tmp 43) (.tmp 54) rfl wr w.heap.size M.length u4 M ⟨f, some ad, 0⟩ (#[.int .i64 (x : Int), .slice (some ad) 0 0]) HCS.out rfl HOW.out wr.heap.size rfl rfl hM6 hsz ?_; intro v3 w3 hown3 hg3)
        have hge : ∀ g, u4.ownBlock = some g → w.heap.size ≤ g := fun g hg => own_ge HOW.out hg
        have hb3 : Below w.heap.size wr w3 := ((Below.refl _ wr).mono hsz).grown hg3 hsz hge
        have HO3 := Lib.hid hown3
        have HBE := Lib.hid (HBL.out.trans hb3)
        have HV3 := Lib.hid (show ∀ g ∈ M ++ [(⟨f, some ad, 0⟩ : TV)], Bs w3 w.heap.size g.f.val g.S g.c from fun g hg => by
          rcases List.mem_append.1 hg with h | h
          · exact (HV.out g h).below hb3
          · rw [List.mem_singleton] at h
            subst h
            exact HBV.out.below HBE.out)
        clear hown3 hg3 hge hb3
        go_wp2
        go_roundw
        case rel => exact ⟨j, x, q, M ++ [⟨f, some ad, 0⟩], rfl, rfl, by omega, HJ.out, by rw [List.map_append]; exact HPRE.out, by rw [List.length_append]; exact HO3.out, HV3.out, HBE.out, by rw [List.length_append]; exact HLEN.out⟩
        case measure => simp only [intOf]; omega
      · have HCS := Lib.hid (show (#[.int .i64 (x : Int), .slice (some (ad.add i2)) (q - i2) (c - i2)] : Array Value) = (⟨f, some (ad.add i2), (c - i2)⟩ : TV).cells.toArray by rw [HSL.out, HF.out]; rfl)
        have HBV := Lib.hid (show Bs w w.heap.size f.val (some (ad.add i2)) (c - i2) by rw [HFV.out]; exact bs_part HA.out hab HYQ.out)
        go_wp2_with (at_builtin; refine wpList_append_field_by rfl (.tmp 43) (.tmp 54) rfl wr w.heap.size M.length u4 M ⟨f, some (ad.add i2), (c - i2)⟩ (#[.int .i64 (x : Int), .slice (some (ad.add i2)) (q - i2) (c - i2)]) HCS.out rfl HOW.out wr.heap.size rfl rfl hM6 hsz ?_; intro v3 w3 hown3 hg3)
        have hge : ∀ g, u4.ownBlock = some g → w.heap.size ≤ g := fun g hg => own_ge HOW.out hg
        have hb3 : Below w.heap.size wr w3 := ((Below.refl _ wr).mono hsz).grown hg3 hsz hge
        have HO3 := Lib.hid hown3
        have HBE := Lib.hid (HBL.out.trans hb3)
        have HV3 := Lib.hid (show ∀ g ∈ M ++ [(⟨f, some (ad.add i2), (c - i2)⟩ : TV)], Bs w3 w.heap.size g.f.val g.S g.c from fun g hg => by
          rcases List.mem_append.1 hg with h | h
          · exact (HV.out g h).below hb3
          · rw [List.mem_singleton] at h
            subst h
            exact HBV.out.below HBE.out)
        clear hown3 hg3 hge hb3
        go_wp2
        go_roundw
        case rel => exact ⟨j, x, q, M ++ [⟨f, some (ad.add i2), (c - i2)⟩], rfl, rfl, by omega, HJ.out, by rw [List.map_append]; exact HPRE.out, by rw [List.length_append]; exact HO3.out, HV3.out, HBE.out, by rw [List.length_append]; exact HLEN.out⟩
        case measure => simp only [intOf]; omega
    · obtain rfl : i = n := by omega
      have hpre := HPRE.out
      rw [List.drop_eq_nil_of_le (by rw [HN.out]; omega), getT_end, preT_end] at hpre
      cases hpre
      obtain ⟨A2, c2, e2, hts⟩ := ts_of_own HOW.out (fun q hq => (HV.out q hq).more hsz)
      have HTS := Lib.hid hts
      clear HPRE HOW hts
      subst e2
      go_wp2
      go_ret2
      exact ⟨A2, c2, by rw [List.length_map]; rfl, HTS.out, HBL.out⟩
end Go.Proofs.Ytkjghmonpdbjeaa
