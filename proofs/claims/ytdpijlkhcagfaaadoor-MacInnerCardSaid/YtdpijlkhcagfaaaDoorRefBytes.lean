/-
  Contract for the reference's Bytes: just the bytes that bits.Bytes gives. Conditions: at most 1000 words.
-/
import Derived.Test.YtdpijlkhcagfaaaDoorMem
namespace Go.Proofs.YtdpijlkhcagfaaaDoor
set_option linter.unusedVariables false
open Go.ChangeShapes Go.WideShapes Go.ChangeAt Go.RowKit

theorem quarters (x : Nat) (hx : x < 4294967296) : U8 [x / 16777216, x / 65536 % 256, x / 256 % 256, x % 256] =
    [.int .u8 (IntKind.u8.wrap (IntKind.u32.wrap ((x : Int) / 16777216))), .int .u8 (IntKind.u8.wrap ((IntKind.u32.wrap ((x : Int) / 65536)).tmod 256)), .int .u8 (IntKind.u8.wrap ((IntKind.u32.wrap ((x : Int) / 256)).tmod 256)), .int .u8 (IntKind.u8.wrap ((x : Int).tmod 256))] := by
  have w32 : ∀ z : Int, 0 ≤ z → z < 4294967296 → IntKind.u32.wrap z = z := fun z h1 h2 => by
    simp [IntKind.wrap, IntKind.signed, IntKind.bits]; omega
  have w8 : ∀ z : Int, 0 ≤ z → z < 256 → IntKind.u8.wrap z = z := fun z h1 h2 => by
    simp [IntKind.wrap, IntKind.signed, IntKind.bits]; omega
  rw [w32 ((x : Int) / 16777216) (by omega) (by omega), w32 ((x : Int) / 65536) (by omega) (by omega), w32 ((x : Int) / 256) (by omega) (by omega)]
  rw [Int.tmod_eq_emod_of_nonneg (by omega : (0 : Int) ≤ (x : Int) / 65536), Int.tmod_eq_emod_of_nonneg (by omega : (0 : Int) ≤ (x : Int) / 256), Int.tmod_eq_emod_of_nonneg (by omega : (0 : Int) ≤ (x : Int))]
  rw [w8 ((x : Int) / 16777216) (by omega) (by omega), w8 ((x : Int) / 65536 % 256) (by omega) (by omega), w8 ((x : Int) / 256 % 256) (by omega) (by omega), w8 ((x : Int) % 256) (by omega) (by omega)]
  simp [U8]

set_option maxRecDepth 100000 in
set_option maxHeartbeats 1600000 in
theorem refbytes_ok (l : List Nat) (A : Option Addr) (c : Nat) (w : World) (hA : Rd w w.heap.size A (U32 l)) (hb : ∀ x ∈ l, x < 4294967296) (hl : l.length ≤ 1000) :
    Calls Tryd.prog 47 #[.slice A l.length c] w fun e w' => ∃ v, e = .returned v ∧
      w'.ownsRow w.heap.size 5 1 v (4 * l.length) (U8 (bytesOf l)) ∧ Below w.heap.size w w' := by
  obtain ⟨i0, hi, hz0, hz1, hz2⟩ := info_parts infoU8
  obtain ⟨n, hn⟩ : ∃ n, n = l.length := ⟨_, rfl⟩
  rw [← hn] at hl ⊢
  have HN := Lib.hid hn
  have HB := Lib.hid hb
  clear hn hb
  go_enter Tryd.func47, Tryd.ntmps47
  go_wp2
  go_loopw [3, 4] (fun v i wr => ∃ k : Nat, k ≤ n ∧ i = .int .i64 k ∧ wr.ownsRow w.heap.size 5 1 v (4 * k) (U8 (bytesTo l k)) ∧ Below w.heap.size w wr) (fun _ i _ => n - (intOf i).toNat)
  case atStart => exact ⟨0, Nat.zero_le _, rfl, World.ownsRow_lit w #[] 0 (Nat.le_refl _) (by decide) rfl, (Below.refl _ _).alloc (Nat.le_refl _) _⟩
  case round =>
    obtain ⟨k, hk, rfl, hown, hbel⟩ := hrel
    by_cases hlt : k < n
    · have hkl : k < l.length := by rw [← HN.out]; exact hlt
      obtain ⟨ad, rfl, hab, hc0⟩ := hA k _ (U32_at l k hkl)
      have hc : wr.cell? (ad.add k) = some (.int .u32 (l[k] : Nat)) := (hbel.cell (by rw [add_block]; exact hab)).trans hc0
      have hx := HB.out _ (List.getElem_mem hkl)
      have hs := bytesTo_succ l k hkl HB.out
      generalize l[k] = x at *
      have HS := Lib.hid hs
      clear hs hc0 hA
      have hbs := hbel.size
      have b0 : (0 : Int) ≤ (k : Int) := Int.natCast_nonneg _
      have b1 : (k : Int) < (n : Int) := by omega
      have lk := World.block_lt_of_cell? wr _ hc
      obtain ⟨v, hv⟩ : ∃ v, v = u3 := ⟨_, rfl⟩
      rw [← hv] at hown ⊢
      clear hv
      have hge : ∀ g, v.ownBlock = some g → w.heap.size ≤ g := fun g hg => own_ge hown hg
      have hne : v.ownBlock ≠ some (ad.add k).block := by
        intro e
        have := hge _ e
        rw [add_block] at this
        omega
      have HGE := Lib.hid hge
      clear hge
      go_wp2
      go_region_held3 (fun w' => w'.cell? (ad.add k) = some (.int .u32 (x : Nat)))
        (first | go_keep | (rw [hgrow.cell_far _ (by simp; omega) (Ne.symm hne)]; assumption))
        ((refine step_append_lies _ (by rfl) _ _ _ (by rfl) w.heap.size 5 i0 _ 1 1 Tryd.underlying28 hi hz0 hz1 hz2 rfl (by omega) v (4 * k) (U8 (bytesTo l k)) (by rfl) ((hown.alloc _).drew)
            ⟨wr.heap.size, 0, none⟩ 4 4 [.int .u8 (IntKind.u8.wrap (IntKind.u32.wrap ((x : Int) / 16777216))), .int .u8 (IntKind.u8.wrap ((IntKind.u32.wrap ((x : Int) / 65536)).tmod 256)), .int .u8 (IntKind.u8.wrap ((IntKind.u32.wrap ((x : Int) / 256)).tmod 256)), .int .u8 (IntKind.u8.wrap ((x : Int).tmod 256))] (by rfl) (by rfl)
            (World.news_of_block (cs := #[.int .u8 (IntKind.u8.wrap (IntKind.u32.wrap ((x : Int) / 16777216))), .int .u8 (IntKind.u8.wrap ((IntKind.u32.wrap ((x : Int) / 65536)).tmod 256)), .int .u8 (IntKind.u8.wrap ((IntKind.u32.wrap ((x : Int) / 256)).tmod 256)), .int .u8 (IntKind.u8.wrap ((x : Int).tmod 256))]) (t := 5) (fr := (0, 0)) (heap_alloc_new wr _)) (by simp [Value.oneCell'])
            (by omega) (by unfold maxLen; omega) (by omega) (by simp; omega) (wr.heap.size + 1) (by simp) ?_; intro gg cap w1 hown1 hgrow hat hlt1))
      have hbel1 : Below w.heap.size w w1 := ((hbel.alloc hbs _).drew).grown hgrow (by simp; omega) HGE.out
      have hown2 : w1.ownsRow w.heap.size 5 1 (.slice (some ⟨gg, 0, none⟩) (4 * k + 4) cap) (4 * (k + 1)) (U8 (bytesTo l (k + 1))) := by
        have e : U8 (bytesTo l (k + 1)) = U8 (bytesTo l k) ++ U8 [x / 16777216, x / 65536 % 256, x / 256 % 256, x % 256] := by
          rw [HS.out, U8, U8, U8, List.map_append]
        rw [e, quarters x hx]
        exact hown1
      clear hown1 hgrow hat hlt1 hown hbel hc hne
      go_wp2
      go_roundw
      case rel => exact ⟨k + 1, by omega, by go_num, hown2, hbel1⟩
      case measure => simp [intOf]; omega
    · have e : bytesTo l k = bytesOf l := by
        have e1 : k = l.length := by rw [← HN.out]; omega
        rw [e1]; rfl
      have ek : k = n := by omega
      rw [e, ek] at hown
      have HO := Lib.hid hown
      clear e ek hown
      go_wp2
      go_ret
      exact ⟨_, rfl, HO.out, hbel⟩
end Go.Proofs.YtdpijlkhcagfaaaDoor
