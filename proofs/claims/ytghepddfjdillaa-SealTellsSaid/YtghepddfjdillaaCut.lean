/-
  Contracts for Cut of package seal and of the reference: the number that a tag's first four bytes are. Conditions: the tag is 32 bytes.
-/
import Derived.Test.YtghepddfjdillaaRefGet
import Derived.Test.YtghepddfjdillaaArr
namespace Go.Proofs.Ytghepddfjdillaa
set_option linter.unusedVariables false
open Go.ChangeShapes Go.WideShapes Go.ChangeAt Go.RowKit

theorem info32 : (Try.prog.info? 27).map (·.size) = some 32 := by kernel_rfl
/-- A row of bytes, as a slice of its first cells reads. -/
theorem rd_first {w : World} {g : Nat} {F : Array Value} {l : List Nat} {t : TypeId} (n : Nat) (h : w.heap[g]? = some (.cells F t (0, 0))) (hF : F = (U8 l).toArray) : Rd w w.heap.size (some ⟨g, 0, none⟩) (U8 (l.take n)) := by
  intro k u hu
  refine ⟨_, rfl, (Array.getElem?_eq_some_iff.1 h).1, ?_⟩
  rw [at_add, cell_of_row w _ k _ _ (0, 0) h, hF]
  have hk : (U8 (l.take n))[k]? = (U8 l)[k]? ∨ (U8 (l.take n))[k]? = none := by
    simp only [U8, List.map_take, List.getElem?_take]
    split
    · exact .inl rfl
    · exact .inr rfl
  rcases hk with hk | hk
  · rw [hk] at hu; simpa using hu
  · rw [hk] at hu; cases hu

theorem refget4 (l : List Nat) (hl : l.length = 4) (A : Option Addr) (c B : Nat) (w : World) (hA : Rd w B A (U8 l)) (hb : ∀ x ∈ l, x < 256) :
    Calls Try.prog 17 #[.slice A 4 c] w fun e w' => e = .returned (.tuple #[.int .i64 (valB l : Nat), .int .i64 0]) ∧ w = w' := by
  have h := refget_ok l A c B w hA hb (by omega) (by omega)
  rw [hl] at h
  exact h

set_option maxRecDepth 20000 in
theorem refcut_any (l : List Nat) (F : Array Value) (hF : F = (U8 l).toArray) (w : World) (hb : ∀ x ∈ l, x < 256) (hl : l.length = 32) :
    Calls Try.prog 15 #[.agg F] w fun e w' => e = .returned (.int .i64 (valB (l.take 4) : Nat)) ∧ Below w.heap.size w w' := by
  have hsF : F.size = 32 := by rw [hF]; simp [U8, hl]
  have hiF : (Try.prog.info? 27).map (·.size) = some F.size := by rw [hsF]; exact info32
  have hoF : F.all (·.oneCell') = true := by rw [hF]; exact all_one8 _
  have HIF := Lib.hid hiF
  have HOF := Lib.hid hoF
  have HSF := Lib.hid hsF
  have HF := Lib.hid hF
  have HB := Lib.hid hb
  have HL := Lib.hid hl
  clear hiF hoF hsF hF hb hl
  go_enter Try.func15, Try.ntmps15
  go_wp2_with fail
  refine (refget4 (l.take 4) (by rw [List.length_take, HL.out]; rfl) _ 32 _ (w.alloc (.cells F 27)) (rd_first 4 (heap_alloc_new w _) HF.out) (fun x hx => HB.out x (List.mem_of_mem_take hx))).mono ?_
  rintro e w1 ⟨rfl, rfl⟩
  go_wp2
  go_ret
  exact ⟨rfl, (Below.refl _ _).alloc (Nat.le_refl _) _⟩

theorem valB_to (l : List Nat) (k : Nat) (h : k < l.length) : valB (l.take (k + 1)) = valB (l.take k) * 256 + l.getD k 0 := by
  rw [List.take_succ_eq_append_getElem h, valB_snoc, List.getD_eq_getElem?_getD, List.getElem?_eq_getElem h]; rfl
theorem cut_getD {l : List Nat} (h : ∀ x ∈ l, x < 256) (k : Nat) : l.getD k 0 < 256 := by
  rw [List.getD_eq_getElem?_getD]
  rcases Nat.lt_or_ge k l.length with hk | hk
  · rw [List.getElem?_eq_getElem hk]; exact h _ (List.getElem_mem hk)
  · rw [List.getElem?_eq_none hk]; decide
theorem valB_small (l : List Nat) (h : ∀ x ∈ l, x < 256) (k : Nat) (hk : k ≤ 4) : valB (l.take k) < 4294967296 := by
  have h1 := valB_lt (l.take k) (fun x hx => h x (List.mem_of_mem_take hx))
  have h2 : 256 ^ (l.take k).length ≤ 256 ^ 4 := Nat.pow_le_pow_right (by omega) (by simp; omega)
  omega

theorem or_byte63 (a b : Nat) (ha : a < 16777216) (hb : b < 256) : bits .or .i64 ((a : Int) * 256) (b : Int) = ((a * 256 + b : Nat) : Int) := by
  have e : (a : Int) * 256 = ((a * 256 : Nat) : Int) := by omega
  have h := Nat.two_pow_add_eq_or_of_lt (i := 8) (b := b) (by omega) a
  simp only [Nat.reducePow] at h
  have hab : a * 256 ||| b = a * 256 + b := by rw [Nat.mul_comm, ← h, Nat.mul_comm]
  rw [e]
  show IntKind.i64.wrap ((BitVec.ofInt 64 ((a * 256 : Nat) : Int) ||| BitVec.ofInt 64 (b : Int)).toNat : Int) = _
  rw [BitVec.toNat_or, ofInt_u64 _ (by omega), ofInt_u64 b (by omega), hab]
  exact IntWalk.i64_in _ (by omega)

set_option maxRecDepth 20000 in
theorem cut_any (l : List Nat) (F : Array Value) (hF : F = (U8 l).toArray) (w : World) (hb : ∀ x ∈ l, x < 256) (hl : l.length = 32) :
    Calls Try.prog 14 #[.agg F] w fun e w' => e = .returned (.int .i64 (valB (l.take 4) : Nat)) ∧ Below w.heap.size w w' := by
  have hsF : F.size = 32 := by rw [hF]; simp [U8, hl]
  have hiF : (Try.prog.info? 27).map (·.size) = some F.size := by rw [hsF]; exact info32
  have hoF : F.all (·.oneCell') = true := by rw [hF]; exact all_one8 _
  have hrd := rd_first 4 (heap_alloc_new w (.cells F 27)) hF
  have HRD := Lib.hid hrd
  have HIF := Lib.hid hiF
  have HOF := Lib.hid hoF
  have HSF := Lib.hid hsF
  have HF := Lib.hid hF
  have HB := Lib.hid hb
  have HL := Lib.hid hl
  clear hiF hoF hsF hF hb hl hrd
  go_enter Try.func14, Try.ntmps14
  go_wp2
  go_loop [3, 5, 8] (fun t _ i => ∃ k : Nat, k ≤ 4 ∧ i = .int .i64 k ∧ t = .int .i64 (valB (l.take k) : Nat)) (fun _ _ i => 4 - (intOf i).toNat)
  case atStart => exact ⟨0, Nat.zero_le _, rfl, rfl⟩
  case round =>
    obtain ⟨k, hk, rfl, rfl⟩ := hrel
    by_cases hlt : k < 4
    · have hkl : k < (l.take 4).length := by rw [List.length_take, HL.out]; omega
      obtain ⟨ad, e, _, hc⟩ := HRD.out k _ (U8_at (l.take 4) k hkl)
      cases e
      have hx : (l.take 4)[k] < 256 := HB.out _ (List.mem_of_mem_take (List.getElem_mem hkl))
      have hv := valB_to l k (by rw [HL.out]; omega)
      have e0 : l.getD k 0 = (l.take 4)[k] := by
        rw [List.getD_eq_getElem?_getD, List.getElem?_eq_getElem (by rw [HL.out]; omega), List.getElem_take]; rfl
      rw [e0] at hv
      have hy := valB_small l HB.out k (by omega)
      rw [at_add] at hc
      have hy2 : valB (l.take k) < 16777216 := by
        have h1 := valB_lt (l.take k) (fun x hx => HB.out x (List.mem_of_mem_take hx))
        have h2 : 256 ^ (l.take k).length ≤ 256 ^ 3 := Nat.pow_le_pow_right (by omega) (by simp; omega)
        omega
      have HV := Lib.hid hv
      clear e0 hv
      generalize (l.take 4)[k] = x at *
      generalize valB (l.take k) = y at *
      clear hkl
      go_wp2
      go_round
      case rel => exact ⟨k + 1, by omega, by go_num, by rw [HV.out, or_byte63 y x hy2 hx]⟩
      case measure => simp [intOf]; omega
    · have e : k = 4 := by omega
      subst e
      go_wp2
      go_ret
      exact ⟨rfl, (Below.refl _ _).alloc (Nat.le_refl _) _⟩
end Go.Proofs.Ytghepddfjdillaa
