/-
  Contract for the reference's Pad of layer 2: at most 5000 bytes are padded just so. Conditions: the slice reads as bytes.
-/
import Derived.Test.YtdpijlkhcagfaaaDoorMem
import Derived.Test.YtdpijlkhcagfaaaDoorShaMath
namespace Go.Proofs.YtdpijlkhcagfaaaDoor
set_option linter.unusedVariables false
open Go.ChangeShapes Go.WideShapes Go.ChangeAt Go.RowKit

/-- How many bytes 0 stand behind the byte 128. -/
def zerosN (n : Nat) : Nat := (119 - n % 64) % 64
/-- Bytes, padded. -/
def padN (l : List Nat) : List Nat := l ++ 128 :: (List.replicate (zerosN l.length) 0 ++ putB (8 * l.length) 8)
def padTo (l : List Nat) (k : Nat) : List Nat := l ++ 128 :: List.replicate k 0
theorem length_padTo (l : List Nat) (k : Nat) : (padTo l k).length = l.length + 1 + k := by simp [padTo]; omega
theorem padTo_succ (l : List Nat) (k : Nat) : padTo l (k + 1) = padTo l k ++ [0] := by simp [padTo, List.replicate_succ']
theorem padN_eq (l : List Nat) : padN l = padTo l (zerosN l.length) ++ putB (8 * l.length) 8 := by simp [padN, padTo]
theorem length_padN (l : List Nat) : (padN l).length = l.length + 9 + zerosN l.length := by rw [padN_eq, List.length_append, length_padTo, length_putB]; omega
theorem padN_lt (l : List Nat) (h : ∀ x ∈ l, x < 256) : ∀ x ∈ padN l, x < 256 := by
  intro x hx
  rw [padN_eq, padTo] at hx
  simp only [List.mem_append, List.mem_cons, List.mem_replicate] at hx
  rcases hx with (hx | rfl | ⟨_, rfl⟩) | hx
  · exact h x hx
  · omega
  · omega
  · exact putB_lt _ _ x hx
theorem U8_append (a b : List Nat) : U8 (a ++ b) = U8 a ++ U8 b := by simp [U8]

def lenV : Value → Nat
  | .slice _ n _ => n
  | _ => 0

/-- What a loop has gathered: a row of the call's own that reads as xs. -/
def Row8 (wr : World) (base n : Nat) (xs : List Nat) (v : Value) : Prop := ∃ g cap, v = .slice (some ⟨g, 0, none⟩) n cap ∧ wr.ownsRow base 5 1 (.slice (some ⟨g, 0, none⟩) n cap) n (U8 xs)
theorem Row8.of {wr : World} {base n : Nat} {xs : List Nat} {v : Value} (h : wr.ownsRow base 5 1 v n (U8 xs)) (hn : 0 < n) : Row8 wr base n xs v := by
  obtain ⟨g, cap, e, _⟩ := h.form hn
  subst e
  exact ⟨g, cap, rfl, h⟩

set_option maxRecDepth 20000 in
theorem refpad_ok (l : List Nat) (A : Option Addr) (c : Nat) (w : World) (hA : Rd w w.heap.size A (U8 l)) (hnil : A = none → c = 0) (hl : l.length ≤ 5000) :
    Calls Tryd.prog 45 #[.slice A l.length c] w fun e w' => ∃ v, e = .returned v ∧ w'.ownsRow w.heap.size 5 1 v (padN l).length (U8 (padN l)) ∧ Below w.heap.size w w' := by
  obtain ⟨i0, hi, hz0, hz1, hz2⟩ := info_parts infoU8
  obtain ⟨n, hn⟩ : ∃ n, n = l.length := ⟨_, rfl⟩
  have HN := Lib.hid hn
  have HNIL := Lib.hid hnil
  have hlen : (U8 l).length = n := by simp [U8, hn]
  have HLEN := Lib.hid hlen
  have hz : zerosN n ≤ 63 := by unfold zerosN; omega
  rw [← hn] at hl ⊢
  clear hn hnil hlen
  go_enter Tryd.func45, Tryd.ntmps45
  go_wp2_with (first
    | (at_builtin; refine wpList_append_rd _ rfl (.tmp 9) (.tmp 10) 28 rfl w.heap.size 5 i0 (.int .u8 0) 1 Tryd.underlying28 hi hz0 hz1 hz2 rfl (.slice (some ⟨w.heap.size, 0, none⟩) 0 0) 0 [] rfl (World.ownsRow_lit w #[] 0 (Nat.le_refl _) (by decide) rfl) w.heap.size A n c (U8 l) rfl (hA.alloc (Nat.le_refl _) _) HLEN.out HNIL.out (U8_one l) (by unfold maxLen; omega) (by omega) (by simp) ?_; intro v1 w1 hown1 hg1; have hb1 : Below w.heap.size w w1 := ((Below.refl _ _).alloc (Nat.le_refl _) _).grown hg1 (by simp) (fun g hg => by simp [Value.ownBlock] at hg; omega))
    | (at_builtin; refine wpList_append_rd _ rfl (.tmp 12) (.tmp 13) 28 rfl w.heap.size 5 i0 (.int .u8 0) 1 Tryd.underlying28 hi hz0 hz1 hz2 rfl v1 (0 + n) ([] ++ U8 l) rfl (hown1.alloc _) (w1.heap.size + 1) (some ⟨w1.heap.size, 0, none⟩) 1 1 [.int .u8 128] rfl ((rd_lit w1 #[.int .u8 128] 5).more (by simp)) rfl (fun h => by cases h) (fun u hu => by simp at hu; subst hu; rfl) (by unfold maxLen; omega) (by omega) (by have := hb1.size; simp; omega) ?_; intro v2 w2 hown2 hg2))
  have hb2 : Below w.heap.size w w2 := (hb1.alloc hb1.size _).grown hg2 (by have := hb1.size; simp; omega) (fun g hg => own_ge hown1 hg)
  have hrow : Row8 w2 w.heap.size (n + 1 + 0) (padTo l 0) v2 := by
    refine Row8.of ?_ (by omega)
    have e : U8 (padTo l 0) = [] ++ U8 l ++ [.int .u8 128] := by simp [padTo, U8]
    rw [e]
    simpa using hown2
  have HR := Lib.hid hrow
  clear hown1 hg1 hown2 hg2 hrow
  go_loopw [3] (fun v wr => ∃ k : Nat, k ≤ zerosN n ∧ Row8 wr w.heap.size (n + 1 + k) (padTo l k) v ∧ Below w.heap.size w wr) (fun v _ => n + 1 + zerosN n - lenV v)
  case atStart => exact ⟨0, Nat.zero_le _, HR.out, hb2⟩
  case round =>
    clear HR hb1 hb2
    obtain ⟨k, hk, ⟨g, cap, rfl, hown⟩, hbel⟩ := hrel
    have hbs := hbel.size
    obtain ⟨m, hm⟩ : ∃ m, m = n + 1 + k := ⟨_, rfl⟩
    have hmle : m ≤ 5064 := by omega
    rw [← hm] at hown ⊢
    by_cases hlt : k < zerosN n
    · have ht : ((m : Int) % 64 != 56) = true := by
        unfold zerosN at hlt
        simp
        omega
      have HM := Lib.hid hm
      clear hm
      go_wp2_with (at_builtin; refine wpList_append_rd _ rfl _ _ 28 rfl w.heap.size 5 i0 (.int .u8 0) 1 Tryd.underlying28 hi hz0 hz1 hz2 rfl (.slice (some ⟨g, 0, none⟩) m cap) m (U8 (padTo l k)) rfl (hown.alloc _) (wr.heap.size + 1) (some ⟨wr.heap.size, 0, none⟩) 1 1 [.int .u8 0] rfl ((rd_lit wr #[.int .u8 0] 5).more (by simp)) rfl (fun h => by cases h) (fun u hu => by simp at hu; subst hu; rfl) (by unfold maxLen; omega) (by omega) (by simp; omega) ?_; intro v3 w3 hown3 hg3)
      have hb3 : Below w.heap.size w w3 := (hbel.alloc hbs _).grown hg3 (by simp; omega) (fun g hg => own_ge hown hg)
      have hrow : Row8 w3 w.heap.size (n + 1 + (k + 1)) (padTo l (k + 1)) v3 := by
        refine Row8.of ?_ (by omega)
        have e : U8 (padTo l (k + 1)) = U8 (padTo l k) ++ [.int .u8 0] := by rw [padTo_succ, U8_append]; rfl
        rw [e, show n + 1 + (k + 1) = m + 1 by have := HM.out; omega]
        exact hown3
      have hlv : lenV v3 = m + 1 := by
        obtain ⟨g', cap', e, _⟩ := hrow
        subst e
        have := HM.out
        simp [lenV]
        omega
      have HR := Lib.hid hrow
      have HLV := Lib.hid hlv
      clear hown3 hg3 hrow hlv
      go_wp2
      go_roundw
      case rel => exact ⟨k + 1, by omega, HR.out, hb3⟩
      case measure =>
        have h1 := HLV.out
        have h2 := HM.out
        rw [h1]
        simp only [lenV]
        omega
    · have ek : k = zerosN n := by omega
      have ht : ((m : Int) % 64 != 56) = false := by
        subst ek
        unfold zerosN at hm
        simp
        omega
      have HM := Lib.hid hm
      have HK := Lib.hid ek
      clear hm ek
      have hown0 := hown
      have HO := Lib.hid hown
      clear hown hown0
      go_wp2
      obtain ⟨wo, rfl⟩ : ∃ wo : World, wo = wr := ⟨_, rfl⟩
      go_loopw [4, 5, 6] (fun t v i wr => ∃ j : Nat, j ≤ 8 ∧ i = .int .i64 j ∧ t = .int .i64 (8 * n / 256 ^ j : Nat) ∧ Row8 wr wo.heap.size j (putB (8 * n) j) v ∧ Below wo.heap.size wo wr) (fun _ _ i _ => 8 - (intOf i).toNat)
      case atStart => exact ⟨0, Nat.zero_le _, rfl, by simp, ⟨_, _, rfl, World.ownsRow_lit wo #[] 0 (Nat.le_refl _) (by decide) rfl⟩, (Below.refl _ _).alloc (Nat.le_refl _) _⟩
      case round =>
        obtain ⟨j, hj, rfl, rfl, ⟨g2, cap2, rfl, hown2⟩, hbel2⟩ := hrel
        have hbs2 := hbel2.size
        by_cases hj8 : j < 8
        · have hy : 8 * n / 256 ^ j ≤ 40000 := Nat.le_trans (Nat.div_le_self _ _) (by omega)
          have hy2 : 8 * n / 256 ^ (j + 1) = 8 * n / 256 ^ j / 256 := by rw [Nat.pow_succ, Nat.div_div_eq_div_mul]
          have hp : putB (8 * n) (j + 1) = 8 * n / 256 ^ j % 256 :: putB (8 * n) j := rfl
          generalize 8 * n / 256 ^ j = y at *
          have HY := Lib.hid hy2
          have HP := Lib.hid hp
          have hlen : (U8 (putB (8 * n) j)).length = j := by simp [U8, length_putB]
          have HL2 := Lib.hid hlen
          have hrd := (Rd.of_own hown2).alloc (Nat.le_refl _) (.cells #[.int .u8 ((y : Int) % 256)] 5)
          clear hy2 hp hlen
          go_wp2_with (at_builtin; refine wpList_append_rd _ rfl _ _ 28 rfl wo.heap.size 5 i0 (.int .u8 0) 1 Tryd.underlying28 hi hz0 hz1 hz2 rfl (.slice (some ⟨wr.heap.size, 0, none⟩) 1 1) 1 [.int .u8 ((y : Int) % 256)] rfl (World.ownsRow_lit wr #[.int .u8 ((y : Int) % 256)] 1 hbs2 (by decide) rfl) wr.heap.size (some ⟨g2, 0, none⟩) j cap2 (U8 (putB (8 * n) j)) rfl hrd HL2.out (fun h => by cases h) (U8_one _) (by unfold maxLen; omega) (by omega) (by simp; omega) ?_; intro v3 w3 hown3 hg3)
          have hb3 : Below wo.heap.size wo w3 := (hbel2.alloc hbs2 _).grown hg3 (by simp; omega) (fun g hg => by simp [Value.ownBlock] at hg; omega)
          have hrow : Row8 w3 wo.heap.size (j + 1) (putB (8 * n) (j + 1)) v3 := by
            refine Row8.of ?_ (by omega)
            have e : U8 (putB (8 * n) (j + 1)) = [.int .u8 ((y : Int) % 256)] ++ U8 (putB (8 * n) j) := by rw [HP.out]; simp [U8]
            rw [e, Nat.add_comm j 1]
            exact hown3
          have HR := Lib.hid hrow
          clear hown3 hg3 hrow hown2 hrd hbel2
          go_wp2
          go_roundw
          case rel => exact ⟨j + 1, by omega, by go_num, by rw [HY.out]; go_num, HR.out, hb3⟩
          case measure => simp [intOf]; omega
        · have ej : j = 8 := by omega
          subst ej
          have hob := own_below HO.out hbel2
          have hrd := Rd.of_own hown2
          have hlen : (U8 (putB (8 * n) 8)).length = 8 := by simp [U8, length_putB]
          have HL2 := Lib.hid hlen
          clear hlen
          generalize 8 * n / 256 ^ 8 = y at *
          go_wp2_with (at_builtin; refine wpList_append_rd _ rfl _ _ 28 rfl w.heap.size 5 i0 (.int .u8 0) 1 Tryd.underlying28 hi hz0 hz1 hz2 rfl (.slice (some ⟨g, 0, none⟩) m cap) m (U8 (padTo l k)) rfl hob wr.heap.size (some ⟨g2, 0, none⟩) 8 cap2 (U8 (putB (8 * n) 8)) rfl hrd HL2.out (fun h => by cases h) (U8_one _) (by unfold maxLen; omega) (by omega) (by omega) ?_; intro v3 w3 hown3 hg3)
          have hb3 : Below w.heap.size w w3 := (hbel.trans (hbel2.mono hbs)).grown hg3 (by omega) (fun g hg => own_ge hob hg)
          have e1 : U8 (padTo l k) ++ U8 (putB (8 * n) 8) = U8 (padN l) := by rw [← U8_append, HK.out, HN.out, padN_eq]
          have e2 : m + 8 = (padN l).length := by rw [length_padN, ← HN.out, HM.out, HK.out]; omega
          rw [e1, e2] at hown3
          have HOW := Lib.hid hown3
          clear hown3 hg3 e1 e2
          go_wp2
          go_ret
          exact ⟨_, rfl, HOW.out, hb3⟩
end Go.Proofs.YtdpijlkhcagfaaaDoor
