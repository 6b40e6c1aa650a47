/-
  Contracts for the landed partsOf and fields. Conditions: none.
-/
import Derived.Test.YtpeccmcojocgkaaLayPParts
import Derived.Laws.EntriesVeiled
import Derived.Shelf.Abstract
namespace Go.Proofs.Ytpeccmcojocgkaa
set_option linter.unusedVariables false
open Go.ChangeShapes Go.WideShapes Go.ChangeAt Go.RowKit

/-- The methods that tell the parts of a stripe of that kind. -/
def partsV (k : Int) : List Value := if k = 1 ∨ k = 2 then [.func (.func 44) #[] #[], .func (.func 45) #[] #[], .func (.func 46) #[] #[]] else if k = 3 then [.func (.func 44) #[] #[], .func (.func 47) #[] #[], .func (.func 46) #[] #[]] else if k = 4 then [.func (.func 44) #[] #[], .func (.func 45) #[] #[], .func (.func 48) #[] #[], .func (.func 46) #[] #[]] else []
theorem partsV_len (k : Int) : (partsV k).length = (partsL k).length := by
  unfold partsV partsL
  by_cases h1 : k = 1 ∨ k = 2
  · rw [if_pos h1, if_pos h1]; rfl
  · by_cases h3 : k = 3
    · rw [if_neg h1, if_neg h1, if_pos h3, if_pos h3]; rfl
    · by_cases h4 : k = 4
      · rw [if_neg h1, if_neg h1, if_neg h3, if_neg h3, if_pos h4, if_pos h4]; rfl
      · rw [if_neg h1, if_neg h1, if_neg h3, if_neg h3, if_neg h4, if_neg h4]; rfl
def PartOK (v : Value) (l : List (Nat × Int)) : Prop := ∃ K, v = .func (.func K) #[] #[] ∧ l.length ≤ 7 ∧ (∀ args w, (callFunc K args).run Try.prog w = .ok (.enter K args) w) ∧ ∀ (X : Nat) (w : World), Calls Try.prog K #[.pointer (some ⟨X, 0, none⟩)] w fun e w' => ∃ A, e = .returned (.slice (some A) l.length l.length) ∧ Rd w' w'.heap.size (some A) (FL X l) ∧ Below w.heap.size w w'
theorem ok_begF : PartOK (.func (.func 44) #[] #[]) begF := ⟨_, rfl, by decide, enters_of Try.func44 (by kernel_rfl) rfl, fun X w => fbeginning_any X w⟩
theorem ok_staF : PartOK (.func (.func 45) #[] #[]) staF := ⟨_, rfl, by decide, enters_of Try.func45 (by kernel_rfl) rfl, fun X w => fstations_any X w⟩
theorem ok_zonF : PartOK (.func (.func 47) #[] #[]) zonF := ⟨_, rfl, by decide, enters_of Try.func47 (by kernel_rfl) rfl, fun X w => fzones_any X w⟩
theorem ok_useF : PartOK (.func (.func 48) #[] #[]) useF := ⟨_, rfl, by decide, enters_of Try.func48 (by kernel_rfl) rfl, fun X w => fuses_any X w⟩
theorem ok_endF : PartOK (.func (.func 46) #[] #[]) endF := ⟨_, rfl, by decide, enters_of Try.func46 (by kernel_rfl) rfl, fun X w => fend_any X w⟩
theorem parts_ok (k : Int) (j : Nat) (v : Value) (l : List (Nat × Int)) (h1 : (partsV k)[j]? = some v) (h2 : (partsL k)[j]? = some l) : PartOK v l := by
  unfold partsV at h1
  unfold partsL at h2
  by_cases q1 : k = 1 ∨ k = 2
  · rw [if_pos q1] at h1 h2
    match j, h1, h2 with
    | 0, h1, h2 => cases h1; cases h2; exact ok_begF
    | 1, h1, h2 => cases h1; cases h2; exact ok_staF
    | 2, h1, h2 => cases h1; cases h2; exact ok_endF
    | j + 3, h1, h2 => cases h1
  · by_cases q3 : k = 3
    · rw [if_neg q1, if_pos q3] at h1 h2
      match j, h1, h2 with
      | 0, h1, h2 => cases h1; cases h2; exact ok_begF
      | 1, h1, h2 => cases h1; cases h2; exact ok_zonF
      | 2, h1, h2 => cases h1; cases h2; exact ok_endF
      | j + 3, h1, h2 => cases h1
    · by_cases q4 : k = 4
      · rw [if_neg q1, if_neg q3, if_pos q4] at h1 h2
        match j, h1, h2 with
        | 0, h1, h2 => cases h1; cases h2; exact ok_begF
        | 1, h1, h2 => cases h1; cases h2; exact ok_staF
        | 2, h1, h2 => cases h1; cases h2; exact ok_useF
        | 3, h1, h2 => cases h1; cases h2; exact ok_endF
        | j + 4, h1, h2 => cases h1
      · rw [if_neg q1, if_neg q3, if_neg q4] at h1
        cases h1
theorem ppartsOf_1 (k : Int) (hk : k = 1) (w : World) : Calls Try.prog 31 #[.int .i64 k] w fun e w' => ∃ A c, e = .returned (.slice A 3 c) ∧ Rd w' w'.heap.size A (partsV k) ∧ Below w.heap.size w w' := by
  have hp : partsV k = [.func (.func 44) #[] #[], .func (.func 45) #[] #[], .func (.func 46) #[] #[]] := by rw [partsV, if_pos (by omega)]
  have q1 : (k == 1) = true := by rw [beq_iff_eq]; omega
  rw [hp]
  clear hp hk
  go_enter Try.func31, Try.ntmps31
  go_wp2
  go_ret
  exact ⟨_, _, rfl, rd_lit _ _ _, below_lit _ _ _⟩
theorem ppartsOf_2 (k : Int) (hk : k = 2) (w : World) : Calls Try.prog 31 #[.int .i64 k] w fun e w' => ∃ A c, e = .returned (.slice A 3 c) ∧ Rd w' w'.heap.size A (partsV k) ∧ Below w.heap.size w w' := by
  have hp : partsV k = [.func (.func 44) #[] #[], .func (.func 45) #[] #[], .func (.func 46) #[] #[]] := by rw [partsV, if_pos (by omega)]
  have q1 : (k == 1) = false := by rw [beq_eq_false_iff_ne]; omega
  have q2 : (k == 2) = true := by rw [beq_iff_eq]; omega
  rw [hp]
  clear hp hk
  go_enter Try.func31, Try.ntmps31
  go_wp2
  go_ret
  exact ⟨_, _, rfl, rd_lit _ _ _, below_lit _ _ _⟩
theorem ppartsOf_3 (k : Int) (hk : k = 3) (w : World) : Calls Try.prog 31 #[.int .i64 k] w fun e w' => ∃ A c, e = .returned (.slice A 3 c) ∧ Rd w' w'.heap.size A (partsV k) ∧ Below w.heap.size w w' := by
  have hp : partsV k = [.func (.func 44) #[] #[], .func (.func 47) #[] #[], .func (.func 46) #[] #[]] := by rw [partsV, if_neg (by omega), if_pos hk]
  have q1 : (k == 1) = false := by rw [beq_eq_false_iff_ne]; omega
  have q2 : (k == 2) = false := by rw [beq_eq_false_iff_ne]; omega
  have q3 : (k == 3) = true := by rw [beq_iff_eq]; omega
  rw [hp]
  clear hp hk
  go_enter Try.func31, Try.ntmps31
  go_wp2
  go_ret
  exact ⟨_, _, rfl, rd_lit _ _ _, below_lit _ _ _⟩
theorem ppartsOf_4 (k : Int) (hk : k = 4) (w : World) : Calls Try.prog 31 #[.int .i64 k] w fun e w' => ∃ A c, e = .returned (.slice A 4 c) ∧ Rd w' w'.heap.size A (partsV k) ∧ Below w.heap.size w w' := by
  have hp : partsV k = [.func (.func 44) #[] #[], .func (.func 45) #[] #[], .func (.func 48) #[] #[], .func (.func 46) #[] #[]] := by rw [partsV, if_neg (by omega), if_neg (by omega), if_pos hk]
  have q1 : (k == 1) = false := by rw [beq_eq_false_iff_ne]; omega
  have q2 : (k == 2) = false := by rw [beq_eq_false_iff_ne]; omega
  have q3 : (k == 3) = false := by rw [beq_eq_false_iff_ne]; omega
  have q4 : (k == 4) = true := by rw [beq_iff_eq]; omega
  rw [hp]
  clear hp hk
  go_enter Try.func31, Try.ntmps31
  go_wp2
  go_ret
  exact ⟨_, _, rfl, rd_lit _ _ _, below_lit _ _ _⟩
theorem ppartsOf_0 (k : Int) (hk : k < 1 ∨ 4 < k) (w : World) : Calls Try.prog 31 #[.int .i64 k] w fun e w' => ∃ A c, e = .returned (.slice A 0 c) ∧ Rd w' w'.heap.size A (partsV k) ∧ Below w.heap.size w w' := by
  have hp : partsV k = [] := by rw [partsV, if_neg (by omega), if_neg (by omega), if_neg (by omega)]
  have q1 : (k == 1) = false := by rw [beq_eq_false_iff_ne]; omega
  have q2 : (k == 2) = false := by rw [beq_eq_false_iff_ne]; omega
  have q3 : (k == 3) = false := by rw [beq_eq_false_iff_ne]; omega
  have q4 : (k == 4) = false := by rw [beq_eq_false_iff_ne]; omega
  rw [hp]
  clear hp hk
  go_enter Try.func31, Try.ntmps31
  go_wp2
  go_ret
  exact ⟨none, 0, rfl, by intro j u hu; simp at hu, Below.refl _ _⟩
theorem ppartsOf_any (k : Int) (m : Nat) (hm : m = (partsL k).length) (w : World) : Calls Try.prog 31 #[.int .i64 k] w fun e w' => ∃ A c, e = .returned (.slice A m c) ∧ Rd w' w'.heap.size A (partsV k) ∧ Below w.heap.size w w' := by
  rw [hm, ← partsV_len]
  by_cases h1 : k = 1
  · have := ppartsOf_1 k h1 w
    rwa [show (partsV k).length = 3 by rw [partsV, if_pos (by omega)]; rfl]
  · by_cases h2 : k = 2
    · have := ppartsOf_2 k h2 w
      rwa [show (partsV k).length = 3 by rw [partsV, if_pos (by omega)]; rfl]
    · by_cases h3 : k = 3
      · have := ppartsOf_3 k h3 w
        rwa [show (partsV k).length = 3 by rw [partsV, if_neg (by omega), if_pos h3]; rfl]
      · by_cases h4 : k = 4
        · have := ppartsOf_4 k h4 w
          rwa [show (partsV k).length = 4 by rw [partsV, if_neg (by omega), if_neg h3, if_pos h4]; rfl]
        · have := ppartsOf_0 k (by omega) w
          rwa [show (partsV k).length = 0 by rw [partsV, if_neg (by omega), if_neg h3, if_neg h4]; rfl]
/-- A slice that reads as fields of the reading at X. -/
structure Fs (w : World) (B X : Nat) (l : List (Nat × Int)) (A : Option Addr) (c : Nat) : Prop where
  rd : Rd w B A (FL X l)
  nil : A = none → c = 0
  len : l.length ≤ c
  cap : c ≤ 9223372036854775807
  lay : ∀ ad, A = some ad → ∃ g, ad = ⟨g, 0, none⟩
theorem Fs.next {w w' : World} {X : Nat} {l : List (Nat × Int)} {A : Option Addr} {c : Nat} (h : Fs w w.heap.size X l A c) (hb : Below w.heap.size w w') : Fs w' w'.heap.size X l A c := ⟨h.rd.next hb, h.nil, h.len, h.cap, h.lay⟩
theorem fs_of_own {w : World} {base n X : Nat} {v : Value} {l : List (Nat × Int)} (h : w.ownsRow base 53 2 v n (FL X l)) : ∃ A c, v = .slice A n c ∧ n = l.length ∧ Fs w w.heap.size X l A c ∧ ∀ ad, A = some ad → base ≤ ad.block := by
  have hn : l.length = n := by have := h.1; rw [FL_len] at this; omega
  rcases h.2 with ⟨rfl, h0⟩ | ⟨g, cap, cur, rfl, hgb, hg, h2, h3, _⟩
  · subst h0
    have : l = [] := List.eq_nil_of_length_eq_zero hn
    subst this
    exact ⟨none, 0, rfl, rfl, ⟨by intro k u hu; simp [FL] at hu, fun _ => rfl, by simp, by omega, by simp⟩, by simp⟩
  · unfold maxLen at h3
    refine ⟨_, cap, rfl, hn.symm, ⟨?_, by simp, by omega, h3, fun ad e => ⟨g, by cases e; rfl⟩⟩, fun ad e => by cases e; exact hgb⟩
    intro k u hu
    refine ⟨_, rfl, (Array.getElem?_eq_some_iff.1 hg).1, ?_⟩
    rw [at_add, h.cellAt k (by have := (List.getElem?_eq_some_iff.1 hu).1; rw [FL_len] at this; omega)]
    exact hu
theorem Fs.at {w : World} {B X : Nat} {l : List (Nat × Int)} {A : Option Addr} {c k : Nat} {p : Nat × Int} (h : Fs w B X l A c) (hp : l[k]? = some p) : ∃ g, A = some ⟨g, 0, none⟩ ∧ g < B ∧ w.cell? ⟨g, k * 2, none⟩ = some (.pointer (some ⟨X, p.1, none⟩)) ∧ w.cell? ⟨g, k * 2 + 1, none⟩ = some (.int .i64 p.2) := by
  obtain ⟨h1, h2⟩ := FL_at X l k p hp
  obtain ⟨ad, e0, hb, hc⟩ := h.rd _ _ h1
  obtain ⟨ad', e, _, hc'⟩ := h.rd _ _ h2
  obtain ⟨g, rfl⟩ := h.lay _ e0
  rw [e0] at e
  cases e
  rw [at_add] at hc hc'
  exact ⟨g, e0, hb, hc, hc'⟩
end Go.Proofs.Ytpeccmcojocgkaa
