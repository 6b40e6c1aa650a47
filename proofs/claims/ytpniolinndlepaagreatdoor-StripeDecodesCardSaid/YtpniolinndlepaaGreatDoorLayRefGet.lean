/-
  Contract for the reference's Get. Conditions: the slice reads as bytes.
-/
import Derived.Test.YtpniolinndlepaaGreatDoorLayRefGet4
import Derived.Test.YtpniolinndlepaaGreatDoorLayRefGet3
namespace Go.Proofs.YtpniolinndlepaaGreatDoor
set_option linter.unusedVariables false
open Go.ChangeShapes Go.WideShapes Go.ChangeAt Go.RowKit

theorem rlget_any (l : List Nat) (n : Nat) (hn : n = l.length) (E : Int) (r : Rg) (hE : lgetX l = (E, r)) (A : Option Addr) (c : Nat) (w : World) (hA : Bs w w.heap.size l A c) : Calls Tryz.prog 39 #[.slice A n c] w fun e w' => e = .returned (.tuple #[.agg #[.int .i64 r.t.ser, .int .i64 r.t.kind, .int .i64 r.t.frm, .int .i64 r.t.till, .int .i64 r.t.cls, .int .i64 r.t.card, .int .i64 r.t.seat, .int .i64 r.t.day, .int .i64 r.t.days, .int .i64 r.t.uses, .int .i64 r.t.epoch, .int .i64 r.key, .int .i64 r.left, .int .i64 r.inn, .int .i64 r.ver], .int .i64 E]) ∧ Below w.heap.size w w' := by
  match l, hn, hE, hA with
  | [], hn, hE, hA => exact rlget_p0 [] n hn E r hE A c w hA rfl
  | x :: q, hn, hE, hA =>
    by_cases hx : 9 < x
    · exact rlget_p1 x q n hn E r hE A c w hA hx
    · by_cases hw : 1 ≤ (x : Int) ∧ (x : Int) ≤ 4
      · by_cases hs0 : (splitX (x :: q) (widL x)).1 = 0
        · obtain ⟨v, hv⟩ : ∃ v, v = (splitX (x :: q) (widL x)).2 := ⟨_, rfl⟩
          have hs : splitX (x :: q) (widL x) = (0, v) := by rw [hv, ← hs0]
          have hl := splitN_len hs
          rw [widL_len hw] at hl
          obtain ⟨ws, hws⟩ := widL_cases _ hw
          have hs2 := hs
          rw [hws] at hs2
          obtain ⟨x', q', vs, e1, _, hvv, _⟩ := split_head hs2
          obtain rfl : x = x' := (List.cons.inj e1).1
          clear hs2 hws e1 hv
          by_cases hk4 : (x : Int) = 4
          · rw [if_pos hk4] at hl
            obtain ⟨v0, v1, v2, v3, v4, v5, v6, v7, v8, v9, v10, v11, v12, rfl⟩ := list13 hl
            exact rlget_4 x q n hn E r hE A c w hA hx hw hk4 v0 v1 v2 v3 v4 v5 v6 v7 v8 v9 v10 v11 v12 hs (List.cons.inj hvv).1
          · rw [if_neg hk4] at hl
            obtain ⟨v0, v1, v2, v3, v4, v5, v6, v7, v8, v9, v10, v11, rfl⟩ := list12 hl
            exact rlget_3 x q n hn E r hE A c w hA hx hw hk4 v0 v1 v2 v3 v4 v5 v6 v7 v8 v9 v10 v11 hs (List.cons.inj hvv).1 _ rfl
        · exact rlget_p3 x q n hn E r hE A c w hA hx hw _ rfl hs0
      · exact rlget_p2 x q n hn E r hE A c w hA hx hw
end Go.Proofs.YtpniolinndlepaaGreatDoor
