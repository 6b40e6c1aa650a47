/-
  Contract for the landed Zone. Conditions: none.
-/
import Derived.Test.YtaokhkbfiplfmaaLinePZones
namespace Go.Proofs.Ytaokhkbfiplfmaa
set_option linter.unusedVariables false
set_option linter.unusedSimpArgs false
open Go.ChangeShapes Go.WideShapes Go.ChangeAt Go.RowKit Go.Shelf
attribute [local go_sem] Oper.semAt_some

theorem pzone_any (s z E : Int) (w : World) (h64 : In64 s) (hz : zoneV s = z) (hE : zoneE s = E) : Calls Try.prog 35 #[.int .i64 s] w fun e w' => e = .returned (.tuple #[.int .i64 z, .int .i64 E]) ∧ Below w.heap.size w w' := by
  have hkey := Maps.keyOf_int_mk (P := Try.prog) Try.underlying3 (i64_wf h64.1 h64.2)
  have HK := Lib.hid hkey
  clear hkey
  cases h : isN s with
  | false =>
    have e1 : z = 0 := by rw [← hz, zoneV, h]; rfl
    have e2 : E = 1 := by rw [← hE, zoneE, h]; rfl
    subst e1 e2
    have hh : Maps.has (zMap (H := Unit)) (.int .i64 s) = false := by rw [zMap_has, h]
    clear hz hE h
    go_enter Try.func35, Try.ntmps35
    go_wp2_with (first | (go_at_call 39; refine (pzones_any _).mono ?_; rintro e w1 ⟨rfl, hown, hb⟩) | (at_lookup; refine wpList_lookup_own_ok_int _ rfl _ _ 51 rfl 3 3 .i64 (Maps.int_keyed Try.underlying3) Try.underlying51 Try.underlying3 (Try.zeroValue3 _) w.heap.size 40 _ rfl hown _ _ rfl HK.out ?_; intro c hat hwc; rw [hh]; clear hat hwc))
    go_ret2
    exact ⟨rfl, hb⟩
  | true =>
    have e1 : z = zn s := by rw [← hz, zoneV, h]; rfl
    have e2 : E = 0 := by rw [← hE, zoneE, h]; rfl
    subst e2
    have hh : Maps.has (zMap (H := Unit)) (.int .i64 s) = true := by rw [zMap_has, h]
    have ha := zMap_at (H := Unit) h (.lit (.int .i64 0))
    rw [← e1] at ha
    have HAT := Lib.hid ha
    clear hz hE h e1 ha
    go_enter Try.func35, Try.ntmps35
    go_wp2_with (first | (go_at_call 39; refine (pzones_any _).mono ?_; rintro e w1 ⟨rfl, hown, hb⟩) | (at_lookup; refine wpList_lookup_own_ok_int _ rfl _ _ 51 rfl 3 3 .i64 (Maps.int_keyed Try.underlying3) Try.underlying51 Try.underlying3 (Try.zeroValue3 _) w.heap.size 40 _ rfl hown _ _ rfl HK.out ?_; intro c hat hwc; obtain rfl : z = c := (by have := HAT.out.symm.trans hat; simpa using this); rw [hh]; clear hat hwc))
    go_ret2
    exact ⟨rfl, hb⟩
end Go.Proofs.Ytaokhkbfiplfmaa
