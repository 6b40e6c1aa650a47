/-
  How what comes in is opened; what the seat's rows list.
-/
import Derived.Test.YtpniolinndlepaaGreatDoorBase
import Derived.Deep.Grids
import Derived.JoinedCond
import Derived.Test.YtpniolinndlepaaGreatDoorLayA
import Derived.Deep.Slices
import Derived.Deep.Fields
import Derived.Lib.SmallJoins
import Derived.Test.YtpniolinndlepaaGreatDoorTie
import Derived.Test.YtpniolinndlepaaGreatDoorCards
import Derived.Test.YtpniolinndlepaaGreatDoorShaE
import Derived.LaidMore
import Derived.Lib.LaidTab
import Derived.Stop.Joined
import Derived.Stop.LaidErr
namespace Go.Proofs.YtpniolinndlepaaGreatDoor
set_option maxRecDepth 100000
set_option linter.unusedVariables false
open Go.ChangeShapes Go.WideShapes Go.ChangeAt Go.RowKit

section
variable {H : Type} {enc : TypeId × Value → H}
theorem open_bs {W : World} {r : Reach} {b0 : Nat} {v : Value} {d : DataW H} {ps : List MemPlace} (hval : Value.okWide Tryz.prog W r b0 30 v) (hd : DataW.Trod enc Tryz.prog W 0 (fun _ => true) true 30 v d ps) :
    ∃ (A : Option Addr) (s : List Nat) (c : Nat), v = .slice A s.length c ∧ Bs W W.heap.size s A c := by
  obtain ⟨A, l, c, h1, h2, h3, h4, h5, h6, _⟩ := open_nats_full Tryz.underlying30 Tryz.underlying5 Tryz.cellsU8 wf_u8 hval hd
  exact ⟨A, l, c, h1, ⟨h2, h6, h4, by unfold maxLen at h5; omega, h3⟩⟩
end
set_option linter.unusedVariables false
open Go.ChangeShapes Go.WideShapes Go.ChangeAt Go.RowKit

theorem bulk_one {H : Type} (d : DataW H) : 1 ≤ Rows.uptoBulk d := by
  cases d with
  | lit l => cases l <;> simp [Rows.uptoBulk]
  | nil => simp [Rows.uptoBulk]
  | ptr d => simp [Rows.uptoBulk]
  | slice elems spare => simp [Rows.uptoBulk]
  | agg parts => simp [Rows.uptoBulk]
  | iface t d => simp [Rows.uptoBulk]
  | map entries => simp [Rows.uptoBulk]
  | held h => simp [Rows.uptoBulk]
theorem bulk_len {H : Type} : ∀ l : List (DataW H), l.length ≤ Rows.uptoBulkAll l
  | [] => by simp
  | x :: r => by
    have h1 := bulk_one x
    have h2 := bulk_len r
    simp only [Rows.uptoBulkAll, List.length_cons]
    omega
theorem bulk_part {H : Type} {d : DataW H} : ∀ {l : List (DataW H)}, d ∈ l → Rows.uptoBulk d ≤ Rows.uptoBulkAll l
  | x :: r, h => by
    simp only [Rows.uptoBulkAll]
    rcases List.mem_cons.1 h with rfl | h
    · omega
    · have := bulk_part h
      omega
theorem bulk_bound {H : Type} {l : List (DataW H)} (hk : Rows.uptoSmall H l = true) : Rows.uptoBulkAll l ≤ 1048576 := of_decide_eq_true hk
section
variable {H : Type} {enc : TypeId × Value → H}
theorem open_bs_upto {W : World} {r : Reach} {b0 : Nat} {v : Value} {d : DataW H} {ps : List MemPlace} (hval : Value.okWide Tryz.prog W r b0 30 v) (hd : DataW.Trod enc Tryz.prog W 0 (fun _ => true) true 30 v d ps) :
    ∃ (A : Option Addr) (s : List Nat) (c : Nat), v = .slice A s.length c ∧ Bs W W.heap.size s A c ∧ s.length ≤ Rows.uptoBulk d := by
  obtain ⟨A, s, c, rfl, h⟩ := open_bs hval hd
  refine ⟨A, s, c, rfl, h, ?_⟩
  obtain ⟨fuel, hf⟩ := hd
  rcases open_ints Tryz.underlying30 Tryz.underlying5 Tryz.cellsU8 hf with ⟨hcs, _⟩ | ⟨a, len', cap', zs, hcs, _, h1, h2, hz, hx, _, _⟩
  · simp [Value.cells] at hcs
    have h0 : s.length = 0 := by simp [hcs]
    omega
  · simp [Value.cells] at hcs
    obtain ⟨_, h0, h3⟩ := hcs
    obtain ⟨rfl, _⟩ := Prod.mk.inj hx
    simp at hz
    simp only [Rows.uptoBulk]
    refine Nat.le_trans ?_ (Nat.le_trans (bulk_len _) (Nat.le_trans (Nat.le_add_right _ _) (Nat.le_add_right _ _)))
    simp [lits]
    omega
end
set_option linter.unusedVariables false
open Go.ChangeShapes Go.WideShapes Go.ChangeAt Go.RowKit Go.Deep

section
variable {H : Type} {enc : TypeId × Value → H}
theorem cell_int13 {W : World} {fuel : Nat} {v : Value} {y : DataW H × List MemPlace} (h : DataW.trod enc Tryz.prog W 0 (fun _ => true) true fuel 3 [v] = some y) : ∃ z : Int, v = .int .i64 z ∧ In64 z := by
  obtain ⟨z, e1, _, wz⟩ := DataW.trod_int Tryz.underlying3 h
  simp at e1
  exact ⟨z, e1, wf_i64 z wz⟩
/-- Cells that read as a struct all of whose fields are ints. -/
theorem ints_of_struct {W : World} {t : TypeId} {fs : Array Field} {cs : List Value} {fuel : Nat} {y : DataW H × List MemPlace} (hs : Tryz.prog.underlying t = some (.struct fs)) (hone : oneCellFields Tryz.prog fs = true)
    (hty : fs.all (fun f : Field => f.type == 3) = true) (hC : Tryz.prog.cellsOf t = fs.size) (h : DataW.trod enc Tryz.prog W 0 (fun _ => true) true fuel t cs = some y) :
    cs.length = fs.size ∧ ∀ i, i < cs.length → ∃ z : Int, cs[i]? = some (.int .i64 z) ∧ In64 z := by
  obtain ⟨xs, n, _, _, hl, hlen, hg⟩ := DataW.trod_struct hs h
  refine ⟨hl.trans hC, fun i hi => ?_⟩
  have hif : i < fs.size := by rw [← hC, ← hl]; exact hi
  have hfi : fs[i]? = some fs[i] := Array.getElem?_eq_getElem hif
  obtain ⟨o, k⟩ := hone_of hone i _ hfi
  have ht : fs[i].type = 3 := of_decide_eq_true (by simpa using Array.all_eq_true.1 hty i hif)
  have h1 := hg i _ hfi
  rw [ht] at k
  rw [ht, o, k] at h1
  obtain ⟨y, hy⟩ : ∃ y, xs[i]? = some y := ⟨_, List.getElem?_eq_getElem (by omega)⟩
  have e : (cs.drop i).take 1 = [cs[i]] := by rw [List.drop_eq_getElem_cons hi]; rfl
  rw [hy, e] at h1
  obtain ⟨z, hz, zl⟩ := cell_int13 h1
  exact ⟨z, by rw [List.getElem?_eq_getElem hi, hz], zl⟩
theorem list15 {α : Type} {l : List α} (h : l.length = 15) : ∃ c0 c1 c2 c3 c4 c5 c6 c7 c8 c9 c10 c11 c12 c13 c14, l = [c0, c1, c2, c3, c4, c5, c6, c7, c8, c9, c10, c11, c12, c13, c14] := by
  match l, h with
  | [c0, c1, c2, c3, c4, c5, c6, c7, c8, c9, c10, c11, c12, c13, c14], _ => exact ⟨c0, c1, c2, c3, c4, c5, c6, c7, c8, c9, c10, c11, c12, c13, c14, rfl⟩
theorem open_read {W : World} {r : Reach} {b0 : Nat} {v : Value} {d : DataW H} {ps : List MemPlace} (hval : Value.okWide Tryz.prog W r b0 28 v) (hd : DataW.Trod enc Tryz.prog W 0 (fun _ => true) true 28 v d ps) :
    ∃ q : Rg, v = .agg #[.int .i64 q.t.ser, .int .i64 q.t.kind, .int .i64 q.t.frm, .int .i64 q.t.till, .int .i64 q.t.cls, .int .i64 q.t.card, .int .i64 q.t.seat, .int .i64 q.t.day, .int .i64 q.t.days, .int .i64 q.t.uses, .int .i64 q.t.epoch, .int .i64 q.key, .int .i64 q.left, .int .i64 q.inn, .int .i64 q.ver] ∧ InR q := by
  obtain ⟨cs, rfl, hsz⟩ := okWide_struct Tryz.underlying28 hval
  obtain ⟨fuel, hf⟩ := hd
  obtain ⟨xs, n, _, _, hl, hlen, hg⟩ := DataW.trod_struct Tryz.underlying28 hf
  obtain ⟨l⟩ := cs
  have hl' : l.length = 15 := hl
  obtain ⟨c0, c1, c2, c3, c4, c5, c6, c7, c8, c9, c10, c11, c12, c13, c14, rfl⟩ := list15 hl'
  have g0 := hg 0 _ rfl
  have g1 := hg 1 _ rfl
  have g2 := hg 2 _ rfl
  have g3 := hg 3 _ rfl
  have hx : xs.length = 4 := hlen
  match xs, hx with
  | [y0, y1, y2, y3], _ =>
    have k0 : DataW.trod enc Tryz.prog W 0 (fun _ => true) true n 24 [c0, c1, c2, c3, c4, c5, c6, c7, c8, c9, c10] = some y0 := g0
    have k1 : DataW.trod enc Tryz.prog W 0 (fun _ => true) true n 3 [c11] = some y1 := g1
    have k2 : DataW.trod enc Tryz.prog W 0 (fun _ => true) true n 26 [c12, c13] = some y2 := g2
    have k3 : DataW.trod enc Tryz.prog W 0 (fun _ => true) true n 3 [c14] = some y3 := g3
    obtain ⟨_, m0⟩ := ints_of_struct Tryz.underlying24 (by kernel_rfl) (by kernel_rfl) (by kernel_rfl) k0
    obtain ⟨_, m2⟩ := ints_of_struct Tryz.underlying26 (by kernel_rfl) (by kernel_rfl) (by kernel_rfl) k2
    obtain ⟨z0, e0, j0⟩ := m0 0 (by show 0 < 11; omega)
    obtain rfl : c0 = .int .i64 z0 := Option.some.inj e0
    obtain ⟨z1, e1, j1⟩ := m0 1 (by show 1 < 11; omega)
    obtain rfl : c1 = .int .i64 z1 := Option.some.inj e1
    obtain ⟨z2, e2, j2⟩ := m0 2 (by show 2 < 11; omega)
    obtain rfl : c2 = .int .i64 z2 := Option.some.inj e2
    obtain ⟨z3, e3, j3⟩ := m0 3 (by show 3 < 11; omega)
    obtain rfl : c3 = .int .i64 z3 := Option.some.inj e3
    obtain ⟨z4, e4, j4⟩ := m0 4 (by show 4 < 11; omega)
    obtain rfl : c4 = .int .i64 z4 := Option.some.inj e4
    obtain ⟨z5, e5, j5⟩ := m0 5 (by show 5 < 11; omega)
    obtain rfl : c5 = .int .i64 z5 := Option.some.inj e5
    obtain ⟨z6, e6, j6⟩ := m0 6 (by show 6 < 11; omega)
    obtain rfl : c6 = .int .i64 z6 := Option.some.inj e6
    obtain ⟨z7, e7, j7⟩ := m0 7 (by show 7 < 11; omega)
    obtain rfl : c7 = .int .i64 z7 := Option.some.inj e7
    obtain ⟨z8, e8, j8⟩ := m0 8 (by show 8 < 11; omega)
    obtain rfl : c8 = .int .i64 z8 := Option.some.inj e8
    obtain ⟨z9, e9, j9⟩ := m0 9 (by show 9 < 11; omega)
    obtain rfl : c9 = .int .i64 z9 := Option.some.inj e9
    obtain ⟨z10, e10, j10⟩ := m0 10 (by show 10 < 11; omega)
    obtain rfl : c10 = .int .i64 z10 := Option.some.inj e10
    obtain ⟨z11, e11, j11⟩ := cell_int13 k1
    subst e11
    obtain ⟨z12, e12, j12⟩ := m2 0 (by show 0 < 2; omega)
    obtain rfl : c12 = .int .i64 z12 := Option.some.inj e12
    obtain ⟨z13, e13, j13⟩ := m2 1 (by show 1 < 2; omega)
    obtain rfl : c13 = .int .i64 z13 := Option.some.inj e13
    obtain ⟨z14, e14, j14⟩ := cell_int13 k3
    subst e14
    refine ⟨⟨⟨z0, z1, z2, z3, z4, z5, z6, z7, z8, z9, z10⟩, z11, z12, z13, z14⟩, rfl, ?_⟩
    intro x hx
    unfold rgL at hx
    simp only [List.mem_cons, List.not_mem_nil, or_false] at hx
    rcases hx with rfl | rfl | rfl | rfl | rfl | rfl | rfl | rfl | rfl | rfl | rfl | rfl | rfl | rfl | rfl <;> assumption
end
set_option linter.unusedVariables false
open Go.ChangeShapes Go.WideShapes Go.ChangeAt Go.RowKit

/-- What the seat's rows list: the two tables. -/
def laidL {H : Type} : List (String × DataW H) := [("gateline/sha.constants", Rows.laid_gateline_sha_constants), ("gateline/sha.beginning", Rows.laid_gateline_sha_beginning)]
theorem gConst : Tryz.prog.globalNamed "gateline/sha.constants" = some 1 := by kernel_rfl
theorem gBegin : Tryz.prog.globalNamed "gateline/sha.beginning" = some 0 := by kernel_rfl
theorem gConstT : (Tryz.prog.globals[1]?).map (·.type) = some 156 := by kernel_rfl
theorem gBeginT : (Tryz.prog.globals[0]?).map (·.type) = some 135 := by kernel_rfl
theorem cells64 : Tryz.prog.cellsOf 156 = 64 := by kernel_rfl
theorem cellsOf8 : Tryz.prog.cellsOf 135 = 8 := by kernel_rfl

theorem rd_tab {W : World} {g : Nat} {name : String} {l : List Nat} (hg : Tryz.prog.globalNamed name = some g) (h : Lib.TabIs Tryz.prog W name .u32 (l.map fun x : Nat => (x : Int))) : Rd W W.heap.size (some ⟨g, 0, none⟩) (U32 l) := by
  intro k u hu
  have hk : k < l.length := by
    rcases Nat.lt_or_ge k l.length with h' | h'
    · exact h'
    · rw [List.getElem?_eq_none (by rw [U32_length]; exact h')] at hu; cases hu
  have hc := h.cell hg k (by simpa using hk)
  rw [U32_at l k hk] at hu
  cases hu
  have hlt : g < W.heap.size := lt_of_cell hc
  refine ⟨_, rfl, hlt, ?_⟩
  rw [at_add, hc]
  simp [List.getD, hk]
theorem tabs_of_laid {W : World} (h : laidMetH Tryz.prog laidL W) : Tabs W := by
  have h' : laidMet Tryz.prog laidL W := h
  exact ⟨rd_tab gConst (Lib.tabIs_of_head (zs := kTab.map fun x : Nat => (x : Int)) gConst gConstT Tryz.underlying156 Tryz.underlying134 Tryz.cellsU32 cells64 h'),
    rd_tab gBegin (Lib.tabIs_of_head (zs := beginN.list.map fun x : Nat => (x : Int)) gBegin gBeginT Tryz.underlying135 Tryz.underlying134 Tryz.cellsU32 cellsOf8 (laidMet.tail h'))⟩
theorem door_met (os : Os) (args : Array Value) : laidMetH Tryz.prog laidL ((World.doorLaid Tryz.prog 400 os).forCall (fun _ _ => 0) ⟨#[], args, []⟩).memory :=
  laidMetH_of_parts3 (fuel := 8) (laidMet_of_run' 8 (by kernel_rfl) (by kernel_rfl)) (by kernel_rfl) (by kernel_rfl)
end Go.Proofs.YtpniolinndlepaaGreatDoor
