/-
  The operations of the last statement of told, and what it comes to. Conditions: the fields read as such, the reading stands in its block.
-/
import Derived.Test.YtaldpioahnbkgaaFieldsPPut
import Derived.Test.YtaldpioahnbkgaaFieldsPGet
import Derived.Test.YtaldpioahnbkgaaTlvSameAny
import Derived.Test.YtaldpioahnbkgaaLayEq
import Derived.Test.YtaldpioahnbkgaaFieldsApart
namespace Go.Proofs.Ytaldpioahnbkgaa
set_option linter.unusedVariables false
set_option linter.unusedSimpArgs false
open Go.ChangeShapes Go.WideShapes Go.ChangeAt Go.RowKit

/-- The operations of a region, by its number. -/
def opsAt18 (n : Nat) : Code → Option (Array Oper)
  | .region id ops _ => if id == n then some ops else none
  | .seq a b => match opsAt18 n a with
    | some o => some o
    | none => opsAt18 n b
  | .cond _ a b => match opsAt18 n a with
    | some o => some o
    | none => opsAt18 n b
  | .block _ b => opsAt18 n b
  | .loop b => opsAt18 n b
  | .scope b => opsAt18 n b
  | _ => none
/-- What the laws' example says. -/
def pr18 (v : Int) : Rg := ⟨⟨300, 1, 0, 20, 2, 1, 0, 10, 1, 1, 0⟩, 5, 0, 0, v⟩
theorem told_c0 : fdPut (pr18 2) = (0, [⟨1, [2]⟩, ⟨2, [5]⟩, ⟨3, [1]⟩, ⟨4, [1, 44]⟩, ⟨6, [20]⟩, ⟨7, [2]⟩, ⟨8, [1]⟩, ⟨10, [10]⟩, ⟨11, [1]⟩]) := by kernel_rfl
theorem told_c1 : fdGet [⟨1, [2]⟩, ⟨2, [5]⟩, ⟨3, [1]⟩, ⟨4, [1, 44]⟩, ⟨6, [20]⟩, ⟨7, [2]⟩, ⟨8, [1]⟩, ⟨10, [10]⟩, ⟨11, [1]⟩] = (0, pr18 2) := by kernel_rfl
theorem told_c2 : fdPut (pr18 1) = (18, []) := by kernel_rfl
theorem told_c3 : fdPut (pr18 4) = (1, []) := by kernel_rfl
theorem told_c4 : fdGet [⟨1, [1]⟩, ⟨130, []⟩] = (16, zeroR) := by kernel_rfl
theorem told_c5 : fdGet [⟨1, [1]⟩, ⟨14, []⟩] = (15, zeroR) := by kernel_rfl
theorem told_c6 : fdGet [⟨1, [0]⟩] = (14, zeroR) := by kernel_rfl
theorem told_c7 : fdGet [] = (12, zeroR) := by kernel_rfl
theorem told_c8 : fdGet [⟨1, [1]⟩] = (9, zeroR) := by kernel_rfl
theorem told_c9 : leastN 9 = 3 := by kernel_rfl
theorem told_c10 : okN 9 = true := by kernel_rfl
theorem told_c11 : leastN 14 = 0 := by kernel_rfl
theorem told_c12 : okN 14 = false := by kernel_rfl
set_option maxRecDepth 100000 in
set_option maxHeartbeats 1600000 in
theorem plain18_any (q : Rg) (hq : q = pr18 2) (w : World) : Calls Try.prog 30 #[] w fun e w' => e = .returned (.agg #[.int .i64 q.t.ser, .int .i64 q.t.kind, .int .i64 q.t.frm, .int .i64 q.t.till, .int .i64 q.t.cls, .int .i64 q.t.card, .int .i64 q.t.seat, .int .i64 q.t.day, .int .i64 q.t.days, .int .i64 q.t.uses, .int .i64 q.t.epoch, .int .i64 q.key, .int .i64 q.left, .int .i64 q.inn, .int .i64 q.ver]) ∧ Below w.heap.size w w' := by
  subst hq
  go_enter Try.func30, Try.ntmps30
  go_wp2
  exact bodyPost_ret (results_row Try.results30 _ _ w.heap.size 27 #[.int .i64 300, .int .i64 1, .int .i64 0, .int .i64 20, .int .i64 2, .int .i64 1, .int .i64 0, .int .i64 10, .int .i64 1, .int .i64 1, .int .i64 0, .int .i64 5, .int .i64 0, .int .i64 0, .int .i64 2] (0, 0) _ rfl (heap_alloc_new w _) Try.underlying27 rfl infoRd) rfl ⟨rfl, below_lit w _ _⟩
theorem lit18_a (w : World) (H : Nat) (hH : w.heap.size = H) : ∃ W, W = (w.alloc (.cells #[.int .u8 1] 5)).alloc (.cells #[.int .i64 1, .slice (some ⟨H, 0, none⟩) 1 1, .int .i64 130, .slice none 0 0] 56) ∧ Ts W W.heap.size [⟨1, [1]⟩, ⟨130, []⟩] (some ⟨H + 1, 0, none⟩) 2 ∧ Below w.heap.size w W := by
  obtain ⟨x0, e0⟩ : ∃ x, x = (w.alloc (.cells #[.int .u8 1] 5)) := ⟨_, rfl⟩
  rw [← e0]
  have z0 : x0.heap.size = H + 1 := by rw [e0, World.size_alloc, hH]
  have b0 : Below w.heap.size w x0 := by rw [e0]; exact below_lit w _ _
  have k0 : Bs x0 x0.heap.size [1] (some ⟨H, 0, none⟩) 1 := by rw [e0, ← hH]; exact bs_lit w _ [1] 1 rfl rfl (by omega) (by decide)
  have d0 : Below w.heap.size w x0 := b0
  clear e0 b0
  have h1 := ts_lit x0 [(⟨⟨1, [1]⟩, some ⟨H, 0, none⟩, 1⟩ : TV), (⟨⟨130, []⟩, none, 0⟩ : TV)] #[.int .i64 1, .slice (some ⟨H, 0, none⟩) 1 1, .int .i64 130, .slice none 0 0] 2 rfl rfl (by omega) (fun q hq => by
    simp only [List.mem_cons, List.not_mem_nil, or_false] at hq
    rcases hq with rfl | rfl
    · exact k0
    · exact Bs.empty _ _)
  rw [z0] at h1
  exact ⟨_, rfl, h1, d0.trans ((below_lit x0 _ _).mono d0.size)⟩
theorem lit18_b (w : World) (H : Nat) (hH : w.heap.size = H) : ∃ W, W = (w.alloc (.cells #[.int .u8 1] 5)).alloc (.cells #[.int .i64 1, .slice (some ⟨H, 0, none⟩) 1 1, .int .i64 14, .slice none 0 0] 56) ∧ Ts W W.heap.size [⟨1, [1]⟩, ⟨14, []⟩] (some ⟨H + 1, 0, none⟩) 2 ∧ Below w.heap.size w W := by
  obtain ⟨x0, e0⟩ : ∃ x, x = (w.alloc (.cells #[.int .u8 1] 5)) := ⟨_, rfl⟩
  rw [← e0]
  have z0 : x0.heap.size = H + 1 := by rw [e0, World.size_alloc, hH]
  have b0 : Below w.heap.size w x0 := by rw [e0]; exact below_lit w _ _
  have k0 : Bs x0 x0.heap.size [1] (some ⟨H, 0, none⟩) 1 := by rw [e0, ← hH]; exact bs_lit w _ [1] 1 rfl rfl (by omega) (by decide)
  have d0 : Below w.heap.size w x0 := b0
  clear e0 b0
  have h1 := ts_lit x0 [(⟨⟨1, [1]⟩, some ⟨H, 0, none⟩, 1⟩ : TV), (⟨⟨14, []⟩, none, 0⟩ : TV)] #[.int .i64 1, .slice (some ⟨H, 0, none⟩) 1 1, .int .i64 14, .slice none 0 0] 2 rfl rfl (by omega) (fun q hq => by
    simp only [List.mem_cons, List.not_mem_nil, or_false] at hq
    rcases hq with rfl | rfl
    · exact k0
    · exact Bs.empty _ _)
  rw [z0] at h1
  exact ⟨_, rfl, h1, d0.trans ((below_lit x0 _ _).mono d0.size)⟩
theorem lit18_c (w : World) (H : Nat) (hH : w.heap.size = H) : ∃ W, W = (w.alloc (.cells #[.int .u8 0] 5)).alloc (.cells #[.int .i64 1, .slice (some ⟨H, 0, none⟩) 1 1] 56) ∧ Ts W W.heap.size [⟨1, [0]⟩] (some ⟨H + 1, 0, none⟩) 1 ∧ Below w.heap.size w W := by
  obtain ⟨x0, e0⟩ : ∃ x, x = (w.alloc (.cells #[.int .u8 0] 5)) := ⟨_, rfl⟩
  rw [← e0]
  have z0 : x0.heap.size = H + 1 := by rw [e0, World.size_alloc, hH]
  have b0 : Below w.heap.size w x0 := by rw [e0]; exact below_lit w _ _
  have k0 : Bs x0 x0.heap.size [0] (some ⟨H, 0, none⟩) 1 := by rw [e0, ← hH]; exact bs_lit w _ [0] 1 rfl rfl (by omega) (by decide)
  have d0 : Below w.heap.size w x0 := b0
  clear e0 b0
  have h1 := ts_lit x0 [(⟨⟨1, [0]⟩, some ⟨H, 0, none⟩, 1⟩ : TV)] #[.int .i64 1, .slice (some ⟨H, 0, none⟩) 1 1] 1 rfl rfl (by omega) (fun q hq => by
    simp only [List.mem_cons, List.not_mem_nil, or_false] at hq
    subst hq
    exact k0)
  rw [z0] at h1
  exact ⟨_, rfl, h1, d0.trans ((below_lit x0 _ _).mono d0.size)⟩
theorem lit18_d (w : World) (H : Nat) (hH : w.heap.size = H) : ∃ W, W = (w.alloc (.cells #[.int .u8 1] 5)).alloc (.cells #[.int .i64 1, .slice (some ⟨H, 0, none⟩) 1 1] 56) ∧ Ts W W.heap.size [⟨1, [1]⟩] (some ⟨H + 1, 0, none⟩) 1 ∧ Below w.heap.size w W := by
  obtain ⟨x0, e0⟩ : ∃ x, x = (w.alloc (.cells #[.int .u8 1] 5)) := ⟨_, rfl⟩
  rw [← e0]
  have z0 : x0.heap.size = H + 1 := by rw [e0, World.size_alloc, hH]
  have b0 : Below w.heap.size w x0 := by rw [e0]; exact below_lit w _ _
  have k0 : Bs x0 x0.heap.size [1] (some ⟨H, 0, none⟩) 1 := by rw [e0, ← hH]; exact bs_lit w _ [1] 1 rfl rfl (by omega) (by decide)
  have d0 : Below w.heap.size w x0 := b0
  clear e0 b0
  have h1 := ts_lit x0 [(⟨⟨1, [1]⟩, some ⟨H, 0, none⟩, 1⟩ : TV)] #[.int .i64 1, .slice (some ⟨H, 0, none⟩) 1 1] 1 rfl rfl (by omega) (fun q hq => by
    simp only [List.mem_cons, List.not_mem_nil, or_false] at hq
    subst hq
    exact k0)
  rw [z0] at h1
  exact ⟨_, rfl, h1, d0.trans ((below_lit x0 _ _).mono d0.size)⟩
theorem lit18_e (w : World) (H : Nat) (hH : w.heap.size = H) : ∃ W, W = ((((w.alloc (.cells #[.int .u8 2] 5)).alloc (.cells #[.int .u8 5] 5)).alloc (.cells #[.int .u8 1] 5)).alloc (.cells #[.int .u8 1, .int .u8 44] 5)).alloc (.cells #[.int .i64 1, .slice (some ⟨H, 0, none⟩) 1 1, .int .i64 2, .slice (some ⟨H + 1, 0, none⟩) 1 1, .int .i64 3, .slice (some ⟨H + 1 + 1, 0, none⟩) 1 1, .int .i64 4, .slice (some ⟨H + 1 + 1 + 1, 0, none⟩) 2 2] 56) ∧ Ts W W.heap.size [⟨1, [2]⟩, ⟨2, [5]⟩, ⟨3, [1]⟩, ⟨4, [1, 44]⟩] (some ⟨H + 1 + 1 + 1 + 1, 0, none⟩) 4 ∧ Below w.heap.size w W := by
  obtain ⟨x0, e0⟩ : ∃ x, x = (w.alloc (.cells #[.int .u8 2] 5)) := ⟨_, rfl⟩
  rw [← e0]
  have z0 : x0.heap.size = H + 1 := by rw [e0, World.size_alloc, hH]
  have b0 : Below w.heap.size w x0 := by rw [e0]; exact below_lit w _ _
  have k0 : Bs x0 x0.heap.size [2] (some ⟨H, 0, none⟩) 1 := by rw [e0, ← hH]; exact bs_lit w _ [2] 1 rfl rfl (by omega) (by decide)
  have d0 : Below w.heap.size w x0 := b0
  clear e0 b0
  obtain ⟨x1, e1⟩ : ∃ x, x = (x0.alloc (.cells #[.int .u8 5] 5)) := ⟨_, rfl⟩
  rw [← e1]
  have z1 : x1.heap.size = H + 1 + 1 := by rw [e1, World.size_alloc, z0]
  have b1 : Below x0.heap.size x0 x1 := by rw [e1]; exact below_lit x0 _ _
  have k1 : Bs x1 x1.heap.size [5] (some ⟨H + 1, 0, none⟩) 1 := by rw [e1, ← z0]; exact bs_lit x0 _ [5] 1 rfl rfl (by omega) (by decide)
  replace k0 := k0.next b1
  have d1 : Below w.heap.size w x1 := d0.trans (b1.mono d0.size)
  clear e1 b1
  obtain ⟨x2, e2⟩ : ∃ x, x = (x1.alloc (.cells #[.int .u8 1] 5)) := ⟨_, rfl⟩
  rw [← e2]
  have z2 : x2.heap.size = H + 1 + 1 + 1 := by rw [e2, World.size_alloc, z1]
  have b2 : Below x1.heap.size x1 x2 := by rw [e2]; exact below_lit x1 _ _
  have k2 : Bs x2 x2.heap.size [1] (some ⟨H + 1 + 1, 0, none⟩) 1 := by rw [e2, ← z1]; exact bs_lit x1 _ [1] 1 rfl rfl (by omega) (by decide)
  replace k0 := k0.next b2
  replace k1 := k1.next b2
  have d2 : Below w.heap.size w x2 := d1.trans (b2.mono d1.size)
  clear e2 b2
  obtain ⟨x3, e3⟩ : ∃ x, x = (x2.alloc (.cells #[.int .u8 1, .int .u8 44] 5)) := ⟨_, rfl⟩
  rw [← e3]
  have z3 : x3.heap.size = H + 1 + 1 + 1 + 1 := by rw [e3, World.size_alloc, z2]
  have b3 : Below x2.heap.size x2 x3 := by rw [e3]; exact below_lit x2 _ _
  have k3 : Bs x3 x3.heap.size [1, 44] (some ⟨H + 1 + 1 + 1, 0, none⟩) 2 := by rw [e3, ← z2]; exact bs_lit x2 _ [1, 44] 2 rfl rfl (by omega) (by decide)
  replace k0 := k0.next b3
  replace k1 := k1.next b3
  replace k2 := k2.next b3
  have d3 : Below w.heap.size w x3 := d2.trans (b3.mono d2.size)
  clear e3 b3
  have h1 := ts_lit x3 [(⟨⟨1, [2]⟩, some ⟨H, 0, none⟩, 1⟩ : TV), (⟨⟨2, [5]⟩, some ⟨H + 1, 0, none⟩, 1⟩ : TV), (⟨⟨3, [1]⟩, some ⟨H + 1 + 1, 0, none⟩, 1⟩ : TV), (⟨⟨4, [1, 44]⟩, some ⟨H + 1 + 1 + 1, 0, none⟩, 2⟩ : TV)] #[.int .i64 1, .slice (some ⟨H, 0, none⟩) 1 1, .int .i64 2, .slice (some ⟨H + 1, 0, none⟩) 1 1, .int .i64 3, .slice (some ⟨H + 1 + 1, 0, none⟩) 1 1, .int .i64 4, .slice (some ⟨H + 1 + 1 + 1, 0, none⟩) 2 2] 4 rfl rfl (by omega) (fun q hq => by
    simp only [List.mem_cons, List.not_mem_nil, or_false] at hq
    rcases hq with rfl | rfl | rfl | rfl
    · exact k0
    · exact k1
    · exact k2
    · exact k3)
  rw [z3] at h1
  exact ⟨_, rfl, h1, d3.trans ((below_lit x3 _ _).mono d3.size)⟩
/-- A state that is come to in more than one order: shown once. -/
theorem held_once {P : Program} {md : Region.Mode} {ops : Array Oper} {Q : Exit → Act → World → Prop} {S : World → Prop} {fuel : Nat} {listed : Array Bool} {a : Act} {w : World} (f : Nat) (L : Array Bool) (tm : Act → Value → Value → Value → Value → Act) (F : Value → Value → Value → Value → World → Prop)
    (H : ∀ v1 v2 v3 v4 W, F v1 v2 v3 v4 W → wpAnyH P md ops Q S f L (tm a v1 v2 v3 v4) W)
    (K : (∀ v1 v2 v3 v4 W, F v1 v2 v3 v4 W → wpAnyH P md ops Q S f L (tm a v1 v2 v3 v4) W) → wpAnyH P md ops Q S fuel listed a w) : wpAnyH P md ops Q S fuel listed a w := K H
/-- A slice of bytes that was just laid. -/
def Laid18 (W : World) (s : List Nat) (v : Value) : Prop := ∃ g, v = .slice (some ⟨g, 0, none⟩) s.length s.length ∧ Bs W W.heap.size s (some ⟨g, 0, none⟩) s.length
theorem Laid18.next {W W' : World} {s : List Nat} {v : Value} (h : Laid18 W s v) (hb : Below W.heap.size W W') : Laid18 W' s v := by
  obtain ⟨g, h1, h2⟩ := h
  exact ⟨g, h1, h2.next hb⟩
theorem laid18 (W : World) (s : List Nat) (n : Nat) (cs : Array Value) (h : cs.toList = U8 s) (hn : n = s.length) (h1 : n ≤ 1000) (h2 : ∀ x ∈ s, x < 256) : Laid18 (W.alloc (.cells cs 5)) s (.slice (some ⟨W.heap.size, 0, none⟩) n n) := by
  subst hn
  exact ⟨_, rfl, bs_lit W cs s _ h rfl h1 h2⟩
set_option maxRecDepth 100000 in
set_option maxHeartbeats 4000000 in
theorem told_reg (Q : Exit → Act → World → Prop) (hP : ∀ c (a : Act) (k : Nat) v w, Q (.panic c) (a.put (some k) v) w → Q (.panic c) a w) (u1 u6 u8 u10 u12 u14 u16 u18 u24 u25 u26 u27 u28 u29 u30 u31 u32 u33 u34 u35 u36 u37 u38 u39 u40 u41 u42 u43 u44 u45 u46 u47 u48 u49 u50 u51 u52 u53 u54 u55 u56 u57 u58 u59 u60 u61 u62 u63 u64 u65 u66 u67 u68 u69 u70 u71 u72 u73 u74 u75 u76 u77 u78 u79 u80 u81 u82 u83 u84 u85 u86 u87 u88 : Value) (AP1 : Option Addr) (cP1 B2 : Nat) (q0 : Rg) (hq0 : q0 = pr18 2) (w : World) (hP1 : Ts w w.heap.size [⟨1, [2]⟩, ⟨2, [5]⟩, ⟨3, [1]⟩, ⟨4, [1, 44]⟩, ⟨6, [20]⟩, ⟨7, [2]⟩, ⟨8, [1]⟩, ⟨10, [10]⟩, ⟨11, [1]⟩] AP1 cP1) (hX2 : RBox w B2 q0)
    (hE : ∀ (y89 y90 y91 y92 y93 y94 y95 y96 y97 y98 y99 y100 y101 y102 y103 y104 y105 y106 y107 y108 y109 y110 y111 y112 y113 y114 y115 y116 y117 y118 y119 y120 y121 y122 y123 y124 y125 y126 y127 y128 y129 y130 y131 y132 y133 y134 y135 y136 y137 y138 y139 y140 y141 y142 y143 y144 y145 y146 y147 y148 y149 y150 y151 y152 y153 y154 y155 y156 y157 y158 : Value) W, Below w.heap.size w W → Q .normal { tmps := #[.bool true, u1, .slice AP1 9 cP1, .int .i64 0, .pointer (some ⟨B2, 0, none⟩), .int .i64 0, u6, .int .i64 18, u8, .int .i64 1, u10, .int .i64 16, u12, .int .i64 15, u14, .int .i64 14, u16, .int .i64 12, u18, .int .i64 9, .int .i64 3, .bool true, .int .i64 0, .bool false, u24, u25, u26, u27, u28, u29, u30, u31, u32, u33, u34, u35, u36, u37, u38, u39, u40, u41, u42, u43, u44, u45, u46, u47, u48, u49, u50, u51, u52, u53, u54, u55, u56, u57, u58, u59, u60, u61, u62, u63, u64, u65, u66, u67, u68, u69, u70, u71, u72, u73, u74, u75, u76, u77, u78, u79, u80, u81, u82, u83, u84, u85, u86, u87, u88, y89, y90, y91, y92, y93, y94, y95, y96, y97, y98, y99, y100, y101, y102, y103, y104, y105, y106, y107, y108, y109, y110, y111, y112, y113, y114, y115, y116, y117, y118, y119, y120, y121, y122, y123, y124, y125, y126, y127, y128, y129, y130, y131, y132, y133, y134, y135, y136, y137, y138, y139, y140, y141, y142, y143, y144, y145, y146, y147, y148, y149, y150, y151, y152, y153, y154, y155, y156, y157, y158], defers := [] } W) : Code.wp Try.prog (.region 15 ((Try.f12.body.bind (opsAt18 15)).getD #[]) true) Q { tmps := #[.bool false, u1, .slice AP1 9 cP1, .int .i64 0, .pointer (some ⟨B2, 0, none⟩), .int .i64 0, u6, .int .i64 18, u8, .int .i64 1, u10, .int .i64 16, u12, .int .i64 15, u14, .int .i64 14, u16, .int .i64 12, u18, .int .i64 9, .int .i64 3, .bool true, .int .i64 0, .bool false, u24, u25, u26, u27, u28, u29, u30, u31, u32, u33, u34, u35, u36, u37, u38, u39, u40, u41, u42, u43, u44, u45, u46, u47, u48, u49, u50, u51, u52, u53, u54, u55, u56, u57, u58, u59, u60, u61, u62, u63, u64, u65, u66, u67, u68, u69, u70, u71, u72, u73, u74, u75, u76, u77, u78, u79, u80, u81, u82, u83, u84, u85, u86, u87, u88, undef, undef, undef, undef, undef, undef, undef, undef, undef, undef, undef, undef, undef, undef, undef, undef, undef, undef, undef, undef, undef, undef, undef, undef, undef, undef, undef, undef, undef, undef, undef, undef, undef, undef, undef, undef, undef, undef, undef, undef, undef, undef, undef, undef, undef, undef, undef, undef, undef, undef, undef, undef, undef, undef, undef, undef, undef, undef, undef, undef, undef, undef, undef, undef, undef, undef, undef, undef, undef, undef], defers := [] } w := by
  dsimp only at hE ⊢
  have HQ0 := Lib.hid hq0
  have P1 := Lib.hid hP1
  have X2 := Lib.hid hX2
  have HE := Lib.hid hE
  have HBL := Lib.hid (Below.refl w.heap.size w)
  clear hq0 hP1 hX2 hE
  have h9 : (9 : Nat) ≤ cP1 := by have := P1.out.len; simpa using this
  have h9' : (4 : Int) ≤ (cP1 : Int) := by omega
  refine wp_region_held_drew (S := fun w' => RBox w' B2 q0) (by kernel_rfl) (show RBox w.drew B2 q0 from X2.out) (fun hHeld => ?_)
  obtain ⟨wd, hwd⟩ : ∃ wd, wd = w.drew := ⟨_, rfl⟩
  rw [← hwd] at hHeld ⊢
  have hb : Below w.heap.size w wd := by rw [hwd]; exact below_drewN (Below.refl _ _) 1
  replace P1 := Lib.hid (P1.out.next hb)
  replace X2 := Lib.hid (X2.out.next hb)
  replace HBL := Lib.hid (HBL.out.trans (hb.mono HBL.out.size))
  clear hb hwd
  refine wpAnyH_take (i := 0) (oi := ⟨some 89, _, _, _, _, _⟩) (v := ?_) rfl (by kernel_rfl) (by kernel_rfl) (by kernel_rfl) (fun _ _ _ h => hP _ _ _ _ _ h) (Or.inl ⟨by rfl, ?_⟩) hHeld ?_
  rotate_left
  · intro w hSw
    go_simp
    first | done | with_reducible rfl
  try simp only [Act.put, List.setIfInBounds_toArray, List.set_cons_zero, List.set_cons_succ]
  refine wpAnyH_take (i := 1) (oi := ⟨some 90, _, _, _, _, _⟩) (v := ?_) rfl (by kernel_rfl) (by kernel_rfl) (by kernel_rfl) (fun _ _ _ h => hP _ _ _ _ _ h) (Or.inl ⟨by rfl, ?_⟩) hHeld ?_
  rotate_left
  · intro w hSw
    go_simp
    first | done | with_reducible rfl
  try simp only [Act.put, List.setIfInBounds_toArray, List.set_cons_zero, List.set_cons_succ]
  refine wpAnyH_take (i := 2) (oi := ⟨some 91, _, _, _, _, _⟩) (v := ?_) rfl (by kernel_rfl) (by kernel_rfl) (by kernel_rfl) (fun _ _ _ h => hP _ _ _ _ _ h) (Or.inl ⟨by rfl, ?_⟩) hHeld ?_
  rotate_left
  · intro w hSw
    go_simp
    first | done | with_reducible rfl
  try simp only [Act.put, List.setIfInBounds_toArray, List.set_cons_zero, List.set_cons_succ]
  refine wpAnyH_take (i := 3) (oi := ⟨some 92, _, _, _, _, _⟩) (v := ?_) rfl (by kernel_rfl) (by kernel_rfl) (by kernel_rfl) (fun _ _ _ h => hP _ _ _ _ _ h) (Or.inl ⟨by rfl, ?_⟩) hHeld ?_
  rotate_left
  · intro w hSw
    go_simp
    first | done | with_reducible rfl
  try simp only [Act.put, List.setIfInBounds_toArray, List.set_cons_zero, List.set_cons_succ]
  refine wpAnyH_take (i := 4) (oi := ⟨some 93, _, _, _, _, _⟩) (v := ?_) rfl (by kernel_rfl) (by kernel_rfl) (by kernel_rfl) (fun _ _ _ h => hP _ _ _ _ _ h) (Or.inl ⟨by rfl, ?_⟩) hHeld ?_
  rotate_left
  · intro w hSw
    go_simp
    first | done | with_reducible rfl
  try simp only [Act.put, List.setIfInBounds_toArray, List.set_cons_zero, List.set_cons_succ]
  refine wpAnyH_take (i := 5) (oi := ⟨some 94, _, _, _, _, _⟩) (v := ?_) rfl (by kernel_rfl) (by kernel_rfl) (by kernel_rfl) (fun _ _ _ h => hP _ _ _ _ _ h) (Or.inl ⟨by rfl, ?_⟩) hHeld ?_
  rotate_left
  · intro w hSw
    go_simp
    first | done | with_reducible rfl
  try simp only [Act.put, List.setIfInBounds_toArray, List.set_cons_zero, List.set_cons_succ]
  refine wpAnyH_take (i := 6) (oi := ⟨some 95, _, _, _, _, _⟩) (v := ?_) rfl (by kernel_rfl) (by kernel_rfl) (by kernel_rfl) (fun _ _ _ h => hP _ _ _ _ _ h) (Or.inl ⟨by rfl, ?_⟩) hHeld ?_
  rotate_left
  · intro w hSw
    go_simp
    first | done | with_reducible rfl
  try simp only [Act.put, List.setIfInBounds_toArray, List.set_cons_zero, List.set_cons_succ]
  refine wpAnyH_take (i := 7) (oi := ⟨some 96, _, _, _, _, _⟩) (v := ?_) rfl (by kernel_rfl) (by kernel_rfl) (by kernel_rfl) (fun _ _ _ h => hP _ _ _ _ _ h) (Or.inl ⟨by rfl, ?_⟩) hHeld ?_
  rotate_left
  · intro w hSw
    go_simp
    first | done | with_reducible rfl
  try simp only [Act.put, List.setIfInBounds_toArray, List.set_cons_zero, List.set_cons_succ]
  refine wpAnyH_take (i := 8) (oi := ⟨some 97, _, _, _, _, _⟩) (v := ?_) rfl (by kernel_rfl) (by kernel_rfl) (by kernel_rfl) (fun _ _ _ h => hP _ _ _ _ _ h) (Or.inl ⟨by rfl, ?_⟩) hHeld ?_
  rotate_left
  · intro w hSw
    go_simp
    first | done | with_reducible rfl
  try simp only [Act.put, List.setIfInBounds_toArray, List.set_cons_zero, List.set_cons_succ]
  refine wpAnyH_take (i := 9) (oi := ⟨some 98, _, _, _, _, _⟩) (v := ?_) rfl (by kernel_rfl) (by kernel_rfl) (by kernel_rfl) (fun _ _ _ h => hP _ _ _ _ _ h) (Or.inl ⟨by rfl, ?_⟩) hHeld ?_
  rotate_left
  · intro w hSw
    go_simp
    first | done | with_reducible rfl
  try simp only [Act.put, List.setIfInBounds_toArray, List.set_cons_zero, List.set_cons_succ]
  refine held_once 53 #[true, true, true, true, true, true, true, true, true, true, true, true, true, true, true, true, true, true, false, false, false, false, false, false, false, false, false, false, false, false, false, false, false, false, false, false, false, false, false, false, false, false, false, false, false, false, false, false, false, false, false, false, false, false, false, false, false, false, false, false, false, false, false, false, false, false, false, false, false, false, false] (fun a v1 v2 v3 v4 => ((((((((a.put (some 99) v1).put (some 100) (.agg #[.int .i64 1, v1])).put (some 101) v2).put (some 102) (.agg #[.int .i64 2, v2])).put (some 103) v3).put (some 104) (.agg #[.int .i64 3, v3])).put (some 105) v4).put (some 106) (.agg #[.int .i64 4, v4]))) (fun v1 v2 v3 v4 W => Below wd.heap.size wd W ∧ Laid18 W [2] v1 ∧ Laid18 W [5] v2 ∧ Laid18 W [1] v3 ∧ Laid18 W [1, 44] v4) ?_ (fun H1234 => ?_)
  · intro v1 v2 v3 v4 W hF
    obtain ⟨HB, g1, g2, g3, g4⟩ := hF
    have hHeld : RBox W B2 q0 := X2.out.next HB
    try simp only [Act.put, List.setIfInBounds_toArray, List.set_cons_zero, List.set_cons_succ]
    obtain ⟨a1, rfl, k1⟩ := g1
    obtain ⟨a2, rfl, k2⟩ := g2
    obtain ⟨a3, rfl, k3⟩ := g3
    obtain ⟨a4, rfl, k4⟩ := g4
    have HK1 := Lib.hid k1
    have HK2 := Lib.hid k2
    have HK3 := Lib.hid k3
    have HK4 := Lib.hid k4
    replace P1 := Lib.hid (P1.out.next HB)
    replace X2 := Lib.hid (X2.out.next HB)
    replace HBL := Lib.hid (HBL.out.trans (HB.mono HBL.out.size))
    clear k1 k2 k3 k4 HB
    dsimp only [List.length_cons, List.length_nil]
    refine wpAnyH_ready (rs := [18]) (by kernel_rfl) (by simp) ?_
    refine AllReadyH.cons (o := ⟨some 107, _, _, _, _, _⟩) rfl (fun K hK => ?_) AllReadyH.nil
    go_simp
    obtain ⟨w9, hw⟩ : ∃ w9, w9 = W.alloc (.cells #[.int .i64 1, .slice (some ⟨a1, 0, none⟩) 1 1, .int .i64 2, .slice (some ⟨a2, 0, none⟩) 1 1, .int .i64 3, .slice (some ⟨a3, 0, none⟩) 1 1, .int .i64 4, .slice (some ⟨a4, 0, none⟩) 2 2] 56) := ⟨_, rfl⟩
    rw [← hw]
    have hx : Ts w9 w9.heap.size [⟨1, [2]⟩, ⟨2, [5]⟩, ⟨3, [1]⟩, ⟨4, [1, 44]⟩] (some ⟨W.heap.size, 0, none⟩) 4 := by
      rw [hw]
      exact ts_lit W [(⟨⟨1, [2]⟩, some ⟨a1, 0, none⟩, 1⟩ : TV), ⟨⟨2, [5]⟩, some ⟨a2, 0, none⟩, 1⟩, ⟨⟨3, [1]⟩, some ⟨a3, 0, none⟩, 1⟩, ⟨⟨4, [1, 44]⟩, some ⟨a4, 0, none⟩, 2⟩] #[.int .i64 1, .slice (some ⟨a1, 0, none⟩) 1 1, .int .i64 2, .slice (some ⟨a2, 0, none⟩) 1 1, .int .i64 3, .slice (some ⟨a3, 0, none⟩) 1 1, .int .i64 4, .slice (some ⟨a4, 0, none⟩) 2 2] 4 rfl rfl (by omega) (fun q hq => by
        simp only [List.mem_cons, List.not_mem_nil, or_false] at hq
        rcases hq with rfl | rfl | rfl | rfl
        · exact HK1.out
        · exact HK2.out
        · exact HK3.out
        · exact HK4.out)
    have hb : Below W.heap.size W w9 := by rw [hw]; exact below_lit W _ _
    replace P1 := Lib.hid (P1.out.next hb)
    replace X2 := Lib.hid (X2.out.next hb)
    replace HBL := Lib.hid (HBL.out.trans (hb.mono HBL.out.size))
    have LL := Lib.hid hx
    clear hx hb hw
    refine hK.out _ _ X2.out (fun hHeld => ?_)
    clear hK K
    try simp only [Act.put, List.setIfInBounds_toArray, List.set_cons_zero, List.set_cons_succ]
    refine wpAnyH_ready (rs := [19]) (by kernel_rfl) (by simp) ?_
    refine AllReadyH.cons (o := ⟨some 108, .call _, _, _, _, _⟩) rfl (fun K hK => ?_) AllReadyH.nil
    go_simp
    rw [if_pos (by kernel_rfl)]
    go_at_call 13
    refine (refsame_tlv [⟨1, [2]⟩, ⟨2, [5]⟩, ⟨3, [1]⟩, ⟨4, [1, 44]⟩] 4 4 rfl rfl AP1 _ cP1 4 _ (P1.out.take 4 (by simp)) LL.out).mono ?_
    rintro e v ⟨rfl, hb⟩
    go_wp2_with fail
    replace P1 := Lib.hid (P1.out.next hb)
    replace X2 := Lib.hid (X2.out.next hb)
    replace LL := Lib.hid (LL.out.next hb)
    replace HBL := Lib.hid (HBL.out.trans (hb.mono HBL.out.size))
    clear hb
    refine hK.out _ _ X2.out (fun hHeld => ?_)
    clear hK K
    try simp only [Act.put, List.setIfInBounds_toArray, List.set_cons_zero, List.set_cons_succ]
    refine wpAnyH_take (i := 20) (oi := ⟨some 109, _, _, _, _, _⟩) (v := ?_) rfl (by kernel_rfl) (by kernel_rfl) (by kernel_rfl) (fun _ _ _ h => hP _ _ _ _ _ h) (Or.inl ⟨by rfl, ?_⟩) hHeld ?_
    rotate_left
    · intro w hSw
      go_simp
      first | done | with_reducible rfl
    try simp only [Act.put, List.setIfInBounds_toArray, List.set_cons_zero, List.set_cons_succ]
    refine wpAnyH_take (i := 21) (oi := ⟨some 110, _, _, _, _, _⟩) (v := ?_) rfl (by kernel_rfl) (by kernel_rfl) (by kernel_rfl) (fun _ _ _ h => hP _ _ _ _ _ h) (Or.inl ⟨by rfl, ?_⟩) hHeld ?_
    rotate_left
    · intro w hSw
      go_simp
      first | done | with_reducible rfl
    try simp only [Act.put, List.setIfInBounds_toArray, List.set_cons_zero, List.set_cons_succ]
    refine wpAnyH_take (i := 22) (oi := ⟨some 111, _, _, _, _, _⟩) (v := ?_) rfl (by kernel_rfl) (by kernel_rfl) (by kernel_rfl) (fun _ _ _ h => hP _ _ _ _ _ h) (Or.inl ⟨by rfl, ?_⟩) hHeld ?_
    rotate_left
    · intro w hSw
      go_simp
      first | done | with_reducible rfl
    try simp only [Act.put, List.setIfInBounds_toArray, List.set_cons_zero, List.set_cons_succ]
    refine wpAnyH_take (i := 23) (oi := ⟨some 112, _, _, _, _, _⟩) (v := ?_) rfl (by kernel_rfl) (by kernel_rfl) (by kernel_rfl) (fun _ _ _ h => hP _ _ _ _ _ h) (Or.inl ⟨by rfl, ?_⟩) hHeld ?_
    rotate_left
    · intro w hSw
      go_simp
      first | done | with_reducible rfl
    try simp only [Act.put, List.setIfInBounds_toArray, List.set_cons_zero, List.set_cons_succ]
    refine wpAnyH_take (i := 24) (oi := ⟨some 113, _, _, _, _, _⟩) (v := ?_) rfl (by kernel_rfl) (by kernel_rfl) (by kernel_rfl) (fun _ _ _ h => hP _ _ _ _ _ h) (Or.inl ⟨by rfl, ?_⟩) hHeld ?_
    rotate_left
    · intro w hSw
      go_simp
      first | done | with_reducible rfl
    try simp only [Act.put, List.setIfInBounds_toArray, List.set_cons_zero, List.set_cons_succ]
    refine wpAnyH_take (i := 25) (oi := ⟨some 114, _, _, _, _, _⟩) (v := ?_) rfl (by kernel_rfl) (by kernel_rfl) (by kernel_rfl) (fun _ _ _ h => hP _ _ _ _ _ h) (Or.inl ⟨by rfl, ?_⟩) hHeld ?_
    rotate_left
    · intro w hSw
      go_simp
      first | done | with_reducible rfl
    try simp only [Act.put, List.setIfInBounds_toArray, List.set_cons_zero, List.set_cons_succ]
    refine wpAnyH_take (i := 26) (oi := ⟨some 115, _, _, _, _, _⟩) (v := ?_) rfl (by kernel_rfl) (by kernel_rfl) (by kernel_rfl) (fun _ _ _ h => hP _ _ _ _ _ h) (Or.inl ⟨by rfl, ?_⟩) hHeld ?_
    rotate_left
    · intro w hSw
      go_simp
      first | done | with_reducible rfl
    try simp only [Act.put, List.setIfInBounds_toArray, List.set_cons_zero, List.set_cons_succ]
    refine wpAnyH_take (i := 27) (oi := ⟨some 116, _, _, _, _, _⟩) (v := ?_) rfl (by kernel_rfl) (by kernel_rfl) (by kernel_rfl) (fun _ _ _ h => hP _ _ _ _ _ h) (Or.inl ⟨by rfl, ?_⟩) hHeld ?_
    rotate_left
    · intro w hSw
      obtain ⟨c0, c1, c2, c3, c4, c5, c6, c7, c8, c9, c10, c11, c12, c13, c14⟩ := RBox.cells hSw
      go_simp
      first | done | with_reducible rfl
    try simp only [Act.put, List.setIfInBounds_toArray, List.set_cons_zero, List.set_cons_succ]
    refine wpAnyH_ready (rs := [28]) (by kernel_rfl) (by simp) ?_
    refine AllReadyH.cons (o := ⟨some 117, .call _, _, _, _, _⟩) rfl (fun K hK => ?_) AllReadyH.nil
    go_simp
    rw [if_pos (by kernel_rfl)]
    go_at_call 30
    refine (plain18_any q0 HQ0.out _).mono ?_
    rintro e v ⟨rfl, hb⟩
    go_wp2_with fail
    replace P1 := Lib.hid (P1.out.next hb)
    replace X2 := Lib.hid (X2.out.next hb)
    replace LL := Lib.hid (LL.out.next hb)
    replace HBL := Lib.hid (HBL.out.trans (hb.mono HBL.out.size))
    clear hb
    refine hK.out _ _ X2.out (fun hHeld => ?_)
    clear hK K
    try simp only [Act.put, List.setIfInBounds_toArray, List.set_cons_zero, List.set_cons_succ]
    have heq := read_eq q0 q0
    rw [rgB_self] at heq
    refine wpAnyH_take (i := 29) (oi := ⟨some 118, _, _, _, _, _⟩) (v := .bool true) rfl (by kernel_rfl) (by kernel_rfl) (by kernel_rfl) (fun _ _ _ h => hP _ _ _ _ _ h) (Or.inl ⟨by rfl, ?_⟩) hHeld ?_
    · intro w hSw
      go_simp
      first | done | omega | (simp [heq]; done) | (simp; omega)
    try simp only [Act.put, List.setIfInBounds_toArray, List.set_cons_zero, List.set_cons_succ]
    refine wpAnyH_take (i := 30) (oi := ⟨some 119, _, _, _, _, _⟩) (v := ?_) rfl (by kernel_rfl) (by kernel_rfl) (by kernel_rfl) (fun _ _ _ h => hP _ _ _ _ _ h) (Or.inl ⟨by rfl, ?_⟩) hHeld ?_
    rotate_left
    · intro w hSw
      go_simp
      first | done | with_reducible rfl
    try simp only [Act.put, List.setIfInBounds_toArray, List.set_cons_zero, List.set_cons_succ]
    refine wpAnyH_take (i := 31) (oi := ⟨some 120, _, _, _, _, _⟩) (v := ?_) rfl (by kernel_rfl) (by kernel_rfl) (by kernel_rfl) (fun _ _ _ h => hP _ _ _ _ _ h) (Or.inl ⟨by rfl, ?_⟩) hHeld ?_
    rotate_left
    · intro w hSw
      go_simp
      first | done | with_reducible rfl
    try simp only [Act.put, List.setIfInBounds_toArray, List.set_cons_zero, List.set_cons_succ]
    refine wpAnyH_take (i := 32) (oi := ⟨some 121, _, _, _, _, _⟩) (v := ?_) rfl (by kernel_rfl) (by kernel_rfl) (by kernel_rfl) (fun _ _ _ h => hP _ _ _ _ _ h) (Or.inl ⟨by rfl, ?_⟩) hHeld ?_
    rotate_left
    · intro w hSw
      go_simp
      first | done | with_reducible rfl
    try simp only [Act.put, List.setIfInBounds_toArray, List.set_cons_zero, List.set_cons_succ]
    refine wpAnyH_take (i := 33) (oi := ⟨some 122, _, _, _, _, _⟩) (v := ?_) rfl (by kernel_rfl) (by kernel_rfl) (by kernel_rfl) (fun _ _ _ h => hP _ _ _ _ _ h) (Or.inl ⟨by rfl, ?_⟩) hHeld ?_
    rotate_left
    · intro w hSw
      go_simp
      first | done | with_reducible rfl
    try simp only [Act.put, List.setIfInBounds_toArray, List.set_cons_zero, List.set_cons_succ]
    refine wpAnyH_take (i := 34) (oi := ⟨some 123, _, _, _, _, _⟩) (v := ?_) rfl (by kernel_rfl) (by kernel_rfl) (by kernel_rfl) (fun _ _ _ h => hP _ _ _ _ _ h) (Or.inl ⟨by rfl, ?_⟩) hHeld ?_
    rotate_left
    · intro w hSw
      go_simp
      first | done | with_reducible rfl
    try simp only [Act.put, List.setIfInBounds_toArray, List.set_cons_zero, List.set_cons_succ]
    refine wpAnyH_take (i := 35) (oi := ⟨some 124, _, _, _, _, _⟩) (v := ?_) rfl (by kernel_rfl) (by kernel_rfl) (by kernel_rfl) (fun _ _ _ h => hP _ _ _ _ _ h) (Or.inl ⟨by rfl, ?_⟩) hHeld ?_
    rotate_left
    · intro w hSw
      go_simp
      first | done | with_reducible rfl
    try simp only [Act.put, List.setIfInBounds_toArray, List.set_cons_zero, List.set_cons_succ]
    refine wpAnyH_take (i := 36) (oi := ⟨some 125, _, _, _, _, _⟩) (v := ?_) rfl (by kernel_rfl) (by kernel_rfl) (by kernel_rfl) (fun _ _ _ h => hP _ _ _ _ _ h) (Or.inl ⟨by rfl, ?_⟩) hHeld ?_
    rotate_left
    · intro w hSw
      go_simp
      first | done | with_reducible rfl
    try simp only [Act.put, List.setIfInBounds_toArray, List.set_cons_zero, List.set_cons_succ]
    refine wpAnyH_take (i := 37) (oi := ⟨some 126, _, _, _, _, _⟩) (v := ?_) rfl (by kernel_rfl) (by kernel_rfl) (by kernel_rfl) (fun _ _ _ h => hP _ _ _ _ _ h) (Or.inl ⟨by rfl, ?_⟩) hHeld ?_
    rotate_left
    · intro w hSw
      go_simp
      first | done | with_reducible rfl
    try simp only [Act.put, List.setIfInBounds_toArray, List.set_cons_zero, List.set_cons_succ]
    refine wpAnyH_take (i := 38) (oi := ⟨some 127, _, _, _, _, _⟩) (v := ?_) rfl (by kernel_rfl) (by kernel_rfl) (by kernel_rfl) (fun _ _ _ h => hP _ _ _ _ _ h) (Or.inl ⟨by rfl, ?_⟩) hHeld ?_
    rotate_left
    · intro w hSw
      go_simp
      first | done | with_reducible rfl
    try simp only [Act.put, List.setIfInBounds_toArray, List.set_cons_zero, List.set_cons_succ]
    refine wpAnyH_take (i := 39) (oi := ⟨some 128, _, _, _, _, _⟩) (v := ?_) rfl (by kernel_rfl) (by kernel_rfl) (by kernel_rfl) (fun _ _ _ h => hP _ _ _ _ _ h) (Or.inl ⟨by rfl, ?_⟩) hHeld ?_
    rotate_left
    · intro w hSw
      go_simp
      first | done | with_reducible rfl
    try simp only [Act.put, List.setIfInBounds_toArray, List.set_cons_zero, List.set_cons_succ]
    refine wpAnyH_take (i := 40) (oi := ⟨some 129, _, _, _, _, _⟩) (v := ?_) rfl (by kernel_rfl) (by kernel_rfl) (by kernel_rfl) (fun _ _ _ h => hP _ _ _ _ _ h) (Or.inl ⟨by rfl, ?_⟩) hHeld ?_
    rotate_left
    · intro w hSw
      go_simp
      first | done | with_reducible rfl
    try simp only [Act.put, List.setIfInBounds_toArray, List.set_cons_zero, List.set_cons_succ]
    refine wpAnyH_take (i := 41) (oi := ⟨some 130, _, _, _, _, _⟩) (v := ?_) rfl (by kernel_rfl) (by kernel_rfl) (by kernel_rfl) (fun _ _ _ h => hP _ _ _ _ _ h) (Or.inl ⟨by rfl, ?_⟩) hHeld ?_
    rotate_left
    · intro w hSw
      go_simp
      first | done | with_reducible rfl
    try simp only [Act.put, List.setIfInBounds_toArray, List.set_cons_zero, List.set_cons_succ]
    refine wpAnyH_take (i := 42) (oi := ⟨some 131, _, _, _, _, _⟩) (v := ?_) rfl (by kernel_rfl) (by kernel_rfl) (by kernel_rfl) (fun _ _ _ h => hP _ _ _ _ _ h) (Or.inl ⟨by rfl, ?_⟩) hHeld ?_
    rotate_left
    · intro w hSw
      go_simp
      first | done | with_reducible rfl
    try simp only [Act.put, List.setIfInBounds_toArray, List.set_cons_zero, List.set_cons_succ]
    refine wpAnyH_take (i := 43) (oi := ⟨some 132, _, _, _, _, _⟩) (v := ?_) rfl (by kernel_rfl) (by kernel_rfl) (by kernel_rfl) (fun _ _ _ h => hP _ _ _ _ _ h) (Or.inl ⟨by rfl, ?_⟩) hHeld ?_
    rotate_left
    · intro w hSw
      go_simp
      first | done | with_reducible rfl
    try simp only [Act.put, List.setIfInBounds_toArray, List.set_cons_zero, List.set_cons_succ]
    refine wpAnyH_take (i := 44) (oi := ⟨some 133, _, _, _, _, _⟩) (v := ?_) rfl (by kernel_rfl) (by kernel_rfl) (by kernel_rfl) (fun _ _ _ h => hP _ _ _ _ _ h) (Or.inl ⟨by rfl, ?_⟩) hHeld ?_
    rotate_left
    · intro w hSw
      go_simp
      first | done | with_reducible rfl
    try simp only [Act.put, List.setIfInBounds_toArray, List.set_cons_zero, List.set_cons_succ]
    refine wpAnyH_take (i := 45) (oi := ⟨some 134, _, _, _, _, _⟩) (v := ?_) rfl (by kernel_rfl) (by kernel_rfl) (by kernel_rfl) (fun _ _ _ h => hP _ _ _ _ _ h) (Or.inl ⟨by rfl, ?_⟩) hHeld ?_
    rotate_left
    · intro w hSw
      go_simp
      first | done | with_reducible rfl
    try simp only [Act.put, List.setIfInBounds_toArray, List.set_cons_zero, List.set_cons_succ]
    refine wpAnyH_take (i := 46) (oi := ⟨some 135, _, _, _, _, _⟩) (v := ?_) rfl (by kernel_rfl) (by kernel_rfl) (by kernel_rfl) (fun _ _ _ h => hP _ _ _ _ _ h) (Or.inl ⟨by rfl, ?_⟩) hHeld ?_
    rotate_left
    · intro w hSw
      go_simp
      first | done | with_reducible rfl
    try simp only [Act.put, List.setIfInBounds_toArray, List.set_cons_zero, List.set_cons_succ]
    refine wpAnyH_take (i := 47) (oi := ⟨some 136, _, _, _, _, _⟩) (v := ?_) rfl (by kernel_rfl) (by kernel_rfl) (by kernel_rfl) (fun _ _ _ h => hP _ _ _ _ _ h) (Or.inl ⟨by rfl, ?_⟩) hHeld ?_
    rotate_left
    · intro w hSw
      go_simp
      first | done | with_reducible rfl
    try simp only [Act.put, List.setIfInBounds_toArray, List.set_cons_zero, List.set_cons_succ]
    refine wpAnyH_take (i := 48) (oi := ⟨some 137, _, _, _, _, _⟩) (v := ?_) rfl (by kernel_rfl) (by kernel_rfl) (by kernel_rfl) (fun _ _ _ h => hP _ _ _ _ _ h) (Or.inl ⟨by rfl, ?_⟩) hHeld ?_
    rotate_left
    · intro w hSw
      go_simp
      first | done | with_reducible rfl
    try simp only [Act.put, List.setIfInBounds_toArray, List.set_cons_zero, List.set_cons_succ]
    refine wpAnyH_take (i := 49) (oi := ⟨some 138, _, _, _, _, _⟩) (v := ?_) rfl (by kernel_rfl) (by kernel_rfl) (by kernel_rfl) (fun _ _ _ h => hP _ _ _ _ _ h) (Or.inl ⟨by rfl, ?_⟩) hHeld ?_
    rotate_left
    · intro w hSw
      go_simp
      first | done | with_reducible rfl
    try simp only [Act.put, List.setIfInBounds_toArray, List.set_cons_zero, List.set_cons_succ]
    refine wpAnyH_take (i := 50) (oi := ⟨some 139, _, _, _, _, _⟩) (v := ?_) rfl (by kernel_rfl) (by kernel_rfl) (by kernel_rfl) (fun _ _ _ h => hP _ _ _ _ _ h) (Or.inl ⟨by rfl, ?_⟩) hHeld ?_
    rotate_left
    · intro w hSw
      go_simp
      first | done | with_reducible rfl
    try simp only [Act.put, List.setIfInBounds_toArray, List.set_cons_zero, List.set_cons_succ]
    refine wpAnyH_take (i := 51) (oi := ⟨some 140, _, _, _, _, _⟩) (v := ?_) rfl (by kernel_rfl) (by kernel_rfl) (by kernel_rfl) (fun _ _ _ h => hP _ _ _ _ _ h) (Or.inl ⟨by rfl, ?_⟩) hHeld ?_
    rotate_left
    · intro w hSw
      go_simp
      first | done | with_reducible rfl
    try simp only [Act.put, List.setIfInBounds_toArray, List.set_cons_zero, List.set_cons_succ]
    refine wpAnyH_take (i := 52) (oi := ⟨some 141, _, _, _, _, _⟩) (v := ?_) rfl (by kernel_rfl) (by kernel_rfl) (by kernel_rfl) (fun _ _ _ h => hP _ _ _ _ _ h) (Or.inl ⟨by rfl, ?_⟩) hHeld ?_
    rotate_left
    · intro w hSw
      go_simp
      first | done | with_reducible rfl
    try simp only [Act.put, List.setIfInBounds_toArray, List.set_cons_zero, List.set_cons_succ]
    refine wpAnyH_take (i := 53) (oi := ⟨some 142, _, _, _, _, _⟩) (v := ?_) rfl (by kernel_rfl) (by kernel_rfl) (by kernel_rfl) (fun _ _ _ h => hP _ _ _ _ _ h) (Or.inl ⟨by rfl, ?_⟩) hHeld ?_
    rotate_left
    · intro w hSw
      go_simp
      first | done | with_reducible rfl
    try simp only [Act.put, List.setIfInBounds_toArray, List.set_cons_zero, List.set_cons_succ]
    refine wpAnyH_take (i := 54) (oi := ⟨some 143, _, _, _, _, _⟩) (v := ?_) rfl (by kernel_rfl) (by kernel_rfl) (by kernel_rfl) (fun _ _ _ h => hP _ _ _ _ _ h) (Or.inl ⟨by rfl, ?_⟩) hHeld ?_
    rotate_left
    · intro w hSw
      go_simp
      first | done | with_reducible rfl
    try simp only [Act.put, List.setIfInBounds_toArray, List.set_cons_zero, List.set_cons_succ]
    refine wpAnyH_take (i := 55) (oi := ⟨some 144, _, _, _, _, _⟩) (v := ?_) rfl (by kernel_rfl) (by kernel_rfl) (by kernel_rfl) (fun _ _ _ h => hP _ _ _ _ _ h) (Or.inl ⟨by rfl, ?_⟩) hHeld ?_
    rotate_left
    · intro w hSw
      go_simp
      first | done | with_reducible rfl
    try simp only [Act.put, List.setIfInBounds_toArray, List.set_cons_zero, List.set_cons_succ]
    refine wpAnyH_take (i := 56) (oi := ⟨some 145, _, _, _, _, _⟩) (v := ?_) rfl (by kernel_rfl) (by kernel_rfl) (by kernel_rfl) (fun _ _ _ h => hP _ _ _ _ _ h) (Or.inl ⟨by rfl, ?_⟩) hHeld ?_
    rotate_left
    · intro w hSw
      go_simp
      first | done | with_reducible rfl
    try simp only [Act.put, List.setIfInBounds_toArray, List.set_cons_zero, List.set_cons_succ]
    refine wpAnyH_take (i := 57) (oi := ⟨some 146, _, _, _, _, _⟩) (v := ?_) rfl (by kernel_rfl) (by kernel_rfl) (by kernel_rfl) (fun _ _ _ h => hP _ _ _ _ _ h) (Or.inl ⟨by rfl, ?_⟩) hHeld ?_
    rotate_left
    · intro w hSw
      go_simp
      first | done | with_reducible rfl
    try simp only [Act.put, List.setIfInBounds_toArray, List.set_cons_zero, List.set_cons_succ]
    refine wpAnyH_take (i := 58) (oi := ⟨some 147, _, _, _, _, _⟩) (v := ?_) rfl (by kernel_rfl) (by kernel_rfl) (by kernel_rfl) (fun _ _ _ h => hP _ _ _ _ _ h) (Or.inl ⟨by rfl, ?_⟩) hHeld ?_
    rotate_left
    · intro w hSw
      go_simp
      first | done | with_reducible rfl
    try simp only [Act.put, List.setIfInBounds_toArray, List.set_cons_zero, List.set_cons_succ]
    refine wpAnyH_take (i := 59) (oi := ⟨some 148, _, _, _, _, _⟩) (v := ?_) rfl (by kernel_rfl) (by kernel_rfl) (by kernel_rfl) (fun _ _ _ h => hP _ _ _ _ _ h) (Or.inl ⟨by rfl, ?_⟩) hHeld ?_
    rotate_left
    · intro w hSw
      go_simp
      first | done | with_reducible rfl
    try simp only [Act.put, List.setIfInBounds_toArray, List.set_cons_zero, List.set_cons_succ]
    refine wpAnyH_take (i := 60) (oi := ⟨some 149, _, _, _, _, _⟩) (v := ?_) rfl (by kernel_rfl) (by kernel_rfl) (by kernel_rfl) (fun _ _ _ h => hP _ _ _ _ _ h) (Or.inl ⟨by rfl, ?_⟩) hHeld ?_
    rotate_left
    · intro w hSw
      go_simp
      first | done | with_reducible rfl
    try simp only [Act.put, List.setIfInBounds_toArray, List.set_cons_zero, List.set_cons_succ]
    refine wpAnyH_take (i := 61) (oi := ⟨some 150, _, _, _, _, _⟩) (v := ?_) rfl (by kernel_rfl) (by kernel_rfl) (by kernel_rfl) (fun _ _ _ h => hP _ _ _ _ _ h) (Or.inl ⟨by rfl, ?_⟩) hHeld ?_
    rotate_left
    · intro w hSw
      go_simp
      first | done | with_reducible rfl
    try simp only [Act.put, List.setIfInBounds_toArray, List.set_cons_zero, List.set_cons_succ]
    refine wpAnyH_take (i := 62) (oi := ⟨some 151, _, _, _, _, _⟩) (v := ?_) rfl (by kernel_rfl) (by kernel_rfl) (by kernel_rfl) (fun _ _ _ h => hP _ _ _ _ _ h) (Or.inl ⟨by rfl, ?_⟩) hHeld ?_
    rotate_left
    · intro w hSw
      go_simp
      first | done | with_reducible rfl
    try simp only [Act.put, List.setIfInBounds_toArray, List.set_cons_zero, List.set_cons_succ]
    refine wpAnyH_take (i := 63) (oi := ⟨some 152, _, _, _, _, _⟩) (v := ?_) rfl (by kernel_rfl) (by kernel_rfl) (by kernel_rfl) (fun _ _ _ h => hP _ _ _ _ _ h) (Or.inl ⟨by rfl, ?_⟩) hHeld ?_
    rotate_left
    · intro w hSw
      go_simp
      first | done | with_reducible rfl
    try simp only [Act.put, List.setIfInBounds_toArray, List.set_cons_zero, List.set_cons_succ]
    refine wpAnyH_take (i := 64) (oi := ⟨some 153, _, _, _, _, _⟩) (v := ?_) rfl (by kernel_rfl) (by kernel_rfl) (by kernel_rfl) (fun _ _ _ h => hP _ _ _ _ _ h) (Or.inl ⟨by rfl, ?_⟩) hHeld ?_
    rotate_left
    · intro w hSw
      go_simp
      first | done | with_reducible rfl
    try simp only [Act.put, List.setIfInBounds_toArray, List.set_cons_zero, List.set_cons_succ]
    refine wpAnyH_take (i := 65) (oi := ⟨some 154, _, _, _, _, _⟩) (v := ?_) rfl (by kernel_rfl) (by kernel_rfl) (by kernel_rfl) (fun _ _ _ h => hP _ _ _ _ _ h) (Or.inl ⟨by rfl, ?_⟩) hHeld ?_
    rotate_left
    · intro w hSw
      go_simp
      first | done | with_reducible rfl
    try simp only [Act.put, List.setIfInBounds_toArray, List.set_cons_zero, List.set_cons_succ]
    refine wpAnyH_take (i := 66) (oi := ⟨some 155, _, _, _, _, _⟩) (v := ?_) rfl (by kernel_rfl) (by kernel_rfl) (by kernel_rfl) (fun _ _ _ h => hP _ _ _ _ _ h) (Or.inl ⟨by rfl, ?_⟩) hHeld ?_
    rotate_left
    · intro w hSw
      go_simp
      first | done | with_reducible rfl
    try simp only [Act.put, List.setIfInBounds_toArray, List.set_cons_zero, List.set_cons_succ]
    refine wpAnyH_take (i := 67) (oi := ⟨some 156, _, _, _, _, _⟩) (v := ?_) rfl (by kernel_rfl) (by kernel_rfl) (by kernel_rfl) (fun _ _ _ h => hP _ _ _ _ _ h) (Or.inl ⟨by rfl, ?_⟩) hHeld ?_
    rotate_left
    · intro w hSw
      go_simp
      first | done | with_reducible rfl
    try simp only [Act.put, List.setIfInBounds_toArray, List.set_cons_zero, List.set_cons_succ]
    refine wpAnyH_take (i := 68) (oi := ⟨some 157, _, _, _, _, _⟩) (v := ?_) rfl (by kernel_rfl) (by kernel_rfl) (by kernel_rfl) (fun _ _ _ h => hP _ _ _ _ _ h) (Or.inl ⟨by rfl, ?_⟩) hHeld ?_
    rotate_left
    · intro w hSw
      go_simp
      first | done | with_reducible rfl
    try simp only [Act.put, List.setIfInBounds_toArray, List.set_cons_zero, List.set_cons_succ]
    refine wpAnyH_take (i := 69) (oi := ⟨some 158, _, _, _, _, _⟩) (v := ?_) rfl (by kernel_rfl) (by kernel_rfl) (by kernel_rfl) (fun _ _ _ h => hP _ _ _ _ _ h) (Or.inl ⟨by rfl, ?_⟩) hHeld ?_
    rotate_left
    · intro w hSw
      go_simp
      first | done | with_reducible rfl
    try simp only [Act.put, List.setIfInBounds_toArray, List.set_cons_zero, List.set_cons_succ]
    refine wpAnyH_take (i := 70) (oi := ⟨some 0, _, _, _, _, _⟩) (v := ?_) rfl (by kernel_rfl) (by kernel_rfl) (by kernel_rfl) (fun _ _ _ h => hP _ _ _ _ _ h) (Or.inl ⟨by rfl, ?_⟩) hHeld ?_
    rotate_left
    · intro w hSw
      go_simp
      first | done | with_reducible rfl
    try simp only [Act.put, List.setIfInBounds_toArray, List.set_cons_zero]
    refine wpAnyH_done (by kernel_rfl) ?_ _
    apply HE.out
    exact HBL.out
  try simp only [Act.put, List.setIfInBounds_toArray, List.set_cons_zero, List.set_cons_succ] at H1234
  refine held_once 55 #[true, true, true, true, true, true, true, true, true, true, true, true, true, true, true, true, false, false, false, false, false, false, false, false, false, false, false, false, false, false, false, false, false, false, false, false, false, false, false, false, false, false, false, false, false, false, false, false, false, false, false, false, false, false, false, false, false, false, false, false, false, false, false, false, false, false, false, false, false, false, false] (fun a v1 v2 v3 v4 => ((((((a.put (some 99) v1).put (some 100) (.agg #[.int .i64 1, v1])).put (some 101) v2).put (some 102) (.agg #[.int .i64 2, v2])).put (some 103) v3).put (some 104) (.agg #[.int .i64 3, v3]))) (fun v1 v2 v3 v4 W => Below wd.heap.size wd W ∧ Laid18 W [2] v1 ∧ Laid18 W [5] v2 ∧ Laid18 W [1] v3) ?_ (fun H123 => ?_)
  · intro v1 v2 v3 v4 W hF
    obtain ⟨HB, g1, g2, g3⟩ := hF
    have hHeld : RBox W B2 q0 := X2.out.next HB
    try simp only [Act.put, List.setIfInBounds_toArray, List.set_cons_zero, List.set_cons_succ]
    refine wpAnyH_ready (rs := [16]) (by kernel_rfl) (by simp) ?_
    refine AllReadyH.cons (o := ⟨some 105, _, _, _, _, _⟩) rfl (fun K hK => ?_) AllReadyH.nil
    go_simp
    have hb : Below W.heap.size W (W.alloc (.cells #[.int .u8 1, .int .u8 44] 5)) := below_lit W _ _
    have hl := laid18 W [1, 44] 2 #[.int .u8 1, .int .u8 44] rfl rfl (by omega) (by decide)
    refine hK.out _ _ (X2.out.next (HB.trans (hb.mono HB.size))) (fun hHeld => ?_)
    clear hK K
    try simp only [Act.put, List.setIfInBounds_toArray, List.set_cons_zero, List.set_cons_succ]
    refine wpAnyH_take (i := 17) (oi := ⟨some 106, _, _, _, _, _⟩) (v := ?_) rfl (by kernel_rfl) (by kernel_rfl) (by kernel_rfl) (fun _ _ _ h => hP _ _ _ _ _ h) (Or.inl ⟨by rfl, ?_⟩) hHeld ?_
    rotate_left
    · intro w hSw
      go_simp
      first | done | with_reducible rfl
    try simp only [Act.put, List.setIfInBounds_toArray, List.set_cons_zero, List.set_cons_succ]
    exact H1234 v1 v2 v3 (.slice (some ⟨W.heap.size, 0, none⟩) 2 2) _ ⟨(HB.trans (hb.mono HB.size)), (g1.next hb), (g2.next hb), (g3.next hb), hl⟩
  try simp only [Act.put, List.setIfInBounds_toArray, List.set_cons_zero, List.set_cons_succ] at H123
  refine held_once 55 #[true, true, true, true, true, true, true, true, true, true, true, true, true, true, false, false, true, true, false, false, false, false, false, false, false, false, false, false, false, false, false, false, false, false, false, false, false, false, false, false, false, false, false, false, false, false, false, false, false, false, false, false, false, false, false, false, false, false, false, false, false, false, false, false, false, false, false, false, false, false, false] (fun a v1 v2 v3 v4 => ((((((a.put (some 99) v1).put (some 100) (.agg #[.int .i64 1, v1])).put (some 101) v2).put (some 102) (.agg #[.int .i64 2, v2])).put (some 105) v4).put (some 106) (.agg #[.int .i64 4, v4]))) (fun v1 v2 v3 v4 W => Below wd.heap.size wd W ∧ Laid18 W [2] v1 ∧ Laid18 W [5] v2 ∧ Laid18 W [1, 44] v4) ?_ (fun H124 => ?_)
  · intro v1 v2 v3 v4 W hF
    obtain ⟨HB, g1, g2, g4⟩ := hF
    have hHeld : RBox W B2 q0 := X2.out.next HB
    try simp only [Act.put, List.setIfInBounds_toArray, List.set_cons_zero, List.set_cons_succ]
    refine wpAnyH_ready (rs := [14]) (by kernel_rfl) (by simp) ?_
    refine AllReadyH.cons (o := ⟨some 103, _, _, _, _, _⟩) rfl (fun K hK => ?_) AllReadyH.nil
    go_simp
    have hb : Below W.heap.size W (W.alloc (.cells #[.int .u8 1] 5)) := below_lit W _ _
    have hl := laid18 W [1] 1 #[.int .u8 1] rfl rfl (by omega) (by decide)
    refine hK.out _ _ (X2.out.next (HB.trans (hb.mono HB.size))) (fun hHeld => ?_)
    clear hK K
    try simp only [Act.put, List.setIfInBounds_toArray, List.set_cons_zero, List.set_cons_succ]
    refine wpAnyH_take (i := 15) (oi := ⟨some 104, _, _, _, _, _⟩) (v := ?_) rfl (by kernel_rfl) (by kernel_rfl) (by kernel_rfl) (fun _ _ _ h => hP _ _ _ _ _ h) (Or.inl ⟨by rfl, ?_⟩) hHeld ?_
    rotate_left
    · intro w hSw
      go_simp
      first | done | with_reducible rfl
    try simp only [Act.put, List.setIfInBounds_toArray, List.set_cons_zero, List.set_cons_succ]
    exact H1234 v1 v2 (.slice (some ⟨W.heap.size, 0, none⟩) 1 1) v4 _ ⟨(HB.trans (hb.mono HB.size)), (g1.next hb), (g2.next hb), hl, (g4.next hb)⟩
  try simp only [Act.put, List.setIfInBounds_toArray, List.set_cons_zero, List.set_cons_succ] at H124
  refine held_once 55 #[true, true, true, true, true, true, true, true, true, true, true, true, false, false, true, true, true, true, false, false, false, false, false, false, false, false, false, false, false, false, false, false, false, false, false, false, false, false, false, false, false, false, false, false, false, false, false, false, false, false, false, false, false, false, false, false, false, false, false, false, false, false, false, false, false, false, false, false, false, false, false] (fun a v1 v2 v3 v4 => ((((((a.put (some 99) v1).put (some 100) (.agg #[.int .i64 1, v1])).put (some 103) v3).put (some 104) (.agg #[.int .i64 3, v3])).put (some 105) v4).put (some 106) (.agg #[.int .i64 4, v4]))) (fun v1 v2 v3 v4 W => Below wd.heap.size wd W ∧ Laid18 W [2] v1 ∧ Laid18 W [1] v3 ∧ Laid18 W [1, 44] v4) ?_ (fun H134 => ?_)
  · intro v1 v2 v3 v4 W hF
    obtain ⟨HB, g1, g3, g4⟩ := hF
    have hHeld : RBox W B2 q0 := X2.out.next HB
    try simp only [Act.put, List.setIfInBounds_toArray, List.set_cons_zero, List.set_cons_succ]
    refine wpAnyH_ready (rs := [12]) (by kernel_rfl) (by simp) ?_
    refine AllReadyH.cons (o := ⟨some 101, _, _, _, _, _⟩) rfl (fun K hK => ?_) AllReadyH.nil
    go_simp
    have hb : Below W.heap.size W (W.alloc (.cells #[.int .u8 5] 5)) := below_lit W _ _
    have hl := laid18 W [5] 1 #[.int .u8 5] rfl rfl (by omega) (by decide)
    refine hK.out _ _ (X2.out.next (HB.trans (hb.mono HB.size))) (fun hHeld => ?_)
    clear hK K
    try simp only [Act.put, List.setIfInBounds_toArray, List.set_cons_zero, List.set_cons_succ]
    refine wpAnyH_take (i := 13) (oi := ⟨some 102, _, _, _, _, _⟩) (v := ?_) rfl (by kernel_rfl) (by kernel_rfl) (by kernel_rfl) (fun _ _ _ h => hP _ _ _ _ _ h) (Or.inl ⟨by rfl, ?_⟩) hHeld ?_
    rotate_left
    · intro w hSw
      go_simp
      first | done | with_reducible rfl
    try simp only [Act.put, List.setIfInBounds_toArray, List.set_cons_zero, List.set_cons_succ]
    exact H1234 v1 (.slice (some ⟨W.heap.size, 0, none⟩) 1 1) v3 v4 _ ⟨(HB.trans (hb.mono HB.size)), (g1.next hb), hl, (g3.next hb), (g4.next hb)⟩
  try simp only [Act.put, List.setIfInBounds_toArray, List.set_cons_zero, List.set_cons_succ] at H134
  refine held_once 55 #[true, true, true, true, true, true, true, true, true, true, false, false, true, true, true, true, true, true, false, false, false, false, false, false, false, false, false, false, false, false, false, false, false, false, false, false, false, false, false, false, false, false, false, false, false, false, false, false, false, false, false, false, false, false, false, false, false, false, false, false, false, false, false, false, false, false, false, false, false, false, false] (fun a v1 v2 v3 v4 => ((((((a.put (some 101) v2).put (some 102) (.agg #[.int .i64 2, v2])).put (some 103) v3).put (some 104) (.agg #[.int .i64 3, v3])).put (some 105) v4).put (some 106) (.agg #[.int .i64 4, v4]))) (fun v1 v2 v3 v4 W => Below wd.heap.size wd W ∧ Laid18 W [5] v2 ∧ Laid18 W [1] v3 ∧ Laid18 W [1, 44] v4) ?_ (fun H234 => ?_)
  · intro v1 v2 v3 v4 W hF
    obtain ⟨HB, g2, g3, g4⟩ := hF
    have hHeld : RBox W B2 q0 := X2.out.next HB
    try simp only [Act.put, List.setIfInBounds_toArray, List.set_cons_zero, List.set_cons_succ]
    refine wpAnyH_ready (rs := [10]) (by kernel_rfl) (by simp) ?_
    refine AllReadyH.cons (o := ⟨some 99, _, _, _, _, _⟩) rfl (fun K hK => ?_) AllReadyH.nil
    go_simp
    have hb : Below W.heap.size W (W.alloc (.cells #[.int .u8 2] 5)) := below_lit W _ _
    have hl := laid18 W [2] 1 #[.int .u8 2] rfl rfl (by omega) (by decide)
    refine hK.out _ _ (X2.out.next (HB.trans (hb.mono HB.size))) (fun hHeld => ?_)
    clear hK K
    try simp only [Act.put, List.setIfInBounds_toArray, List.set_cons_zero, List.set_cons_succ]
    refine wpAnyH_take (i := 11) (oi := ⟨some 100, _, _, _, _, _⟩) (v := ?_) rfl (by kernel_rfl) (by kernel_rfl) (by kernel_rfl) (fun _ _ _ h => hP _ _ _ _ _ h) (Or.inl ⟨by rfl, ?_⟩) hHeld ?_
    rotate_left
    · intro w hSw
      go_simp
      first | done | with_reducible rfl
    try simp only [Act.put, List.setIfInBounds_toArray, List.set_cons_zero, List.set_cons_succ]
    exact H1234 (.slice (some ⟨W.heap.size, 0, none⟩) 1 1) v2 v3 v4 _ ⟨(HB.trans (hb.mono HB.size)), hl, (g2.next hb), (g3.next hb), (g4.next hb)⟩
  try simp only [Act.put, List.setIfInBounds_toArray, List.set_cons_zero, List.set_cons_succ] at H234
  refine held_once 57 #[true, true, true, true, true, true, true, true, true, true, true, true, true, true, false, false, false, false, false, false, false, false, false, false, false, false, false, false, false, false, false, false, false, false, false, false, false, false, false, false, false, false, false, false, false, false, false, false, false, false, false, false, false, false, false, false, false, false, false, false, false, false, false, false, false, false, false, false, false, false, false] (fun a v1 v2 v3 v4 => ((((a.put (some 99) v1).put (some 100) (.agg #[.int .i64 1, v1])).put (some 101) v2).put (some 102) (.agg #[.int .i64 2, v2]))) (fun v1 v2 v3 v4 W => Below wd.heap.size wd W ∧ Laid18 W [2] v1 ∧ Laid18 W [5] v2) ?_ (fun H12 => ?_)
  · intro v1 v2 v3 v4 W hF
    obtain ⟨HB, g1, g2⟩ := hF
    have hHeld : RBox W B2 q0 := X2.out.next HB
    try simp only [Act.put, List.setIfInBounds_toArray, List.set_cons_zero, List.set_cons_succ]
    refine wpAnyH_ready (rs := [14, 16]) (by kernel_rfl) (by simp) ?_
    refine AllReadyH.cons (o := ⟨some 103, _, _, _, _, _⟩) rfl (fun K hK => ?_) ?_
    · go_simp
      have hb : Below W.heap.size W (W.alloc (.cells #[.int .u8 1] 5)) := below_lit W _ _
      have hl := laid18 W [1] 1 #[.int .u8 1] rfl rfl (by omega) (by decide)
      refine hK.out _ _ (X2.out.next (HB.trans (hb.mono HB.size))) (fun hHeld => ?_)
      clear hK K
      try simp only [Act.put, List.setIfInBounds_toArray, List.set_cons_zero, List.set_cons_succ]
      refine wpAnyH_take (i := 15) (oi := ⟨some 104, _, _, _, _, _⟩) (v := ?_) rfl (by kernel_rfl) (by kernel_rfl) (by kernel_rfl) (fun _ _ _ h => hP _ _ _ _ _ h) (Or.inl ⟨by rfl, ?_⟩) hHeld ?_
      rotate_left
      · intro w hSw
        go_simp
        first | done | with_reducible rfl
      try simp only [Act.put, List.setIfInBounds_toArray, List.set_cons_zero, List.set_cons_succ]
      exact H123 v1 v2 (.slice (some ⟨W.heap.size, 0, none⟩) 1 1) undef _ ⟨(HB.trans (hb.mono HB.size)), (g1.next hb), (g2.next hb), hl⟩
    refine AllReadyH.cons (o := ⟨some 105, _, _, _, _, _⟩) rfl (fun K hK => ?_) AllReadyH.nil
    go_simp
    have hb : Below W.heap.size W (W.alloc (.cells #[.int .u8 1, .int .u8 44] 5)) := below_lit W _ _
    have hl := laid18 W [1, 44] 2 #[.int .u8 1, .int .u8 44] rfl rfl (by omega) (by decide)
    refine hK.out _ _ (X2.out.next (HB.trans (hb.mono HB.size))) (fun hHeld => ?_)
    clear hK K
    try simp only [Act.put, List.setIfInBounds_toArray, List.set_cons_zero, List.set_cons_succ]
    refine wpAnyH_take (i := 17) (oi := ⟨some 106, _, _, _, _, _⟩) (v := ?_) rfl (by kernel_rfl) (by kernel_rfl) (by kernel_rfl) (fun _ _ _ h => hP _ _ _ _ _ h) (Or.inl ⟨by rfl, ?_⟩) hHeld ?_
    rotate_left
    · intro w hSw
      go_simp
      first | done | with_reducible rfl
    try simp only [Act.put, List.setIfInBounds_toArray, List.set_cons_zero, List.set_cons_succ]
    exact H124 v1 v2 undef (.slice (some ⟨W.heap.size, 0, none⟩) 2 2) _ ⟨(HB.trans (hb.mono HB.size)), (g1.next hb), (g2.next hb), hl⟩
  try simp only [Act.put, List.setIfInBounds_toArray, List.set_cons_zero, List.set_cons_succ] at H12
  refine held_once 57 #[true, true, true, true, true, true, true, true, true, true, true, true, false, false, true, true, false, false, false, false, false, false, false, false, false, false, false, false, false, false, false, false, false, false, false, false, false, false, false, false, false, false, false, false, false, false, false, false, false, false, false, false, false, false, false, false, false, false, false, false, false, false, false, false, false, false, false, false, false, false, false] (fun a v1 v2 v3 v4 => ((((a.put (some 99) v1).put (some 100) (.agg #[.int .i64 1, v1])).put (some 103) v3).put (some 104) (.agg #[.int .i64 3, v3]))) (fun v1 v2 v3 v4 W => Below wd.heap.size wd W ∧ Laid18 W [2] v1 ∧ Laid18 W [1] v3) ?_ (fun H13 => ?_)
  · intro v1 v2 v3 v4 W hF
    obtain ⟨HB, g1, g3⟩ := hF
    have hHeld : RBox W B2 q0 := X2.out.next HB
    try simp only [Act.put, List.setIfInBounds_toArray, List.set_cons_zero, List.set_cons_succ]
    refine wpAnyH_ready (rs := [12, 16]) (by kernel_rfl) (by simp) ?_
    refine AllReadyH.cons (o := ⟨some 101, _, _, _, _, _⟩) rfl (fun K hK => ?_) ?_
    · go_simp
      have hb : Below W.heap.size W (W.alloc (.cells #[.int .u8 5] 5)) := below_lit W _ _
      have hl := laid18 W [5] 1 #[.int .u8 5] rfl rfl (by omega) (by decide)
      refine hK.out _ _ (X2.out.next (HB.trans (hb.mono HB.size))) (fun hHeld => ?_)
      clear hK K
      try simp only [Act.put, List.setIfInBounds_toArray, List.set_cons_zero, List.set_cons_succ]
      refine wpAnyH_take (i := 13) (oi := ⟨some 102, _, _, _, _, _⟩) (v := ?_) rfl (by kernel_rfl) (by kernel_rfl) (by kernel_rfl) (fun _ _ _ h => hP _ _ _ _ _ h) (Or.inl ⟨by rfl, ?_⟩) hHeld ?_
      rotate_left
      · intro w hSw
        go_simp
        first | done | with_reducible rfl
      try simp only [Act.put, List.setIfInBounds_toArray, List.set_cons_zero, List.set_cons_succ]
      exact H123 v1 (.slice (some ⟨W.heap.size, 0, none⟩) 1 1) v3 undef _ ⟨(HB.trans (hb.mono HB.size)), (g1.next hb), hl, (g3.next hb)⟩
    refine AllReadyH.cons (o := ⟨some 105, _, _, _, _, _⟩) rfl (fun K hK => ?_) AllReadyH.nil
    go_simp
    have hb : Below W.heap.size W (W.alloc (.cells #[.int .u8 1, .int .u8 44] 5)) := below_lit W _ _
    have hl := laid18 W [1, 44] 2 #[.int .u8 1, .int .u8 44] rfl rfl (by omega) (by decide)
    refine hK.out _ _ (X2.out.next (HB.trans (hb.mono HB.size))) (fun hHeld => ?_)
    clear hK K
    try simp only [Act.put, List.setIfInBounds_toArray, List.set_cons_zero, List.set_cons_succ]
    refine wpAnyH_take (i := 17) (oi := ⟨some 106, _, _, _, _, _⟩) (v := ?_) rfl (by kernel_rfl) (by kernel_rfl) (by kernel_rfl) (fun _ _ _ h => hP _ _ _ _ _ h) (Or.inl ⟨by rfl, ?_⟩) hHeld ?_
    rotate_left
    · intro w hSw
      go_simp
      first | done | with_reducible rfl
    try simp only [Act.put, List.setIfInBounds_toArray, List.set_cons_zero, List.set_cons_succ]
    exact H134 v1 undef v3 (.slice (some ⟨W.heap.size, 0, none⟩) 2 2) _ ⟨(HB.trans (hb.mono HB.size)), (g1.next hb), (g3.next hb), hl⟩
  try simp only [Act.put, List.setIfInBounds_toArray, List.set_cons_zero, List.set_cons_succ] at H13
  refine held_once 57 #[true, true, true, true, true, true, true, true, true, true, true, true, false, false, false, false, true, true, false, false, false, false, false, false, false, false, false, false, false, false, false, false, false, false, false, false, false, false, false, false, false, false, false, false, false, false, false, false, false, false, false, false, false, false, false, false, false, false, false, false, false, false, false, false, false, false, false, false, false, false, false] (fun a v1 v2 v3 v4 => ((((a.put (some 99) v1).put (some 100) (.agg #[.int .i64 1, v1])).put (some 105) v4).put (some 106) (.agg #[.int .i64 4, v4]))) (fun v1 v2 v3 v4 W => Below wd.heap.size wd W ∧ Laid18 W [2] v1 ∧ Laid18 W [1, 44] v4) ?_ (fun H14 => ?_)
  · intro v1 v2 v3 v4 W hF
    obtain ⟨HB, g1, g4⟩ := hF
    have hHeld : RBox W B2 q0 := X2.out.next HB
    try simp only [Act.put, List.setIfInBounds_toArray, List.set_cons_zero, List.set_cons_succ]
    refine wpAnyH_ready (rs := [12, 14]) (by kernel_rfl) (by simp) ?_
    refine AllReadyH.cons (o := ⟨some 101, _, _, _, _, _⟩) rfl (fun K hK => ?_) ?_
    · go_simp
      have hb : Below W.heap.size W (W.alloc (.cells #[.int .u8 5] 5)) := below_lit W _ _
      have hl := laid18 W [5] 1 #[.int .u8 5] rfl rfl (by omega) (by decide)
      refine hK.out _ _ (X2.out.next (HB.trans (hb.mono HB.size))) (fun hHeld => ?_)
      clear hK K
      try simp only [Act.put, List.setIfInBounds_toArray, List.set_cons_zero, List.set_cons_succ]
      refine wpAnyH_take (i := 13) (oi := ⟨some 102, _, _, _, _, _⟩) (v := ?_) rfl (by kernel_rfl) (by kernel_rfl) (by kernel_rfl) (fun _ _ _ h => hP _ _ _ _ _ h) (Or.inl ⟨by rfl, ?_⟩) hHeld ?_
      rotate_left
      · intro w hSw
        go_simp
        first | done | with_reducible rfl
      try simp only [Act.put, List.setIfInBounds_toArray, List.set_cons_zero, List.set_cons_succ]
      exact H124 v1 (.slice (some ⟨W.heap.size, 0, none⟩) 1 1) undef v4 _ ⟨(HB.trans (hb.mono HB.size)), (g1.next hb), hl, (g4.next hb)⟩
    refine AllReadyH.cons (o := ⟨some 103, _, _, _, _, _⟩) rfl (fun K hK => ?_) AllReadyH.nil
    go_simp
    have hb : Below W.heap.size W (W.alloc (.cells #[.int .u8 1] 5)) := below_lit W _ _
    have hl := laid18 W [1] 1 #[.int .u8 1] rfl rfl (by omega) (by decide)
    refine hK.out _ _ (X2.out.next (HB.trans (hb.mono HB.size))) (fun hHeld => ?_)
    clear hK K
    try simp only [Act.put, List.setIfInBounds_toArray, List.set_cons_zero, List.set_cons_succ]
    refine wpAnyH_take (i := 15) (oi := ⟨some 104, _, _, _, _, _⟩) (v := ?_) rfl (by kernel_rfl) (by kernel_rfl) (by kernel_rfl) (fun _ _ _ h => hP _ _ _ _ _ h) (Or.inl ⟨by rfl, ?_⟩) hHeld ?_
    rotate_left
    · intro w hSw
      go_simp
      first | done | with_reducible rfl
    try simp only [Act.put, List.setIfInBounds_toArray, List.set_cons_zero, List.set_cons_succ]
    exact H134 v1 undef (.slice (some ⟨W.heap.size, 0, none⟩) 1 1) v4 _ ⟨(HB.trans (hb.mono HB.size)), (g1.next hb), hl, (g4.next hb)⟩
  try simp only [Act.put, List.setIfInBounds_toArray, List.set_cons_zero, List.set_cons_succ] at H14
  refine held_once 57 #[true, true, true, true, true, true, true, true, true, true, false, false, true, true, true, true, false, false, false, false, false, false, false, false, false, false, false, false, false, false, false, false, false, false, false, false, false, false, false, false, false, false, false, false, false, false, false, false, false, false, false, false, false, false, false, false, false, false, false, false, false, false, false, false, false, false, false, false, false, false, false] (fun a v1 v2 v3 v4 => ((((a.put (some 101) v2).put (some 102) (.agg #[.int .i64 2, v2])).put (some 103) v3).put (some 104) (.agg #[.int .i64 3, v3]))) (fun v1 v2 v3 v4 W => Below wd.heap.size wd W ∧ Laid18 W [5] v2 ∧ Laid18 W [1] v3) ?_ (fun H23 => ?_)
  · intro v1 v2 v3 v4 W hF
    obtain ⟨HB, g2, g3⟩ := hF
    have hHeld : RBox W B2 q0 := X2.out.next HB
    try simp only [Act.put, List.setIfInBounds_toArray, List.set_cons_zero, List.set_cons_succ]
    refine wpAnyH_ready (rs := [10, 16]) (by kernel_rfl) (by simp) ?_
    refine AllReadyH.cons (o := ⟨some 99, _, _, _, _, _⟩) rfl (fun K hK => ?_) ?_
    · go_simp
      have hb : Below W.heap.size W (W.alloc (.cells #[.int .u8 2] 5)) := below_lit W _ _
      have hl := laid18 W [2] 1 #[.int .u8 2] rfl rfl (by omega) (by decide)
      refine hK.out _ _ (X2.out.next (HB.trans (hb.mono HB.size))) (fun hHeld => ?_)
      clear hK K
      try simp only [Act.put, List.setIfInBounds_toArray, List.set_cons_zero, List.set_cons_succ]
      refine wpAnyH_take (i := 11) (oi := ⟨some 100, _, _, _, _, _⟩) (v := ?_) rfl (by kernel_rfl) (by kernel_rfl) (by kernel_rfl) (fun _ _ _ h => hP _ _ _ _ _ h) (Or.inl ⟨by rfl, ?_⟩) hHeld ?_
      rotate_left
      · intro w hSw
        go_simp
        first | done | with_reducible rfl
      try simp only [Act.put, List.setIfInBounds_toArray, List.set_cons_zero, List.set_cons_succ]
      exact H123 (.slice (some ⟨W.heap.size, 0, none⟩) 1 1) v2 v3 undef _ ⟨(HB.trans (hb.mono HB.size)), hl, (g2.next hb), (g3.next hb)⟩
    refine AllReadyH.cons (o := ⟨some 105, _, _, _, _, _⟩) rfl (fun K hK => ?_) AllReadyH.nil
    go_simp
    have hb : Below W.heap.size W (W.alloc (.cells #[.int .u8 1, .int .u8 44] 5)) := below_lit W _ _
    have hl := laid18 W [1, 44] 2 #[.int .u8 1, .int .u8 44] rfl rfl (by omega) (by decide)
    refine hK.out _ _ (X2.out.next (HB.trans (hb.mono HB.size))) (fun hHeld => ?_)
    clear hK K
    try simp only [Act.put, List.setIfInBounds_toArray, List.set_cons_zero, List.set_cons_succ]
    refine wpAnyH_take (i := 17) (oi := ⟨some 106, _, _, _, _, _⟩) (v := ?_) rfl (by kernel_rfl) (by kernel_rfl) (by kernel_rfl) (fun _ _ _ h => hP _ _ _ _ _ h) (Or.inl ⟨by rfl, ?_⟩) hHeld ?_
    rotate_left
    · intro w hSw
      go_simp
      first | done | with_reducible rfl
    try simp only [Act.put, List.setIfInBounds_toArray, List.set_cons_zero, List.set_cons_succ]
    exact H234 undef v2 v3 (.slice (some ⟨W.heap.size, 0, none⟩) 2 2) _ ⟨(HB.trans (hb.mono HB.size)), (g2.next hb), (g3.next hb), hl⟩
  try simp only [Act.put, List.setIfInBounds_toArray, List.set_cons_zero, List.set_cons_succ] at H23
  refine held_once 57 #[true, true, true, true, true, true, true, true, true, true, false, false, true, true, false, false, true, true, false, false, false, false, false, false, false, false, false, false, false, false, false, false, false, false, false, false, false, false, false, false, false, false, false, false, false, false, false, false, false, false, false, false, false, false, false, false, false, false, false, false, false, false, false, false, false, false, false, false, false, false, false] (fun a v1 v2 v3 v4 => ((((a.put (some 101) v2).put (some 102) (.agg #[.int .i64 2, v2])).put (some 105) v4).put (some 106) (.agg #[.int .i64 4, v4]))) (fun v1 v2 v3 v4 W => Below wd.heap.size wd W ∧ Laid18 W [5] v2 ∧ Laid18 W [1, 44] v4) ?_ (fun H24 => ?_)
  · intro v1 v2 v3 v4 W hF
    obtain ⟨HB, g2, g4⟩ := hF
    have hHeld : RBox W B2 q0 := X2.out.next HB
    try simp only [Act.put, List.setIfInBounds_toArray, List.set_cons_zero, List.set_cons_succ]
    refine wpAnyH_ready (rs := [10, 14]) (by kernel_rfl) (by simp) ?_
    refine AllReadyH.cons (o := ⟨some 99, _, _, _, _, _⟩) rfl (fun K hK => ?_) ?_
    · go_simp
      have hb : Below W.heap.size W (W.alloc (.cells #[.int .u8 2] 5)) := below_lit W _ _
      have hl := laid18 W [2] 1 #[.int .u8 2] rfl rfl (by omega) (by decide)
      refine hK.out _ _ (X2.out.next (HB.trans (hb.mono HB.size))) (fun hHeld => ?_)
      clear hK K
      try simp only [Act.put, List.setIfInBounds_toArray, List.set_cons_zero, List.set_cons_succ]
      refine wpAnyH_take (i := 11) (oi := ⟨some 100, _, _, _, _, _⟩) (v := ?_) rfl (by kernel_rfl) (by kernel_rfl) (by kernel_rfl) (fun _ _ _ h => hP _ _ _ _ _ h) (Or.inl ⟨by rfl, ?_⟩) hHeld ?_
      rotate_left
      · intro w hSw
        go_simp
        first | done | with_reducible rfl
      try simp only [Act.put, List.setIfInBounds_toArray, List.set_cons_zero, List.set_cons_succ]
      exact H124 (.slice (some ⟨W.heap.size, 0, none⟩) 1 1) v2 undef v4 _ ⟨(HB.trans (hb.mono HB.size)), hl, (g2.next hb), (g4.next hb)⟩
    refine AllReadyH.cons (o := ⟨some 103, _, _, _, _, _⟩) rfl (fun K hK => ?_) AllReadyH.nil
    go_simp
    have hb : Below W.heap.size W (W.alloc (.cells #[.int .u8 1] 5)) := below_lit W _ _
    have hl := laid18 W [1] 1 #[.int .u8 1] rfl rfl (by omega) (by decide)
    refine hK.out _ _ (X2.out.next (HB.trans (hb.mono HB.size))) (fun hHeld => ?_)
    clear hK K
    try simp only [Act.put, List.setIfInBounds_toArray, List.set_cons_zero, List.set_cons_succ]
    refine wpAnyH_take (i := 15) (oi := ⟨some 104, _, _, _, _, _⟩) (v := ?_) rfl (by kernel_rfl) (by kernel_rfl) (by kernel_rfl) (fun _ _ _ h => hP _ _ _ _ _ h) (Or.inl ⟨by rfl, ?_⟩) hHeld ?_
    rotate_left
    · intro w hSw
      go_simp
      first | done | with_reducible rfl
    try simp only [Act.put, List.setIfInBounds_toArray, List.set_cons_zero, List.set_cons_succ]
    exact H234 undef v2 (.slice (some ⟨W.heap.size, 0, none⟩) 1 1) v4 _ ⟨(HB.trans (hb.mono HB.size)), (g2.next hb), hl, (g4.next hb)⟩
  try simp only [Act.put, List.setIfInBounds_toArray, List.set_cons_zero, List.set_cons_succ] at H24
  refine held_once 57 #[true, true, true, true, true, true, true, true, true, true, false, false, false, false, true, true, true, true, false, false, false, false, false, false, false, false, false, false, false, false, false, false, false, false, false, false, false, false, false, false, false, false, false, false, false, false, false, false, false, false, false, false, false, false, false, false, false, false, false, false, false, false, false, false, false, false, false, false, false, false, false] (fun a v1 v2 v3 v4 => ((((a.put (some 103) v3).put (some 104) (.agg #[.int .i64 3, v3])).put (some 105) v4).put (some 106) (.agg #[.int .i64 4, v4]))) (fun v1 v2 v3 v4 W => Below wd.heap.size wd W ∧ Laid18 W [1] v3 ∧ Laid18 W [1, 44] v4) ?_ (fun H34 => ?_)
  · intro v1 v2 v3 v4 W hF
    obtain ⟨HB, g3, g4⟩ := hF
    have hHeld : RBox W B2 q0 := X2.out.next HB
    try simp only [Act.put, List.setIfInBounds_toArray, List.set_cons_zero, List.set_cons_succ]
    refine wpAnyH_ready (rs := [10, 12]) (by kernel_rfl) (by simp) ?_
    refine AllReadyH.cons (o := ⟨some 99, _, _, _, _, _⟩) rfl (fun K hK => ?_) ?_
    · go_simp
      have hb : Below W.heap.size W (W.alloc (.cells #[.int .u8 2] 5)) := below_lit W _ _
      have hl := laid18 W [2] 1 #[.int .u8 2] rfl rfl (by omega) (by decide)
      refine hK.out _ _ (X2.out.next (HB.trans (hb.mono HB.size))) (fun hHeld => ?_)
      clear hK K
      try simp only [Act.put, List.setIfInBounds_toArray, List.set_cons_zero, List.set_cons_succ]
      refine wpAnyH_take (i := 11) (oi := ⟨some 100, _, _, _, _, _⟩) (v := ?_) rfl (by kernel_rfl) (by kernel_rfl) (by kernel_rfl) (fun _ _ _ h => hP _ _ _ _ _ h) (Or.inl ⟨by rfl, ?_⟩) hHeld ?_
      rotate_left
      · intro w hSw
        go_simp
        first | done | with_reducible rfl
      try simp only [Act.put, List.setIfInBounds_toArray, List.set_cons_zero, List.set_cons_succ]
      exact H134 (.slice (some ⟨W.heap.size, 0, none⟩) 1 1) undef v3 v4 _ ⟨(HB.trans (hb.mono HB.size)), hl, (g3.next hb), (g4.next hb)⟩
    refine AllReadyH.cons (o := ⟨some 101, _, _, _, _, _⟩) rfl (fun K hK => ?_) AllReadyH.nil
    go_simp
    have hb : Below W.heap.size W (W.alloc (.cells #[.int .u8 5] 5)) := below_lit W _ _
    have hl := laid18 W [5] 1 #[.int .u8 5] rfl rfl (by omega) (by decide)
    refine hK.out _ _ (X2.out.next (HB.trans (hb.mono HB.size))) (fun hHeld => ?_)
    clear hK K
    try simp only [Act.put, List.setIfInBounds_toArray, List.set_cons_zero, List.set_cons_succ]
    refine wpAnyH_take (i := 13) (oi := ⟨some 102, _, _, _, _, _⟩) (v := ?_) rfl (by kernel_rfl) (by kernel_rfl) (by kernel_rfl) (fun _ _ _ h => hP _ _ _ _ _ h) (Or.inl ⟨by rfl, ?_⟩) hHeld ?_
    rotate_left
    · intro w hSw
      go_simp
      first | done | with_reducible rfl
    try simp only [Act.put, List.setIfInBounds_toArray, List.set_cons_zero, List.set_cons_succ]
    exact H234 undef (.slice (some ⟨W.heap.size, 0, none⟩) 1 1) v3 v4 _ ⟨(HB.trans (hb.mono HB.size)), hl, (g3.next hb), (g4.next hb)⟩
  try simp only [Act.put, List.setIfInBounds_toArray, List.set_cons_zero, List.set_cons_succ] at H34
  refine held_once 59 #[true, true, true, true, true, true, true, true, true, true, true, true, false, false, false, false, false, false, false, false, false, false, false, false, false, false, false, false, false, false, false, false, false, false, false, false, false, false, false, false, false, false, false, false, false, false, false, false, false, false, false, false, false, false, false, false, false, false, false, false, false, false, false, false, false, false, false, false, false, false, false] (fun a v1 v2 v3 v4 => ((a.put (some 99) v1).put (some 100) (.agg #[.int .i64 1, v1]))) (fun v1 v2 v3 v4 W => Below wd.heap.size wd W ∧ Laid18 W [2] v1) ?_ (fun H1 => ?_)
  · intro v1 v2 v3 v4 W hF
    obtain ⟨HB, g1⟩ := hF
    have hHeld : RBox W B2 q0 := X2.out.next HB
    try simp only [Act.put, List.setIfInBounds_toArray, List.set_cons_zero, List.set_cons_succ]
    refine wpAnyH_ready (rs := [12, 14, 16]) (by kernel_rfl) (by simp) ?_
    refine AllReadyH.cons (o := ⟨some 101, _, _, _, _, _⟩) rfl (fun K hK => ?_) ?_
    · go_simp
      have hb : Below W.heap.size W (W.alloc (.cells #[.int .u8 5] 5)) := below_lit W _ _
      have hl := laid18 W [5] 1 #[.int .u8 5] rfl rfl (by omega) (by decide)
      refine hK.out _ _ (X2.out.next (HB.trans (hb.mono HB.size))) (fun hHeld => ?_)
      clear hK K
      try simp only [Act.put, List.setIfInBounds_toArray, List.set_cons_zero, List.set_cons_succ]
      refine wpAnyH_take (i := 13) (oi := ⟨some 102, _, _, _, _, _⟩) (v := ?_) rfl (by kernel_rfl) (by kernel_rfl) (by kernel_rfl) (fun _ _ _ h => hP _ _ _ _ _ h) (Or.inl ⟨by rfl, ?_⟩) hHeld ?_
      rotate_left
      · intro w hSw
        go_simp
        first | done | with_reducible rfl
      try simp only [Act.put, List.setIfInBounds_toArray, List.set_cons_zero, List.set_cons_succ]
      exact H12 v1 (.slice (some ⟨W.heap.size, 0, none⟩) 1 1) undef undef _ ⟨(HB.trans (hb.mono HB.size)), (g1.next hb), hl⟩
    refine AllReadyH.cons (o := ⟨some 103, _, _, _, _, _⟩) rfl (fun K hK => ?_) ?_
    · go_simp
      have hb : Below W.heap.size W (W.alloc (.cells #[.int .u8 1] 5)) := below_lit W _ _
      have hl := laid18 W [1] 1 #[.int .u8 1] rfl rfl (by omega) (by decide)
      refine hK.out _ _ (X2.out.next (HB.trans (hb.mono HB.size))) (fun hHeld => ?_)
      clear hK K
      try simp only [Act.put, List.setIfInBounds_toArray, List.set_cons_zero, List.set_cons_succ]
      refine wpAnyH_take (i := 15) (oi := ⟨some 104, _, _, _, _, _⟩) (v := ?_) rfl (by kernel_rfl) (by kernel_rfl) (by kernel_rfl) (fun _ _ _ h => hP _ _ _ _ _ h) (Or.inl ⟨by rfl, ?_⟩) hHeld ?_
      rotate_left
      · intro w hSw
        go_simp
        first | done | with_reducible rfl
      try simp only [Act.put, List.setIfInBounds_toArray, List.set_cons_zero, List.set_cons_succ]
      exact H13 v1 undef (.slice (some ⟨W.heap.size, 0, none⟩) 1 1) undef _ ⟨(HB.trans (hb.mono HB.size)), (g1.next hb), hl⟩
    refine AllReadyH.cons (o := ⟨some 105, _, _, _, _, _⟩) rfl (fun K hK => ?_) AllReadyH.nil
    go_simp
    have hb : Below W.heap.size W (W.alloc (.cells #[.int .u8 1, .int .u8 44] 5)) := below_lit W _ _
    have hl := laid18 W [1, 44] 2 #[.int .u8 1, .int .u8 44] rfl rfl (by omega) (by decide)
    refine hK.out _ _ (X2.out.next (HB.trans (hb.mono HB.size))) (fun hHeld => ?_)
    clear hK K
    try simp only [Act.put, List.setIfInBounds_toArray, List.set_cons_zero, List.set_cons_succ]
    refine wpAnyH_take (i := 17) (oi := ⟨some 106, _, _, _, _, _⟩) (v := ?_) rfl (by kernel_rfl) (by kernel_rfl) (by kernel_rfl) (fun _ _ _ h => hP _ _ _ _ _ h) (Or.inl ⟨by rfl, ?_⟩) hHeld ?_
    rotate_left
    · intro w hSw
      go_simp
      first | done | with_reducible rfl
    try simp only [Act.put, List.setIfInBounds_toArray, List.set_cons_zero, List.set_cons_succ]
    exact H14 v1 undef undef (.slice (some ⟨W.heap.size, 0, none⟩) 2 2) _ ⟨(HB.trans (hb.mono HB.size)), (g1.next hb), hl⟩
  try simp only [Act.put, List.setIfInBounds_toArray, List.set_cons_zero, List.set_cons_succ] at H1
  refine held_once 59 #[true, true, true, true, true, true, true, true, true, true, false, false, true, true, false, false, false, false, false, false, false, false, false, false, false, false, false, false, false, false, false, false, false, false, false, false, false, false, false, false, false, false, false, false, false, false, false, false, false, false, false, false, false, false, false, false, false, false, false, false, false, false, false, false, false, false, false, false, false, false, false] (fun a v1 v2 v3 v4 => ((a.put (some 101) v2).put (some 102) (.agg #[.int .i64 2, v2]))) (fun v1 v2 v3 v4 W => Below wd.heap.size wd W ∧ Laid18 W [5] v2) ?_ (fun H2 => ?_)
  · intro v1 v2 v3 v4 W hF
    obtain ⟨HB, g2⟩ := hF
    have hHeld : RBox W B2 q0 := X2.out.next HB
    try simp only [Act.put, List.setIfInBounds_toArray, List.set_cons_zero, List.set_cons_succ]
    refine wpAnyH_ready (rs := [10, 14, 16]) (by kernel_rfl) (by simp) ?_
    refine AllReadyH.cons (o := ⟨some 99, _, _, _, _, _⟩) rfl (fun K hK => ?_) ?_
    · go_simp
      have hb : Below W.heap.size W (W.alloc (.cells #[.int .u8 2] 5)) := below_lit W _ _
      have hl := laid18 W [2] 1 #[.int .u8 2] rfl rfl (by omega) (by decide)
      refine hK.out _ _ (X2.out.next (HB.trans (hb.mono HB.size))) (fun hHeld => ?_)
      clear hK K
      try simp only [Act.put, List.setIfInBounds_toArray, List.set_cons_zero, List.set_cons_succ]
      refine wpAnyH_take (i := 11) (oi := ⟨some 100, _, _, _, _, _⟩) (v := ?_) rfl (by kernel_rfl) (by kernel_rfl) (by kernel_rfl) (fun _ _ _ h => hP _ _ _ _ _ h) (Or.inl ⟨by rfl, ?_⟩) hHeld ?_
      rotate_left
      · intro w hSw
        go_simp
        first | done | with_reducible rfl
      try simp only [Act.put, List.setIfInBounds_toArray, List.set_cons_zero, List.set_cons_succ]
      exact H12 (.slice (some ⟨W.heap.size, 0, none⟩) 1 1) v2 undef undef _ ⟨(HB.trans (hb.mono HB.size)), hl, (g2.next hb)⟩
    refine AllReadyH.cons (o := ⟨some 103, _, _, _, _, _⟩) rfl (fun K hK => ?_) ?_
    · go_simp
      have hb : Below W.heap.size W (W.alloc (.cells #[.int .u8 1] 5)) := below_lit W _ _
      have hl := laid18 W [1] 1 #[.int .u8 1] rfl rfl (by omega) (by decide)
      refine hK.out _ _ (X2.out.next (HB.trans (hb.mono HB.size))) (fun hHeld => ?_)
      clear hK K
      try simp only [Act.put, List.setIfInBounds_toArray, List.set_cons_zero, List.set_cons_succ]
      refine wpAnyH_take (i := 15) (oi := ⟨some 104, _, _, _, _, _⟩) (v := ?_) rfl (by kernel_rfl) (by kernel_rfl) (by kernel_rfl) (fun _ _ _ h => hP _ _ _ _ _ h) (Or.inl ⟨by rfl, ?_⟩) hHeld ?_
      rotate_left
      · intro w hSw
        go_simp
        first | done | with_reducible rfl
      try simp only [Act.put, List.setIfInBounds_toArray, List.set_cons_zero, List.set_cons_succ]
      exact H23 undef v2 (.slice (some ⟨W.heap.size, 0, none⟩) 1 1) undef _ ⟨(HB.trans (hb.mono HB.size)), (g2.next hb), hl⟩
    refine AllReadyH.cons (o := ⟨some 105, _, _, _, _, _⟩) rfl (fun K hK => ?_) AllReadyH.nil
    go_simp
    have hb : Below W.heap.size W (W.alloc (.cells #[.int .u8 1, .int .u8 44] 5)) := below_lit W _ _
    have hl := laid18 W [1, 44] 2 #[.int .u8 1, .int .u8 44] rfl rfl (by omega) (by decide)
    refine hK.out _ _ (X2.out.next (HB.trans (hb.mono HB.size))) (fun hHeld => ?_)
    clear hK K
    try simp only [Act.put, List.setIfInBounds_toArray, List.set_cons_zero, List.set_cons_succ]
    refine wpAnyH_take (i := 17) (oi := ⟨some 106, _, _, _, _, _⟩) (v := ?_) rfl (by kernel_rfl) (by kernel_rfl) (by kernel_rfl) (fun _ _ _ h => hP _ _ _ _ _ h) (Or.inl ⟨by rfl, ?_⟩) hHeld ?_
    rotate_left
    · intro w hSw
      go_simp
      first | done | with_reducible rfl
    try simp only [Act.put, List.setIfInBounds_toArray, List.set_cons_zero, List.set_cons_succ]
    exact H24 undef v2 undef (.slice (some ⟨W.heap.size, 0, none⟩) 2 2) _ ⟨(HB.trans (hb.mono HB.size)), (g2.next hb), hl⟩
  try simp only [Act.put, List.setIfInBounds_toArray, List.set_cons_zero, List.set_cons_succ] at H2
  refine held_once 59 #[true, true, true, true, true, true, true, true, true, true, false, false, false, false, true, true, false, false, false, false, false, false, false, false, false, false, false, false, false, false, false, false, false, false, false, false, false, false, false, false, false, false, false, false, false, false, false, false, false, false, false, false, false, false, false, false, false, false, false, false, false, false, false, false, false, false, false, false, false, false, false] (fun a v1 v2 v3 v4 => ((a.put (some 103) v3).put (some 104) (.agg #[.int .i64 3, v3]))) (fun v1 v2 v3 v4 W => Below wd.heap.size wd W ∧ Laid18 W [1] v3) ?_ (fun H3 => ?_)
  · intro v1 v2 v3 v4 W hF
    obtain ⟨HB, g3⟩ := hF
    have hHeld : RBox W B2 q0 := X2.out.next HB
    try simp only [Act.put, List.setIfInBounds_toArray, List.set_cons_zero, List.set_cons_succ]
    refine wpAnyH_ready (rs := [10, 12, 16]) (by kernel_rfl) (by simp) ?_
    refine AllReadyH.cons (o := ⟨some 99, _, _, _, _, _⟩) rfl (fun K hK => ?_) ?_
    · go_simp
      have hb : Below W.heap.size W (W.alloc (.cells #[.int .u8 2] 5)) := below_lit W _ _
      have hl := laid18 W [2] 1 #[.int .u8 2] rfl rfl (by omega) (by decide)
      refine hK.out _ _ (X2.out.next (HB.trans (hb.mono HB.size))) (fun hHeld => ?_)
      clear hK K
      try simp only [Act.put, List.setIfInBounds_toArray, List.set_cons_zero, List.set_cons_succ]
      refine wpAnyH_take (i := 11) (oi := ⟨some 100, _, _, _, _, _⟩) (v := ?_) rfl (by kernel_rfl) (by kernel_rfl) (by kernel_rfl) (fun _ _ _ h => hP _ _ _ _ _ h) (Or.inl ⟨by rfl, ?_⟩) hHeld ?_
      rotate_left
      · intro w hSw
        go_simp
        first | done | with_reducible rfl
      try simp only [Act.put, List.setIfInBounds_toArray, List.set_cons_zero, List.set_cons_succ]
      exact H13 (.slice (some ⟨W.heap.size, 0, none⟩) 1 1) undef v3 undef _ ⟨(HB.trans (hb.mono HB.size)), hl, (g3.next hb)⟩
    refine AllReadyH.cons (o := ⟨some 101, _, _, _, _, _⟩) rfl (fun K hK => ?_) ?_
    · go_simp
      have hb : Below W.heap.size W (W.alloc (.cells #[.int .u8 5] 5)) := below_lit W _ _
      have hl := laid18 W [5] 1 #[.int .u8 5] rfl rfl (by omega) (by decide)
      refine hK.out _ _ (X2.out.next (HB.trans (hb.mono HB.size))) (fun hHeld => ?_)
      clear hK K
      try simp only [Act.put, List.setIfInBounds_toArray, List.set_cons_zero, List.set_cons_succ]
      refine wpAnyH_take (i := 13) (oi := ⟨some 102, _, _, _, _, _⟩) (v := ?_) rfl (by kernel_rfl) (by kernel_rfl) (by kernel_rfl) (fun _ _ _ h => hP _ _ _ _ _ h) (Or.inl ⟨by rfl, ?_⟩) hHeld ?_
      rotate_left
      · intro w hSw
        go_simp
        first | done | with_reducible rfl
      try simp only [Act.put, List.setIfInBounds_toArray, List.set_cons_zero, List.set_cons_succ]
      exact H23 undef (.slice (some ⟨W.heap.size, 0, none⟩) 1 1) v3 undef _ ⟨(HB.trans (hb.mono HB.size)), hl, (g3.next hb)⟩
    refine AllReadyH.cons (o := ⟨some 105, _, _, _, _, _⟩) rfl (fun K hK => ?_) AllReadyH.nil
    go_simp
    have hb : Below W.heap.size W (W.alloc (.cells #[.int .u8 1, .int .u8 44] 5)) := below_lit W _ _
    have hl := laid18 W [1, 44] 2 #[.int .u8 1, .int .u8 44] rfl rfl (by omega) (by decide)
    refine hK.out _ _ (X2.out.next (HB.trans (hb.mono HB.size))) (fun hHeld => ?_)
    clear hK K
    try simp only [Act.put, List.setIfInBounds_toArray, List.set_cons_zero, List.set_cons_succ]
    refine wpAnyH_take (i := 17) (oi := ⟨some 106, _, _, _, _, _⟩) (v := ?_) rfl (by kernel_rfl) (by kernel_rfl) (by kernel_rfl) (fun _ _ _ h => hP _ _ _ _ _ h) (Or.inl ⟨by rfl, ?_⟩) hHeld ?_
    rotate_left
    · intro w hSw
      go_simp
      first | done | with_reducible rfl
    try simp only [Act.put, List.setIfInBounds_toArray, List.set_cons_zero, List.set_cons_succ]
    exact H34 undef undef v3 (.slice (some ⟨W.heap.size, 0, none⟩) 2 2) _ ⟨(HB.trans (hb.mono HB.size)), (g3.next hb), hl⟩
  try simp only [Act.put, List.setIfInBounds_toArray, List.set_cons_zero, List.set_cons_succ] at H3
  refine held_once 59 #[true, true, true, true, true, true, true, true, true, true, false, false, false, false, false, false, true, true, false, false, false, false, false, false, false, false, false, false, false, false, false, false, false, false, false, false, false, false, false, false, false, false, false, false, false, false, false, false, false, false, false, false, false, false, false, false, false, false, false, false, false, false, false, false, false, false, false, false, false, false, false] (fun a v1 v2 v3 v4 => ((a.put (some 105) v4).put (some 106) (.agg #[.int .i64 4, v4]))) (fun v1 v2 v3 v4 W => Below wd.heap.size wd W ∧ Laid18 W [1, 44] v4) ?_ (fun H4 => ?_)
  · intro v1 v2 v3 v4 W hF
    obtain ⟨HB, g4⟩ := hF
    have hHeld : RBox W B2 q0 := X2.out.next HB
    try simp only [Act.put, List.setIfInBounds_toArray, List.set_cons_zero, List.set_cons_succ]
    refine wpAnyH_ready (rs := [10, 12, 14]) (by kernel_rfl) (by simp) ?_
    refine AllReadyH.cons (o := ⟨some 99, _, _, _, _, _⟩) rfl (fun K hK => ?_) ?_
    · go_simp
      have hb : Below W.heap.size W (W.alloc (.cells #[.int .u8 2] 5)) := below_lit W _ _
      have hl := laid18 W [2] 1 #[.int .u8 2] rfl rfl (by omega) (by decide)
      refine hK.out _ _ (X2.out.next (HB.trans (hb.mono HB.size))) (fun hHeld => ?_)
      clear hK K
      try simp only [Act.put, List.setIfInBounds_toArray, List.set_cons_zero, List.set_cons_succ]
      refine wpAnyH_take (i := 11) (oi := ⟨some 100, _, _, _, _, _⟩) (v := ?_) rfl (by kernel_rfl) (by kernel_rfl) (by kernel_rfl) (fun _ _ _ h => hP _ _ _ _ _ h) (Or.inl ⟨by rfl, ?_⟩) hHeld ?_
      rotate_left
      · intro w hSw
        go_simp
        first | done | with_reducible rfl
      try simp only [Act.put, List.setIfInBounds_toArray, List.set_cons_zero, List.set_cons_succ]
      exact H14 (.slice (some ⟨W.heap.size, 0, none⟩) 1 1) undef undef v4 _ ⟨(HB.trans (hb.mono HB.size)), hl, (g4.next hb)⟩
    refine AllReadyH.cons (o := ⟨some 101, _, _, _, _, _⟩) rfl (fun K hK => ?_) ?_
    · go_simp
      have hb : Below W.heap.size W (W.alloc (.cells #[.int .u8 5] 5)) := below_lit W _ _
      have hl := laid18 W [5] 1 #[.int .u8 5] rfl rfl (by omega) (by decide)
      refine hK.out _ _ (X2.out.next (HB.trans (hb.mono HB.size))) (fun hHeld => ?_)
      clear hK K
      try simp only [Act.put, List.setIfInBounds_toArray, List.set_cons_zero, List.set_cons_succ]
      refine wpAnyH_take (i := 13) (oi := ⟨some 102, _, _, _, _, _⟩) (v := ?_) rfl (by kernel_rfl) (by kernel_rfl) (by kernel_rfl) (fun _ _ _ h => hP _ _ _ _ _ h) (Or.inl ⟨by rfl, ?_⟩) hHeld ?_
      rotate_left
      · intro w hSw
        go_simp
        first | done | with_reducible rfl
      try simp only [Act.put, List.setIfInBounds_toArray, List.set_cons_zero, List.set_cons_succ]
      exact H24 undef (.slice (some ⟨W.heap.size, 0, none⟩) 1 1) undef v4 _ ⟨(HB.trans (hb.mono HB.size)), hl, (g4.next hb)⟩
    refine AllReadyH.cons (o := ⟨some 103, _, _, _, _, _⟩) rfl (fun K hK => ?_) AllReadyH.nil
    go_simp
    have hb : Below W.heap.size W (W.alloc (.cells #[.int .u8 1] 5)) := below_lit W _ _
    have hl := laid18 W [1] 1 #[.int .u8 1] rfl rfl (by omega) (by decide)
    refine hK.out _ _ (X2.out.next (HB.trans (hb.mono HB.size))) (fun hHeld => ?_)
    clear hK K
    try simp only [Act.put, List.setIfInBounds_toArray, List.set_cons_zero, List.set_cons_succ]
    refine wpAnyH_take (i := 15) (oi := ⟨some 104, _, _, _, _, _⟩) (v := ?_) rfl (by kernel_rfl) (by kernel_rfl) (by kernel_rfl) (fun _ _ _ h => hP _ _ _ _ _ h) (Or.inl ⟨by rfl, ?_⟩) hHeld ?_
    rotate_left
    · intro w hSw
      go_simp
      first | done | with_reducible rfl
    try simp only [Act.put, List.setIfInBounds_toArray, List.set_cons_zero, List.set_cons_succ]
    exact H34 undef undef (.slice (some ⟨W.heap.size, 0, none⟩) 1 1) v4 _ ⟨(HB.trans (hb.mono HB.size)), hl, (g4.next hb)⟩
  try simp only [Act.put, List.setIfInBounds_toArray, List.set_cons_zero, List.set_cons_succ] at H4
  refine wpAnyH_ready (rs := [10, 12, 14, 16]) (by kernel_rfl) (by simp) ?_
  refine AllReadyH.cons (o := ⟨some 99, _, _, _, _, _⟩) rfl (fun K hK => ?_) ?_
  · go_simp
    have hb : Below wd.heap.size wd (wd.alloc (.cells #[.int .u8 2] 5)) := below_lit wd _ _
    have hl := laid18 wd [2] 1 #[.int .u8 2] rfl rfl (by omega) (by decide)
    refine hK.out _ _ (X2.out.next hb) (fun hHeld => ?_)
    clear hK K
    try simp only [Act.put, List.setIfInBounds_toArray, List.set_cons_zero, List.set_cons_succ]
    refine wpAnyH_take (i := 11) (oi := ⟨some 100, _, _, _, _, _⟩) (v := ?_) rfl (by kernel_rfl) (by kernel_rfl) (by kernel_rfl) (fun _ _ _ h => hP _ _ _ _ _ h) (Or.inl ⟨by rfl, ?_⟩) hHeld ?_
    rotate_left
    · intro w hSw
      go_simp
      first | done | with_reducible rfl
    try simp only [Act.put, List.setIfInBounds_toArray, List.set_cons_zero, List.set_cons_succ]
    exact H1 (.slice (some ⟨wd.heap.size, 0, none⟩) 1 1) undef undef undef _ ⟨hb, hl⟩
  refine AllReadyH.cons (o := ⟨some 101, _, _, _, _, _⟩) rfl (fun K hK => ?_) ?_
  · go_simp
    have hb : Below wd.heap.size wd (wd.alloc (.cells #[.int .u8 5] 5)) := below_lit wd _ _
    have hl := laid18 wd [5] 1 #[.int .u8 5] rfl rfl (by omega) (by decide)
    refine hK.out _ _ (X2.out.next hb) (fun hHeld => ?_)
    clear hK K
    try simp only [Act.put, List.setIfInBounds_toArray, List.set_cons_zero, List.set_cons_succ]
    refine wpAnyH_take (i := 13) (oi := ⟨some 102, _, _, _, _, _⟩) (v := ?_) rfl (by kernel_rfl) (by kernel_rfl) (by kernel_rfl) (fun _ _ _ h => hP _ _ _ _ _ h) (Or.inl ⟨by rfl, ?_⟩) hHeld ?_
    rotate_left
    · intro w hSw
      go_simp
      first | done | with_reducible rfl
    try simp only [Act.put, List.setIfInBounds_toArray, List.set_cons_zero, List.set_cons_succ]
    exact H2 undef (.slice (some ⟨wd.heap.size, 0, none⟩) 1 1) undef undef _ ⟨hb, hl⟩
  refine AllReadyH.cons (o := ⟨some 103, _, _, _, _, _⟩) rfl (fun K hK => ?_) ?_
  · go_simp
    have hb : Below wd.heap.size wd (wd.alloc (.cells #[.int .u8 1] 5)) := below_lit wd _ _
    have hl := laid18 wd [1] 1 #[.int .u8 1] rfl rfl (by omega) (by decide)
    refine hK.out _ _ (X2.out.next hb) (fun hHeld => ?_)
    clear hK K
    try simp only [Act.put, List.setIfInBounds_toArray, List.set_cons_zero, List.set_cons_succ]
    refine wpAnyH_take (i := 15) (oi := ⟨some 104, _, _, _, _, _⟩) (v := ?_) rfl (by kernel_rfl) (by kernel_rfl) (by kernel_rfl) (fun _ _ _ h => hP _ _ _ _ _ h) (Or.inl ⟨by rfl, ?_⟩) hHeld ?_
    rotate_left
    · intro w hSw
      go_simp
      first | done | with_reducible rfl
    try simp only [Act.put, List.setIfInBounds_toArray, List.set_cons_zero, List.set_cons_succ]
    exact H3 undef undef (.slice (some ⟨wd.heap.size, 0, none⟩) 1 1) undef _ ⟨hb, hl⟩
  refine AllReadyH.cons (o := ⟨some 105, _, _, _, _, _⟩) rfl (fun K hK => ?_) AllReadyH.nil
  go_simp
  have hb : Below wd.heap.size wd (wd.alloc (.cells #[.int .u8 1, .int .u8 44] 5)) := below_lit wd _ _
  have hl := laid18 wd [1, 44] 2 #[.int .u8 1, .int .u8 44] rfl rfl (by omega) (by decide)
  refine hK.out _ _ (X2.out.next hb) (fun hHeld => ?_)
  clear hK K
  try simp only [Act.put, List.setIfInBounds_toArray, List.set_cons_zero, List.set_cons_succ]
  refine wpAnyH_take (i := 17) (oi := ⟨some 106, _, _, _, _, _⟩) (v := ?_) rfl (by kernel_rfl) (by kernel_rfl) (by kernel_rfl) (fun _ _ _ h => hP _ _ _ _ _ h) (Or.inl ⟨by rfl, ?_⟩) hHeld ?_
  rotate_left
  · intro w hSw
    go_simp
    first | done | with_reducible rfl
  try simp only [Act.put, List.setIfInBounds_toArray, List.set_cons_zero, List.set_cons_succ]
  exact H4 undef undef undef (.slice (some ⟨wd.heap.size, 0, none⟩) 2 2) _ ⟨hb, hl⟩
end Go.Proofs.Ytaldpioahnbkgaa
