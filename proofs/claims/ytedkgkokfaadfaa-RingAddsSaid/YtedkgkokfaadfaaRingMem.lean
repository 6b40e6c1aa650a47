/-
  What it means that a value is a key, and that a slice reads as a list of keys. Conditions: none.
-/
import Derived.Test.YtedkgkokfaadfaaMem
import Derived.Test.YtedkgkokfaadfaaRingMath
namespace Go.Proofs.Ytedkgkokfaadfaa
set_option linter.unusedVariables false
open Go.ChangeShapes Go.WideShapes Go.ChangeAt Go.RowKit

/-- A slice value that reads as bytes: where it lies, and its capacity. -/
structure Bs (w : World) (B : Nat) (s : List Nat) (A : Option Addr) (c : Nat) : Prop where
  rd : Rd w B A (U8 s)
  nil : A = none → c = 0
  len : s.length ≤ c
  cap : c ≤ 9223372036854775807
  lt : ∀ x ∈ s, x < 256
theorem Bs.next {w w' : World} {s : List Nat} {A : Option Addr} {c : Nat} (h : Bs w w.heap.size s A c) (hb : Below w.heap.size w w') : Bs w' w'.heap.size s A c := ⟨h.rd.next hb, h.nil, h.len, h.cap, h.lt⟩
theorem Bs.below {w w' : World} {B : Nat} {s : List Nat} {A : Option Addr} {c : Nat} (h : Bs w B s A c) (hb : Below B w w') : Bs w' B s A c := ⟨h.rd.below hb, h.nil, h.len, h.cap, h.lt⟩
theorem Bs.more {w : World} {B B' : Nat} {s : List Nat} {A : Option Addr} {c : Nat} (h : Bs w B s A c) (hB : B ≤ B') : Bs w B' s A c := ⟨h.rd.more hB, h.nil, h.len, h.cap, h.lt⟩
/-- At the address p lies the key k, its secret below block B. -/
structure KAt (w : World) (B : Nat) (p : Addr) (k : K) (S : Option Addr) (c : Nat) : Prop where
  c0 : w.cell? p = some (.int .i64 k.id)
  c1 : w.cell? ⟨p.block, p.off + 1, none⟩ = some (.slice S k.sec.length c)
  c2 : w.cell? ⟨p.block, p.off + 2, none⟩ = some (.int .i64 k.frm)
  c3 : w.cell? ⟨p.block, p.off + 3, none⟩ = some (.int .i64 k.til)
  bs : Bs w B k.sec S c
theorem KAt.below {w w' : World} {B B' : Nat} {p : Addr} {k : K} {S : Option Addr} {c : Nat} (h : KAt w B p k S c) (hp : p.block < B') (hB : B ≤ B') (hb : Below B' w w') : KAt w' B p k S c :=
  ⟨(hb.cell hp).trans h.c0, (hb.cell (p := ⟨p.block, p.off + 1, none⟩) hp).trans h.c1, (hb.cell (p := ⟨p.block, p.off + 2, none⟩) hp).trans h.c2, (hb.cell (p := ⟨p.block, p.off + 3, none⟩) hp).trans h.c3, h.bs.below (hb.mono hB)⟩
theorem KAt.more {w : World} {B B' : Nat} {p : Addr} {k : K} {S : Option Addr} {c : Nat} (h : KAt w B p k S c) (hB : B ≤ B') : KAt w B' p k S c := ⟨h.c0, h.c1, h.c2, h.c3, ⟨h.bs.rd.more hB, h.bs.nil, h.bs.len, h.bs.cap, h.bs.lt⟩⟩
/-- From the address A on lie the keys of l, four cells each, below block B. -/
def Ks (w : World) (B : Nat) (A : Option Addr) (l : List K) : Prop :=
  ∀ i, i < l.length → ∃ ad S c, A = some ad ∧ ad.block < B ∧ KAt w B (ad.add (i * 4)) (l.getD i K0) S c
theorem Ks.below {w w' : World} {B : Nat} {A : Option Addr} {l : List K} (h : Ks w B A l) (hb : Below B w w') : Ks w' B A l := by
  intro i hi
  obtain ⟨ad, S, c, e, hlt, hk⟩ := h i hi
  exact ⟨ad, S, c, e, hlt, hk.below (by rw [add_block]; exact hlt) (Nat.le_refl _) hb⟩
theorem Ks.more {w : World} {B B' : Nat} {A : Option Addr} {l : List K} (h : Ks w B A l) (hB : B ≤ B') : Ks w B' A l := by
  intro i hi
  obtain ⟨ad, S, c, e, hlt, hk⟩ := h i hi
  exact ⟨ad, S, c, e, by omega, hk.more hB⟩
theorem Ks.next {w w' : World} {A : Option Addr} {l : List K} (h : Ks w w.heap.size A l) (hb : Below w.heap.size w w') : Ks w' w'.heap.size A l := (h.below hb).more hb.size
end Go.Proofs.Ytedkgkokfaadfaa
