/- Acts as they lie in memory. Of no function; no conditions. -/
import Derived.Test.YtpfmmlbakbhklaaGreatDoorW4
namespace Go.Proofs.YtpfmmlbakbhklaaGreatDoor
open Go.RowKit

theorem hid {p : Prop} (h : p) : Hid p := h

/-- An act: its kind, its place, two numbers. -/
structure Ac where
  kd : Int
  ad : Int
  a : Int
  b : Int

abbrev acC (x : Ac) : Array Value := #[.int .i64 x.kd, .int .i64 x.ad, .int .u64 x.a, .int .u64 x.b]
abbrev acV (x : Ac) : Value := .agg (acC x)
def IsAc (w : World) (g : Nat) (x : Ac) : Prop := w.heap[g]? = some (.cells (acC x) 175 (0, 0))
theorem IsAc.c0 {w : World} {g : Nat} {x : Ac} (h : IsAc w g x) : w.cell? ⟨g, 0, none⟩ = some (.int .i64 x.kd) := by unfold IsAc at h; simp [World.cell?, h]
theorem IsAc.c1 {w : World} {g : Nat} {x : Ac} (h : IsAc w g x) : w.cell? ⟨g, 1, none⟩ = some (.int .i64 x.ad) := by unfold IsAc at h; simp [World.cell?, h]
theorem IsAc.c2 {w : World} {g : Nat} {x : Ac} (h : IsAc w g x) : w.cell? ⟨g, 2, none⟩ = some (.int .u64 x.a) := by unfold IsAc at h; simp [World.cell?, h]
theorem IsAc.c3 {w : World} {g : Nat} {x : Ac} (h : IsAc w g x) : w.cell? ⟨g, 3, none⟩ = some (.int .u64 x.b) := by unfold IsAc at h; simp [World.cell?, h]
theorem IsAc.new (w : World) (x : Ac) : IsAc (w.alloc (.cells (acC x) 175)) w.heap.size x := heap_alloc_new _ _
theorem IsAc.lt {w : World} {g : Nat} {x : Ac} (h : IsAc w g x) : g < w.heap.size := lt_of_block h
theorem IsAc.below {w w' : World} {g : Nat} {x : Ac} (h : IsAc w g x) (k : Below w.heap.size w w') : IsAc w' g x := (k.block _ h.lt).trans h
theorem below_alloc (w : World) (o : Obj) : Below w.heap.size w (w.alloc o) := (Below.refl _ _).alloc (Nat.le_refl _) _
theorem bel_trans {w0 w1 w2 : World} (h : Below w0.heap.size w0 w1) (k : Below w1.heap.size w1 w2) : Below w0.heap.size w0 w2 := h.trans (k.mono h.size)

theorem two_acs {w w2 : World} {x y : Ac} (K : Below ((w.alloc (.cells (acC x) 175)).alloc (.cells (acC y) 175)).heap.size ((w.alloc (.cells (acC x) 175)).alloc (.cells (acC y) 175)) w2) :
    (IsAc w2 w.heap.size x ∧ IsAc w2 (w.heap.size + 1) y) ∧ Below w.heap.size w w2 := by
  have h1 : IsAc ((w.alloc (.cells (acC x) 175)).alloc (.cells (acC y) 175)) w.heap.size x := (IsAc.new w x).below (below_alloc _ _)
  have h2 : IsAc ((w.alloc (.cells (acC x) 175)).alloc (.cells (acC y) 175)) (w.heap.size + 1) y := by
    have := IsAc.new (w.alloc (.cells (acC x) 175)) y
    simpa using this
  exact ⟨⟨h1.below K, h2.below K⟩, bel_trans (bel_trans (below_alloc _ _) (below_alloc _ _)) K⟩
theorem acs_keep {w w1 w2 : World} {x y : Ac} {g h : Nat} (H : (IsAc w1 g x ∧ IsAc w1 h y) ∧ Below w.heap.size w w1) (K : Below w1.heap.size w1 w2) : (IsAc w2 g x ∧ IsAc w2 h y) ∧ Below w.heap.size w w2 :=
  ⟨⟨H.1.1.below K, H.1.2.below K⟩, bel_trans H.2 K⟩
theorem acs_cells {w : World} {x y : Ac} {g h : Nat} (H : IsAc w g x ∧ IsAc w h y) :
    (w.cell? ⟨g, 0, none⟩ = some (.int .i64 x.kd) ∧ w.cell? ⟨g, 1, none⟩ = some (.int .i64 x.ad) ∧ w.cell? ⟨g, 2, none⟩ = some (.int .u64 x.a) ∧ w.cell? ⟨g, 3, none⟩ = some (.int .u64 x.b)) ∧
    (w.cell? ⟨h, 0, none⟩ = some (.int .i64 y.kd) ∧ w.cell? ⟨h, 1, none⟩ = some (.int .i64 y.ad) ∧ w.cell? ⟨h, 2, none⟩ = some (.int .u64 y.a) ∧ w.cell? ⟨h, 3, none⟩ = some (.int .u64 y.b)) :=
  ⟨⟨H.1.c0, H.1.c1, H.1.c2, H.1.c3⟩, ⟨H.2.c0, H.2.c1, H.2.c2, H.2.c3⟩⟩

end Go.Proofs.YtpfmmlbakbhklaaGreatDoor
