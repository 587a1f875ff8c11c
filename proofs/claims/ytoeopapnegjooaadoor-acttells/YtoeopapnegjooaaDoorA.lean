/- Acts: what Lays and Meets return, in package act and in the document's answer: the same functions of the acts. No conditions. -/
import Derived.Test.YtoeopapnegjooaaDoorN
namespace Go.Proofs.YtoeopapnegjooaaDoor
open Go.RowKit

/-- An act: its kind, its place, two numbers. -/
structure Ac where
  kd : Int
  ad : Int
  a : Int
  b : Int

abbrev acC (x : Ac) : Array Value := #[.int .i64 x.kd, .int .i64 x.ad, .int .u64 x.a, .int .u64 x.b]
abbrev acV (x : Ac) : Value := .agg (acC x)
def IsAc (w : World) (g : Nat) (x : Ac) : Prop := w.heap[g]? = some (.cells (acC x) 40 (0, 0))
theorem IsAc.c0 {w : World} {g : Nat} {x : Ac} (h : IsAc w g x) : w.cell? ⟨g, 0, none⟩ = some (.int .i64 x.kd) := by unfold IsAc at h; simp [World.cell?, h]
theorem IsAc.c1 {w : World} {g : Nat} {x : Ac} (h : IsAc w g x) : w.cell? ⟨g, 1, none⟩ = some (.int .i64 x.ad) := by unfold IsAc at h; simp [World.cell?, h]
theorem IsAc.c2 {w : World} {g : Nat} {x : Ac} (h : IsAc w g x) : w.cell? ⟨g, 2, none⟩ = some (.int .u64 x.a) := by unfold IsAc at h; simp [World.cell?, h]
theorem IsAc.c3 {w : World} {g : Nat} {x : Ac} (h : IsAc w g x) : w.cell? ⟨g, 3, none⟩ = some (.int .u64 x.b) := by unfold IsAc at h; simp [World.cell?, h]
theorem IsAc.new (w : World) (x : Ac) : IsAc (w.alloc (.cells (acC x) 40)) w.heap.size x := heap_alloc_new _ _
theorem IsAc.lt {w : World} {g : Nat} {x : Ac} (h : IsAc w g x) : g < w.heap.size := lt_of_block h
theorem IsAc.below {w w' : World} {g : Nat} {x : Ac} (h : IsAc w g x) (k : Below w.heap.size w w') : IsAc w' g x := (k.block _ h.lt).trans h
theorem below_alloc (w : World) (o : Obj) : Below w.heap.size w (w.alloc o) := (Below.refl _ _).alloc (Nat.le_refl _) _
theorem bel_trans {w0 w1 w2 : World} (h : Below w0.heap.size w0 w1) (k : Below w1.heap.size w1 w2) : Below w0.heap.size w0 w2 := h.trans (k.mono h.size)

def laysB (x : Ac) : Bool := x.kd == 2 || x.kd == 3 || x.kd == 4
def kindB (x : Ac) : Bool := x.kd == 1 || laysB x
def meetsB (x y : Ac) : Bool := x.ad == y.ad && kindB x && kindB y && (laysB x || laysB y)

set_option maxHeartbeats 400000 in
theorem lays_at (x : Ac) (w : World) :
    Calls Tryd.prog 19 #[acV x] w fun e w' => e = .returned (.bool (laysB x)) ∧ Below w.heap.size w w' := by
  obtain ⟨kd, ad, a, b⟩ := x
  unfold laysB
  simp only []
  cases h2 : (kd == 2)
  · cases h3 : (kd == 3)
    · cases h4 : (kd == 4)
      all_goals
        go_enter Tryd.func19, Tryd.ntmps19
        go_wp2
        go_ret
        exact ⟨rfl, below_alloc _ _⟩
    · go_enter Tryd.func19, Tryd.ntmps19
      go_wp2
      go_ret
      exact ⟨rfl, below_alloc _ _⟩
  · go_enter Tryd.func19, Tryd.ntmps19
    go_wp2
    go_ret
    exact ⟨rfl, below_alloc _ _⟩

set_option maxHeartbeats 400000 in
theorem kind_at (x : Ac) (w : World) :
    Calls Tryd.prog 36 #[acV x] w fun e w' => e = .returned (.bool (kindB x)) ∧ Below w.heap.size w w' := by
  have HL := Lib.hid (lays_at x (w.alloc (.cells (acC x) 40)))
  unfold kindB
  generalize laysB x = y at HL ⊢
  obtain ⟨kd, ad, a, b⟩ := x
  simp only [] at HL ⊢
  cases h2 : (kd == 1)
  · go_enter Tryd.func36, Tryd.ntmps36
    go_wp2_with fail
    refine HL.out.mono ?_
    rintro e w2 ⟨rfl, K2⟩
    go_wp2
    go_ret
    exact ⟨by simp, bel_trans (below_alloc _ _) K2⟩
  · go_enter Tryd.func36, Tryd.ntmps36
    go_wp2
    go_ret
    exact ⟨rfl, below_alloc _ _⟩

theorem two_acs {w w2 : World} {x y : Ac} (K : Below ((w.alloc (.cells (acC x) 40)).alloc (.cells (acC y) 40)).heap.size ((w.alloc (.cells (acC x) 40)).alloc (.cells (acC y) 40)) w2) :
    (IsAc w2 w.heap.size x ∧ IsAc w2 (w.heap.size + 1) y) ∧ Below w.heap.size w w2 := by
  have h1 : IsAc ((w.alloc (.cells (acC x) 40)).alloc (.cells (acC y) 40)) w.heap.size x := (IsAc.new w x).below (below_alloc _ _)
  have h2 : IsAc ((w.alloc (.cells (acC x) 40)).alloc (.cells (acC y) 40)) (w.heap.size + 1) y := by
    have := IsAc.new (w.alloc (.cells (acC x) 40)) y
    simpa using this
  exact ⟨⟨h1.below K, h2.below K⟩, bel_trans (bel_trans (below_alloc _ _) (below_alloc _ _)) K⟩
theorem acs_keep {w w1 w2 : World} {x y : Ac} {g h : Nat} (H : (IsAc w1 g x ∧ IsAc w1 h y) ∧ Below w.heap.size w w1) (K : Below w1.heap.size w1 w2) : (IsAc w2 g x ∧ IsAc w2 h y) ∧ Below w.heap.size w w2 :=
  ⟨⟨H.1.1.below K, H.1.2.below K⟩, bel_trans H.2 K⟩
theorem acs_cells {w : World} {x y : Ac} {g h : Nat} (H : IsAc w g x ∧ IsAc w h y) :
    (w.cell? ⟨g, 0, none⟩ = some (.int .i64 x.kd) ∧ w.cell? ⟨g, 1, none⟩ = some (.int .i64 x.ad) ∧ w.cell? ⟨g, 2, none⟩ = some (.int .u64 x.a) ∧ w.cell? ⟨g, 3, none⟩ = some (.int .u64 x.b)) ∧
    (w.cell? ⟨h, 0, none⟩ = some (.int .i64 y.kd) ∧ w.cell? ⟨h, 1, none⟩ = some (.int .i64 y.ad) ∧ w.cell? ⟨h, 2, none⟩ = some (.int .u64 y.a) ∧ w.cell? ⟨h, 3, none⟩ = some (.int .u64 y.b)) :=
  ⟨⟨H.1.c0, H.1.c1, H.1.c2, H.1.c3⟩, ⟨H.2.c0, H.2.c1, H.2.c2, H.2.c3⟩⟩

set_option maxHeartbeats 1000000 in
theorem meets_at (x y : Ac) (w : World) :
    Calls Tryd.prog 21 #[acV x, acV y] w fun e w' => e = .returned (.bool (meetsB x y)) ∧ Below w.heap.size w w' := by
  have HK1 := Lib.hid (fun w => kind_at x w)
  have HK2 := Lib.hid (fun w => kind_at y w)
  have HL1 := Lib.hid (fun w => lays_at x w)
  have HL2 := Lib.hid (fun w => lays_at y w)
  unfold meetsB
  generalize kindB x = k1 at HK1 ⊢
  generalize kindB y = k2 at HK2 ⊢
  generalize laysB x = l1 at HL1 ⊢
  generalize laysB y = l2 at HL2 ⊢
  obtain ⟨xk, xd, xa, xb⟩ := x
  obtain ⟨yk, yd, ya, yb⟩ := y
  cases he : (xd == yd)
  · go_enter Tryd.func21, Tryd.ntmps21
    go_wp2
    go_ret
    exact ⟨by simp, bel_trans (below_alloc _ _) (below_alloc _ _)⟩
  · go_enter Tryd.func21, Tryd.ntmps21
    go_wp2_with fail
    refine (HK1.out _).mono ?_
    rintro e w2 ⟨rfl, K2⟩
    have H2 := two_acs (x := ⟨xk, xd, xa, xb⟩) (y := ⟨yk, yd, ya, yb⟩) K2
    clear K2
    obtain ⟨⟨c0, c1, c2, c3⟩, ⟨d0, d1, d2, d3⟩⟩ := acs_cells H2.1
    simp only [] at c0 c1 c2 c3 d0 d1 d2 d3
    have G2 := Lib.hid H2
    clear H2
    cases k1
    · go_wp2
      go_ret
      exact ⟨by simp, G2.out.2⟩
    go_wp2_with fail
    refine (HK2.out _).mono ?_
    rintro e w3 ⟨rfl, K3⟩
    have H3 := acs_keep G2.out K3
    clear K3 G2 c0 c1 c2 c3 d0 d1 d2 d3
    obtain ⟨⟨c0, c1, c2, c3⟩, ⟨d0, d1, d2, d3⟩⟩ := acs_cells H3.1
    simp only [] at c0 c1 c2 c3 d0 d1 d2 d3
    have G3 := Lib.hid H3
    clear H3
    cases k2
    · go_wp2
      go_ret
      exact ⟨by simp, G3.out.2⟩
    go_wp2_with fail
    refine (HL1.out _).mono ?_
    rintro e w4 ⟨rfl, K4⟩
    have H4 := acs_keep G3.out K4
    clear K4 G3 c0 c1 c2 c3 d0 d1 d2 d3
    obtain ⟨⟨c0, c1, c2, c3⟩, ⟨d0, d1, d2, d3⟩⟩ := acs_cells H4.1
    simp only [] at c0 c1 c2 c3 d0 d1 d2 d3
    have G4 := Lib.hid H4
    clear H4
    cases l1
    · go_wp2_with fail
      refine (HL2.out _).mono ?_
      rintro e w5 ⟨rfl, K5⟩
      go_wp2
      go_ret
      exact ⟨by simp, bel_trans G4.out.2 K5⟩
    · go_wp2
      go_ret
      exact ⟨by simp, G4.out.2⟩

set_option maxHeartbeats 400000 in
theorem rlays_at (x : Ac) (w : World) :
    Calls Tryd.prog 20 #[acV x] w fun e w' => e = .returned (.bool (laysB x)) ∧ Below w.heap.size w w' := by
  obtain ⟨kd, ad, a, b⟩ := x
  cases h2 : decide (2 ≤ kd)
  · have e : laysB ⟨kd, ad, a, b⟩ = false := by
      have := of_decide_eq_false h2
      simp [laysB]; omega
    rw [e]
    go_enter Tryd.func20, Tryd.ntmps20
    go_wp2
    go_ret
    exact ⟨rfl, below_alloc _ _⟩
  · cases h3 : decide (kd ≤ 4)
    · have e : laysB ⟨kd, ad, a, b⟩ = false := by
        have := of_decide_eq_false h3
        simp [laysB]; omega
      rw [e]
      go_enter Tryd.func20, Tryd.ntmps20
      go_wp2
      go_ret
      exact ⟨rfl, below_alloc _ _⟩
    · have e : laysB ⟨kd, ad, a, b⟩ = true := by
        have := of_decide_eq_true h3
        have := of_decide_eq_true h2
        simp [laysB]; omega
      rw [e]
      go_enter Tryd.func20, Tryd.ntmps20
      go_wp2
      go_ret
      exact ⟨rfl, below_alloc _ _⟩

theorem rmeets_eq (x y : Ac) : meetsB x y = (x.ad == y.ad && ((laysB x && decide (1 ≤ y.kd) && decide (y.kd ≤ 4)) || (laysB y && x.kd == 1))) := by
  have hy : kindB y = (decide (1 ≤ y.kd) && decide (y.kd ≤ 4)) := by
    rw [Bool.eq_iff_iff]; simp [kindB, laysB]; omega
  have hx : (kindB x && !laysB x) = (x.kd == 1) := by
    rw [Bool.eq_iff_iff]; simp [kindB, laysB]; omega
  unfold meetsB
  rw [← hx, Bool.and_assoc (laysB x), ← hy]
  have e1 : laysB x = true → kindB x = true := by unfold kindB; intro h; simp [h]
  have e2 : laysB y = true → kindB y = true := by unfold kindB; intro h; simp [h]
  generalize kindB x = k1 at e1 ⊢
  generalize kindB y = k2 at e2 ⊢
  generalize laysB x = l1 at e1 ⊢
  generalize laysB y = l2 at e2 ⊢
  cases k1 <;> cases k2 <;> cases l1 <;> cases l2 <;> simp_all

set_option maxHeartbeats 1000000 in
theorem rmeets_at (x y : Ac) (w : World) :
    Calls Tryd.prog 22 #[acV x, acV y] w fun e w' => e = .returned (.bool (meetsB x y)) ∧ Below w.heap.size w w' := by
  have HL1 := Lib.hid (fun w => rlays_at x w)
  have HL2 := Lib.hid (fun w => rlays_at y w)
  rw [rmeets_eq]
  generalize laysB x = l1 at HL1 ⊢
  generalize laysB y = l2 at HL2 ⊢
  obtain ⟨xk, xd, xa, xb⟩ := x
  obtain ⟨yk, yd, ya, yb⟩ := y
  simp only []
  cases he : (xd == yd)
  · go_enter Tryd.func22, Tryd.ntmps22
    go_wp2
    go_ret
    exact ⟨by simp, bel_trans (below_alloc _ _) (below_alloc _ _)⟩
  · cases h1 : decide (1 ≤ yk) <;> cases h4 : decide (yk ≤ 4) <;> cases hx : (xk == 1)
    all_goals
      go_enter Tryd.func22, Tryd.ntmps22
      go_wp2_with fail
      refine (HL1.out _).mono ?_
      rintro e w2 ⟨rfl, K2⟩
      have H2 := two_acs (x := ⟨xk, xd, xa, xb⟩) (y := ⟨yk, yd, ya, yb⟩) K2
      clear K2
      obtain ⟨⟨c0, c1, c2, c3⟩, ⟨d0, d1, d2, d3⟩⟩ := acs_cells H2.1
      simp only [] at c0 c1 c2 c3 d0 d1 d2 d3
      have G2 := Lib.hid H2
      clear H2
      cases l1
      · go_wp2_with fail
        refine (HL2.out _).mono ?_
        rintro e w3 ⟨rfl, K3⟩
        have H3 := acs_keep G2.out K3
        clear K3 G2 c0 c1 c2 c3 d0 d1 d2 d3
        obtain ⟨⟨c0, c1, c2, c3⟩, ⟨d0, d1, d2, d3⟩⟩ := acs_cells H3.1
        simp only [] at c0 c1 c2 c3 d0 d1 d2 d3
        have G3 := Lib.hid H3
        clear H3
        cases l2
        · go_wp2
          go_ret
          exact ⟨by simp, G3.out.2⟩
        · go_wp2
          go_ret
          exact ⟨by simp, G3.out.2⟩
      · first
          | (go_wp2
             go_ret
             exact ⟨by simp, G2.out.2⟩)
          | (go_wp2_with fail
             refine (HL2.out _).mono ?_
             rintro e w3 ⟨rfl, K3⟩
             have H3 := acs_keep G2.out K3
             clear K3 G2 c0 c1 c2 c3 d0 d1 d2 d3
             obtain ⟨⟨c0, c1, c2, c3⟩, ⟨d0, d1, d2, d3⟩⟩ := acs_cells H3.1
             simp only [] at c0 c1 c2 c3 d0 d1 d2 d3
             have G3 := Lib.hid H3
             clear H3
             cases l2
             · go_wp2
               go_ret
               exact ⟨by simp, G3.out.2⟩
             · go_wp2
               go_ret
               exact ⟨by simp, G3.out.2⟩)
end Go.Proofs.YtoeopapnegjooaaDoor
