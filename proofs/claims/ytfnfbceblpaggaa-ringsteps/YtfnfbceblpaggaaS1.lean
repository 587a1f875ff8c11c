/- The blocks in which those who push and pop lie; what the small calls of package ring return. Conditions: one who pushes or pops is one that Push or Pop gave. -/
import Derived.Test.YtfnfbceblpaggaaD2
import Derived.BigRegion
import Derived.RegionTactic
import Derived.WalkMore
import Derived.ScopeJumps
namespace Go.Proofs.Ytfnfbceblpaggaa
open Go.RowKit

theorem i64w {x : Int} (h0 : -9223372036854775808 ≤ x) (h1 : x ≤ 9223372036854775807) : IntKind.i64.wrap x = x := by
  simp [IntKind.wrap, IntKind.signed, IntKind.bits]
  omega
theorem u64w {x : Int} (h0 : 0 ≤ x) (h1 : x ≤ 18446744073709551615) : IntKind.u64.wrap x = x := by
  simp [IntKind.wrap, IntKind.signed, IntKind.bits]
  omega

/-- One who pushes (a value), or pops: the ring's place and size, its turn, its position, what came of its move, whether it went through all. -/
structure Pr where
  ad : Int
  sz : Int
  pv : Option Int
  tn : Int
  ps : Int
  mv : Int
  wh : Bool
def ownV : Option Int → Value
  | some v => .iface 81 (.agg #[.int .u64 v])
  | none => .iface 89 (.agg #[])
abbrev prC (x : Pr) : Array Value := #[.int .i64 x.ad, .int .i64 x.sz, ownV x.pv, .int .i64 x.tn, .int .u64 x.ps, .int .u64 x.mv, .bool x.wh]
def IsPr (t : TypeId) (w : World) (g : Nat) (x : Pr) : Prop := w.heap[g]? = some (.cells (prC x) t (0, 0))
theorem IsPr.lt {t : TypeId} {w : World} {g : Nat} {x : Pr} (h : IsPr t w g x) : g < w.heap.size := lt_of_block h
theorem IsPr.keep {t : TypeId} {w w' : World} {g : Nat} {x : Pr} (h : IsPr t w g x) (e : w'.heap[g]? = w.heap[g]?) : IsPr t w' g x := e.trans h
theorem IsPr.below {t : TypeId} {w w' : World} {g : Nat} {x : Pr} (h : IsPr t w g x) (k : Below w.heap.size w w') : IsPr t w' g x := h.keep (k.block _ h.lt)
structure Pc (w : World) (g : Nat) (x : Pr) : Prop where
  c0 : w.cell? ⟨g, 0, none⟩ = some (.int .i64 x.ad)
  c1 : w.cell? ⟨g, 1, none⟩ = some (.int .i64 x.sz)
  c2 : w.cell? ⟨g, 2, none⟩ = some (ownV x.pv)
  c3 : w.cell? ⟨g, 3, none⟩ = some (.int .i64 x.tn)
  c4 : w.cell? ⟨g, 4, none⟩ = some (.int .u64 x.ps)
  c5 : w.cell? ⟨g, 5, none⟩ = some (.int .u64 x.mv)
  c6 : w.cell? ⟨g, 6, none⟩ = some (.bool x.wh)
theorem IsPr.pc {t : TypeId} {w : World} {g : Nat} {x : Pr} (h : IsPr t w g x) : Pc w g x := ⟨cell_of h rfl, cell_of h rfl, cell_of h rfl, cell_of h rfl, cell_of h rfl, cell_of h rfl, cell_of h rfl⟩
theorem IsPr.free {t : TypeId} {w : World} {g : Nat} {x : Pr} (h : IsPr t w g x) (i : Nat) : w.frozen? ⟨g, i, none⟩ = false := free_of h
theorem IsPr.setT {t : TypeId} {w : World} {g : Nat} {x : Pr} (h : IsPr t w g x) (v : Int) : IsPr t (w.setCell ⟨g, 3, none⟩ (.int .i64 v)) g { x with tn := v } := by
  unfold IsPr; rw [heap_setCell_self h]; rfl
theorem IsPr.setP {t : TypeId} {w : World} {g : Nat} {x : Pr} (h : IsPr t w g x) (v : Int) : IsPr t (w.setCell ⟨g, 4, none⟩ (.int .u64 v)) g { x with ps := v } := by
  unfold IsPr; rw [heap_setCell_self h]; rfl
theorem IsPr.setM {t : TypeId} {w : World} {g : Nat} {x : Pr} (h : IsPr t w g x) (v : Int) : IsPr t (w.setCell ⟨g, 5, none⟩ (.int .u64 v)) g { x with mv := v } := by
  unfold IsPr; rw [heap_setCell_self h]; rfl
theorem IsPr.setW {t : TypeId} {w : World} {g : Nat} {x : Pr} (h : IsPr t w g x) (v : Bool) : IsPr t (w.setCell ⟨g, 6, none⟩ (.bool v)) g { x with wh := v } := by
  unfold IsPr; rw [heap_setCell_self h]; rfl
theorem but_box {g : Nat} {w : World} (o : Obj) {w' : World} (h : But g g (w.alloc o) w') : But g g w w' := (But.of_below (below_alloc w o)).trans h
theorem but_set (g i : Nat) (w : World) (u : Value) : But g g w (w.setCell ⟨g, i, none⟩ u) := But.setCell g g w _ _ (Or.inl rfl)

theorem own_nil (o : Option Int) (w : World) : (binOp .eql 83 (ownV o) .nilIface).run Try.prog w = .ok (.bool false) w := by
  cases o <;> kernel_rfl
theorem own_guard (o : Option Int) (w : World) : (eqGuard .eql 83 (.tmp 6) (.const .nilIface) (ownV o) .nilIface).run Try.prog w = .ok () w := by
  cases o <;> kernel_rfl
set_option maxHeartbeats 400000 in
theorem pNone_at {t : TypeId} {w : World} {g : Nat} {x : Pr} (h : IsPr t w g x) :
    Calls Try.prog 44 #[.pointer (some ⟨g, 0, none⟩)] w fun e w' => e = .returned (.bool false) ∧ w' = w := by
  obtain ⟨c0, c1, c2, c3, c4, c5, c6⟩ := h.pc
  have q := own_nil x.pv
  have q2 := own_guard x.pv
  generalize ownV x.pv = o at *
  clear h
  go_enter Try.func44, Try.ntmps44
  go_wp2
  go_ret
  exact ⟨rfl, rfl⟩
set_option maxHeartbeats 400000 in
theorem pDone_at {t : TypeId} {w : World} {g : Nat} {x : Pr} (h : IsPr t w g x) :
    Calls Try.prog 38 #[.pointer (some ⟨g, 0, none⟩)] w fun e w' => e = .returned (.bool (x.tn == 5)) ∧ w' = w := by
  obtain ⟨c0, c1, c2, c3, c4, c5, c6⟩ := h.pc
  clear h
  go_enter Try.func38, Try.ntmps38
  go_wp2
  go_ret
  exact ⟨rfl, rfl⟩

/-- A position's slot. -/
def slotA (ad sz ps : Int) : Int := ad + 2 + 2 * (ps % sz)
structure QOk (ad sz : Int) : Prop where
  a0 : 0 ≤ ad
  a1 : ad ≤ 65000
  s0 : 2 ≤ sz
  s1 : sz ≤ 64
def canB (ad sz : Int) : Bool := decide (0 ≤ ad ∧ ad ≤ 65000 ∧ 2 ≤ sz ∧ sz ≤ 64)
theorem QOk.can {ad sz : Int} (h : QOk ad sz) : canB ad sz = true := by simp [canB, h.a0, h.a1, h.s0, h.s1]
theorem can_ok {ad sz : Int} (h : canB ad sz = true) : QOk ad sz := by
  simp [canB] at h
  exact ⟨h.1, h.2.1, h.2.2.1, h.2.2.2⟩
theorem slot_bounds {ad sz : Int} (ps : Int) (h : QOk ad sz) : ad + 2 ≤ slotA ad sz ps ∧ slotA ad sz ps ≤ ad + 2 * sz := by
  have := h.s0
  have m0 := Int.emod_nonneg ps (show sz ≠ 0 by omega)
  have m1 := Int.emod_lt_of_pos ps (show 0 < sz by omega)
  unfold slotA
  omega

set_option maxHeartbeats 400000 in
theorem canBe_any (w : World) (ad sz : Int) :
    Calls Try.prog 30 #[.agg #[.int .i64 ad, .int .i64 sz]] w fun e w' => e = .returned (.bool (canB ad sz)) ∧ Below w.heap.size w w' := by
  by_cases h0 : 0 ≤ ad
  · by_cases h1 : ad ≤ 65000
    · by_cases h2 : 2 ≤ sz
      · by_cases h3 : sz ≤ 64
        · rw [show canB ad sz = true by simp [canB, h0, h1, h2, h3]]
          go_enter Try.func30, Try.ntmps30
          go_wp2
          go_ret
          exact ⟨rfl, below_alloc _ _⟩
        · rw [show canB ad sz = false by simp [canB]; omega]
          go_enter Try.func30, Try.ntmps30
          go_wp2
          go_ret
          exact ⟨rfl, below_alloc _ _⟩
      · rw [show canB ad sz = false by simp [canB]; omega]
        go_enter Try.func30, Try.ntmps30
        go_wp2
        go_ret
        exact ⟨rfl, below_alloc _ _⟩
    · rw [show canB ad sz = false by simp [canB]; omega]
      go_enter Try.func30, Try.ntmps30
      go_wp2
      go_ret
      exact ⟨rfl, below_alloc _ _⟩
  · rw [show canB ad sz = false by simp [canB]; omega]
    go_enter Try.func30, Try.ntmps30
    go_wp2
    go_ret
    exact ⟨rfl, below_alloc _ _⟩
end Go.Proofs.Ytfnfbceblpaggaa
