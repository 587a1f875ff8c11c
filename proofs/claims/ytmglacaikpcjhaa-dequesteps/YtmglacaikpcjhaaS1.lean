/- The blocks in which tasks lie; what the small calls of package deque return. Conditions: a task is one that Push, Pop or Steal gave. -/
import Derived.Test.YtmglacaikpcjhaaD2
import Derived.BigRegion
import Derived.RegionTactic
import Derived.WalkMore
import Derived.ScopeJumps
namespace Go.Proofs.Ytmglacaikpcjhaa
open Go.RowKit

theorem i64w {x : Int} (h0 : -9223372036854775808 ≤ x) (h1 : x ≤ 9223372036854775807) : IntKind.i64.wrap x = x := by
  simp [IntKind.wrap, IntKind.signed, IntKind.bits]
  omega
theorem u64w {x : Int} (h0 : 0 ≤ x) (h1 : x ≤ 18446744073709551615) : IntKind.u64.wrap x = x := by
  simp [IntKind.wrap, IntKind.signed, IntKind.bits]
  omega

/-- What a task is: it pushes a value, pops, or steals. -/
inductive Kd where
  | push (v : Int)
  | pop
  | steal
/-- A task: the deque's place and size, what it is, its turn, its top and bottom, its value, whether it has it. -/
structure Tk where
  ad : Int
  sz : Int
  kd : Kd
  tn : Int
  tp : Int
  bt : Int
  vl : Int
  hs : Bool
def ownV : Kd → Value
  | .push v => .iface 81 (.agg #[.int .u64 v])
  | .pop => .iface 83 (.agg #[])
  | .steal => .iface 84 (.agg #[])
abbrev tkC (x : Tk) : Array Value := #[.int .i64 x.ad, .int .i64 x.sz, ownV x.kd, .int .i64 x.tn, .int .u64 x.tp, .int .u64 x.bt, .int .u64 x.vl, .bool x.hs]
def IsTk (w : World) (g : Nat) (x : Tk) : Prop := w.heap[g]? = some (.cells (tkC x) 88 (0, 0))
theorem IsTk.lt {w : World} {g : Nat} {x : Tk} (h : IsTk w g x) : g < w.heap.size := lt_of_block h
theorem IsTk.keep {w w' : World} {g : Nat} {x : Tk} (h : IsTk w g x) (e : w'.heap[g]? = w.heap[g]?) : IsTk w' g x := e.trans h
theorem IsTk.below {w w' : World} {g : Nat} {x : Tk} (h : IsTk w g x) (k : Below w.heap.size w w') : IsTk w' g x := h.keep (k.block _ h.lt)
structure Tc (w : World) (g : Nat) (x : Tk) : Prop where
  c0 : w.cell? ⟨g, 0, none⟩ = some (.int .i64 x.ad)
  c1 : w.cell? ⟨g, 1, none⟩ = some (.int .i64 x.sz)
  c2 : w.cell? ⟨g, 2, none⟩ = some (ownV x.kd)
  c3 : w.cell? ⟨g, 3, none⟩ = some (.int .i64 x.tn)
  c4 : w.cell? ⟨g, 4, none⟩ = some (.int .u64 x.tp)
  c5 : w.cell? ⟨g, 5, none⟩ = some (.int .u64 x.bt)
  c6 : w.cell? ⟨g, 6, none⟩ = some (.int .u64 x.vl)
  c7 : w.cell? ⟨g, 7, none⟩ = some (.bool x.hs)
theorem IsTk.tc {w : World} {g : Nat} {x : Tk} (h : IsTk w g x) : Tc w g x := ⟨cell_of h rfl, cell_of h rfl, cell_of h rfl, cell_of h rfl, cell_of h rfl, cell_of h rfl, cell_of h rfl, cell_of h rfl⟩
theorem IsTk.free {w : World} {g : Nat} {x : Tk} (h : IsTk w g x) (i : Nat) : w.frozen? ⟨g, i, none⟩ = false := free_of h
theorem IsTk.setN {w : World} {g : Nat} {x : Tk} (h : IsTk w g x) (v : Int) : IsTk (w.setCell ⟨g, 3, none⟩ (.int .i64 v)) g { x with tn := v } := by
  unfold IsTk; rw [heap_setCell_self h]; rfl
theorem IsTk.setT {w : World} {g : Nat} {x : Tk} (h : IsTk w g x) (v : Int) : IsTk (w.setCell ⟨g, 4, none⟩ (.int .u64 v)) g { x with tp := v } := by
  unfold IsTk; rw [heap_setCell_self h]; rfl
theorem IsTk.setB {w : World} {g : Nat} {x : Tk} (h : IsTk w g x) (v : Int) : IsTk (w.setCell ⟨g, 5, none⟩ (.int .u64 v)) g { x with bt := v } := by
  unfold IsTk; rw [heap_setCell_self h]; rfl
theorem IsTk.setV {w : World} {g : Nat} {x : Tk} (h : IsTk w g x) (v : Int) : IsTk (w.setCell ⟨g, 6, none⟩ (.int .u64 v)) g { x with vl := v } := by
  unfold IsTk; rw [heap_setCell_self h]; rfl
theorem IsTk.setH {w : World} {g : Nat} {x : Tk} (h : IsTk w g x) (v : Bool) : IsTk (w.setCell ⟨g, 7, none⟩ (.bool v)) g { x with hs := v } := by
  unfold IsTk; rw [heap_setCell_self h]; rfl
theorem but_box {g : Nat} {w : World} (o : Obj) {w' : World} (h : But g g (w.alloc o) w') : But g g w w' := (But.of_below (below_alloc w o)).trans h
theorem but_set (g i : Nat) (w : World) (u : Value) : But g g w (w.setCell ⟨g, i, none⟩ u) := But.setCell g g w _ _ (Or.inl rfl)

theorem own_nil (o : Kd) (w : World) : (binOp .eql 86 (ownV o) .nilIface).run Try.prog w = .ok (.bool false) w := by
  cases o <;> kernel_rfl
theorem own_guard (o : Kd) (w : World) : (eqGuard .eql 86 (.tmp 9) (.const .nilIface) (ownV o) .nilIface).run Try.prog w = .ok () w := by
  cases o <;> kernel_rfl
set_option maxHeartbeats 400000 in
theorem tNone_at {w : World} {g : Nat} {x : Tk} (h : IsTk w g x) :
    Calls Try.prog 29 #[.pointer (some ⟨g, 0, none⟩)] w fun e w' => e = .returned (.bool false) ∧ w' = w := by
  obtain ⟨c0, c1, c2, c3, c4, c5, c6, c7⟩ := h.tc
  have q := own_nil x.kd
  have q2 := own_guard x.kd
  generalize ownV x.kd = o at *
  clear h
  go_enter Try.func29, Try.ntmps29
  go_wp2
  go_ret
  exact ⟨rfl, rfl⟩
set_option maxHeartbeats 400000 in
theorem tNone_nil (w : World) :
    Calls Try.prog 29 #[.pointer none] w fun e w' => e = .returned (.bool true) ∧ w' = w := by
  go_enter Try.func29, Try.ntmps29
  go_wp2
  go_ret
  exact ⟨rfl, rfl⟩
set_option maxHeartbeats 400000 in
theorem tDone_at {w : World} {g : Nat} {x : Tk} (h : IsTk w g x) :
    Calls Try.prog 36 #[.pointer (some ⟨g, 0, none⟩)] w fun e w' => e = .returned (.bool (x.tn == 6)) ∧ w' = w := by
  obtain ⟨c0, c1, c2, c3, c4, c5, c6, c7⟩ := h.tc
  clear h
  go_enter Try.func36, Try.ntmps36
  go_wp2
  go_ret
  exact ⟨rfl, rfl⟩

/-- A position's slot. -/
def slotA (ad sz ps : Int) : Int := ad + 2 + ps % sz
structure QOk (ad sz : Int) : Prop where
  a0 : 0 ≤ ad
  a1 : ad ≤ 65000
  s0 : 1 ≤ sz
  s1 : sz ≤ 64
def canB (ad sz : Int) : Bool := decide (0 ≤ ad ∧ ad ≤ 65000 ∧ 1 ≤ sz ∧ sz ≤ 64)
theorem QOk.can {ad sz : Int} (h : QOk ad sz) : canB ad sz = true := by simp [canB, h.a0, h.a1, h.s0, h.s1]
theorem can_ok {ad sz : Int} (h : canB ad sz = true) : QOk ad sz := by
  simp [canB] at h
  exact ⟨h.1, h.2.1, h.2.2.1, h.2.2.2⟩
theorem slot_bounds {ad sz : Int} (ps : Int) (h : QOk ad sz) : ad + 2 ≤ slotA ad sz ps ∧ slotA ad sz ps ≤ ad + 1 + sz := by
  have := h.s0
  have m0 := Int.emod_nonneg ps (show sz ≠ 0 by omega)
  have m1 := Int.emod_lt_of_pos ps (show 0 < sz by omega)
  unfold slotA
  omega

set_option maxHeartbeats 400000 in
theorem canBe_any (w : World) (ad sz : Int) :
    Calls Try.prog 47 #[.agg #[.int .i64 ad, .int .i64 sz]] w fun e w' => e = .returned (.bool (canB ad sz)) ∧ Below w.heap.size w w' := by
  by_cases h0 : 0 ≤ ad
  · by_cases h1 : ad ≤ 65000
    · by_cases h2 : 1 ≤ sz
      · by_cases h3 : sz ≤ 64
        · rw [show canB ad sz = true by simp [canB, h0, h1, h2, h3]]
          go_enter Try.func47, Try.ntmps47
          go_wp2
          go_ret
          exact ⟨rfl, below_alloc _ _⟩
        · rw [show canB ad sz = false by simp [canB]; omega]
          go_enter Try.func47, Try.ntmps47
          go_wp2
          go_ret
          exact ⟨rfl, below_alloc _ _⟩
      · rw [show canB ad sz = false by simp [canB]; omega]
        go_enter Try.func47, Try.ntmps47
        go_wp2
        go_ret
        exact ⟨rfl, below_alloc _ _⟩
    · rw [show canB ad sz = false by simp [canB]; omega]
      go_enter Try.func47, Try.ntmps47
      go_wp2
      go_ret
      exact ⟨rfl, below_alloc _ _⟩
  · rw [show canB ad sz = false by simp [canB]; omega]
    go_enter Try.func47, Try.ntmps47
    go_wp2
    go_ret
    exact ⟨rfl, below_alloc _ _⟩
end Go.Proofs.Ytmglacaikpcjhaa
