/- What goOn leaves of a task. Conditions: it is one that Push, Pop or Steal gave. -/
import Derived.Test.YtmglacaikpcjhaaS4
import Derived.BigQuiet
namespace Go.Proofs.Ytmglacaikpcjhaa
open Go.RowKit

theorem as_81_81 (v : Value) (w : World) : (Instr.typeAssert (.iface 81 v) 86 81 true).run Try.prog w = .ok (.tuple #[v, .bool true]) w := by kernel_rfl
theorem as_83_81 (v : Value) (w : World) : (Instr.typeAssert (.iface 83 v) 86 81 true).run Try.prog w = .ok (.tuple #[.agg #[.int .u64 0], .bool false]) w := by kernel_rfl
theorem as_83_83 (v : Value) (w : World) : (Instr.typeAssert (.iface 83 v) 86 83 true).run Try.prog w = .ok (.tuple #[v, .bool true]) w := by kernel_rfl
theorem as_84_81 (v : Value) (w : World) : (Instr.typeAssert (.iface 84 v) 86 81 true).run Try.prog w = .ok (.tuple #[.agg #[.int .u64 0], .bool false]) w := by kernel_rfl
theorem as_84_83 (v : Value) (w : World) : (Instr.typeAssert (.iface 84 v) 86 83 true).run Try.prog w = .ok (.tuple #[.agg #[], .bool false]) w := by kernel_rfl
theorem as_84_84 (v : Value) (w : World) : (Instr.typeAssert (.iface 84 v) 86 84 true).run Try.prog w = .ok (.tuple #[v, .bool true]) w := by kernel_rfl
set_option maxRecDepth 100000 in
set_option maxHeartbeats 600000 in
theorem gk_P {w : World} {g : Nat} {ad sz v tn tp bt vl : Int} {hs : Bool} (h : IsTk w g ⟨ad, sz, .push v, tn, tp, bt, vl, hs⟩) (rv : Int) (ro : Bool) {x' : Tk}
    (C : ∀ {w' : World}, IsTk w' g ⟨ad, sz, .push v, tn, tp, bt, vl, hs⟩ → Calls Try.prog 50 #[.pointer (some ⟨g, 0, none⟩), .int .u64 v, .agg #[.int .u64 rv, .bool ro, .int .i64 0]] w' fun e w'' => e = .returned (.tuple #[]) ∧ IsTk w'' g x' ∧ But g g w' w'') :
    Calls Try.prog 37 #[.pointer (some ⟨g, 0, none⟩), .agg #[.int .u64 rv, .bool ro, .int .i64 0]] w fun e w' => e = .returned (.tuple #[]) ∧ IsTk w' g x' ∧ But g g w w' := by
  have HH := hid h
  have HC : Hid (∀ {w' : World}, IsTk w' g ⟨ad, sz, .push v, tn, tp, bt, vl, hs⟩ → Calls Try.prog 50 #[.pointer (some ⟨g, 0, none⟩), .int .u64 v, .agg #[.int .u64 rv, .bool ro, .int .i64 0]] w' fun e w'' => e = .returned (.tuple #[]) ∧ IsTk w'' g x' ∧ But g g w' w'') := fun {_} => C
  have q1 := as_81_81
  have hlt := h.lt
  obtain ⟨c0, c1, c2, c3, c4, c5, c6, c7⟩ := h.tc
  simp only [ownV] at c2
  clear h C c0 c1 c3 c4 c5 c6 c7
  go_enter Try.func37, Try.ntmps37
  go_wp2_with fail
  refine (HC.out ?hx).mono ?_
  case hx => first | exact (HH.out.below (below_alloc _ _)).below (below_alloc _ _) | exact HH.out.below (below_alloc _ _)
  rintro e w3 ⟨rfl, h3, B3⟩
  have H3 := hid h3
  have HB3 := hid B3
  clear h3 B3
  go_wp2
  first | go_end0 | (refine bodyPost_ret (results_none rfl _ _ _) rfl ?_)
  exact ⟨rfl, H3.out, by first | exact (But.of_below (bel_trans (below_alloc _ _) (below_alloc _ _))).trans HB3.out | exact (But.of_below (below_alloc _ _)).trans HB3.out⟩
set_option maxRecDepth 100000 in
set_option maxHeartbeats 600000 in
theorem gk_G {w : World} {g : Nat} {ad sz tn tp bt vl : Int} {hs : Bool} (h : IsTk w g ⟨ad, sz, .pop, tn, tp, bt, vl, hs⟩) (rv : Int) (ro : Bool) {x' : Tk}
    (C : ∀ {w' : World}, IsTk w' g ⟨ad, sz, .pop, tn, tp, bt, vl, hs⟩ → Calls Try.prog 51 #[.pointer (some ⟨g, 0, none⟩), .agg #[.int .u64 rv, .bool ro, .int .i64 0]] w' fun e w'' => e = .returned (.tuple #[]) ∧ IsTk w'' g x' ∧ But g g w' w'') :
    Calls Try.prog 37 #[.pointer (some ⟨g, 0, none⟩), .agg #[.int .u64 rv, .bool ro, .int .i64 0]] w fun e w' => e = .returned (.tuple #[]) ∧ IsTk w' g x' ∧ But g g w w' := by
  have HH := hid h
  have HC : Hid (∀ {w' : World}, IsTk w' g ⟨ad, sz, .pop, tn, tp, bt, vl, hs⟩ → Calls Try.prog 51 #[.pointer (some ⟨g, 0, none⟩), .agg #[.int .u64 rv, .bool ro, .int .i64 0]] w' fun e w'' => e = .returned (.tuple #[]) ∧ IsTk w'' g x' ∧ But g g w' w'') := fun {_} => C
  have q1 := as_83_81
  have q2 := as_83_83
  have hlt := h.lt
  obtain ⟨c0, c1, c2, c3, c4, c5, c6, c7⟩ := h.tc
  simp only [ownV] at c2
  clear h C c0 c1 c3 c4 c5 c6 c7
  go_enter Try.func37, Try.ntmps37
  go_wp2_with fail
  refine (HC.out ?hx).mono ?_
  case hx => first | exact (HH.out.below (below_alloc _ _)).below (below_alloc _ _) | exact HH.out.below (below_alloc _ _)
  rintro e w3 ⟨rfl, h3, B3⟩
  have H3 := hid h3
  have HB3 := hid B3
  clear h3 B3
  go_wp2
  first | go_end0 | (refine bodyPost_ret (results_none rfl _ _ _) rfl ?_)
  exact ⟨rfl, H3.out, by first | exact (But.of_below (bel_trans (below_alloc _ _) (below_alloc _ _))).trans HB3.out | exact (But.of_below (below_alloc _ _)).trans HB3.out⟩
set_option maxRecDepth 100000 in
set_option maxHeartbeats 600000 in
theorem gk_S {w : World} {g : Nat} {ad sz tn tp bt vl : Int} {hs : Bool} (h : IsTk w g ⟨ad, sz, .steal, tn, tp, bt, vl, hs⟩) (rv : Int) (ro : Bool) {x' : Tk}
    (C : ∀ {w' : World}, IsTk w' g ⟨ad, sz, .steal, tn, tp, bt, vl, hs⟩ → Calls Try.prog 52 #[.pointer (some ⟨g, 0, none⟩), .agg #[.int .u64 rv, .bool ro, .int .i64 0]] w' fun e w'' => e = .returned (.tuple #[]) ∧ IsTk w'' g x' ∧ But g g w' w'') :
    Calls Try.prog 37 #[.pointer (some ⟨g, 0, none⟩), .agg #[.int .u64 rv, .bool ro, .int .i64 0]] w fun e w' => e = .returned (.tuple #[]) ∧ IsTk w' g x' ∧ But g g w w' := by
  have HH := hid h
  have HC : Hid (∀ {w' : World}, IsTk w' g ⟨ad, sz, .steal, tn, tp, bt, vl, hs⟩ → Calls Try.prog 52 #[.pointer (some ⟨g, 0, none⟩), .agg #[.int .u64 rv, .bool ro, .int .i64 0]] w' fun e w'' => e = .returned (.tuple #[]) ∧ IsTk w'' g x' ∧ But g g w' w'') := fun {_} => C
  have q1 := as_84_81
  have q2 := as_84_83
  have q3 := as_84_84
  have hlt := h.lt
  obtain ⟨c0, c1, c2, c3, c4, c5, c6, c7⟩ := h.tc
  simp only [ownV] at c2
  clear h C c0 c1 c3 c4 c5 c6 c7
  go_enter Try.func37, Try.ntmps37
  go_wp2_with fail
  refine (HC.out ?hx).mono ?_
  case hx => first | exact (HH.out.below (below_alloc _ _)).below (below_alloc _ _) | exact HH.out.below (below_alloc _ _)
  rintro e w3 ⟨rfl, h3, B3⟩
  have H3 := hid h3
  have HB3 := hid B3
  clear h3 B3
  go_wp2
  first | go_end0 | (refine bodyPost_ret (results_none rfl _ _ _) rfl ?_)
  exact ⟨rfl, H3.out, by first | exact (But.of_below (bel_trans (below_alloc _ _) (below_alloc _ _))).trans HB3.out | exact (But.of_below (below_alloc _ _)).trans HB3.out⟩
set_option maxRecDepth 100000 in
set_option maxHeartbeats 600000 in
theorem gk_err {w : World} {g : Nat} {x : Tk} (h : IsTk w g x) (rv : Int) (ro : Bool) (re : Int) (he : (re == 0) = false) :
    Calls Try.prog 37 #[.pointer (some ⟨g, 0, none⟩), .agg #[.int .u64 rv, .bool ro, .int .i64 re]] w fun e w' => e = .returned (.tuple #[]) ∧ IsTk w' g { x with hs := false, tn := 6 } ∧ But g g w w' := by
  have HX := hid (h.below (below_alloc w (.cells #[.int .u64 rv, .bool ro, .int .i64 re] 95)))
  have hb : (re != 0) = true := by simpa using he
  clear h
  go_enter Try.func37, Try.ntmps37
  go_wp2_with fail
  refine (end_at HX.out false).mono ?_
  rintro e w3 ⟨rfl, h3, B3⟩
  have H3 := hid h3
  have HB3 := hid B3
  clear h3 B3
  go_wp2
  first | go_end0 | (refine bodyPost_ret (results_none rfl _ _ _) rfl ?_)
  exact ⟨rfl, H3.out, (But.of_below (below_alloc _ _)).trans HB3.out⟩
end Go.Proofs.Ytmglacaikpcjhaa
