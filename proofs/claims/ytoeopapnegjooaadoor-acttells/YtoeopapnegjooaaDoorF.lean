/- What package act's forms are: which kind has which word and how many numbers. Condition: the package's table of forms, and the library's tables, stand in their variables. -/
import Derived.Test.YtoeopapnegjooaaDoorE
import Derived.Laws.ResultCell
namespace Go.Proofs.YtoeopapnegjooaaDoor
open Go.RowKit

def wLoad : List UInt8 := [108, 111, 97, 100]
def wStore : List UInt8 := [115, 116, 111, 114, 101]
def wCas : List UInt8 := [99, 97, 115]
def wAdd : List UInt8 := [97, 100, 100]
abbrev str (l : List UInt8) : Value := .string ⟨l.toArray⟩

/-- The table of forms, as its variable holds it. -/
structure Forms (w : World) : Prop where
  c0 : w.cell? ⟨0, 0, none⟩ = some (.int .i64 1)
  c1 : w.cell? ⟨0, 1, none⟩ = some (.string ⟨#[108, 111, 97, 100]⟩)
  c2 : w.cell? ⟨0, 2, none⟩ = some (.int .i64 0)
  c3 : w.cell? ⟨0, 3, none⟩ = some (.int .i64 2)
  c4 : w.cell? ⟨0, 4, none⟩ = some (.string ⟨#[115, 116, 111, 114, 101]⟩)
  c5 : w.cell? ⟨0, 5, none⟩ = some (.int .i64 1)
  c6 : w.cell? ⟨0, 6, none⟩ = some (.int .i64 3)
  c7 : w.cell? ⟨0, 7, none⟩ = some (.string ⟨#[99, 97, 115]⟩)
  c8 : w.cell? ⟨0, 8, none⟩ = some (.int .i64 2)
  c9 : w.cell? ⟨0, 9, none⟩ = some (.int .i64 4)
  c10 : w.cell? ⟨0, 10, none⟩ = some (.string ⟨#[97, 100, 100]⟩)
  c11 : w.cell? ⟨0, 11, none⟩ = some (.int .i64 1)
theorem Forms.lt {w : World} (h : Forms w) : 0 < w.heap.size := World.block_lt_of_cell? w ⟨0, 0, none⟩ h.c0
theorem Forms.below {w w' : World} (h : Forms w) (k : Below w.heap.size w w') : Forms w' := by
  have e : ∀ j, w'.cell? ⟨0, j, none⟩ = w.cell? ⟨0, j, none⟩ := fun j => k.cell (p := ⟨0, j, none⟩) h.lt
  exact ⟨(e _).trans h.c0, (e _).trans h.c1, (e _).trans h.c2, (e _).trans h.c3, (e _).trans h.c4, (e _).trans h.c5, (e _).trans h.c6, (e _).trans h.c7, (e _).trans h.c8, (e _).trans h.c9, (e _).trans h.c10, (e _).trans h.c11⟩

theorem var_below {w w' : World} {n : String} {cs : Array Value} (h : w.var? Tryd.prog n = some cs) (k : Below w.heap.size w w') : w'.var? Tryd.prog n = some cs := by
  unfold World.var? at *
  cases hg : Tryd.prog.globalNamed n with
  | none => simp [hg] at h
  | some g =>
    simp only [hg, Option.bind_some] at h ⊢
    have hlt : g < w.heap.size := by
      rcases Nat.lt_or_ge g w.heap.size with h' | h'
      · exact h'
      · rw [Array.getElem?_eq_none h'] at h; simp at h
    rw [k.block g hlt]
    exact h

/-- What stands in variables. -/
structure Std (w : World) : Prop where
  forms : Forms w
  tab : Lib.TabIs Tryd.prog w "internal/strconv.uint64pow10" .u64 Lib.pow10Tab
  es : ∃ tp p, w.var? Tryd.prog "strconv.ErrSyntax" = some #[.iface tp p]
  er : ∃ tp p, w.var? Tryd.prog "strconv.ErrRange" = some #[.iface tp p]
theorem Std.below {w w' : World} (h : Std w) (k : Below w.heap.size w w') : Std w' := by
  obtain ⟨a, b, ⟨t1, p1, h1⟩, ⟨t2, p2, h2⟩⟩ := h
  exact ⟨a.below k, var_below b k, ⟨t1, p1, var_below h1 k⟩, ⟨t2, p2, var_below h2 k⟩⟩

theorem results_row_tmp {fn : Func} {p u : Tmp} {ty : TypeId} (h : fn.results = #[.cell p ty, .tmp u]) (tmps : Array Value) (w : World) (g : Nat) (cs : Array Value)
    (hp : tmps.getD p undef = .pointer (some ⟨g, 0, none⟩)) (hl : (loadVar ty ⟨g, 0, none⟩).run Tryd.prog w = .ok (.agg cs) w) :
    (results fn tmps).run Tryd.prog w = .ok (.tuple #[.agg cs, tmps.getD u undef]) w := by
  rw [results_cell_tmp h, hp]
  simp [asAddr, Result.andThen, hl]
theorem size74 : (Tryd.prog.info? 74).map (·.size) = some 3 := by kernel_rfl
theorem run_idx0 (w : World) : (Instr.index 96 (Value.agg #[.int .i64 1, .string ⟨#[108, 111, 97, 100]⟩, .int .i64 0, .int .i64 2, .string ⟨#[115, 116, 111, 114, 101]⟩, .int .i64 1, .int .i64 3, .string ⟨#[99, 97, 115]⟩, .int .i64 2, .int .i64 4, .string ⟨#[97, 100, 100]⟩, .int .i64 1]) (.int .i64 0)).run Tryd.prog w = .ok (.agg #[.int .i64 1, .string ⟨#[108, 111, 97, 100]⟩, .int .i64 0]) w := by
  simp [Instr.index, asIntOf, run_underlying Tryd.underlying96, part, Tryd.isAgg74, Tryd.sizeOf74, Result.andThen]
theorem run_idx1 (w : World) : (Instr.index 96 (Value.agg #[.int .i64 1, .string ⟨#[108, 111, 97, 100]⟩, .int .i64 0, .int .i64 2, .string ⟨#[115, 116, 111, 114, 101]⟩, .int .i64 1, .int .i64 3, .string ⟨#[99, 97, 115]⟩, .int .i64 2, .int .i64 4, .string ⟨#[97, 100, 100]⟩, .int .i64 1]) (.int .i64 1)).run Tryd.prog w = .ok (.agg #[.int .i64 2, .string ⟨#[115, 116, 111, 114, 101]⟩, .int .i64 1]) w := by
  simp [Instr.index, asIntOf, run_underlying Tryd.underlying96, part, Tryd.isAgg74, Tryd.sizeOf74, Result.andThen]
theorem run_idx2 (w : World) : (Instr.index 96 (Value.agg #[.int .i64 1, .string ⟨#[108, 111, 97, 100]⟩, .int .i64 0, .int .i64 2, .string ⟨#[115, 116, 111, 114, 101]⟩, .int .i64 1, .int .i64 3, .string ⟨#[99, 97, 115]⟩, .int .i64 2, .int .i64 4, .string ⟨#[97, 100, 100]⟩, .int .i64 1]) (.int .i64 2)).run Tryd.prog w = .ok (.agg #[.int .i64 3, .string ⟨#[99, 97, 115]⟩, .int .i64 2]) w := by
  simp [Instr.index, asIntOf, run_underlying Tryd.underlying96, part, Tryd.isAgg74, Tryd.sizeOf74, Result.andThen]
theorem run_idx3 (w : World) : (Instr.index 96 (Value.agg #[.int .i64 1, .string ⟨#[108, 111, 97, 100]⟩, .int .i64 0, .int .i64 2, .string ⟨#[115, 116, 111, 114, 101]⟩, .int .i64 1, .int .i64 3, .string ⟨#[99, 97, 115]⟩, .int .i64 2, .int .i64 4, .string ⟨#[97, 100, 100]⟩, .int .i64 1]) (.int .i64 3)).run Tryd.prog w = .ok (.agg #[.int .i64 4, .string ⟨#[97, 100, 100]⟩, .int .i64 1]) w := by
  simp [Instr.index, asIntOf, run_underlying Tryd.underlying96, part, Tryd.isAgg74, Tryd.sizeOf74, Result.andThen]
theorem hkeep {W : World} {g : Nat} {o : Obj} (h : W.heap[g]? = some o) (o' : Obj) : (W.alloc o').heap[g]? = some o := (Below.heap_alloc W o' g (lt_of_block h)).trans h
theorem zkeep {w W : World} (h : Below w.heap.size w W) (o : Obj) : Below w.heap.size w (W.alloc o) := h.alloc h.size _
set_option maxRecDepth 100000 in
set_option maxHeartbeats 2000000 in
theorem fok_1 (w : World) (h : Forms w) :
    Calls Tryd.prog 37 #[.int .i64 1] w fun e w' => e = .returned (.tuple #[.agg #[.int .i64 1, str wLoad, .int .i64 0], .bool true]) ∧ Below w.heap.size w w' := by
  obtain ⟨c0, c1, c2, c3, c4, c5, c6, c7, c8, c9, c10, c11⟩ := id h
  have hlt := h.lt
  have i0 := run_idx0
  have i1 := run_idx1
  have i2 := run_idx2
  have i3 := run_idx3
  clear h
  go_enter Tryd.func37, Tryd.ntmps37
  go_wp2
  refine wp_loop_rounds 1 ?_
  rw [rounds_succ]
  go_wp2
  (try simp only [Exit.inBlock, Exit.then])
  refine bodyPost_ret (results_row_tmp rfl _ _ w.heap.size _ rfl (run_loadVar_row _ _ 74 74 _ (0, 0) _ (hkeep (heap_alloc_new _ _) _) Tryd.underlying74 rfl size74)) rfl ?_
  exact ⟨rfl, zkeep (below_alloc _ _) _⟩
set_option maxRecDepth 100000 in
set_option maxHeartbeats 2000000 in
theorem fok_2 (w : World) (h : Forms w) :
    Calls Tryd.prog 37 #[.int .i64 2] w fun e w' => e = .returned (.tuple #[.agg #[.int .i64 2, str wStore, .int .i64 1], .bool true]) ∧ Below w.heap.size w w' := by
  obtain ⟨c0, c1, c2, c3, c4, c5, c6, c7, c8, c9, c10, c11⟩ := id h
  have hlt := h.lt
  have i0 := run_idx0
  have i1 := run_idx1
  have i2 := run_idx2
  have i3 := run_idx3
  clear h
  go_enter Tryd.func37, Tryd.ntmps37
  go_wp2
  refine wp_loop_rounds 2 ?_
  rw [rounds_succ]
  go_wp2
  rw [rounds_succ]
  go_wp2
  (try simp only [Exit.inBlock, Exit.then])
  refine bodyPost_ret (results_row_tmp rfl _ _ w.heap.size _ rfl (run_loadVar_row _ _ 74 74 _ (0, 0) _ (hkeep (hkeep (heap_alloc_new _ _) _) _) Tryd.underlying74 rfl size74)) rfl ?_
  exact ⟨rfl, zkeep (zkeep (below_alloc _ _) _) _⟩
set_option maxRecDepth 100000 in
set_option maxHeartbeats 2000000 in
theorem fok_3 (w : World) (h : Forms w) :
    Calls Tryd.prog 37 #[.int .i64 3] w fun e w' => e = .returned (.tuple #[.agg #[.int .i64 3, str wCas, .int .i64 2], .bool true]) ∧ Below w.heap.size w w' := by
  obtain ⟨c0, c1, c2, c3, c4, c5, c6, c7, c8, c9, c10, c11⟩ := id h
  have hlt := h.lt
  have i0 := run_idx0
  have i1 := run_idx1
  have i2 := run_idx2
  have i3 := run_idx3
  clear h
  go_enter Tryd.func37, Tryd.ntmps37
  go_wp2
  refine wp_loop_rounds 3 ?_
  rw [rounds_succ]
  go_wp2
  rw [rounds_succ]
  go_wp2
  rw [rounds_succ]
  go_wp2
  (try simp only [Exit.inBlock, Exit.then])
  refine bodyPost_ret (results_row_tmp rfl _ _ w.heap.size _ rfl (run_loadVar_row _ _ 74 74 _ (0, 0) _ (hkeep (hkeep (hkeep (heap_alloc_new _ _) _) _) _) Tryd.underlying74 rfl size74)) rfl ?_
  exact ⟨rfl, zkeep (zkeep (zkeep (below_alloc _ _) _) _) _⟩
set_option maxRecDepth 100000 in
set_option maxHeartbeats 2000000 in
theorem fok_4 (w : World) (h : Forms w) :
    Calls Tryd.prog 37 #[.int .i64 4] w fun e w' => e = .returned (.tuple #[.agg #[.int .i64 4, str wAdd, .int .i64 1], .bool true]) ∧ Below w.heap.size w w' := by
  obtain ⟨c0, c1, c2, c3, c4, c5, c6, c7, c8, c9, c10, c11⟩ := id h
  have hlt := h.lt
  have i0 := run_idx0
  have i1 := run_idx1
  have i2 := run_idx2
  have i3 := run_idx3
  clear h
  go_enter Tryd.func37, Tryd.ntmps37
  go_wp2
  refine wp_loop_rounds 4 ?_
  rw [rounds_succ]
  go_wp2
  rw [rounds_succ]
  go_wp2
  rw [rounds_succ]
  go_wp2
  rw [rounds_succ]
  go_wp2
  (try simp only [Exit.inBlock, Exit.then])
  refine bodyPost_ret (results_row_tmp rfl _ _ w.heap.size _ rfl (run_loadVar_row _ _ 74 74 _ (0, 0) _ (hkeep (hkeep (hkeep (hkeep (heap_alloc_new _ _) _) _) _) _) Tryd.underlying74 rfl size74)) rfl ?_
  exact ⟨rfl, zkeep (zkeep (zkeep (zkeep (below_alloc _ _) _) _) _) _⟩
set_option maxRecDepth 100000 in
set_option maxHeartbeats 2000000 in
theorem fok_none (kd : Int) (h1 : kd ≠ 1) (h2 : kd ≠ 2) (h3 : kd ≠ 3) (h4 : kd ≠ 4) (w : World) (h : Forms w) :
    Calls Tryd.prog 37 #[.int .i64 kd] w fun e w' => e = .returned (.tuple #[.agg #[.int .i64 0, str [], .int .i64 0], .bool false]) ∧ Below w.heap.size w w' := by
  obtain ⟨c0, c1, c2, c3, c4, c5, c6, c7, c8, c9, c10, c11⟩ := id h
  have hlt := h.lt
  have i0 := run_idx0
  have i1 := run_idx1
  have i2 := run_idx2
  have i3 := run_idx3
  clear h
  have b1 : ((1 : Int) == kd) = false := beq_eq_false_iff_ne.2 (fun e => h1 e.symm)
  have b2 : ((2 : Int) == kd) = false := beq_eq_false_iff_ne.2 (fun e => h2 e.symm)
  have b3 : ((3 : Int) == kd) = false := beq_eq_false_iff_ne.2 (fun e => h3 e.symm)
  have b4 : ((4 : Int) == kd) = false := beq_eq_false_iff_ne.2 (fun e => h4 e.symm)
  clear h1 h2 h3 h4
  go_enter Tryd.func37, Tryd.ntmps37
  go_wp2
  refine wp_loop_rounds 5 ?_
  rw [rounds_succ]
  go_wp2
  rw [rounds_succ]
  go_wp2
  rw [rounds_succ]
  go_wp2
  rw [rounds_succ]
  go_wp2
  rw [rounds_succ]
  go_wp2
  (try simp only [Exit.inBlock, Exit.then])
  refine bodyPost_ret (results_row_tmp rfl _ _ w.heap.size _ rfl (run_loadVar_row _ _ 74 74 _ (0, 0) _ (hkeep (hkeep (hkeep (hkeep (heap_alloc_new _ _) _) _) _) _) Tryd.underlying74 rfl size74)) rfl ?_
  exact ⟨rfl, zkeep (zkeep (zkeep (zkeep (below_alloc _ _) _) _) _) _⟩
set_option maxRecDepth 100000 in
set_option maxHeartbeats 2000000 in
theorem fow_1 (w : World) (h : Forms w) :
    Calls Tryd.prog 46 #[str wLoad] w fun e w' => e = .returned (.tuple #[.agg #[.int .i64 1, str wLoad, .int .i64 0], .bool true]) ∧ Below w.heap.size w w' := by
  obtain ⟨c0, c1, c2, c3, c4, c5, c6, c7, c8, c9, c10, c11⟩ := id h
  have hlt := h.lt
  have i0 := run_idx0
  have i1 := run_idx1
  have i2 := run_idx2
  have i3 := run_idx3
  clear h
  unfold wLoad
  go_enter Tryd.func46, Tryd.ntmps46
  go_wp2
  refine wp_loop_rounds 1 ?_
  rw [rounds_succ]
  go_wp2
  (try simp only [Exit.inBlock, Exit.then])
  refine bodyPost_ret (results_row_tmp rfl _ _ w.heap.size _ rfl (run_loadVar_row _ _ 74 74 _ (0, 0) _ (hkeep (heap_alloc_new _ _) _) Tryd.underlying74 rfl size74)) rfl ?_
  exact ⟨rfl, zkeep (below_alloc _ _) _⟩
set_option maxRecDepth 100000 in
set_option maxHeartbeats 2000000 in
theorem fow_2 (w : World) (h : Forms w) :
    Calls Tryd.prog 46 #[str wStore] w fun e w' => e = .returned (.tuple #[.agg #[.int .i64 2, str wStore, .int .i64 1], .bool true]) ∧ Below w.heap.size w w' := by
  obtain ⟨c0, c1, c2, c3, c4, c5, c6, c7, c8, c9, c10, c11⟩ := id h
  have hlt := h.lt
  have i0 := run_idx0
  have i1 := run_idx1
  have i2 := run_idx2
  have i3 := run_idx3
  clear h
  unfold wStore
  go_enter Tryd.func46, Tryd.ntmps46
  go_wp2
  refine wp_loop_rounds 2 ?_
  rw [rounds_succ]
  go_wp2
  rw [rounds_succ]
  go_wp2
  (try simp only [Exit.inBlock, Exit.then])
  refine bodyPost_ret (results_row_tmp rfl _ _ w.heap.size _ rfl (run_loadVar_row _ _ 74 74 _ (0, 0) _ (hkeep (hkeep (heap_alloc_new _ _) _) _) Tryd.underlying74 rfl size74)) rfl ?_
  exact ⟨rfl, zkeep (zkeep (below_alloc _ _) _) _⟩
set_option maxRecDepth 100000 in
set_option maxHeartbeats 2000000 in
theorem fow_3 (w : World) (h : Forms w) :
    Calls Tryd.prog 46 #[str wCas] w fun e w' => e = .returned (.tuple #[.agg #[.int .i64 3, str wCas, .int .i64 2], .bool true]) ∧ Below w.heap.size w w' := by
  obtain ⟨c0, c1, c2, c3, c4, c5, c6, c7, c8, c9, c10, c11⟩ := id h
  have hlt := h.lt
  have i0 := run_idx0
  have i1 := run_idx1
  have i2 := run_idx2
  have i3 := run_idx3
  clear h
  unfold wCas
  go_enter Tryd.func46, Tryd.ntmps46
  go_wp2
  refine wp_loop_rounds 3 ?_
  rw [rounds_succ]
  go_wp2
  rw [rounds_succ]
  go_wp2
  rw [rounds_succ]
  go_wp2
  (try simp only [Exit.inBlock, Exit.then])
  refine bodyPost_ret (results_row_tmp rfl _ _ w.heap.size _ rfl (run_loadVar_row _ _ 74 74 _ (0, 0) _ (hkeep (hkeep (hkeep (heap_alloc_new _ _) _) _) _) Tryd.underlying74 rfl size74)) rfl ?_
  exact ⟨rfl, zkeep (zkeep (zkeep (below_alloc _ _) _) _) _⟩
set_option maxRecDepth 100000 in
set_option maxHeartbeats 2000000 in
theorem fow_4 (w : World) (h : Forms w) :
    Calls Tryd.prog 46 #[str wAdd] w fun e w' => e = .returned (.tuple #[.agg #[.int .i64 4, str wAdd, .int .i64 1], .bool true]) ∧ Below w.heap.size w w' := by
  obtain ⟨c0, c1, c2, c3, c4, c5, c6, c7, c8, c9, c10, c11⟩ := id h
  have hlt := h.lt
  have i0 := run_idx0
  have i1 := run_idx1
  have i2 := run_idx2
  have i3 := run_idx3
  clear h
  unfold wAdd
  go_enter Tryd.func46, Tryd.ntmps46
  go_wp2
  refine wp_loop_rounds 4 ?_
  rw [rounds_succ]
  go_wp2
  rw [rounds_succ]
  go_wp2
  rw [rounds_succ]
  go_wp2
  rw [rounds_succ]
  go_wp2
  (try simp only [Exit.inBlock, Exit.then])
  refine bodyPost_ret (results_row_tmp rfl _ _ w.heap.size _ rfl (run_loadVar_row _ _ 74 74 _ (0, 0) _ (hkeep (hkeep (hkeep (hkeep (heap_alloc_new _ _) _) _) _) _) Tryd.underlying74 rfl size74)) rfl ?_
  exact ⟨rfl, zkeep (zkeep (zkeep (zkeep (below_alloc _ _) _) _) _) _⟩
set_option maxRecDepth 100000 in
set_option maxHeartbeats 2000000 in
theorem fow_none (s : ByteArray) (b1 : (([108, 111, 97, 100] : List UInt8) == s.toList) = false) (b2 : (([115, 116, 111, 114, 101] : List UInt8) == s.toList) = false) (b3 : (([99, 97, 115] : List UInt8) == s.toList) = false) (b4 : (([97, 100, 100] : List UInt8) == s.toList) = false) (w : World) (h : Forms w) :
    Calls Tryd.prog 46 #[.string s] w fun e w' => e = .returned (.tuple #[.agg #[.int .i64 0, str [], .int .i64 0], .bool false]) ∧ Below w.heap.size w w' := by
  obtain ⟨c0, c1, c2, c3, c4, c5, c6, c7, c8, c9, c10, c11⟩ := id h
  have hlt := h.lt
  have i0 := run_idx0
  have i1 := run_idx1
  have i2 := run_idx2
  have i3 := run_idx3
  clear h
  go_enter Tryd.func46, Tryd.ntmps46
  go_wp2
  refine wp_loop_rounds 5 ?_
  rw [rounds_succ]
  go_wp2
  rw [rounds_succ]
  go_wp2
  rw [rounds_succ]
  go_wp2
  rw [rounds_succ]
  go_wp2
  rw [rounds_succ]
  go_wp2
  (try simp only [Exit.inBlock, Exit.then])
  refine bodyPost_ret (results_row_tmp rfl _ _ w.heap.size _ rfl (run_loadVar_row _ _ 74 74 _ (0, 0) _ (hkeep (hkeep (hkeep (hkeep (heap_alloc_new _ _) _) _) _) _) Tryd.underlying74 rfl size74)) rfl ?_
  exact ⟨rfl, zkeep (zkeep (zkeep (zkeep (below_alloc _ _) _) _) _) _⟩
end Go.Proofs.YtoeopapnegjooaaDoor
