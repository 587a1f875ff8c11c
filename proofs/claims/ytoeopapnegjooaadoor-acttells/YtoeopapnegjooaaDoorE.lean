/- What Run of package act returns and leaves: a function of the acts, the words and the counts alone; its answers are new memory. Conditions: the counts are below 2^62; the acts lie apart from the words. -/
import Derived.Test.YtoeopapnegjooaaDoorD2
namespace Go.Proofs.YtoeopapnegjooaaDoor
open Go.RowKit

def noAc : Ac := ⟨0, 0, 0, 0⟩
def noRe : Re := ⟨0, false, 0⟩
/-- A slice that reads as acts, apart from the blocks p and b. -/
def Script (w : World) (p b : Nat) (q : Option Addr) (l : List Ac) : Prop :=
  l ≠ [] → ∃ g off, q = some ⟨g, off, none⟩ ∧ (g < w.heap.size ∧ g ≠ p ∧ g ≠ b) ∧ ∀ i, i < l.length → w.cell? ⟨g, off + i * 4, none⟩ = some (.int .i64 (l.getD i noAc).kd) ∧ w.cell? ⟨g, off + i * 4 + 1, none⟩ = some (.int .i64 (l.getD i noAc).ad) ∧ w.cell? ⟨g, off + i * 4 + 2, none⟩ = some (.int .u64 (l.getD i noAc).a) ∧ w.cell? ⟨g, off + i * 4 + 3, none⟩ = some (.int .u64 (l.getD i noAc).b)

def runT (s : St) : List Ac → St
  | [] => s
  | x :: l => runT (doT s x) l
theorem runT_snoc (x : Ac) : ∀ (l : List Ac) (s : St), runT s (l ++ [x]) = doT (runT s l) x
  | [], _ => rfl
  | _ :: l, _ => runT_snoc x l _
theorem runT_append (m : List Ac) : ∀ (l : List Ac) (s : St), runT s (l ++ m) = runT (runT s l) m
  | [], _ => rfl
  | _ :: l, _ => runT_append m l _
/-- What the act at place i is told. -/
def resF (s : St) (l : List Ac) (i : Nat) : Re := doR (runT s (l.take i)) (l.getD i noAc)
theorem runT_take (s : St) (l : List Ac) (k : Nat) (h : k < l.length) : runT s (l.take (k + 1)) = doT (runT s (l.take k)) (l.getD k noAc) := by
  rw [List.take_add_one, List.getElem?_eq_getElem h, Option.toList_some, runT_snoc]
  simp [List.getD, h]
theorem Cnt.doT {s : St} {k : Nat} (h : Cnt s k) (x : Ac) : Cnt (doT s x) (k + 1) := by
  unfold YtoeopapnegjooaaDoor.doT
  split
  · exact h.load _
  · split
    · exact h.store _ _
    · split
      · exact h.cas _ _ _
      · split
        · exact h.add _ _
        · exact h.mono (by omega)
theorem Cnt.runT {s : St} {k : Nat} (h : Cnt s k) : ∀ (l : List Ac), Cnt (runT s l) (k + l.length) := by
  intro l
  induction l generalizing s k with
  | nil => exact h
  | cons x l ih => have := ih (h.doT x); exact this.mono (by simp; omega)

/-- Block g holds n answers. -/
def IsRes (w : World) (g n : Nat) (f : Nat → Re) : Prop :=
  ∃ c : Array Value, w.heap[g]? = some (.cells c 37 (0, 0)) ∧ c.size = n * 3 ∧ ∀ i, i < n → c[i * 3]? = some (.int .u64 (f i).v) ∧ c[i * 3 + 1]? = some (.bool (f i).ok) ∧ c[i * 3 + 2]? = some (.int .i64 (f i).e)
theorem IsRes.lt {w : World} {g n : Nat} {f : Nat → Re} (h : IsRes w g n f) : g < w.heap.size := by
  obtain ⟨c, hc, _⟩ := h
  exact lt_of_block hc
theorem IsRes.keep {w w' : World} {g n : Nat} {f : Nat → Re} (h : IsRes w g n f) (e : w'.heap[g]? = w.heap[g]?) : IsRes w' g n f := by
  obtain ⟨c, hc, hk⟩ := h
  exact ⟨c, e.trans hc, hk⟩
theorem IsRes.below {w w' : World} {g n : Nat} {f : Nat → Re} (h : IsRes w g n f) (k : Below w.heap.size w w') : IsRes w' g n f := h.keep (k.block _ h.lt)
theorem IsRes.cells {w : World} {g n : Nat} {f : Nat → Re} (h : IsRes w g n f) (i : Nat) (hi : i < n) :
    w.cell? ⟨g, i * 3, none⟩ = some (.int .u64 (f i).v) ∧ w.cell? ⟨g, i * 3 + 1, none⟩ = some (.bool (f i).ok) ∧ w.cell? ⟨g, i * 3 + 2, none⟩ = some (.int .i64 (f i).e) := by
  obtain ⟨c, hc, _, hk⟩ := h
  obtain ⟨a, b, d⟩ := hk i hi
  exact ⟨cell_of hc a, cell_of hc b, cell_of hc d⟩
theorem IsRes.free {w : World} {g n : Nat} {f : Nat → Re} (h : IsRes w g n f) (i : Nat) : w.frozen? ⟨g, i, none⟩ = false := by
  obtain ⟨c, hc, _⟩ := h
  exact free_of hc
theorem IsRes.set {w : World} {g n : Nat} {f : Nat → Re} (h : IsRes w g n f) (k : Nat) (r : Re) (hk : k < n) :
    IsRes (((w.setCell ⟨g, k * 3, none⟩ (.int .u64 r.v)).setCell ⟨g, k * 3 + 1, none⟩ (.bool r.ok)).setCell ⟨g, k * 3 + 2, none⟩ (.int .i64 r.e)) g n (fun i => if i = k then r else f i) := by
  obtain ⟨c, hc, hs, hf⟩ := h
  refine ⟨_, heap_setCell_self (heap_setCell_self (heap_setCell_self hc _) _) _, by simp [hs], fun i hi => ?_⟩
  obtain ⟨a, b, d⟩ := hf i hi
  simp only [Array.getElem?_setIfInBounds, Array.size_setIfInBounds, hs]
  by_cases e : i = k
  · subst e
    refine ⟨?_, ?_, ?_⟩
    · rw [if_neg (by omega), if_neg (by omega), if_pos rfl, if_pos (by omega)]; simp
    · rw [if_neg (by omega), if_pos rfl, if_pos (by omega)]; simp
    · rw [if_pos rfl, if_pos (by omega)]; simp
  · simp only [if_neg e]
    refine ⟨?_, ?_, ?_⟩
    · rw [if_neg (by omega), if_neg (by omega), if_neg (by omega)]; exact a
    · rw [if_neg (by omega), if_neg (by omega), if_neg (by omega)]; exact b
    · rw [if_neg (by omega), if_neg (by omega), if_neg (by omega)]; exact d

def zre : Value := .agg #[.int .u64 0, .bool false, .int .i64 0]
theorem info37 : (Tryd.prog.info? 37).map (fun i => (i.zero, i.size, i.bytes)) = some (some zre, 3, 24) := by kernel_rfl
theorem run_make3 (n : Nat) (h : n ≤ 1000000) (w : World) :
    (Instr.makeSlice 31 (.int .i64 (n : Int)) (.int .i64 (n : Int))).run Tryd.prog w = .ok (.slice (some ⟨w.heap.size, 0, none⟩) n n) (w.alloc (.cells (madeCells #[.int .u64 0, .bool false, .int .i64 0] (n * 3)) 37)) := by
  obtain ⟨i, hi, hzz⟩ := Option.map_eq_some_iff.1 info37
  simp only [Prod.mk.injEq] at hzz
  obtain ⟨hz, hs, hb⟩ := hzz
  have hr := run_make (P := Tryd.prog) w 31 37 i zre Tryd.underlying31 hi hz .i64 .i64 n n (by omega) (Int.le_refl _) (by rw [hb]; omega) (by omega)
  simp only [Int.toNat_natCast, hs] at hr
  exact hr
theorem made_res (w : World) (n : Nat) : IsRes (w.alloc (.cells (madeCells #[.int .u64 0, .bool false, .int .i64 0] (n * 3)) 37)) w.heap.size n (fun _ => noRe) := by
  refine ⟨_, heap_alloc_new _ _, size_madeCells _ _, fun i hi => ?_⟩
  have e : ∀ j, j < n * 3 → (madeCells #[Value.int .u64 0, .bool false, .int .i64 0] (n * 3))[j]? = some (#[Value.int .u64 0, .bool false, .int .i64 0][j % 3]!) := fun j hj => by
    simp [madeCells, hj]
  rw [e _ (by omega), e _ (by omega), e _ (by omega)]
  rw [show i * 3 % 3 = 0 by omega, show (i * 3 + 1) % 3 = 1 by omega, show (i * 3 + 2) % 3 = 2 by omega]
  exact ⟨rfl, rfl, rfl⟩

/-- What stands while acts are run. -/
structure RunS (w wr : World) (p b g n : Nat) (s : St) (l : List Ac) (k : Nat) (f : Nat → Re) : Prop where
  mem : Mem 62 wr p b (runT s (l.take k))
  res : IsRes wr g n f
  done : ∀ i, i < k → f i = resF s l i
  but : But p b w wr
theorem turns_below {w0 w w2 : World} {p b : Nat} {s' : St} {t : TypeId} (hB : Below w0.heap.size w0 w) (T : Turns t p b w w2 s') : Turns t p b w0 w2 s' := ⟨T.1, (But.of_below hB).trans T.2⟩
theorem But.set {p b : Nat} {w w' : World} (h : But p b w w') (g i : Nat) (v : Value) (hg : w.heap.size ≤ g) : But p b w (w'.setCell ⟨g, i, none⟩ v) :=
  ⟨h.os, h.tape, h.output, by have := h.size; simpa [World.setCell] using this, fun k hk h1 h2 => (Below.heap_setCell _ _ _ _ (by simp; omega)).trans (h.block k hk h1 h2)⟩
theorem IsMem.setOther {t : TypeId} {w : World} {p b : Nat} {xs : List Int} {d l : Int} (h : IsMem t w p b xs d l) (g i : Nat) (v : Value) (h1 : p ≠ g) (h2 : b ≠ g) : IsMem t (w.setCell ⟨g, i, none⟩ v) p b xs d l :=
  h.keep (Below.heap_setCell _ _ _ _ h1) (Below.heap_setCell _ _ _ _ h2)

set_option maxRecDepth 100000 in
set_option maxHeartbeats 1000000 in
theorem run_at {w : World} {p b : Nat} {s : St} {m : Nat} (h : Mem 62 w p b s) (hc : Cnt s m) (hm : m ≤ 1000) (q : Option Addr) (n c : Nat) (l : List Ac) (hn : l.length = n) (hn2 : n ≤ 1000) (hS : Script w p b q l) :
    Calls Tryd.prog 12 #[.pointer (some ⟨p, 0, none⟩), .slice q n c] w fun e w' => e = .returned (.slice (some ⟨w.heap.size, 0, none⟩) n n) ∧ (IsRes w' w.heap.size n (resF s l) ∧ Turns 62 p b w w' (runT s l)) := by
  have HM := Lib.hid h
  have HC := Lib.hid hc
  have HS := Lib.hid hS
  have HN := Lib.hid hn
  have hmk := run_make3 n (by omega)
  clear h hc hS hn
  go_enter Tryd.func12, Tryd.ntmps12
  go_wp2
  go_loopw [13] (fun i wr => ∃ (k : Nat) (f : Nat → Re), k ≤ n ∧ i = .int .i64 k ∧ RunS w wr p b w.heap.size n s l k f) (fun i _ => n - (intOf i).toNat)
  case atStart =>
    refine ⟨0, fun _ => noRe, Nat.zero_le _, rfl, HM.out.below (below_alloc _ _), made_res w n, fun i hi => absurd hi (by omega), But.of_below (below_alloc _ _)⟩
  case round =>
    obtain ⟨k, f, hk, rfl, hR⟩ := hrel
    have HR := Lib.hid hR
    clear hR
    by_cases hlt : k < n
    · have hne : l ≠ [] := fun e => by have := HN.out; rw [e] at this; simp at this; omega
      obtain ⟨sb, off, rfl, ⟨hs1, hs2, hs3⟩, hcells⟩ := HS.out hne
      obtain ⟨x0, x1, x2, x3⟩ := hcells k (by have := HN.out; omega)
      clear hcells
      have keep : ∀ j, wr.cell? ⟨sb, j, none⟩ = w.cell? ⟨sb, j, none⟩ := fun j => by
        have := HR.out.but.block sb hs1 hs2 hs3
        simp [World.cell?, this]
      rw [← keep] at x0 x1 x2 x3
      clear keep
      obtain ⟨X, hX⟩ : ∃ X, l.getD k noAc = X := ⟨_, rfl⟩
      rw [hX] at x0 x1 x2 x3
      have HX := Lib.hid hX
      clear hX
      obtain ⟨xk, xd, xa, xb⟩ := X
      simp only [] at x0 x1 x2 x3
      go_wp2_with fail
      have hB := below_alloc wr (.cells #[.int .i64 xk, .int .i64 xd, .int .u64 xa, .int .u64 xb] 40)
      have hcn : Cnt (runT s (l.take k)) 2000 := (HC.out.runT (l.take k)).mono (by have := List.length_take_le k l; omega)
      refine (do_at (HR.out.mem.below hB) hcn (by decide) ⟨xk, xd, xa, xb⟩).mono ?_
      rintro e w2 ⟨rfl, hT⟩
      have hgp := HM.out.lt
      have hsz := HR.out.but.size
      have hg := HR.out.res.lt
      have R2 : IsRes w2 w.heap.size n f := (HR.out.res.below hB).keep (hT.2.block _ (by have := hB.size; omega) (by omega) (by omega))
      have B2 : But p b w w2 := HR.out.but.trans (turns_below hB hT).2
      obtain ⟨g0, g1, g2⟩ := R2.cells k hlt
      have f0 := R2.free (k * 3)
      have f1 := R2.free (k * 3 + 1)
      have f2 := R2.free (k * 3 + 2)
      have HR2 := Lib.hid R2
      have HB2 := Lib.hid B2
      have HT2 := Lib.hid hT.1
      clear hT hB hcn hgp hsz hg R2 B2
      obtain ⟨r, hr⟩ : ∃ r, doR (runT s (l.take k)) ⟨xk, xd, xa, xb⟩ = r := ⟨_, rfl⟩
      rw [hr]
      have HRe := Lib.hid hr
      clear hr
      obtain ⟨rv, ro, re⟩ := r
      generalize (f k).v = fv at g0
      generalize (f k).ok = fo at g1
      generalize (f k).e = fe at g2
      simp only []
      go_wp2
      go_roundw
      case rel =>
        have hgp := HM.out.lt
        refine ⟨k + 1, fun i => if i = k then ⟨rv, ro, re⟩ else f i, by omega, by go_num, ?_, ?_, ?_, ?_⟩
        · rw [runT_take s l k (by have := HN.out; omega), HX.out]
          exact ((HT2.out.setOther _ _ _ (by omega) (by omega)).setOther _ _ _ (by omega) (by omega)).setOther _ _ _ (by omega) (by omega)
        · exact HR2.out.set k ⟨rv, ro, re⟩ hlt
        · intro i hi
          by_cases e : i = k
          · subst e; simp only [if_pos]; unfold resF; rw [HX.out, HRe.out]
          · simp only [if_neg e]; exact HR.out.done i (by omega)
        · exact ((HB2.out.set _ _ _ (by omega)).set _ _ _ (by omega)).set _ _ _ (by omega)
      case measure => simp [intOf]; omega
    · have e : k = n := by omega
      subst e
      clear hlt
      go_wp2
      go_ret
      refine ⟨rfl, ?_, ?_, ?_⟩
      · obtain ⟨c', h1, h2, h3⟩ := HR.out.res
        refine ⟨c', h1, h2, fun i hi => ?_⟩
        rw [← HR.out.done i hi]; exact h3 i hi
      · have := HR.out.mem
        rw [List.take_of_length_le (by have := HN.out; omega)] at this
        exact this
      · exact HR.out.but
end Go.Proofs.YtoeopapnegjooaaDoor
