/- What the loops of the statements need beside: how those who push and pop are laid one behind the other; a row of ints that count. Of no function; no conditions. -/
import Derived.Test.YtfnfbceblpaggaaY3
import Derived.Test.YtfnfbceblpaggaaKit3
namespace Go.Proofs.Ytfnfbceblpaggaa
open Go.RowKit

theorem info39 : ∃ i, Try.prog.info? 39 = some i ∧ i.zero = some (.pointer none) ∧ i.size = 1 ∧ i.bytes = 8 := by
  have h : (Try.prog.info? 39).map (fun i => (i.zero, i.size, i.bytes)) = some (some (.pointer none), 1, 8) := by kernel_rfl
  obtain ⟨i, hi, hzz⟩ := Option.map_eq_some_iff.1 h
  simp only [Prod.mk.injEq] at hzz
  exact ⟨i, hi, hzz.1, hzz.2.1, hzz.2.2⟩
theorem info42 : ∃ i, Try.prog.info? 42 = some i ∧ i.zero = some (.pointer none) ∧ i.size = 1 ∧ i.bytes = 8 := by
  have h : (Try.prog.info? 42).map (fun i => (i.zero, i.size, i.bytes)) = some (some (.pointer none), 1, 8) := by kernel_rfl
  obtain ⟨i, hi, hzz⟩ := Option.map_eq_some_iff.1 h
  simp only [Prod.mk.injEq] at hzz
  exact ⟨i, hi, hzz.1, hzz.2.1, hzz.2.2⟩
theorem one_cell (w : World) (g : Nat) (e : TypeId) : ∀ (j : Nat) (u : Value), [ptr g][j]? = some u → (w.alloc (.cells #[.pointer (some ⟨g, 0, none⟩)] e)).cell? ((⟨w.heap.size, 0, none⟩ : Addr).add j) = some u := by
  intro j u hj
  rcases j with _ | j
  · obtain rfl : ptr g = u := by simpa using hj
    exact cell_of (heap_alloc_new w (.cells #[.pointer (some ⟨g, 0, none⟩)] e (0, 0))) rfl
  · simp at hj
theorem one_plain (g : Nat) : ∀ u ∈ [ptr g], u.oneCell' = true := by
  intro u hu
  obtain rfl := List.mem_singleton.1 hu
  rfl
theorem put_self {α : Type} (f : Nat → α) (k : Nat) : put f k (f k) = f := by
  funext j
  by_cases e : j = k
  · rw [e, put_at]
  · rw [put_ne _ _ e]
theorem zkeep {w w' : World} (h : Below w.heap.size w w') (o : Obj) : Below w.heap.size w (w'.alloc o) := h.alloc h.size o

/-- Block g holds the ints xs. -/
def IsIn (w : World) (g : Nat) (xs : List Int) : Prop := w.heap[g]? = some (.cells ((xs.map fun x => Value.int .i64 x).toArray) 3 (0, 0))
theorem IsIn.cell {w : World} {g : Nat} {xs : List Int} (h : IsIn w g xs) (i : Nat) (hi : i < xs.length) : w.cell? ⟨g, i, none⟩ = some (.int .i64 (xs.getD i 0)) := by
  unfold IsIn at h
  simp [World.cell?, h, List.getD, hi]
theorem IsIn.free {w : World} {g : Nat} {xs : List Int} (h : IsIn w g xs) (i : Nat) : w.frozen? ⟨g, i, none⟩ = false := free_of h
theorem IsIn.set {w : World} {g : Nat} {xs : List Int} (h : IsIn w g xs) (i : Nat) (v : Int) : IsIn (w.setCell ⟨g, i, none⟩ (.int .i64 v)) g (xs.set i v) := by
  unfold IsIn at h ⊢
  rw [heap_setCell_self h]
  simp [List.map_set]
theorem IsIn.below {w w' : World} {g : Nat} {xs : List Int} (h : IsIn w g xs) (k : Below w.heap.size w w') : IsIn w' g xs := (k.block _ (lt_of_block h)).trans h
theorem info3 : (Try.prog.info? 3).map (fun i => (i.zero, i.size, i.bytes)) = some (some (.int .i64 0), 1, 8) := by kernel_rfl
theorem isIn_new (w : World) (n : Nat) : IsIn (w.alloc (.cells (madeCells #[(.int .i64 0 : Value)] n) 3)) w.heap.size (List.replicate n 0) := by
  unfold IsIn
  rw [heap_alloc_new]
  congr 2
  apply Array.toList_inj.1
  rw [toList_madeCells_one]
  simp

/-- How often each value was popped, by the first j who pop. -/
def hadL (G : Nat → Ap) (val : Nat → Nat) (np j : Nat) : List Int := (List.range np).map fun k => (hadN G val j k : Int)
theorem hadL_len (G : Nat → Ap) (val : Nat → Nat) (np j : Nat) : (hadL G val np j).length = np := by simp [hadL]
theorem hadL_get (G : Nat → Ap) (val : Nat → Nat) {np j k : Nat} (h : k < np) : (hadL G val np j).getD k 0 = (hadN G val j k : Int) := by simp [hadL, List.getD, h]
theorem hadL_zero (G : Nat → Ap) (val : Nat → Nat) (np : Nat) : hadL G val np 0 = List.replicate np 0 := by
  apply List.ext_getElem
  · simp [hadL]
  · intro i h1 h2
    simp [hadL, hadN]
theorem hadL_no (G : Nat → Ap) (val : Nat → Nat) (np j : Nat) (h : (G j).wh = false) : hadL G val np (j + 1) = hadL G val np j := by
  unfold hadL
  apply List.map_congr_left
  intro k _
  simp [hadN, h]
theorem hadL_yes (G : Nat → Ap) (val : Nat → Nat) (np j : Nat) (h : (G j).wh = true) : hadL G val np (j + 1) = (hadL G val np j).set (val (G j).ps) ((hadN G val j (val (G j).ps) : Int) + 1) := by
  apply List.ext_getElem
  · simp [hadL]
  · intro i h1 h2
    rw [List.getElem_set]
    simp only [hadL, List.getElem_map, List.getElem_range, hadN, h, true_and]
    by_cases e : val (G j).ps = i
    · subst e; simp
    · simp [e]
theorem Wd.first2 {w0 w : World} {p b r : Nat} {ad n : Int} {s : St} (H : Kn w0 p b r ad n w s) (G G' : Nat → Nat) (f f' : Nat → Pr) : Wd w0 p b r ad n w s 0 G f (.slice none 0 0) 0 G' f' (.slice none 0 0) := by
  have no : ∀ G q, ¬ InF 0 G (.slice none 0 0) q := by
    rintro G q (⟨i, hi, _⟩ | h)
    · omega
    · cases h
  exact ⟨H, Fam.nil .., Fam.nil .., fun q hq => absurd hq (no _ q), fun q hq => absurd hq (no _ q), fun q hq => absurd hq (no _ q)⟩
theorem Oe.first {w0 w : World} {p b r n np : Nat} {GP : Nat → Nat} {vP : Value} {ng : Nat} {GG : Nat → Nat} {vG : Value} {s : St} (hn : n ≤ 64)
    (H : Wd w0 p b r 2 n w s np GP (fun k => toPr 2 n (some ((100 + k : Nat) : Int)) ap0) vP ng GG (fun _ => toPr 2 n none ap0) vG) (hr : Rep 2 n s.xs (rg0 n)) (hs : SOk s) (hc : Cnt s 1000) :
    Oe w0 p b r n np GP vP ng GG vG 0 w s (rg0 n) (fun _ => ap0) (fun _ => ap0) (fun _ => false) (fun _ => false) (fun _ => 0) := by
  refine ⟨H, hr, OI.first np ng, hs, hc, by simp [rg0], fun j => ?_, fun _ _ => by simp, fun _ _ => by simp⟩
  simp only [rg0]
  split <;> omega
theorem Fam.at {α : Type} {e t : TypeId} {c : α → Array Value} {base : Nat} {w : World} {k : Nat} {G : Nat → Nat} {f : Nat → α} {vq : Option Addr} {vc : Nat} (H : Fam e t c base w k G f (.slice vq k vc)) (hk : 0 < k) :
    ∃ q, vq = some ⟨q, 0, none⟩ ∧ vc ≤ maxLen ∧ k ≤ vc ∧ ∀ i, i < k → w.cell? ⟨q, i, none⟩ = some (.pointer (some ⟨G i, 0, none⟩)) := by
  obtain ⟨q, cp, e1, h1, h2, h3⟩ := H.slice hk
  simp only [Value.slice.injEq] at e1
  obtain ⟨rfl, _, rfl⟩ := e1
  exact ⟨q, rfl, h2, h1, h3⟩
theorem bel_hb {hb : Nat} {w w' w'' : World} (h : Below hb w w') (e : w.heap.size = hb) (k : Below w'.heap.size w' w'') : Below hb w w'' :=
  h.trans (k.mono (by have := h.size; omega))
end Go.Proofs.Ytfnfbceblpaggaa
