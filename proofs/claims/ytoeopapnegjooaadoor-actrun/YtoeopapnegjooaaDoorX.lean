/- The walk of ActRun: for every list of acts and every place to part it the call returns true; nothing that lay before is changed. Condition: the tables stand in their variables. -/
import Derived.Test.YtoeopapnegjooaaDoorL5
import Derived.Deep.AppendLies
import Derived.BigQuiet
import Derived.Deep.QuietTactic
namespace Go.Proofs.YtoeopapnegjooaaDoor
open Go.RowKit

/-- Two memories, apart from one another, made since w0. -/
structure Tw (w0 w : World) (p b : Nat) (s : St) (p' b' : Nat) (s' : St) : Prop where
  m1 : Mem 62 w p b s
  m2 : Mem 62 w p' b' s'
  bel : Below w0.heap.size w0 w
  h1 : w0.heap.size ≤ p
  h2 : w0.heap.size ≤ b
  h3 : w0.heap.size ≤ p'
  h4 : w0.heap.size ≤ b'
  n1 : p ≠ p'
  n2 : p ≠ b'
  n3 : b ≠ p'
  n4 : b ≠ b'
theorem Tw.left {w0 w w' : World} {p b p' b' : Nat} {s s' t : St} (h : Tw w0 w p b s p' b' s') (k : Turns 62 p b w w' t) : Tw w0 w' p b t p' b' s' :=
  ⟨k.1, h.m2.but k.2 (fun e => h.n1 e.symm) (fun e => h.n3 e.symm) (fun e => h.n2 e.symm) (fun e => h.n4 e.symm), h.bel.trans (k.2.below h.bel.size h.h1 h.h2), h.h1, h.h2, h.h3, h.h4, h.n1, h.n2, h.n3, h.n4⟩
theorem Tw.right {w0 w w' : World} {p b p' b' : Nat} {s s' t : St} (h : Tw w0 w p b s p' b' s') (k : Turns 62 p' b' w w' t) : Tw w0 w' p b s p' b' t :=
  ⟨h.m1.but k.2 h.n1 h.n2 h.n3 h.n4, k.1, h.bel.trans (k.2.below h.bel.size h.h3 h.h4), h.h1, h.h2, h.h3, h.h4, h.n1, h.n2, h.n3, h.n4⟩
theorem Tw.below {w0 w w' : World} {p b p' b' : Nat} {s s' : St} (h : Tw w0 w p b s p' b' s') (k : Below w.heap.size w w') : Tw w0 w' p b s p' b' s' :=
  ⟨h.m1.below k, h.m2.below k, bel_trans h.bel k, h.h1, h.h2, h.h3, h.h4, h.n1, h.n2, h.n3, h.n4⟩
theorem Tw.grown {w0 w w' : World} {p b p' b' g : Nat} {s s' : St} (h : Tw w0 w p b s p' b' s') (k : w.grownBy w' (some g)) (h0 : w0.heap.size ≤ g) (g1 : p ≠ g) (g2 : b ≠ g) (g3 : p' ≠ g) (g4 : b' ≠ g) : Tw w0 w' p b s p' b' s' :=
  ⟨h.m1.keep (k.block _ h.m1.lt.1 (by simp [g1])) (k.block _ h.m1.lt.2 (by simp [g2])), h.m2.keep (k.block _ h.m2.lt.1 (by simp [g3])) (k.block _ h.m2.lt.2 (by simp [g4])), h.bel.grown k h.bel.size (fun j e => by cases e; exact h0), h.h1, h.h2, h.h3, h.h4, h.n1, h.n2, h.n3, h.n4⟩

/-- Answers that lie side by side. -/
def ResAt (w : World) (g n : Nat) (f : Nat → Re) : Prop :=
  ∀ i, i < n → w.cell? ⟨g, i * 3, none⟩ = some (.int .u64 (f i).v) ∧ w.cell? ⟨g, i * 3 + 1, none⟩ = some (.bool (f i).ok) ∧ w.cell? ⟨g, i * 3 + 2, none⟩ = some (.int .i64 (f i).e)

theorem resF_take (s : St) (l : List Ac) (k i : Nat) (hi : i < k) : resF s (l.take k) i = resF s l i := by
  unfold resF
  rw [List.take_take, Nat.min_eq_left (by omega)]
  congr 1
  simp [List.getD, hi]
theorem resF_drop (s : St) (l : List Ac) (k j : Nat) : resF (runT s (l.take k)) (l.drop k) j = resF s l (k + j) := by
  unfold resF
  rw [← runT_append]
  have e : l.take k ++ (l.drop k).take j = l.take (k + j) := by rw [List.take_add]
  rw [e]
  congr 1
  simp [List.getD]
theorem runT_parts (s : St) (l : List Ac) (k : Nat) : runT (runT s (l.take k)) (l.drop k) = runT s l := by
  rw [← runT_append, List.take_append_drop]

/-- The rest of the acts. -/
def restQ (q : Option Addr) (c k : Nat) : Option Addr := if c = k then q else q.map (·.add (k * 4))
theorem Acts.take {w : World} {q : Option Addr} {l : List Ac} (h : Acts w q l) (k : Nat) : Acts w q (l.take k) := by
  intro hne
  obtain ⟨g, off, rfl, hg, hc⟩ := h (fun e => hne (by rw [e]; simp))
  refine ⟨g, off, rfl, hg, fun i hi => ?_⟩
  have hi1 : i < k := by have := List.length_take_le k l; omega
  have hi2 : i < l.length := by have := List.length_take_le' k l; omega
  have e : (l.take k).getD i noAc = l.getD i noAc := by simp [List.getD, hi1]
  rw [e]
  exact hc i hi2
theorem Acts.drop {w : World} {q : Option Addr} {l : List Ac} (h : Acts w q l) (k c : Nat) (hc0 : l.length ≤ c) : Acts w (restQ q c k) (l.drop k) := by
  intro hne
  have hk : k < l.length := by
    rcases Nat.lt_or_ge k l.length with h' | h'
    · exact h'
    · exact absurd (List.drop_eq_nil_of_le h') hne
  obtain ⟨g, off, rfl, hg, hc⟩ := h (fun e => hne (by rw [e]; simp))
  refine ⟨g, off + k * 4, ?_, hg, fun i hi => ?_⟩
  · unfold restQ
    rw [if_neg (by omega)]
    simp [add_none]
  · have e : (l.drop k).getD i noAc = l.getD (k + i) noAc := by simp [List.getD]
    rw [e]
    have hi' : k + i < l.length := by simp at hi; omega
    obtain ⟨a0, a1, a2, a3⟩ := hc (k + i) hi'
    have e4 : off + k * 4 + i * 4 = off + (k + i) * 4 := by omega
    rw [e4]
    exact ⟨a0, a1, a2, a3⟩
theorem size40r (W : World) : (sizeOf (Tryd.prog.elem 22)).run Tryd.prog W = .ok 4 W := by
  have : Tryd.prog.elem 22 = 40 := by kernel_rfl
  rw [this]
  exact Tryd.sizeOf40 W
theorem und22 : Tryd.prog.underlying 22 = some (.slice (Tryd.prog.elem 22)) := by kernel_rfl
theorem run_head (q : Option Addr) (n c k : Nat) (h : k ≤ c) (W : World) : (Instr.slice 22 (.slice q n c) none (some (.int .i64 k)) none).run Tryd.prog W = .ok (.slice q k c) W := by
  rw [run_slice_h W 22 q n c und22 .i64 k (by omega) (by omega), size40r]
  cases q <;> simp [Result.andThen, sliced, Addr.add]
theorem run_rest (q : Option Addr) (n c k : Nat) (h : k ≤ n) (W : World) : (Instr.slice 22 (.slice q n c) (some (.int .i64 k)) none none).run Tryd.prog W = .ok (.slice (restQ q c k) (n - k) (c - k)) W := by
  rw [run_slice_l W 22 q n c und22 .i64 k (by omega) (by omega), size40r]
  simp [Result.andThen, sliced, restQ]

theorem info37' : ∃ i, Tryd.prog.info? 37 = some i ∧ i.zero = some zre ∧ i.size = 3 ∧ i.bytes = 24 := by
  obtain ⟨i, hi, hzz⟩ := Option.map_eq_some_iff.1 info37
  simp only [Prod.mk.injEq] at hzz
  exact ⟨i, hi, hzz.1, hzz.2.1, hzz.2.2⟩
theorem res_plain {w : World} {g n : Nat} {f : Nat → Re} {cs : Array Value} (hg : w.heap[g]? = some (.cells cs 37 (0, 0))) (h : IsRes w g n f) : cs.size = n * 3 ∧ ∀ u ∈ cs.toList, u.oneCell' = true := by
  obtain ⟨c', h1, h2, h3⟩ := h
  have : cs = c' := by rw [hg] at h1; simpa using h1
  subst this
  refine ⟨h2, fun u hu => ?_⟩
  obtain ⟨j, hj⟩ := List.mem_iff_getElem?.1 hu
  rw [Array.getElem?_toList] at hj
  have hj' : j < n * 3 := by
    rw [← h2]
    rcases Nat.lt_or_ge j cs.size with h' | h'
    · exact h'
    · rw [Array.getElem?_eq_none h'] at hj; cases hj
  obtain ⟨a, b, d⟩ := h3 (j / 3) (by omega)
  rcases (by omega : j = j / 3 * 3 ∨ j = j / 3 * 3 + 1 ∨ j = j / 3 * 3 + 2) with k | k | k
  · have e : cs[j]? = cs[j / 3 * 3]? := congrArg (fun x => cs[x]?) k
    rw [e, a] at hj; cases hj; rfl
  · have e : cs[j]? = cs[j / 3 * 3 + 1]? := congrArg (fun x => cs[x]?) k
    rw [e, b] at hj; cases hj; rfl
  · have e : cs[j]? = cs[j / 3 * 3 + 2]? := congrArg (fun x => cs[x]?) k
    rw [e, d] at hj; cases hj; rfl
/-- What stands behind append. -/
theorem res_append {w' : World} {base n k : Nat} {f g : Nat → Re} {h : Nat → Re} {cb cc : Array Value} {v' : Value} (hk : k ≤ n)
    (fb : cb.size = k * 3 ∧ ∀ i, i < k → cb[i * 3]? = some (.int .u64 (f i).v) ∧ cb[i * 3 + 1]? = some (.bool (f i).ok) ∧ cb[i * 3 + 2]? = some (.int .i64 (f i).e))
    (fc : cc.size = (n - k) * 3 ∧ ∀ i, i < n - k → cc[i * 3]? = some (.int .u64 (g i).v) ∧ cc[i * 3 + 1]? = some (.bool (g i).ok) ∧ cc[i * 3 + 2]? = some (.int .i64 (g i).e))
    (hf : ∀ i, i < k → f i = h i) (hg : ∀ i, i < n - k → g i = h (k + i))
    (ho : w'.ownsRow base 37 3 v' (k + (n - k)) (cb.toList ++ cc.toList)) (hv : ¬ v' = .slice none 0 0) :
    ∃ q c, v' = .slice (some ⟨q, 0, none⟩) n c ∧ base ≤ q ∧ ResAt w' q n h := by
  obtain ⟨_, ho | ⟨q, c, cur, rfl, hb, hh, _, _, _, htk⟩⟩ := ho
  · exact absurd ho.1 hv
  · rw [show k + (n - k) = n by omega] at htk ⊢
    refine ⟨q, c, rfl, hb, fun i hi => ?_⟩
    have at' : ∀ j, j < n * 3 → cur[j]? = (cb.toList ++ cc.toList)[j]? := fun j hj => by
      rw [← htk, List.getElem?_take, if_pos hj, Array.getElem?_toList]
    by_cases hik : i < k
    · obtain ⟨a, b, d⟩ := fb.2 i hik
      have e : ∀ j, j < k * 3 → cur[j]? = cb[j]? := fun j hj => by
        rw [at' j (by omega), List.getElem?_append_left (by simpa [fb.1] using hj), Array.getElem?_toList]
      rw [← hf i hik]
      exact ⟨cell_of hh ((e _ (by omega)).trans a), cell_of hh ((e _ (by omega)).trans b), cell_of hh ((e _ (by omega)).trans d)⟩
    · obtain ⟨a, b, d⟩ := fc.2 (i - k) (by omega)
      have e : ∀ j, j < (n - k) * 3 → cur[k * 3 + j]? = cc[j]? := fun j hj => by
        rw [at' _ (by omega), List.getElem?_append_right (by simp [fb.1]), Array.getElem?_toList]
        congr 1
        simp [fb.1]
      have hgi := hg (i - k) (by omega)
      rw [show k + (i - k) = i by omega] at hgi
      rw [← hgi]
      have e0 := (e ((i - k) * 3) (by omega)).trans a
      have e1 := (e ((i - k) * 3 + 1) (by omega)).trans b
      have e2 := (e ((i - k) * 3 + 2) (by omega)).trans d
      rw [show k * 3 + (i - k) * 3 = i * 3 by omega] at e0
      rw [show k * 3 + ((i - k) * 3 + 1) = i * 3 + 1 by omega] at e1
      rw [show k * 3 + ((i - k) * 3 + 2) = i * 3 + 2 by omega] at e2
      exact ⟨cell_of hh e0, cell_of hh e1, cell_of hh e2⟩
end Go.Proofs.YtoeopapnegjooaaDoor
