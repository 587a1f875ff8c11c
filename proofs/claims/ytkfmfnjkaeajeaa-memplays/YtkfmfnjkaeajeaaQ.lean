/- Two memories side by side, with a call of a script beside them, or a row that was told: what each call leaves. No conditions but that the counts are below 2^62. -/
import Derived.Test.YtkfmfnjkaeajeaaR1
namespace Go.Proofs.Ytkfmfnjkaeajeaa
open Go.RowKit

/-- Two memories, and a call of a script. -/
structure To (w0 w : World) (p b : Nat) (s : St) (p' b' : Nat) (s' : St) (g : Nat) (k a x y : Int) : Prop where
  two : Two 46 w0 w p b s p' b' s'
  o : IsCl w g k a x y
  g1 : g ≠ p
  g2 : g ≠ b
  g3 : g ≠ p'
  g4 : g ≠ b'
section
variable {w0 w w' : World} {p b p' b' g : Nat} {s s' t : St} {k a x y : Int} {m : Nat}
theorem Two.to (h : Two 46 w0 w p b s p' b' s') (k a x y : Int) : To w0 (w.alloc (.cells #[.int .i64 k, .int .i64 a, .int .u64 x, .int .u64 y] 33)) p b s p' b' s' w.heap.size k a x y := by
  have hB : Below w.heap.size w (w.alloc (.cells #[.int .i64 k, .int .i64 a, .int .u64 x, .int .u64 y] 33)) := (Below.refl _ _).alloc (Nat.le_refl _) _
  have h1 := h.m1.lt
  have h2 := h.m2.lt
  exact ⟨h.below hB, heap_alloc_new _ _, by omega, by omega, by omega, by omega⟩
theorem To.left (h : To w0 w p b s p' b' s' g k a x y) (t' : Turns 53 p b w w' t) : To w0 w' p b t p' b' s' g k a x y :=
  ⟨h.two.left t', (t'.2.block g (lt_of_block h.o) h.g1 h.g2).trans h.o, h.g1, h.g2, h.g3, h.g4⟩
theorem To.right (h : To w0 w p b s p' b' s' g k a x y) (t' : Turns 46 p' b' w w' t) : To w0 w' p b s p' b' t g k a x y :=
  ⟨h.two.right t', (t'.2.block g (lt_of_block h.o) h.g3 h.g4).trans h.o, h.g1, h.g2, h.g3, h.g4⟩
theorem To.below (h : To w0 w p b s p' b' s' g k a x y) (t' : Below w.heap.size w w') : To w0 w' p b s p' b' s' g k a x y :=
  ⟨h.two.below t', (t'.block g (lt_of_block h.o)).trans h.o, h.g1, h.g2, h.g3, h.g4⟩
/-- The two cells that a store reads. -/
def OcS (g : Nat) (a x : Int) (w : World) : Prop := w.cell? ⟨g, 1, none⟩ = some (.int .i64 a) ∧ w.cell? ⟨g, 2, none⟩ = some (.int .u64 x)
theorem To.ocS (h : To w0 w p b s p' b' s' g k a x y) : OcS g a x w := ⟨h.o.cells.2.1, h.o.cells.2.2.1⟩
theorem To.store (h : To w0 w p b s p' b' s' g k a x y) (c : Cnt s m) (hm : m ≤ bnd) (i v r : Int) (hr : errV s i = r) :
    Calls Try.prog 14 #[.pointer (some ⟨p, 0, none⟩), .int .i64 i, .int .u64 v] w fun e w' => e = .returned (.int .i64 r) ∧ OcS g a x w' ∧ To w0 w' p b (storeT s i v) p' b' s' g k a x y := by
  subst hr
  exact (store_any h.two.m1 c hm i v).mono fun e w' ⟨he, hT⟩ => ⟨he, (h.left hT).ocS, h.left hT⟩
theorem To.rstore (h : To w0 w p b s p' b' s' g k a x y) (c : Cnt s' m) (hm : m ≤ bnd) (i v r : Int) (hr : errV s' i = r) :
    Calls Try.prog 15 #[.pointer (some ⟨p', 0, none⟩), .int .i64 i, .int .u64 v] w fun e w' => e = .returned (.int .i64 r) ∧ OcS g a x w' ∧ To w0 w' p b s p' b' (storeT s' i v) g k a x y := by
  subst hr
  exact (rstore_any h.two.m2 c hm i v).mono fun e w' ⟨he, hT⟩ => ⟨he, (h.right hT).ocS, h.right hT⟩
end

/-- Two memories of the same words and counts, and a row that was told. -/
structure Pl (w0 : World) (p b p' b' g : Nat) (s : St) (w : World) : Prop where
  two : Two 46 w0 w p b s p' b' s
  row : IsRow w g s.xs
  g1 : g ≠ p
  g2 : g ≠ b
  g3 : g ≠ p'
  g4 : g ≠ b'
  g5 : w0.heap.size ≤ g
section
variable {w0 w w' : World} {p b p' b' g : Nat} {s : St}
theorem Pl.below (h : Pl w0 p b p' b' g s w) (t : Below w.heap.size w w') : Pl w0 p b p' b' g s w' :=
  ⟨h.two.below t, h.row.keep (t.block g h.row.lt), h.g1, h.g2, h.g3, h.g4, h.g5⟩
theorem Two.told (h : Two 46 w0 w p b s p' b' s) (n : Nat) (hn : s.xs.length = n) :
    Calls Try.prog 22 #[.pointer (some ⟨p, 0, none⟩), .int .i64 0, .int .i64 n] w fun e w' => ∃ g, e = .returned (.slice (some ⟨g, 0, none⟩) n n) ∧ Pl w0 p b p' b' g s w' := by
  subst hn
  refine (words_yes h.m1 0 s.xs.length h.m1.pos (by omega)).mono ?_
  rintro e w' ⟨rfl, hR, hB⟩
  have e : cut s.xs 0 s.xs.length = s.xs := by simp [cut]
  rw [e] at hR
  have h1 := h.m1.lt
  have h2 := h.m2.lt
  exact ⟨_, rfl, h.below hB, hR, by omega, by omega, by omega, by omega, h.bel.size⟩
/-- What the test of a round reads and knows. -/
def PlS (w0 : World) (p b p' b' g n : Nat) (d l : Int) (s : St) (w : World) : Prop :=
  (w.cell? ⟨p', 0, none⟩ = some (.slice (some ⟨b', 0, none⟩) n n) ∧ w.cell? ⟨p', 1, none⟩ = some (.int .i64 d) ∧ w.cell? ⟨p', 2, none⟩ = some (.int .i64 l)) ∧ Pl w0 p b p' b' g s w
theorem Pl.plS (h : Pl w0 p b p' b' g s w) {n : Nat} {d l : Int} (hn : s.xs.length = n) (hd : s.d = d) (hl : s.l = l) : PlS w0 p b p' b' g n d l s w := by
  subst hn hd hl
  exact ⟨h.two.m2.cells, h⟩
theorem PlS.below {n : Nat} {d l : Int} (h : PlS w0 p b p' b' g n d l s w) (hn : s.xs.length = n) (hd : s.d = d) (hl : s.l = l) (t : Below w.heap.size w w') : PlS w0 p b p' b' g n d l s w' :=
  (h.2.below t).plS hn hd hl
theorem PlS.same {n : Nat} {d l : Int} (h : PlS w0 p b p' b' g n d l s w) (hn : s.xs.length = n) (hd : s.d = d) (hl : s.l = l) :
    Calls Try.prog 23 #[.slice (some ⟨g, 0, none⟩) n n, .slice (some ⟨b', 0, none⟩) n n] w fun e w' => e = .returned (.bool true) ∧ PlS w0 p b p' b' g n d l s w' := by
  have ht := h.2.two.m2.top
  refine (same_any (h.2.row.lies hn (by omega)) (h.2.two.m2.row.lies hn (by omega))).mono ?_
  rintro e w' ⟨rfl, hB⟩
  exact ⟨rfl, h.below hn hd hl hB⟩
theorem PlS.words {n : Nat} {d l : Int} (h : PlS w0 p b p' b' g n d l s w) (hn : s.xs.length = n) (hd : s.d = d) (hl : s.l = l) (a : Int) :
    Calls Try.prog 22 #[.pointer (some ⟨p, 0, none⟩), .int .i64 a, .int .i64 3] w fun e w' => ∃ q m c, e = .returned (.slice q m c) ∧ PlS w0 p b p' b' g n d l s w' ∧ Hid (Lies w' (.slice q m c) (wordsV s a 3)) := by
  refine (words_any h.2.two.m1 a 3 (by decide)).mono ?_
  rintro e w' ⟨v, rfl, hL, hB⟩
  obtain ⟨_, q, c, rfl, _⟩ := id hL
  exact ⟨q, _, c, rfl, h.below hn hd hl hB, hL⟩
theorem PlS.rwords {n : Nat} {d l : Int} (h : PlS w0 p b p' b' g n d l s w) (hn : s.xs.length = n) (hd : s.d = d) (hl : s.l = l) (a : Int) {u : Value} (hu : Hid (Lies w u (wordsV s a 3))) :
    Calls Try.prog 24 #[.pointer (some ⟨p', 0, none⟩), .int .i64 a, .int .i64 3] w fun e w' => ∃ q m c, e = .returned (.slice q m c) ∧ PlS w0 p b p' b' g n d l s w' ∧ Hid (Lies w' (.slice q m c) (wordsV s a 3) ∧ Lies w' u (wordsV s a 3)) := by
  refine (rwords_any h.2.two.m2 a 3 (by decide)).mono ?_
  rintro e w' ⟨v, rfl, hL, hB⟩
  obtain ⟨_, q, c, rfl, _⟩ := id hL
  exact ⟨q, _, c, rfl, h.below hn hd hl hB, hL, hu.out.below hB⟩
theorem PlS.same2 {n : Nat} {d l : Int} (h : PlS w0 p b p' b' g n d l s w) (hn : s.xs.length = n) (hd : s.d = d) (hl : s.l = l) {a : Int} {u v : Value} (hu : Hid (Lies w v (wordsV s a 3) ∧ Lies w u (wordsV s a 3))) :
    Calls Try.prog 23 #[u, v] w fun e w' => e = .returned (.bool true) ∧ PlS w0 p b p' b' g n d l s w' := by
  refine (same_any hu.out.2 hu.out.1).mono ?_
  rintro e w' ⟨rfl, hB⟩
  exact ⟨rfl, h.below hn hd hl hB⟩
theorem PlS.len {n : Nat} {d l : Int} (h : PlS w0 p b p' b' g n d l s w) (hn : s.xs.length = n) :
    Calls Try.prog 25 #[.pointer (some ⟨p, 0, none⟩)] w fun e w' => e = .returned (.int .i64 n) ∧ PlS w0 p b p' b' g n d l s w' := by
  subst hn
  refine (len_at h.2.two.m1).mono ?_
  rintro e w' ⟨rfl, hw⟩
  rw [hw]
  exact ⟨rfl, h⟩
/-- What was told is changed. -/
theorem Pl.change (h : Pl w0 p b p' b' g s w) (v : Value) : Two 46 w0 (w.setCell ⟨g, 0, none⟩ v) p b s p' b' s := by
  have t : But g g w (w.setCell ⟨g, 0, none⟩ v) := But.setCell _ _ _ _ _ (Or.inl rfl)
  obtain ⟨h1, h2, h3, h4, h5, h6, h7, n1, n2, n3, n4⟩ := h.two
  exact ⟨h1.but t (fun e => h.g1 e.symm) (fun e => h.g1 e.symm) (fun e => h.g2 e.symm) (fun e => h.g2 e.symm), h2.but t (fun e => h.g3 e.symm) (fun e => h.g3 e.symm) (fun e => h.g4 e.symm) (fun e => h.g4 e.symm), h3.trans (t.below h3.size h.g5 h.g5), h4, h5, h6, h7, n1, n2, n3, n4⟩
end
end Go.Proofs.Ytkfmfnjkaeajeaa
