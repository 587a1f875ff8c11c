/- Scripts: a call of a script lies in a block of its own while the words turn; what a word is behind each call. No conditions but that the counts are below 2^62. -/
import Derived.Test.YtkfmfnjkaeajeaaW5
namespace Go.Proofs.Ytkfmfnjkaeajeaa
open Go.RowKit

/-- A call of a script. -/
structure Cl where
  kd : Int
  ad : Int
  a : Int
  b : Int
/-- No call. -/
def noCl : Cl := ⟨0, 0, 0, 0⟩

/-- A slice that reads as a script. -/
def Script (w : World) (q : Option Addr) (l : List Cl) : Prop :=
  l ≠ [] → ∃ b off, q = some ⟨b, off, none⟩ ∧ b < w.heap.size ∧ ∀ i, i < l.length → w.cell? ⟨b, off + i * 4, none⟩ = some (.int .i64 (l.getD i noCl).kd) ∧ w.cell? ⟨b, off + i * 4 + 1, none⟩ = some (.int .i64 (l.getD i noCl).ad) ∧ w.cell? ⟨b, off + i * 4 + 2, none⟩ = some (.int .u64 (l.getD i noCl).a) ∧ w.cell? ⟨b, off + i * 4 + 3, none⟩ = some (.int .u64 (l.getD i noCl).b)

/-- A call of a script in a block of its own. -/
def IsCl (w : World) (g : Nat) (k a x y : Int) : Prop := w.heap[g]? = some (.cells #[.int .i64 k, .int .i64 a, .int .u64 x, .int .u64 y] 33 (0, 0))
theorem IsCl.cells {w : World} {g : Nat} {k a x y : Int} (h : IsCl w g k a x y) :
    w.cell? ⟨g, 0, none⟩ = some (.int .i64 k) ∧ w.cell? ⟨g, 1, none⟩ = some (.int .i64 a) ∧ w.cell? ⟨g, 2, none⟩ = some (.int .u64 x) ∧ w.cell? ⟨g, 3, none⟩ = some (.int .u64 y) := by
  unfold IsCl at h
  simp [World.cell?, h]

/-- Words that were made since w0, and a call of a script. -/
structure Ko (w0 w : World) (p b g : Nat) (k a x y : Int) (s : St) : Prop where
  mem : Mem 53 w p b s
  bel : Below w0.heap.size w0 w
  hp : w0.heap.size ≤ p
  hb : w0.heap.size ≤ b
  o : IsCl w g k a x y
  np : g ≠ p
  nb : g ≠ b
theorem Kn.ko {w0 w : World} {p b : Nat} {s : St} (h : Kn w0 w p b s) (k a x y : Int) : Ko w0 (w.alloc (.cells #[.int .i64 k, .int .i64 a, .int .u64 x, .int .u64 y] 33)) p b w.heap.size k a x y s := by
  have hB : Below w.heap.size w (w.alloc (.cells #[.int .i64 k, .int .i64 a, .int .u64 x, .int .u64 y] 33)) := (Below.refl _ _).alloc (Nat.le_refl _) _
  have := h.mem.lt
  exact ⟨h.mem.below hB, h.bel.trans (hB.mono h.bel.size), h.hp, h.hb, heap_alloc_new _ _, by omega, by omega⟩
theorem Ko.kn {w0 w : World} {p b g : Nat} {k a x y : Int} {s : St} (h : Ko w0 w p b g k a x y s) {m : Nat} (c : Cnt s m) (hm : m ≤ bnd) : Kn w0 w p b s := ⟨h.mem, ⟨m, hm, c⟩, h.bel, h.hp, h.hb⟩
theorem Ko.turn {w0 w w' : World} {p b g : Nat} {k a x y : Int} {s s' : St} (h : Ko w0 w p b g k a x y s) (t : Turns 53 p b w w' s') : Ko w0 w' p b g k a x y s' :=
  ⟨t.1, h.bel.trans (t.2.below h.bel.size h.hp h.hb), h.hp, h.hb, (t.2.block g (lt_of_block h.o) h.np h.nb).trans h.o, h.np, h.nb⟩
theorem Ko.below {w0 w w' : World} {p b g : Nat} {k a x y : Int} {s : St} (h : Ko w0 w p b g k a x y s) (t : Below w.heap.size w w') : Ko w0 w' p b g k a x y s :=
  ⟨h.mem.below t, h.bel.trans (t.mono h.bel.size), h.hp, h.hb, (t.block g (lt_of_block h.o)).trans h.o, h.np, h.nb⟩

section
variable {w0 w : World} {p b g : Nat} {k a x y : Int} {s : St} {m : Nat}
theorem Ko.store (h : Ko w0 w p b g k a x y s) (c : Cnt s m) (hm : m ≤ bnd) (i v r : Int) (hr : errV s i = r) :
    Calls Try.prog 14 #[.pointer (some ⟨p, 0, none⟩), .int .i64 i, .int .u64 v] w fun e w' => e = .returned (.int .i64 r) ∧ Ko w0 w' p b g k a x y (storeT s i v) := by
  subst hr
  exact (store_any h.mem c hm i v).mono fun e w' ⟨he, hT⟩ => ⟨he, h.turn hT⟩
theorem Ko.cas (h : Ko w0 w p b g k a x y s) (c : Cnt s m) (hm : m ≤ bnd) (i o v r : Int) (z : Bool) (hr : errV s i = r) (hz : casV s i o = z) :
    Calls Try.prog 16 #[.pointer (some ⟨p, 0, none⟩), .int .i64 i, .int .u64 o, .int .u64 v] w fun e w' => e = .returned (.tuple #[.bool z, .int .i64 r]) ∧ Ko w0 w' p b g k a x y (casT s i o v) := by
  subst hr hz
  exact (cas_any h.mem c hm i o v).mono fun e w' ⟨he, hT⟩ => ⟨he, h.turn hT⟩
theorem Ko.add (h : Ko w0 w p b g k a x y s) (c : Cnt s m) (hm : m ≤ bnd) (i v u r : Int) (hr : errV s i = r) (hu : loadV s i = u) :
    Calls Try.prog 18 #[.pointer (some ⟨p, 0, none⟩), .int .i64 i, .int .u64 v] w fun e w' => e = .returned (.tuple #[.int .u64 u, .int .i64 r]) ∧ Ko w0 w' p b g k a x y (addT s i v) := by
  subst hr hu
  exact (add_any h.mem c hm i v).mono fun e w' ⟨he, hT⟩ => ⟨he, h.turn hT⟩
theorem Ko.load (h : Ko w0 w p b g k a x y s) (c : Cnt s m) (hm : m ≤ bnd) (i u r : Int) (hr : errV s i = r) (hu : loadV s i = u) :
    Calls Try.prog 12 #[.pointer (some ⟨p, 0, none⟩), .int .i64 i] w fun e w' => e = .returned (.tuple #[.int .u64 u, .int .i64 r]) ∧ Ko w0 w' p b g k a x y (loadT s i) := by
  subst hr hu
  exact (load_any h.mem c hm i).mono fun e w' ⟨he, hT⟩ => ⟨he, h.turn hT⟩
theorem Ko.count (h : Ko w0 w p b g k a x y s) (d l : Int) (hd : s.d = d) (hl : s.l = l) :
    Calls Try.prog 21 #[.pointer (some ⟨p, 0, none⟩)] w fun e w' => e = .returned (.tuple #[.int .i64 d, .int .i64 l]) ∧ Ko w0 w' p b g k a x y s := by
  subst hd hl
  exact (count_any h.mem).mono fun e w' ⟨he, hT⟩ => ⟨he, h.below hT⟩
end

/-! What a word is behind each call. -/
theorem there_t {s : St} {t : Nat} (h : t < s.xs.length) : there s (t : Int) = true := inB_yes.2 (by omega)
theorem loadV_t {s : St} {t : Nat} (h : t < s.xs.length) : loadV s (t : Int) = s.xs.getD t 0 := by simp [loadV, there_t h]
theorem errV_t {s : St} {t : Nat} (h : t < s.xs.length) : errV s (t : Int) = 0 := by simp [errV, there_t h]
theorem errV_yes {s : St} {a : Int} (h : there s a = true) : errV s a = 0 := by simp [errV, h]
theorem errV_no {s : St} {a : Int} (h : there s a = false) : errV s a = 2 := by simp [errV, h]
theorem loadT_xs (s : St) (a : Int) : (loadT s a).xs = s.xs := by unfold loadT; split <;> rfl
theorem storeT_len (s : St) (a v : Int) : (storeT s a v).xs.length = s.xs.length := by unfold storeT; split <;> simp
theorem casT_len (s : St) (a o v : Int) : (casT s a o v).xs.length = s.xs.length := by unfold casT; split <;> (try split) <;> simp
theorem addT_len (s : St) (a v : Int) : (addT s a v).xs.length = s.xs.length := storeT_len _ _ _
theorem loadT_len (s : St) (a : Int) : (loadT s a).xs.length = s.xs.length := by rw [loadT_xs]
theorem set_ne {xs : List Int} {t i : Nat} {v : Int} (h : i ≠ t) : (xs.set i v).getD t 0 = xs.getD t 0 := by simp [List.getD, List.getElem?_set_ne h]
theorem set_eq {xs : List Int} {t : Nat} {v : Int} (h : t < xs.length) : (xs.set t v).getD t 0 = v := by simp [List.getD, h]
theorem toNat_ne {s : St} {a : Int} {t : Nat} (h : there s a = true) (hne : a ≠ t) : a.toNat ≠ t := by
  have := (inB_yes.1 h).1
  omega
theorem storeT_ne {s : St} {a v : Int} {t : Nat} (h : a ≠ t) : (storeT s a v).xs.getD t 0 = s.xs.getD t 0 := by
  cases ha : there s a
  · simp [storeT, ha]
  · simp only [storeT, ha]; exact set_ne (toNat_ne ha h)
theorem storeT_eq {s : St} {v : Int} {t : Nat} (h : t < s.xs.length) : (storeT s (t : Int) v).xs.getD t 0 = v := by
  simp only [storeT, there_t h]; exact set_eq h
theorem casT_ne {s : St} {a o v : Int} {t : Nat} (h : a ≠ t) : (casT s a o v).xs.getD t 0 = s.xs.getD t 0 := by
  cases ha : there s a
  · simp [casT, ha]
  · simp only [casT, ha]; simp only [if_true]; split
    · exact set_ne (toNat_ne ha h)
    · rfl
theorem casT_yes {s : St} {o v : Int} {t : Nat} (h : t < s.xs.length) (hx : s.xs.getD t 0 = o) : (casT s (t : Int) o v).xs.getD t 0 = v := by
  have hx' : s.xs.getD (t : Int).toNat 0 = o := hx
  simp only [casT, there_t h, if_pos hx']; exact set_eq h
theorem casT_no {s : St} {o v : Int} {t : Nat} (h : t < s.xs.length) (hx : s.xs.getD t 0 ≠ o) : (casT s (t : Int) o v).xs.getD t 0 = s.xs.getD t 0 := by
  have hx' : ¬ s.xs.getD (t : Int).toNat 0 = o := hx
  simp only [casT, there_t h, if_neg hx']; rfl
theorem casV_yes {s : St} {o : Int} {t : Nat} (h : t < s.xs.length) (hx : s.xs.getD t 0 = o) : casV s (t : Int) o = true := by
  have hx' : s.xs.getD (t : Int).toNat 0 = o := hx
  simp only [casV, there_t h, hx', beq_self_eq_true]; rfl
theorem casV_no {s : St} {o : Int} {t : Nat} (h : t < s.xs.length) (hx : s.xs.getD t 0 ≠ o) : casV s (t : Int) o = false := by
  have hb : (s.xs.getD (t : Int).toNat 0 == o) = false := beq_eq_false_iff_ne.2 hx
  simp only [casV, there_t h, hb]; rfl
theorem addT_ne {s : St} {a v : Int} {t : Nat} (h : a ≠ t) : (addT s a v).xs.getD t 0 = s.xs.getD t 0 := storeT_ne h
theorem addT_eq {s : St} {v : Int} {t : Nat} (h : t < s.xs.length) : (addT s (t : Int) v).xs.getD t 0 = add64 (s.xs.getD t 0) v := by
  unfold addT; rw [storeT_eq h, loadV_t h]
end Go.Proofs.Ytkfmfnjkaeajeaa
