/- A pool that lies in memory behind a pointer: a slice of descriptors; what is known of its cells, and what stays when one of them is laid. Of no function; no conditions. -/
import Derived.Test.YtpfmmlbakbhklaaGreatDoorOQ
namespace Go.Proofs.YtpfmmlbakbhklaaGreatDoor.O
open Go.RowKit

/-- Block p is a struct of type t: a slice (block b) of the descriptors L, of type u. -/
structure IsP (t u : TypeId) (w : World) (p b : Nat) (L : List Ds) : Prop where
  head : ∃ c, w.heap[p]? = some (.cells #[.slice (some ⟨b, 0, none⟩) L.length c] t (0, 0))
  row : ∃ r, w.heap[b]? = some (.cells ⟨fl L ++ r⟩ u (0, 0))
  ne : p ≠ b
  pos : 1 ≤ L.length
  top : L.length ≤ 4096

/-- All that was there is as it was, but for the block b. -/
structure Bt (b : Nat) (w w' : World) : Prop where
  os : w'.os = w.os
  tape : w'.tape = w.tape
  output : w'.output = w.output
  size : w.heap.size ≤ w'.heap.size
  block : ∀ k, k < w.heap.size → k ≠ b → w'.heap[k]? = w.heap[k]?
theorem Bt.refl (b : Nat) (w : World) : Bt b w w := ⟨rfl, rfl, rfl, Nat.le_refl _, fun _ _ _ => rfl⟩
theorem Bt.trans {b : Nat} {x y z : World} (h : Bt b x y) (k : Bt b y z) : Bt b x z :=
  ⟨k.os.trans h.os, k.tape.trans h.tape, k.output.trans h.output, Nat.le_trans h.size k.size, fun i hi a => (k.block i (Nat.lt_of_lt_of_le hi h.size) a).trans (h.block i hi a)⟩
theorem Bt.below {b : Nat} {w w' : World} (h : Bt b w w') {B : Nat} (hB : B ≤ w.heap.size) (hb : B ≤ b) : Below B w w' :=
  ⟨h.os, h.tape, h.output, h.size, fun k hk => h.block k (by omega) (by omega)⟩
theorem Bt.of_below {b : Nat} {w w' : World} (h : Below w.heap.size w w') : Bt b w w' :=
  ⟨h.os, h.tape, h.output, h.size, fun k hk _ => h.block k hk⟩
theorem Bt.setCell (b : Nat) (w : World) (i : Nat) (u : Value) : Bt b w (w.setCell ⟨b, i, none⟩ u) :=
  ⟨rfl, rfl, rfl, by simp [World.setCell], fun k _ h => Below.heap_setCell w _ u k h⟩
theorem Bt.tab {b : Nat} {w w' : World} (h : Bt b w w') (hT : Tab w) (hb : 0 < b) : Tab w' := hT.below (h.below (B := 1) (by have := hT.pos; omega) hb) (by omega) h.size
theorem Bt.setNew {b n : Nat} {w w' : World} (h : Bt b w w') {p : Addr} (hp : w.heap.size ≤ p.block) (u : Value) (hn : n = n) : Bt b w (w'.setCell p u) :=
  have _ := hn
  ⟨h.os, h.tape, h.output, by simpa [World.setCell] using h.size, fun k hk hb => (Below.heap_setCell w' p u k (by omega)).trans (h.block k hk hb)⟩

theorem Bt.drew {b : Nat} {w w' : World} (h : Bt b w w') : Bt b w w'.drew := ⟨h.os, h.tape, h.output, h.size, h.block⟩
section
variable {t u : TypeId} {w w' : World} {p b : Nat} {L : List Ds}
theorem IsP.lt (h : IsP t u w p b L) : p < w.heap.size ∧ b < w.heap.size := by
  obtain ⟨c, hc⟩ := h.head
  obtain ⟨r, hr⟩ := h.row
  exact ⟨lt_of_block hc, lt_of_block hr⟩
theorem IsP.keep (h : IsP t u w p b L) (e : w'.heap[p]? = w.heap[p]?) (f : w'.heap[b]? = w.heap[b]?) : IsP t u w' p b L := by
  obtain ⟨c, hc⟩ := h.head
  obtain ⟨r, hr⟩ := h.row
  exact ⟨⟨c, e.trans hc⟩, ⟨r, f.trans hr⟩, h.ne, h.pos, h.top⟩
theorem IsP.below (h : IsP t u w p b L) (k : Below w.heap.size w w') : IsP t u w' p b L := h.keep (k.block _ h.lt.1) (k.block _ h.lt.2)
theorem IsP.bt {c : Nat} (h : IsP t u w p b L) (k : Bt c w w') (h1 : p ≠ c) (h2 : b ≠ c) : IsP t u w' p b L := h.keep (k.block _ h.lt.1 h1) (k.block _ h.lt.2 h2)
theorem IsP.drew (h : IsP t u w p b L) : IsP t u w.drew p b L := h.keep rfl rfl
theorem IsP.alloc (h : IsP t u w p b L) (o : Obj) : IsP t u (w.alloc o) p b L := h.below (below_one w o)
theorem IsP.slice (h : IsP t u w p b L) : ∃ c, w.cell? ⟨p, 0, none⟩ = some (.slice (some ⟨b, 0, none⟩) L.length c) := by
  obtain ⟨c, hc⟩ := h.head
  exact ⟨c, cell_of hc rfl⟩
theorem fl_pre (L : List Ds) (r : List Value) {i : Nat} {v : Value} (h : (fl L)[i]? = some v) : (fl L ++ r)[i]? = some v := by
  rw [List.getElem?_append_left]
  · exact h
  · exact (List.getElem?_eq_some_iff.1 h).1
theorem IsP.cells (h : IsP t u w p b L) (i : Nat) (hi : i < L.length) :
    w.cell? ⟨b, i * 4, none⟩ = some (.int .i64 (L.getD i zd).k) ∧ w.cell? ⟨b, i * 4 + 1, none⟩ = some (.int .i64 (L.getD i zd).o) ∧ w.cell? ⟨b, i * 4 + 2, none⟩ = some (.int .i64 (L.getD i zd).r) ∧ w.cell? ⟨b, i * 4 + 3, none⟩ = some (.int .i64 (L.getD i zd).e) := by
  obtain ⟨r, hr⟩ := h.row
  obtain ⟨a0, a1, a2, a3⟩ := fl_at L i hi
  exact ⟨cell_of hr (by simpa using fl_pre L r a0), cell_of hr (by simpa using fl_pre L r a1), cell_of hr (by simpa using fl_pre L r a2), cell_of hr (by simpa using fl_pre L r a3)⟩
theorem IsP.free (h : IsP t u w p b L) (i : Nat) : w.frozen? ⟨b, i, none⟩ = false := by
  obtain ⟨r, hr⟩ := h.row
  exact free_of hr
/-- A descriptor is laid. -/
abbrev lay4 (w : World) (b i : Nat) (d : Ds) : World := (((w.setCell ⟨b, i * 4, none⟩ (.int .i64 d.k)).setCell ⟨b, i * 4 + 1, none⟩ (.int .i64 d.o)).setCell ⟨b, i * 4 + 2, none⟩ (.int .i64 d.r)).setCell ⟨b, i * 4 + 3, none⟩ (.int .i64 d.e)
theorem Bt.lay (w : World) (b i : Nat) (d : Ds) : Bt b w (lay4 w b i d) :=
  (((Bt.setCell b w _ _).trans (Bt.setCell b _ _ _)).trans (Bt.setCell b _ _ _)).trans (Bt.setCell b _ _ _)
theorem IsP.set (h : IsP t u w p b L) (i : Nat) (hi : i < L.length) (d : Ds) : IsP t u (lay4 w b i d) p b (L.set i d) := by
  obtain ⟨c, hc⟩ := h.head
  obtain ⟨r, hr⟩ := h.row
  refine ⟨⟨c, ?_⟩, ⟨r, ?_⟩, h.ne, by simpa using h.pos, by simpa using h.top⟩
  · rw [(Bt.lay w b i d).block p (lt_of_block hc) h.ne, hc, List.length_set]
  · rw [heap_setCell_self (heap_setCell_self (heap_setCell_self (heap_setCell_self hr _) _) _) _, ← fl_set L i d hi]
    have hl : i * 4 + 3 < (fl L).length := by rw [fl_length]; omega
    simp only [List.setIfInBounds_toArray]
    rw [List.set_append_left _ _ (by omega), List.set_append_left _ _ (by simp; omega), List.set_append_left _ _ (by simp; omega), List.set_append_left _ _ (by simp; omega)]
end

/-- The program's pool, the document's. -/
abbrev PP := IsP 129 64
abbrev RP := IsP 90 91
end Go.Proofs.YtpfmmlbakbhklaaGreatDoor.O
