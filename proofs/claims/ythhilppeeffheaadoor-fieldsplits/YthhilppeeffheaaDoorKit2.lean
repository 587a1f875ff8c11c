/- How the two slices of FieldSplits come in: a list of numbers, a list of parts. -/
import Derived.Test.YthhilppeeffheaaDoorL4
import Derived.Test.YthhilppeeffheaaDoorKit
import Derived.Deep.SlicePairs
namespace Go.Proofs.YthhilppeeffheaaDoor
open Go.ChangeShapes Go.WideShapes Go.ChangeAt Go.RowKit Go.Deep

theorem add_none (b off i : Nat) : ((⟨b, off, none⟩ : Addr).add i) = ⟨b, off + i, none⟩ := by by_cases h : i = 0 <;> simp [Addr.add, h]

theorem row_of_arg {H : Type} {enc : TypeId × Value → H} {W : World} {r : Reach} {b0 : Nat} {v : Value} {d : DataW H} {p : List MemPlace}
    (hv : Value.okWide Tryd.prog W r b0 24 v) (h : DataW.Trod enc Tryd.prog W 0 (fun _ => true) true 24 v d p) :
    ∃ q n c xs, v = .slice q n c ∧ n ≤ maxLen ∧ xs.length = n ∧ Row .i64 W v xs := by
  obtain ⟨q, n, c, rfl⟩ := okWide_slice Tryd.underlying24 hv
  obtain ⟨fuel, hf⟩ := h
  rcases open_ints Tryd.underlying24 Tryd.underlying3 cells3 hf with ⟨hcs, _⟩ | ⟨⟨b, off, spot⟩, len', cap', zs, hcs, _, hl, hm, hz, _, hcell, _⟩
  · simp [Value.cells] at hcs
    obtain ⟨rfl, rfl, rfl⟩ := hcs
    exact ⟨none, 0, 0, [], rfl, Nat.zero_le _, rfl, Nat.zero_le _, none, 0, rfl, fun h => absurd rfl h⟩
  · simp [Value.cells] at hcs
    obtain ⟨rfl, rfl, rfl⟩ := hcs
    have hz' : zs.length = c := by simpa using hz
    have htl : (zs.take n).length = n := by rw [List.length_take]; omega
    refine ⟨_, n, c, zs.take n, rfl, by omega, htl, by omega, _, c, by rw [htl], fun hne => ?_⟩
    have hn0 : 0 < n := by
      rcases Nat.eq_zero_or_pos n with h0 | h0
      · subst h0; exact absurd (by simp) hne
      · exact h0
    have hc0 := hcell 0 (by omega)
    have hspot : spot = none := by simpa [Addr.add] using World.cell?_spot hc0
    subst hspot
    refine ⟨b, off, rfl, World.block_lt_of_cell? W _ (by simpa [Addr.add] using hc0), fun i hi => ?_⟩
    have hi' : i < n := by omega
    have hci := hcell i (by omega)
    rw [add_none] at hci
    rw [hci]
    have hiz : i < zs.length := by omega
    simp [List.getD, hi']

theorem parts_of_arg {H : Type} {enc : TypeId × Value → H} {W : World} {r : Reach} {b0 : Nat} {v : Value} {d : DataW H} {p : List MemPlace}
    (hv : Value.okWide Tryd.prog W r b0 33 v) (h : DataW.Trod enc Tryd.prog W 0 (fun _ => true) true 33 v d p) :
    ∃ q n c l, v = .slice q n c ∧ n ≤ maxLen ∧ l.length = n ∧ Parts W v l := by
  obtain ⟨q, n, c, rfl⟩ := okWide_slice Tryd.underlying33 hv
  obtain ⟨fuel, hf⟩ := h
  rcases open_slice_pairs Tryd.underlying33 Tryd.underlying48 (by kernel_rfl) rfl rfl (by kernel_rfl) (by kernel_rfl) hf with ⟨hcs, _⟩ | ⟨⟨b, off, spot⟩, len', cap', m, k, V0, V1, D0, D1, P0, P1, hcs, _, hl, hm, hmm, _, hel⟩
  · simp [Value.cells] at hcs
    obtain ⟨rfl, rfl, rfl⟩ := hcs
    exact ⟨none, 0, 0, [], rfl, Nat.zero_le _, rfl, by simp, none, 0, rfl, fun h => absurd rfl h⟩
  · simp [Value.cells] at hcs
    obtain ⟨rfl, rfl, rfl⟩ := hcs
    have hmn : n ≤ m := by rw [hmm]; simpa using hl
    have each : ∀ i, i < n → ∃ z : Int × Int, (0 ≤ z.1 ∧ z.1 < 18446744073709551616) ∧ W.cell? ((⟨b, off, spot⟩ : Addr).add (i * 2)) = some (.int .u64 z.1) ∧ W.cell? ((⟨b, off, spot⟩ : Addr).add (i * 2 + 1)) = some (.int .i64 z.2) := by
      intro i hi
      obtain ⟨e1, e2, e3, e4⟩ := hel i (by omega)
      obtain ⟨a, ha, _, wa⟩ := DataW.trod_int Tryd.underlying22 e3
      obtain ⟨s, hs, _, _⟩ := DataW.trod_int Tryd.underlying3 e4
      simp at ha hs
      have := bounds_u64 wa
      exact ⟨(a, s), ⟨this.1, by omega⟩, by rw [e1, ha], by rw [e2, hs]⟩
    obtain ⟨z, hz⟩ := choose_lt each
    have hlen : ((List.range n).map z).length = n := by simp
    refine ⟨_, n, c, (List.range n).map z, rfl, by omega, hlen, ?_, _, c, by rw [hlen], fun hne => ?_⟩
    · intro p hp
      obtain ⟨i, hi, rfl⟩ := List.mem_map.1 hp
      exact (hz i (List.mem_range.1 hi)).1
    · have hn0 : 0 < n := by
        rcases Nat.eq_zero_or_pos n with h0 | h0
        · subst h0; exact absurd (by simp) hne
        · exact h0
      have hc0 := (hz 0 hn0).2.1
      have hspot : spot = none := by simpa [Addr.add] using World.cell?_spot hc0
      subst hspot
      rw [hlen]
      refine ⟨b, off, rfl, hlen, World.block_lt_of_cell? W _ (by simpa [Addr.add] using hc0), fun i hi => ?_⟩
      obtain ⟨_, f1, f2⟩ := hz i hi
      rw [add_none] at f1 f2
      rw [f1, show off + i * 2 + 1 = off + (i * 2 + 1) by omega, f2]
      simp [hi]

theorem splits_walk (x : Nat) (hx : x < 18446744073709551616) (p q : Option Addr) (n c m d : Nat) (xs : List Int) (l : List (Int × Int)) (w : World) (hn : n ≤ maxLen) (hm : m ≤ maxLen) (hxs : xs.length = n) (hl : l.length = m)
    (hR : Row .i64 w (.slice p n c) xs) (hP : Parts w (.slice q m d) l) (hT : Tab w) (hw : 0 < w.heap.size) :
    Calls Tryd.prog 4 #[.int .u64 x, .slice p n c, .slice q m d] w fun e w' => e = .returned (.bool true) ∧ Below w.heap.size w w' := by
  by_cases h : 100 < n ∨ 100 < m
  · exact splits_great x p q n c m d w hn hm h hT hw
  · exact splits_small x hx p q n c m d xs l w (by omega) (by omega) hxs hl hR hP hT hw
end Go.Proofs.YthhilppeeffheaaDoor
