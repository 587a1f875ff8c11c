/- How lists of words, of small numbers and of bools come in as arguments. -/
import Derived.Test.YtmglacaikpcjhaaY0
import Derived.Test.YtmglacaikpcjhaaKit
import Derived.Deep.Grids
namespace Go.Proofs.Ytmglacaikpcjhaa
open Go.ChangeShapes Go.WideShapes Go.ChangeAt Go.RowKit Go.Deep

theorem cells4 : Try.prog.cellsOf 4 = 1 := by kernel_rfl
theorem pl_of_cells {H : Type} {enc : TypeId × Value → H} {W : World} {n : Nat} {u : Value} {x : DataW H × List MemPlace}
    (h : DataW.trod enc Try.prog W 0 (fun _ => true) true n 22 [u] = some x) : ∃ q m c z, u = .slice q m c ∧ PL W q m z := by
  rcases open_ints Try.underlying22 Try.underlying5 cells5 h with ⟨hcs, _⟩ | ⟨⟨b, off, spot⟩, len', cap', zs, hcs, _, hl, hm, hz, _, hcell, hwf⟩
  · simp at hcs
    subst hcs
    exact ⟨_, _, _, fun _ => 0, rfl, Nat.zero_le _, fun _ => by simp only []; omega, fun h => absurd rfl h⟩
  · simp at hcs
    subst hcs
    have hz' : zs.length = cap' := by simpa using hz
    have hb : ∀ i, 0 ≤ zs.getD i 0 ∧ zs.getD i 0 < 256 := by
      intro i
      by_cases hi : i < zs.length
      · have e : zs.getD i 0 = zs[i] := by simp [List.getD, hi]
        rw [e]
        have := bounds_u8 (hwf _ (List.getElem_mem hi))
        omega
      · have e : zs.getD i 0 = 0 := by simp [List.getD, hi]
        rw [e]; omega
    refine ⟨_, _, _, fun i => (zs.getD i 0).toNat, rfl, by omega, fun i => by have := hb i; simp only []; omega, fun hn0 => ?_⟩
    have hc0 := hcell 0 (by omega)
    have hspot : spot = none := by simpa [Addr.add] using World.cell?_spot hc0
    subst hspot
    refine ⟨b, off, rfl, World.block_lt_of_cell? W _ (by simpa [Addr.add] using hc0), fun i hi => ?_⟩
    have hci := hcell i (by omega)
    rw [add_none] at hci
    rw [hci]
    have := hb i
    congr 2
    simp only []
    omega
set_option maxRecDepth 100000 in
theorem smalls_of_arg {H : Type} {enc : TypeId × Value → H} {W : World} {r : Reach} {b0 : Nat} {v : Value} {d : DataW H} {p : List MemPlace}
    (hv : Value.okWide Try.prog W r b0 22 v) (h : DataW.Trod enc Try.prog W 0 (fun _ => true) true 22 v d p) :
    ∃ q m c f, v = .slice q m c ∧ PL W q m f := by
  obtain ⟨q, n, c, rfl⟩ := okWide_slice Try.underlying22 hv
  obtain ⟨fuel, hf⟩ := h
  exact pl_of_cells (u := .slice q n c) hf
set_option maxRecDepth 100000 in
theorem bools_of_arg {H : Type} {enc : TypeId × Value → H} {W : World} {r : Reach} {b0 : Nat} {v : Value} {d : DataW H} {p : List MemPlace}
    (hv : Value.okWide Try.prog W r b0 72 v) (h : DataW.Trod enc Try.prog W 0 (fun _ => true) true 72 v d p) :
    ∃ q m c f, v = .slice q m c ∧ BL W q m f := by
  obtain ⟨q, n, c, rfl⟩ := okWide_slice Try.underlying72 hv
  obtain ⟨fuel, hf⟩ := h
  rcases open_bools Try.underlying72 Try.underlying4 cells4 hf with ⟨hcs, _⟩ | ⟨⟨b, off, spot⟩, len', cap', B, hcs, _, hl, hm, _, hcell⟩
  · simp [Value.cells] at hcs
    obtain ⟨rfl, rfl, rfl⟩ := hcs
    exact ⟨_, _, _, fun _ => false, rfl, Nat.zero_le _, fun h => absurd rfl h⟩
  · simp [Value.cells] at hcs
    obtain ⟨rfl, rfl, rfl⟩ := hcs
    refine ⟨_, _, _, B, rfl, by omega, fun hn0 => ?_⟩
    have hc0 := hcell 0 (by omega)
    have hspot : spot = none := by simpa [Addr.add] using World.cell?_spot hc0
    subst hspot
    refine ⟨b, off, rfl, World.block_lt_of_cell? W _ (by simpa [Addr.add] using hc0), fun i hi => ?_⟩
    have hci := hcell i (by omega)
    rw [add_none] at hci
    exact hci
end Go.Proofs.Ytmglacaikpcjhaa
