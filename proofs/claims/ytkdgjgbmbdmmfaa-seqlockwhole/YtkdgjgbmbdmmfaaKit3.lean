/- How a case comes in as an argument. -/
import Derived.Test.YtkdgjgbmbdmmfaaY3
import Derived.Test.YtkdgjgbmbdmmfaaKit
namespace Go.Proofs.Ytkdgjgbmbdmmfaa
open Go.ChangeShapes Go.WideShapes Go.ChangeAt Go.RowKit Go.Deep

theorem cells25 : Try.prog.cellsOf 25 = 6 := by kernel_rfl
theorem cells35 : Try.prog.cellsOf 35 = 1 := by kernel_rfl
theorem cells22 : Try.prog.cellsOf 22 = 1 := by kernel_rfl
theorem cells23 : Try.prog.cellsOf 23 = 1 := by kernel_rfl

theorem vl_of_cells {H : Type} {enc : TypeId × Value → H} {W : World} {n : Nat} {u : Value} {x : DataW H × List MemPlace}
    (h : DataW.trod enc Try.prog W 0 (fun _ => true) true n 22 [u] = some x) : ∃ q m c, u = .slice q m c ∧ VL W q m := by
  rcases open_slice Try.underlying22 h with ⟨hcs, _⟩ | ⟨⟨b, off, spot⟩, len', cap', m, k, D, Pl, hcs, _, hl, hm, hmm, _, hel⟩
  · simp at hcs
    subst hcs
    exact ⟨_, _, _, rfl, Nat.zero_le _, fun h => absurd rfl h⟩
  · simp at hcs
    subst hcs
    have hmn : len' ≤ m := by rw [hmm]; simpa using hl
    refine ⟨_, _, _, rfl, by omega, fun hn0 => ?_⟩
    have each : ∀ i, i < len' → ∃ q' n' c', W.cell? ((⟨b, off, spot⟩ : Addr).add i) = some (.slice q' n' c') ∧ n' ≤ maxLen := by
      intro i hi
      obtain ⟨cs', h1, h2⟩ := hel i (by omega)
      rw [cells35] at h1
      obtain ⟨_, hlen, hcell⟩ := World.cells?_some h1
      have e0 := hcell 0 (by omega)
      rw [add_add] at e0
      rcases open_slice Try.underlying35 h2 with ⟨hc2, _⟩ | ⟨a2, l2, c2, _, _, _, _, hc2, _, hl2, hm2, _, _, _⟩
      · rw [hc2] at e0
        exact ⟨_, _, _, by simpa using e0, Nat.zero_le _⟩
      · rw [hc2] at e0
        exact ⟨_, _, _, by simpa using e0, by omega⟩
    obtain ⟨q0, n0, c0, hc0, _⟩ := each 0 (by omega)
    have hspot : spot = none := by simpa [Addr.add] using World.cell?_spot hc0
    subst hspot
    refine ⟨b, off, rfl, World.block_lt_of_cell? W _ (by simpa [Addr.add] using hc0), fun i hi => ?_⟩
    obtain ⟨q', n', c', h1, h2⟩ := each i hi
    rw [add_none] at h1
    exact ⟨q', n', c', h1, h2⟩
theorem pl_of_cells {H : Type} {enc : TypeId × Value → H} {W : World} {n : Nat} {u : Value} {x : DataW H × List MemPlace}
    (h : DataW.trod enc Try.prog W 0 (fun _ => true) true n 23 [u] = some x) : ∃ q m c z, u = .slice q m c ∧ PL W q m z := by
  rcases open_ints Try.underlying23 Try.underlying5 cells5 h with ⟨hcs, _⟩ | ⟨⟨b, off, spot⟩, len', cap', zs, hcs, _, hl, hm, hz, _, hcell, hwf⟩
  · simp at hcs
    subst hcs
    exact ⟨_, _, _, fun _ => 0, rfl, Nat.zero_le _, fun _ => by simp only []; omega, fun h => absurd rfl h⟩
  · simp at hcs
    subst hcs
    have hz' : zs.length = cap' := by simpa using hz
    have hb : ∀ i, 0 ≤ zs.getD i 0 ∧ zs.getD i 0 < 256 := by
      intro i
      by_cases hi : i < zs.length
      · have e : zs.getD i 0 = zs[i] := by simp [List.getD, hi]
        rw [e]
        have := bounds_u8 (hwf _ (List.getElem_mem hi))
        omega
      · have e : zs.getD i 0 = 0 := by simp [List.getD, hi]
        rw [e]; omega
    refine ⟨_, _, _, fun i => (zs.getD i 0).toNat, rfl, by omega, fun i => by have := hb i; simp only []; omega, fun hn0 => ?_⟩
    have hc0 := hcell 0 (by omega)
    have hspot : spot = none := by simpa [Addr.add] using World.cell?_spot hc0
    subst hspot
    refine ⟨b, off, rfl, World.block_lt_of_cell? W _ (by simpa [Addr.add] using hc0), fun i hi => ?_⟩
    have hci := hcell i (by omega)
    rw [add_none] at hci
    rw [hci]
    have := hb i
    congr 2
    simp only []
    omega

/-- A case, handed over by value. -/
theorem case_of_arg {H : Type} {enc : TypeId × Value → H} {W : World} {r : Reach} {b0 : Nat} {v : Value} {d : DataW H} {p : List MemPlace}
    (hv : Value.okWide Try.prog W r b0 25 v) (h : DataW.Trod enc Try.prog W 0 (fun _ => true) true 25 v d p) :
    ∃ (c : Cs) (z : Nat → Nat), v = .agg (csC c) ∧ VL W c.vq c.vn ∧ PL W c.pq c.pn z ∧ 0 ≤ c.z ∧ c.z < 256 := by
  simp only [Value.okWide, Try.underlying25] at hv
  obtain ⟨⟨l⟩, rfl, hsz, _⟩ := hv
  obtain ⟨fuel, hf⟩ := h
  have hl : l.length = 6 := by rw [← cells25]; simpa using hsz
  have hf' : DataW.trod enc Try.prog W 0 (fun _ => true) true fuel 25 l = some (d, p) := hf
  obtain ⟨xs, k, hk, hxy, _, hxl, hfl⟩ := DataW.trod_struct Try.underlying25 hf'
  match l, hl, xs, hxl with
  | [u0, u1, u2, u3, u4, u5], _, [y0, y1, y2, y3, y4, y5], _ =>
    have g0 := hfl 0 _ rfl
    have g1 := hfl 1 _ rfl
    have g2 := hfl 2 _ rfl
    have g3 := hfl 3 _ rfl
    have g4 := hfl 4 _ rfl
    have g5 := hfl 5 _ rfl
    simp [cells5, cells22, cells23] at g0 g1 g2 g3 g4 g5
    obtain ⟨z0, e0, _, w0⟩ := DataW.trod_int Try.underlying5 g0
    obtain ⟨z1, e1, _, w1⟩ := DataW.trod_int Try.underlying5 g1
    obtain ⟨vq, vn, vc, e2, hV⟩ := vl_of_cells g2
    obtain ⟨z3, e3, _, w3⟩ := DataW.trod_int Try.underlying5 g3
    obtain ⟨pq, pn, pc, z, e4, hP⟩ := pl_of_cells g4
    obtain ⟨z5, e5, _, w5⟩ := DataW.trod_int Try.underlying5 g5
    simp at e0 e1 e3 e5
    have b1 := bounds_u8 w1
    exact ⟨⟨z0, z1, vq, vn, vc, z3, pq, pn, pc, z5⟩, z, by rw [e0, e1, e2, e3, e4, e5], hV, hP, b1.1, by simp only []; omega⟩
end Go.Proofs.Ytkdgjgbmbdmmfaa
