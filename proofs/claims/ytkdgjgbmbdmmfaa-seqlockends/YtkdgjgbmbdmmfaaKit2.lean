/- How a list of words comes in as an argument. -/
import Derived.Test.YtkdgjgbmbdmmfaaW4
import Derived.Test.YtkdgjgbmbdmmfaaKit
namespace Go.Proofs.Ytkdgjgbmbdmmfaa
open Go.ChangeShapes Go.WideShapes Go.ChangeAt Go.RowKit Go.Deep

theorem nums_of_arg {H : Type} {enc : TypeId × Value → H} {W : World} {r : Reach} {b0 : Nat} {v : Value} {d : DataW H} {p : List MemPlace}
    (hv : Value.okWide Try.prog W r b0 35 v) (h : DataW.Trod enc Try.prog W 0 (fun _ => true) true 35 v d p) :
    ∃ q n c l, v = .slice q n c ∧ n ≤ maxLen ∧ l.length = n ∧ (∀ z ∈ l, 0 ≤ z ∧ z ≤ 18446744073709551615) ∧ (n ≤ 16 → Lies W (.slice q n c) l) := by
  obtain ⟨q, n, c, rfl⟩ := okWide_slice Try.underlying35 hv
  obtain ⟨fuel, hf⟩ := h
  rcases open_ints Try.underlying35 Try.underlying36 cells36 hf with ⟨hcs, _⟩ | ⟨⟨b, off, spot⟩, len', cap', zs, hcs, _, hl, hm, hz, _, hcell, hwf⟩
  · simp [Value.cells] at hcs
    obtain ⟨rfl, rfl, rfl⟩ := hcs
    exact ⟨none, 0, 0, [], rfl, Nat.zero_le _, rfl, fun z hz => by simp at hz, fun _ => Lies.nil _ _ _⟩
  · simp [Value.cells] at hcs
    obtain ⟨rfl, rfl, rfl⟩ := hcs
    have hz' : zs.length = c := by simpa using hz
    have htl : (zs.take n).length = n := by rw [List.length_take]; omega
    refine ⟨_, n, c, zs.take n, rfl, by omega, htl, fun z hz => ?_, fun h16 => ⟨by rw [htl]; omega, _, c, by rw [htl], fun hne => ?_⟩⟩
    · have b := bounds_u64 (hwf z (List.mem_of_mem_take hz))
      omega
    have hn0 : 0 < n := by
      rcases Nat.eq_zero_or_pos n with h0 | h0
      · subst h0; exact absurd (by simp) hne
      · exact h0
    have hc0 := hcell 0 (by omega)
    have hspot : spot = none := by simpa [Addr.add] using World.cell?_spot hc0
    subst hspot
    refine ⟨b, off, rfl, World.block_lt_of_cell? W _ (by simpa [Addr.add] using hc0), fun i hi => ?_⟩
    have hi' : i < n := by omega
    have hci := hcell i (by omega)
    rw [add_none] at hci
    rw [hci]
    simp [List.getD, hi']
end Go.Proofs.Ytkdgjgbmbdmmfaa
