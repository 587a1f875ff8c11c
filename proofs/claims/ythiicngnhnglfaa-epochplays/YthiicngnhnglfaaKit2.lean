/- How a script of calls comes in as an argument. -/
import Derived.Test.YthiicngnhnglfaaSc
import Derived.Test.YthiicngnhnglfaaKit
import Derived.Deep.Slices
import Derived.Deep.Grids
namespace Go.Proofs.Ythiicngnhnglfaa
open Go.ChangeShapes Go.WideShapes Go.ChangeAt Go.RowKit Go.Deep

theorem cl_of_cells {H : Type} {enc : TypeId × Value → H} {W : World} {base : Nat} {spare : Nat → Bool} {held : Bool} {n : Nat} {cs : List Value} {x : DataW H × List MemPlace} (hl : cs.length = 3)
    (h : DataW.trod enc Try.prog W base spare held n 31 cs = some x) : ∃ o : Cl, o.fit ∧ cs = [.int .i64 o.kd, .int .i64 o.c, .int .i64 o.f] := by
  obtain ⟨xs, k, hk, hxy, _, hxl, hf⟩ := DataW.trod_struct Try.underlying31 h
  match cs, hl, xs, hxl with
  | [u0, u1, u2], _, [y0, y1, y2], _ =>
    have g0 := hf 0 _ rfl
    have g1 := hf 1 _ rfl
    have g2 := hf 2 _ rfl
    simp [cells3] at g0 g1 g2
    obtain ⟨z0, e0, _, _⟩ := DataW.trod_int Try.underlying3 g0
    obtain ⟨z1, e1, _, f1⟩ := DataW.trod_int Try.underlying3 g1
    obtain ⟨z2, e2, _, f2⟩ := DataW.trod_int Try.underlying3 g2
    simp at e0 e1 e2
    exact ⟨⟨z0, z1, z2⟩, ⟨bounds_i64 f1, bounds_i64 f2⟩, by rw [e0, e1, e2]⟩

theorem script_of_arg {H : Type} {enc : TypeId × Value → H} {W : World} {r : Reach} {b0 : Nat} {v : Value} {d : DataW H} {p : List MemPlace}
    (hv : Value.okWide Try.prog W r b0 22 v) (h : DataW.Trod enc Try.prog W 0 (fun _ => true) true 22 v d p) :
    ∃ q n c l, v = .slice q n c ∧ n ≤ maxLen ∧ l.length = n ∧ Script W q l := by
  obtain ⟨q, n, c, rfl⟩ := okWide_slice Try.underlying22 hv
  obtain ⟨fuel, hf⟩ := h
  rcases open_slice Try.underlying22 hf with ⟨hcs, _⟩ | ⟨⟨b, off, spot⟩, len', cap', m, k, D, Pl, hcs, _, hl, hm, hmm, _, hel⟩
  · simp [Value.cells] at hcs
    obtain ⟨rfl, rfl, rfl⟩ := hcs
    exact ⟨none, 0, 0, [], rfl, Nat.zero_le _, rfl, fun h => absurd rfl h⟩
  · simp [Value.cells] at hcs
    obtain ⟨rfl, rfl, rfl⟩ := hcs
    have hmn : n ≤ m := by rw [hmm]; simpa using hl
    have each : ∀ i, i < n → ∃ o : Int × Int × Int, (⟨o.1, o.2.1, o.2.2⟩ : Cl).fit ∧ W.cell? ((⟨b, off, spot⟩ : Addr).add (i * 3)) = some (.int .i64 o.1) ∧ W.cell? ((⟨b, off, spot⟩ : Addr).add (i * 3 + 1)) = some (.int .i64 o.2.1) ∧ W.cell? ((⟨b, off, spot⟩ : Addr).add (i * 3 + 2)) = some (.int .i64 o.2.2) := by
      intro i hi
      obtain ⟨cs', h1, h2⟩ := hel i (by omega)
      rw [cells31] at h1
      obtain ⟨_, hlen, hcell⟩ := World.cells?_some h1
      obtain ⟨o, hof, rfl⟩ := cl_of_cells hlen h2
      have e0 := hcell 0 (by omega)
      have e1 := hcell 1 (by omega)
      have e2 := hcell 2 (by omega)
      rw [add_add] at e0 e1 e2
      exact ⟨(o.kd, o.c, o.f), hof, by simpa using e0, by simpa using e1, by simpa using e2⟩
    obtain ⟨z', hz⟩ := choose_lt each
    let z : Nat → Cl := fun i => ⟨(z' i).1, (z' i).2.1, (z' i).2.2⟩
    have hlen : ((List.range n).map z).length = n := by simp
    refine ⟨_, n, c, (List.range n).map z, rfl, by omega, hlen, fun hne => ?_⟩
    have hn0 : 0 < n := by
      rcases Nat.eq_zero_or_pos n with h0 | h0
      · subst h0; exact absurd (by simp) hne
      · exact h0
    have hc0 := (hz 0 hn0).2.1
    have hspot : spot = none := by simpa [Addr.add] using World.cell?_spot hc0
    subst hspot
    refine ⟨b, off, rfl, World.block_lt_of_cell? W _ (by simpa [Addr.add] using hc0), fun i hi => ?_⟩
    rw [hlen] at hi
    obtain ⟨ff, f0, f1, f2⟩ := hz i hi
    rw [add_none] at f0 f1 f2
    have e : ((List.range n).map z).getD i noCl = z i := by simp [List.getD, hi]
    rw [e]
    refine ⟨ff, ?_⟩
    rw [f0, show off + i * 3 + 1 = off + (i * 3 + 1) by omega, f1, show off + i * 3 + 2 = off + (i * 3 + 2) by omega, f2]
    exact ⟨rfl, rfl, rfl⟩
end Go.Proofs.Ythiicngnhnglfaa
