/- How a script, and a list of words, come in as arguments. -/
import Derived.Test.YtkfmfnjkaeajeaaS
import Derived.Test.YtkfmfnjkaeajeaaKit
namespace Go.Proofs.Ytkfmfnjkaeajeaa
open Go.ChangeShapes Go.WideShapes Go.ChangeAt Go.RowKit Go.Deep

theorem cells3 : Try.prog.cellsOf 3 = 1 := by kernel_rfl
theorem cells33 : Try.prog.cellsOf 33 = 4 := by kernel_rfl
theorem add_none (b off i : Nat) : ((⟨b, off, none⟩ : Addr).add i) = ⟨b, off + i, none⟩ := by by_cases h : i = 0 <;> simp [Addr.add, h]

theorem cl_of_cells {H : Type} {enc : TypeId × Value → H} {W : World} {base : Nat} {spare : Nat → Bool} {held : Bool} {n : Nat} {cs : List Value} {x : DataW H × List MemPlace} (hl : cs.length = 4)
    (h : DataW.trod enc Try.prog W base spare held n 33 cs = some x) : ∃ o : Cl, cs = [.int .i64 o.kd, .int .i64 o.ad, .int .u64 o.a, .int .u64 o.b] := by
  obtain ⟨xs, k, hk, hxy, _, hxl, hf⟩ := DataW.trod_struct Try.underlying33 h
  match cs, hl, xs, hxl with
  | [u0, u1, u2, u3], _, [y0, y1, y2, y3], _ =>
    have g0 := hf 0 _ rfl
    have g1 := hf 1 _ rfl
    have g2 := hf 2 _ rfl
    have g3 := hf 3 _ rfl
    simp [cells3, cells31] at g0 g1 g2 g3
    obtain ⟨z0, e0, _, _⟩ := DataW.trod_int Try.underlying3 g0
    obtain ⟨z1, e1, _, _⟩ := DataW.trod_int Try.underlying3 g1
    obtain ⟨z2, e2, _, _⟩ := DataW.trod_int Try.underlying31 g2
    obtain ⟨z3, e3, _, _⟩ := DataW.trod_int Try.underlying31 g3
    simp at e0 e1 e2 e3
    exact ⟨⟨z0, z1, z2, z3⟩, by rw [e0, e1, e2, e3]⟩

theorem script_of_arg {H : Type} {enc : TypeId × Value → H} {W : World} {r : Reach} {b0 : Nat} {v : Value} {d : DataW H} {p : List MemPlace}
    (hv : Value.okWide Try.prog W r b0 22 v) (h : DataW.Trod enc Try.prog W 0 (fun _ => true) true 22 v d p) :
    ∃ q n c l, v = .slice q n c ∧ n ≤ maxLen ∧ l.length = n ∧ Script W q l := by
  obtain ⟨q, n, c, rfl⟩ := okWide_slice Try.underlying22 hv
  obtain ⟨fuel, hf⟩ := h
  rcases open_slice Try.underlying22 hf with ⟨hcs, _⟩ | ⟨⟨b, off, spot⟩, len', cap', m, k, D, Pl, hcs, _, hl, hm, hmm, _, hel⟩
  · simp [Value.cells] at hcs
    obtain ⟨rfl, rfl, rfl⟩ := hcs
    exact ⟨none, 0, 0, [], rfl, Nat.zero_le _, rfl, fun h => absurd rfl h⟩
  · simp [Value.cells] at hcs
    obtain ⟨rfl, rfl, rfl⟩ := hcs
    have hmn : n ≤ m := by rw [hmm]; simpa using hl
    have each : ∀ i, i < n → ∃ o : Int × Int × Int × Int, W.cell? ((⟨b, off, spot⟩ : Addr).add (i * 4)) = some (.int .i64 o.1) ∧ W.cell? ((⟨b, off, spot⟩ : Addr).add (i * 4 + 1)) = some (.int .i64 o.2.1) ∧ W.cell? ((⟨b, off, spot⟩ : Addr).add (i * 4 + 2)) = some (.int .u64 o.2.2.1) ∧ W.cell? ((⟨b, off, spot⟩ : Addr).add (i * 4 + 3)) = some (.int .u64 o.2.2.2) := by
      intro i hi
      obtain ⟨cs', h1, h2⟩ := hel i (by omega)
      rw [cells33] at h1
      obtain ⟨_, hlen, hcell⟩ := World.cells?_some h1
      obtain ⟨o, rfl⟩ := cl_of_cells hlen h2
      have e0 := hcell 0 (by omega)
      have e1 := hcell 1 (by omega)
      have e2 := hcell 2 (by omega)
      have e3 := hcell 3 (by omega)
      rw [add_add] at e0 e1 e2 e3
      exact ⟨(o.kd, o.ad, o.a, o.b), by simpa using e0, by simpa using e1, by simpa using e2, by simpa using e3⟩
    obtain ⟨z', hz⟩ := choose_lt each
    let z : Nat → Cl := fun i => ⟨(z' i).1, (z' i).2.1, (z' i).2.2.1, (z' i).2.2.2⟩
    have hlen : ((List.range n).map z).length = n := by simp
    refine ⟨_, n, c, (List.range n).map z, rfl, by omega, hlen, fun hne => ?_⟩
    have hn0 : 0 < n := by
      rcases Nat.eq_zero_or_pos n with h0 | h0
      · subst h0; exact absurd (by simp) hne
      · exact h0
    have hc0 := (hz 0 hn0).1
    have hspot : spot = none := by simpa [Addr.add] using World.cell?_spot hc0
    subst hspot
    refine ⟨b, off, rfl, World.block_lt_of_cell? W _ (by simpa [Addr.add] using hc0), fun i hi => ?_⟩
    rw [hlen] at hi
    obtain ⟨f0, f1, f2, f3⟩ := hz i hi
    rw [add_none] at f0 f1 f2 f3
    rw [f0, show off + i * 4 + 1 = off + (i * 4 + 1) by omega, f1, show off + i * 4 + 2 = off + (i * 4 + 2) by omega, f2, show off + i * 4 + 3 = off + (i * 4 + 3) by omega, f3]
    have e : ((List.range n).map z).getD i noCl = z i := by simp [List.getD, hi]
    rw [e]
    exact ⟨rfl, rfl, rfl, rfl⟩

/-- A list of words, handed over. -/
def Nums (w : World) (q : Option Addr) (l : List Int) : Prop :=
  l ≠ [] → ∃ b off, q = some ⟨b, off, none⟩ ∧ b < w.heap.size ∧ ∀ i, i < l.length → w.cell? ⟨b, off + i, none⟩ = some (.int .u64 (l.getD i 0))

theorem nums_of_arg {H : Type} {enc : TypeId × Value → H} {W : World} {r : Reach} {b0 : Nat} {v : Value} {d : DataW H} {p : List MemPlace}
    (hv : Value.okWide Try.prog W r b0 43 v) (h : DataW.Trod enc Try.prog W 0 (fun _ => true) true 43 v d p) :
    ∃ q n c l, v = .slice q n c ∧ n ≤ maxLen ∧ l.length = n ∧ Nums W q l := by
  obtain ⟨q, n, c, rfl⟩ := okWide_slice Try.underlying43 hv
  obtain ⟨fuel, hf⟩ := h
  rcases open_ints Try.underlying43 Try.underlying31 cells31 hf with ⟨hcs, _⟩ | ⟨⟨b, off, spot⟩, len', cap', zs, hcs, _, hl, hm, hz, _, hcell, _⟩
  · simp [Value.cells] at hcs
    obtain ⟨rfl, rfl, rfl⟩ := hcs
    exact ⟨none, 0, 0, [], rfl, Nat.zero_le _, rfl, fun h => absurd rfl h⟩
  · simp [Value.cells] at hcs
    obtain ⟨rfl, rfl, rfl⟩ := hcs
    have hz' : zs.length = c := by simpa using hz
    have htl : (zs.take n).length = n := by rw [List.length_take]; omega
    refine ⟨_, n, c, zs.take n, rfl, by omega, htl, fun hne => ?_⟩
    have hn0 : 0 < n := by
      rcases Nat.eq_zero_or_pos n with h0 | h0
      · subst h0; exact absurd (by simp) hne
      · exact h0
    have hc0 := hcell 0 (by omega)
    have hspot : spot = none := by simpa [Addr.add] using World.cell?_spot hc0
    subst hspot
    refine ⟨b, off, rfl, World.block_lt_of_cell? W _ (by simpa [Addr.add] using hc0), fun i hi => ?_⟩
    have hi' : i < n := by omega
    have hci := hcell i (by omega)
    rw [add_none] at hci
    rw [hci]
    have hiz : i < zs.length := by omega
    simp [List.getD, hi']
end Go.Proofs.Ytkfmfnjkaeajeaa
