/- Scripts: calls that lie in memory, five numbers each. Of no function; no conditions. How a script of calls, and a list of small numbers, come in as arguments. -/
import Derived.Test.YtpfmmlbakbhklaaGreatDoorBO
import Derived.Test.YtpfmmlbakbhklaaGreatDoorBP
import Derived.Deep.Slices
import Derived.Deep.Grids
namespace Go.Proofs.YtpfmmlbakbhklaaGreatDoor
open Go.RowKit

/-- A call of a script: its kind, whose tables, the page, the frame, the rights. -/
structure Cal where
  kd : Int
  f : Int
  k : Int
  o : Int
  y : Int
def noCal : Cal := ⟨0, 0, 0, 0, 0⟩
/-- A slice that reads as a script. -/
def Script (w : World) (q : Option Addr) (l : List Cal) : Prop :=
  l ≠ [] → ∃ b off, q = some ⟨b, off, none⟩ ∧ b < w.heap.size ∧ ∀ i, i < l.length → w.cell? ⟨b, off + i * 5, none⟩ = some (.int .i64 (l.getD i noCal).kd) ∧ w.cell? ⟨b, off + i * 5 + 1, none⟩ = some (.int .i64 (l.getD i noCal).f) ∧ w.cell? ⟨b, off + i * 5 + 2, none⟩ = some (.int .i64 (l.getD i noCal).k) ∧ w.cell? ⟨b, off + i * 5 + 3, none⟩ = some (.int .i64 (l.getD i noCal).o) ∧ w.cell? ⟨b, off + i * 5 + 4, none⟩ = some (.int .i64 (l.getD i noCal).y)
/-- A slice of small numbers. -/
def PL (W : World) (q : Option Addr) (n : Nat) (f : Nat → Nat) : Prop :=
  n ≤ maxLen ∧ (∀ i, f i < 256) ∧ (n ≠ 0 → ∃ b off, q = some ⟨b, off, none⟩ ∧ b < W.heap.size ∧ ∀ i, i < n → W.cell? ⟨b, off + i, none⟩ = some (.int .u8 (f i : Nat)))
end Go.Proofs.YtpfmmlbakbhklaaGreatDoor
namespace Go.Proofs.YtpfmmlbakbhklaaGreatDoor
open Go.ChangeShapes Go.WideShapes Go.ChangeAt Go.RowKit Go.Deep
set_option maxRecDepth 100000

theorem cells27 : Tryz.prog.cellsOf 27 = 5 := by kernel_rfl
theorem add_none (b off i : Nat) : ((⟨b, off, none⟩ : Addr).add i) = ⟨b, off + i, none⟩ := by by_cases h : i = 0 <;> simp [Addr.add, h]

theorem cl_of_cells {H : Type} {enc : TypeId × Value → H} {W : World} {base : Nat} {spare : Nat → Bool} {held : Bool} {n : Nat} {cs : List Value} {x : DataW H × List MemPlace} (hl : cs.length = 5)
    (h : DataW.trod enc Tryz.prog W base spare held n 27 cs = some x) : ∃ o : Cal, cs = [.int .i64 o.kd, .int .i64 o.f, .int .i64 o.k, .int .i64 o.o, .int .i64 o.y] := by
  obtain ⟨xs, k, hk, hxy, _, hxl, hf⟩ := DataW.trod_struct Tryz.underlying27 h
  match cs, hl, xs, hxl with
  | [u0, u1, u2, u3, u4], _, [y0, y1, y2, y3, y4], _ =>
    have g0 := hf 0 _ rfl
    have g1 := hf 1 _ rfl
    have g2 := hf 2 _ rfl
    have g3 := hf 3 _ rfl
    have g4 := hf 4 _ rfl
    simp [cells3] at g0 g1 g2 g3 g4
    obtain ⟨z0, e0, _, _⟩ := DataW.trod_int Tryz.underlying3 g0
    obtain ⟨z1, e1, _, _⟩ := DataW.trod_int Tryz.underlying3 g1
    obtain ⟨z2, e2, _, _⟩ := DataW.trod_int Tryz.underlying3 g2
    obtain ⟨z3, e3, _, _⟩ := DataW.trod_int Tryz.underlying3 g3
    obtain ⟨z4, e4, _, _⟩ := DataW.trod_int Tryz.underlying3 g4
    simp at e0 e1 e2 e3 e4
    exact ⟨⟨z0, z1, z2, z3, z4⟩, by rw [e0, e1, e2, e3, e4]⟩

theorem script_of_arg {H : Type} {enc : TypeId × Value → H} {W : World} {r : Reach} {b0 : Nat} {v : Value} {d : DataW H} {p : List MemPlace}
    (hv : Value.okWide Tryz.prog W r b0 22 v) (h : DataW.Trod enc Tryz.prog W 0 (fun _ => true) true 22 v d p) :
    ∃ q n c l, v = .slice q n c ∧ n ≤ maxLen ∧ l.length = n ∧ Script W q l := by
  obtain ⟨q, n, c, rfl⟩ := okWide_slice Tryz.underlying22 hv
  obtain ⟨fuel, hf⟩ := h
  rcases open_slice Tryz.underlying22 hf with ⟨hcs, _⟩ | ⟨⟨b, off, spot⟩, len', cap', m, k, D, Pl, hcs, _, hl, hm, hmm, _, hel⟩
  · simp [Value.cells] at hcs
    obtain ⟨rfl, rfl, rfl⟩ := hcs
    exact ⟨none, 0, 0, [], rfl, Nat.zero_le _, rfl, fun h => absurd rfl h⟩
  · simp [Value.cells] at hcs
    obtain ⟨rfl, rfl, rfl⟩ := hcs
    have hmn : n ≤ m := by rw [hmm]; simpa using hl
    have each : ∀ i, i < n → ∃ o : Int × Int × Int × Int × Int, W.cell? ((⟨b, off, spot⟩ : Addr).add (i * 5)) = some (.int .i64 o.1) ∧ W.cell? ((⟨b, off, spot⟩ : Addr).add (i * 5 + 1)) = some (.int .i64 o.2.1) ∧ W.cell? ((⟨b, off, spot⟩ : Addr).add (i * 5 + 2)) = some (.int .i64 o.2.2.1) ∧ W.cell? ((⟨b, off, spot⟩ : Addr).add (i * 5 + 3)) = some (.int .i64 o.2.2.2.1) ∧ W.cell? ((⟨b, off, spot⟩ : Addr).add (i * 5 + 4)) = some (.int .i64 o.2.2.2.2) := by
      intro i hi
      obtain ⟨cs', h1, h2⟩ := hel i (by omega)
      rw [cells27] at h1
      obtain ⟨_, hlen, hcell⟩ := World.cells?_some h1
      obtain ⟨o, rfl⟩ := cl_of_cells hlen h2
      have e0 := hcell 0 (by omega)
      have e1 := hcell 1 (by omega)
      have e2 := hcell 2 (by omega)
      have e3 := hcell 3 (by omega)
      have e4 := hcell 4 (by omega)
      rw [add_add] at e0 e1 e2 e3 e4
      exact ⟨(o.kd, o.f, o.k, o.o, o.y), by simpa using e0, by simpa using e1, by simpa using e2, by simpa using e3, by simpa using e4⟩
    obtain ⟨z', hz⟩ := choose_lt each
    let z : Nat → Cal := fun i => ⟨(z' i).1, (z' i).2.1, (z' i).2.2.1, (z' i).2.2.2.1, (z' i).2.2.2.2⟩
    have hlen : ((List.range n).map z).length = n := by simp
    refine ⟨_, n, c, (List.range n).map z, rfl, by omega, hlen, fun hne => ?_⟩
    have hn0 : 0 < n := by
      rcases Nat.eq_zero_or_pos n with h0 | h0
      · subst h0; exact absurd (by simp) hne
      · exact h0
    have hc0 := (hz 0 hn0).1
    have hspot : spot = none := by simpa [Addr.add] using World.cell?_spot hc0
    subst hspot
    refine ⟨b, off, rfl, World.block_lt_of_cell? W _ (by simpa [Addr.add] using hc0), fun i hi => ?_⟩
    rw [hlen] at hi
    obtain ⟨f0, f1, f2, f3, f4⟩ := hz i hi
    rw [add_none] at f0 f1 f2 f3 f4
    rw [f0, show off + i * 5 + 1 = off + (i * 5 + 1) by omega, f1, show off + i * 5 + 2 = off + (i * 5 + 2) by omega, f2, show off + i * 5 + 3 = off + (i * 5 + 3) by omega, f3, show off + i * 5 + 4 = off + (i * 5 + 4) by omega, f4]
    have e : ((List.range n).map z).getD i noCal = z i := by simp [List.getD, hi]
    rw [e]
    exact ⟨rfl, rfl, rfl, rfl, rfl⟩
end Go.Proofs.YtpfmmlbakbhklaaGreatDoor
