/- What every statement of this seat shares: how numbers, arrays of three numbers, words and lists of words come in as arguments. -/
import Derived.Test.YtfpekfpjoldinaaRows
import Derived.Test.YtfpekfpjoldinaaB
import Derived.ProofKit
import Derived.LaidMore
import Derived.OpenShut
import Derived.ShutString
import Derived.ChangeOld
import Derived.Deep.Slices
namespace Go.Proofs.Ytfpekfpjoldinaa
open Go.ChangeShapes Go.WideShapes Go.ChangeAt Go.RowKit Go.Deep
set_option maxRecDepth 100000

theorem own : ownKnob Try.prog.godebug = none := by kernel_rfl
theorem laidOut : laidOutB Try.prog = true := by kernel_rfl
theorem cells3 : Try.prog.cellsOf 3 = 1 := by kernel_rfl
theorem cells38 : Try.prog.cellsOf 38 = 1 := by kernel_rfl
theorem cells40 : Try.prog.cellsOf 40 = 2 := by kernel_rfl
theorem cells23 : Try.prog.cellsOf 23 = 3 := by kernel_rfl

theorem zs_of_cells {k : IntKind} : ∀ (l : List Value), (∀ i, i < l.length → ∃ z, l[i]? = some (.int k z) ∧ (Lit.int k z).wf = true) → ∃ zs : List Int, l = zs.map (fun z => Value.int k z) ∧ ∀ z ∈ zs, (Lit.int k z).wf = true
  | [], _ => ⟨[], rfl, by simp⟩
  | v :: l, h => by
    obtain ⟨z, hz, hw⟩ := h 0 (by simp)
    obtain ⟨zs, rfl, hws⟩ := zs_of_cells l fun i hi => by simpa using h (i + 1) (by simpa using hi)
    refine ⟨z :: zs, ?_, ?_⟩
    · simp at hz; rw [hz]; rfl
    · intro y hy
      rcases List.mem_cons.1 hy with rfl | hy
      · exact hw
      · exact hws y hy

/-- An array of integers, handed over by value. -/
theorem open_arr {H : Type} {enc : TypeId × Value → H} {P : Program} {W : World} {r : Reach} {b0 base : Nat} {spare : Nat → Bool} {held : Bool} {t e : TypeId} {n : Nat} {k : IntKind} {v : Value} {d : DataW H} {p : List MemPlace}
    (ht : P.underlying t = some (.array n e)) (he : P.underlying e = some (.int k)) (hce : P.cellsOf e = 1) (hct : P.cellsOf t = n)
    (hv : Value.okWide P W r b0 t v) (h : DataW.Trod enc P W base spare held t v d p) :
    ∃ zs : List Int, zs.length = n ∧ v = .agg (zs.map fun z => Value.int k z).toArray ∧ ∀ z ∈ zs, (Lit.int k z).wf = true := by
  simp only [Value.okWide, ht] at hv
  obtain ⟨⟨l⟩, rfl, hsz, _⟩ := hv
  obtain ⟨fuel, hf⟩ := h
  obtain ⟨xs, m, rfl, _, _, hxl, hel⟩ := DataW.trod_array ht hf
  have hl : l.length = n := by rw [← hct]; simpa using hsz
  obtain ⟨zs, rfl, hw⟩ := zs_of_cells (k := k) l fun i hi => by
    have hi' : i < n := by omega
    have h1 := hel i hi'
    rw [List.getElem?_eq_getElem (by omega), hce] at h1
    obtain ⟨z, hz, _, hw⟩ := DataW.trod_int he h1
    refine ⟨z, ?_, hw⟩
    have := congrArg (·[0]?) hz
    simpa [Value.cells, List.getElem?_take, List.getElem?_drop] using this
  exact ⟨zs, by simpa using hl, rfl, hw⟩

theorem list3 {α : Type} : ∀ (zs : List α), zs.length = 3 → ∃ a b c, zs = [a, b, c]
  | [a, b, c], _ => ⟨a, b, c, rfl⟩
theorem add_none (b off i : Nat) : ((⟨b, off, none⟩ : Addr).add i) = ⟨b, off + i, none⟩ := by by_cases h : i = 0 <;> simp [Addr.add, h]

theorem word_of_cells {H : Type} {enc : TypeId × Value → H} {W : World} {base : Nat} {spare : Nat → Bool} {held : Bool} {n : Nat} {cs : List Value} {x : DataW H × List MemPlace} (hl : cs.length = 2)
    (h : DataW.trod enc Try.prog W base spare held n 40 cs = some x) : ∃ a v : Int, cs = [.int .i64 a, .int .u64 v] ∧ 0 ≤ v ∧ v < 18446744073709551616 := by
  obtain ⟨xs, k, hk, hxy, _, hxl, hf⟩ := DataW.trod_struct Try.underlying40 h
  match cs, hl, xs, hxl with
  | [u0, u1], _, [y0, y1], _ =>
    have g0 := hf 0 _ rfl
    have g1 := hf 1 _ rfl
    simp [cells3, cells38] at g0 g1
    obtain ⟨z0, e0, _, _⟩ := DataW.trod_int Try.underlying3 g0
    obtain ⟨z1, e1, _, w1⟩ := DataW.trod_int Try.underlying38 g1
    simp at e0 e1
    have := bounds_u64 w1
    exact ⟨z0, z1, by rw [e0, e1], by omega, by omega⟩

/-- A word and where it is laid, handed over by value. -/
theorem word_of_arg {H : Type} {enc : TypeId × Value → H} {W : World} {r : Reach} {b0 : Nat} {base : Nat} {spare : Nat → Bool} {held : Bool} {v : Value} {d : DataW H} {p : List MemPlace}
    (hv : Value.okWide Try.prog W r b0 40 v) (h : DataW.Trod enc Try.prog W base spare held 40 v d p) : ∃ a x : Int, v = .agg #[.int .i64 a, .int .u64 x] ∧ 0 ≤ x ∧ x < 18446744073709551616 := by
  simp only [Value.okWide, Try.underlying40] at hv
  obtain ⟨⟨l⟩, rfl, hsz, _⟩ := hv
  obtain ⟨fuel, hf⟩ := h
  have hl : l.length = 2 := by rw [← cells40]; simpa using hsz
  obtain ⟨a, x, ho, h0, h1⟩ := word_of_cells (cs := l) hl hf
  subst ho
  exact ⟨a, x, rfl, h0, h1⟩

/-- A list of words and where they are laid, handed over. -/
theorem words_of_arg {H : Type} {enc : TypeId × Value → H} {W : World} {r : Reach} {b0 : Nat} {v : Value} {d : DataW H} {p : List MemPlace}
    (hv : Value.okWide Try.prog W r b0 22 v) (h : DataW.Trod enc Try.prog W 0 (fun _ => true) true 22 v d p) : ∃ l, Wl W v l ∧ V64 l := by
  obtain ⟨q, n, c, rfl⟩ := okWide_slice Try.underlying22 hv
  obtain ⟨fuel, hf⟩ := h
  have z64 : (0 : Int) ≤ 0 ∧ (0 : Int) < 18446744073709551616 := ⟨Int.le_refl _, by decide⟩
  rcases open_slice Try.underlying22 hf with ⟨hcs, _⟩ | ⟨⟨b, off, spot⟩, len', cap', m, k, D, Pl, hcs, _, hl, hm, hmm, _, hel⟩
  · simp [Value.cells] at hcs
    obtain ⟨rfl, rfl, rfl⟩ := hcs
    exact ⟨[], ⟨Nat.zero_le _, none, 0, rfl, fun h => absurd rfl h⟩, fun _ => z64⟩
  · simp [Value.cells] at hcs
    obtain ⟨rfl, rfl, rfl⟩ := hcs
    have hmn : n ≤ m := by rw [hmm]; simpa using hl
    have each : ∀ i, i < n → ∃ o : Int × Int, W.cell? ((⟨b, off, spot⟩ : Addr).add (i * 2)) = some (.int .i64 o.1) ∧ W.cell? ((⟨b, off, spot⟩ : Addr).add (i * 2 + 1)) = some (.int .u64 o.2) ∧ 0 ≤ o.2 ∧ o.2 < 18446744073709551616 := by
      intro i hi
      obtain ⟨cs', h1, h2⟩ := hel i (by omega)
      rw [cells40] at h1
      obtain ⟨_, hlen, hcell⟩ := World.cells?_some h1
      obtain ⟨x, y, rfl, y0, y1⟩ := word_of_cells hlen h2
      have e0 := hcell 0 (by omega)
      have e1 := hcell 1 (by omega)
      rw [add_add] at e0 e1
      exact ⟨(x, y), by simpa using e0, by simpa using e1, y0, y1⟩
    obtain ⟨z, hz⟩ := choose_lt each
    have hlen : ((List.range n).map z).length = n := by simp
    have eq : ∀ i, i < n → ((List.range n).map z).getD i (0, 0) = z i := fun i hi => by simp [List.getD, hi]
    refine ⟨(List.range n).map z, ⟨by rw [hlen]; omega, _, c, by rw [hlen], fun hne => ?_⟩, fun i => ?_⟩
    · have hn0 : 0 < n := by
        rcases Nat.eq_zero_or_pos n with h0 | h0
        · subst h0; exact absurd (by simp) hne
        · exact h0
      have hc0 := (hz 0 hn0).1
      have hspot : spot = none := by simpa [Addr.add] using World.cell?_spot hc0
      subst hspot
      refine ⟨b, off, rfl, World.block_lt_of_cell? W _ (by simpa [Addr.add] using hc0), fun i hi => ?_⟩
      rw [hlen] at hi
      obtain ⟨f0, f1, -, -⟩ := hz i hi
      rw [add_none] at f0 f1
      rw [eq i hi]
      exact ⟨f0, by rw [show off + i * 2 + 1 = off + (i * 2 + 1) by omega]; exact f1⟩
    · by_cases hi : i < n
      · rw [eq i hi]
        exact (hz i hi).2.2
      · rw [List.getD, List.getElem?_eq_none (by rw [hlen]; omega)]
        exact z64
end Go.Proofs.Ytfpekfpjoldinaa
