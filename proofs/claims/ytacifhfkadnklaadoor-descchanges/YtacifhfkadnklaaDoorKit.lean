/- What every statement of this seat shares: the two tables as the rows list them, how descriptors and pairs of numbers come in as arguments. -/
import Derived.Test.YtacifhfkadnklaaDoorRows
import Derived.Test.YtacifhfkadnklaaDoorD1
import Derived.ProofKit
import Derived.LaidMore
import Derived.OpenShut
import Derived.ShutString
import Derived.ChangeOld
import Derived.Stop.Joined
import Derived.Lib.LaidTab
import Derived.RowKitTokens
import Derived.Lay
import Derived.Stop.LaidErr
namespace Go.Proofs.YtacifhfkadnklaaDoor
open Go.ChangeShapes Go.WideShapes Go.ChangeAt Go.RowKit
set_option maxRecDepth 100000

theorem own : ownKnob Tryd.prog.godebug = none := by kernel_rfl
theorem laidOut : laidOutB Tryd.prog = true := by kernel_rfl
abbrev laidL : List (String × DataW Unit) := [("matryoshka/desc.rules", Rows.laid_matryoshka_desc_rules), ("matryoshka/desc.names", Rows.laid_matryoshka_desc_names)]
theorem door_met (os : Os) (args : Array Value) : laidMetH Tryd.prog laidL ((World.laidAll Tryd.prog os laidL).forCall (fun _ _ => 0) ⟨#[], args, []⟩).memory := by
  rw [MakeChecks.laidMetH_plain _ _ _ (by kernel_rfl)]
  exact laidMet_laidAll _ (by kernel_rfl) (by kernel_rfl)
theorem g0 : Tryd.prog.globalNamed "matryoshka/desc.rules" = some 0 := by kernel_rfl
theorem g1 : Tryd.prog.globalNamed "matryoshka/desc.names" = some 1 := by kernel_rfl
theorem t0 : (Tryd.prog.globals[0]?).map (·.type) = some 59 := by kernel_rfl
theorem t1 : (Tryd.prog.globals[1]?).map (·.type) = some 62 := by kernel_rfl
theorem cells3 : Tryd.prog.cellsOf 3 = 1 := by kernel_rfl
theorem cells9 : Tryd.prog.cellsOf 9 = 1 := by kernel_rfl
theorem cells23 : Tryd.prog.cellsOf 23 = 4 := by kernel_rfl
theorem cells40 : Tryd.prog.cellsOf 40 = 2 := by kernel_rfl
theorem cells58 : Tryd.prog.cellsOf 58 = 4 := by kernel_rfl
theorem cells59 : Tryd.prog.cellsOf 59 = 24 := by kernel_rfl
theorem cells62 : Tryd.prog.cellsOf 62 = 6 := by kernel_rfl

theorem rule_of_cells {W : World} {base : Nat} {spare : Nat → Bool} {held : Bool} {n : Nat} {cs : List Value} {p : List MemPlace} {a b c d : Int}
    (h : DataW.trod (fun _ => ()) Tryd.prog W base spare held n 58 cs = some (.agg [.lit (.int .i64 a), .lit (.int .i64 b), .lit (.int .i64 c), .lit (.int .i64 d)], p)) : cs = [.int .i64 a, .int .i64 b, .int .i64 c, .int .i64 d] := by
  obtain ⟨xs, k, hk, hxy, hl, hxl, hf⟩ := DataW.trod_struct Tryd.underlying58 h
  rw [cells58] at hl
  match cs, hl, xs, hxl with
  | [v0, v1, v2, v3], _, [y0, y1, y2, y3], _ =>
    have f0 := hf 0 _ rfl
    have f1 := hf 1 _ rfl
    have f2 := hf 2 _ rfl
    have f3 := hf 3 _ rfl
    simp [cells3] at f0 f1 f2 f3
    obtain ⟨z0, e0, d0, _⟩ := DataW.trod_int Tryd.underlying3 f0
    obtain ⟨z1, e1, d1, _⟩ := DataW.trod_int Tryd.underlying3 f1
    obtain ⟨z2, e2, d2, _⟩ := DataW.trod_int Tryd.underlying3 f2
    obtain ⟨z3, e3, d3, _⟩ := DataW.trod_int Tryd.underlying3 f3
    subst d0 d1 d2 d3
    simp at e0 e1 e2 e3 hxy
    obtain ⟨⟨q0, q1, q2, q3⟩, _⟩ := hxy
    rw [e0, e1, e2, e3, q0, q1, q2, q3]

theorem rules_of_head {W : World} {rest : List (String × DataW Unit)} (h : laidMet Tryd.prog (("matryoshka/desc.rules", Rows.laid_matryoshka_desc_rules) :: rest) W) :
    ∀ k, k < 6 → W.cell? ⟨0, k * 4, none⟩ = some (.int .i64 (loO k)) ∧ W.cell? ⟨0, k * 4 + 1, none⟩ = some (.int .i64 (hiO k)) ∧ W.cell? ⟨0, k * 4 + 2, none⟩ = some (.int .i64 (hiR k)) ∧ W.cell? ⟨0, k * 4 + 3, none⟩ = some (.int .i64 (hiE k)) := by
  obtain ⟨ps, ⟨g', t', cs, fuel, p, q, hg', ht', hvar, hd, _, _⟩, _⟩ := h
  obtain rfl := Option.some.inj (g0.symm.trans hg')
  obtain rfl := Option.some.inj (t0.symm.trans ht')
  obtain ⟨xs, m, _, ex, hl, hxl, hel⟩ := DataW.trod_array Tryd.underlying59 hd
  rw [cells59] at hl
  have hc : ∀ i, W.cell? ⟨0, i, none⟩ = cs[i]? := fun i => World.var?_cell hg' hvar i
  obtain ⟨cl⟩ := cs
  simp only [] at hl hc hel
  match xs, hxl with
  | [y0, y1, y2, y3, y4, y5], _ =>
    have k0 := hel 0 (by decide)
    have k1 := hel 1 (by decide)
    have k2 := hel 2 (by decide)
    have k3 := hel 3 (by decide)
    have k4 := hel 4 (by decide)
    have k5 := hel 5 (by decide)
    rw [cells58] at k0 k1 k2 k3 k4 k5
    simp [Rows.laid_matryoshka_desc_rules] at ex
    obtain ⟨⟨z0, z1, z2, z3, z4, z5⟩, _⟩ := ex
    obtain ⟨a0, b0⟩ := y0
    obtain ⟨a1, b1⟩ := y1
    obtain ⟨a2, b2⟩ := y2
    obtain ⟨a3, b3⟩ := y3
    obtain ⟨a4, b4⟩ := y4
    obtain ⟨a5, b5⟩ := y5
    simp only [] at z0 z1 z2 z3 z4 z5
    subst z0 z1 z2 z3 z4 z5
    have c0 := rule_of_cells k0
    have c1 := rule_of_cells k1
    have c2 := rule_of_cells k2
    have c3 := rule_of_cells k3
    have c4 := rule_of_cells k4
    have c5 := rule_of_cells k5
    match cl, hl with
    | [v0, v1, v2, v3, v4, v5, v6, v7, v8, v9, v10, v11, v12, v13, v14, v15, v16, v17, v18, v19, v20, v21, v22, v23], _ =>
      simp at c0 c1 c2 c3 c4 c5
      obtain ⟨rfl, rfl, rfl, rfl⟩ := c0
      obtain ⟨rfl, rfl, rfl, rfl⟩ := c1
      obtain ⟨rfl, rfl, rfl, rfl⟩ := c2
      obtain ⟨rfl, rfl, rfl, rfl⟩ := c3
      obtain ⟨rfl, rfl, rfl, rfl⟩ := c4
      obtain ⟨rfl, rfl, rfl, rfl⟩ := c5
      intro k hk
      match k, hk with
      | 0, _ => exact ⟨hc 0, hc 1, hc 2, hc 3⟩
      | 1, _ => exact ⟨hc 4, hc 5, hc 6, hc 7⟩
      | 2, _ => exact ⟨hc 8, hc 9, hc 10, hc 11⟩
      | 3, _ => exact ⟨hc 12, hc 13, hc 14, hc 15⟩
      | 4, _ => exact ⟨hc 16, hc 17, hc 18, hc 19⟩
      | 5, _ => exact ⟨hc 20, hc 21, hc 22, hc 23⟩

theorem str_of_cells {W : World} {base : Nat} {spare : Nat → Bool} {held : Bool} {n : Nat} {cs : List Value} {p : List MemPlace} {bs : List UInt8}
    (h : DataW.trod (fun _ => ()) Tryd.prog W base spare held n 9 cs = some (.lit (.string bs), p)) : cs = [.string ⟨bs.toArray⟩] := by
  obtain ⟨z, e, d, _⟩ := DataW.trod_string Tryd.underlying9 h
  simp at d
  rw [e, d.1]
theorem names_of_head {W : World} {rest : List (String × DataW Unit)} (h : laidMet Tryd.prog (("matryoshka/desc.names", Rows.laid_matryoshka_desc_names) :: rest) W) :
    ∀ k, k < 6 → W.cell? ⟨1, k, none⟩ = some (.string (nmB k)) := by
  obtain ⟨ps, ⟨g', t', cs, fuel, p, q, hg', ht', hvar, hd, _, _⟩, _⟩ := h
  obtain rfl := Option.some.inj (g1.symm.trans hg')
  obtain rfl := Option.some.inj (t1.symm.trans ht')
  obtain ⟨xs, m, _, ex, hl, hxl, hel⟩ := DataW.trod_array Tryd.underlying62 hd
  rw [cells62] at hl
  have hc : ∀ i, W.cell? ⟨1, i, none⟩ = cs[i]? := fun i => World.var?_cell hg' hvar i
  obtain ⟨cl⟩ := cs
  simp only [] at hl hc hel
  match xs, hxl with
  | [y0, y1, y2, y3, y4, y5], _ =>
    have k0 := hel 0 (by decide)
    have k1 := hel 1 (by decide)
    have k2 := hel 2 (by decide)
    have k3 := hel 3 (by decide)
    have k4 := hel 4 (by decide)
    have k5 := hel 5 (by decide)
    rw [cells9] at k0 k1 k2 k3 k4 k5
    simp [Rows.laid_matryoshka_desc_names] at ex
    obtain ⟨⟨z0, z1, z2, z3, z4, z5⟩, _⟩ := ex
    obtain ⟨a0, b0⟩ := y0
    obtain ⟨a1, b1⟩ := y1
    obtain ⟨a2, b2⟩ := y2
    obtain ⟨a3, b3⟩ := y3
    obtain ⟨a4, b4⟩ := y4
    obtain ⟨a5, b5⟩ := y5
    simp only [] at z0 z1 z2 z3 z4 z5
    subst z0 z1 z2 z3 z4 z5
    have c0 := str_of_cells k0
    have c1 := str_of_cells k1
    have c2 := str_of_cells k2
    have c3 := str_of_cells k3
    have c4 := str_of_cells k4
    have c5 := str_of_cells k5
    match cl, hl with
    | [v0, v1, v2, v3, v4, v5], _ =>
      simp at c0 c1 c2 c3 c4 c5
      subst c0
      subst c1
      subst c2
      subst c3
      subst c4
      subst c5
      intro k hk
      match k, hk with
      | 0, _ => exact hc 0
      | 1, _ => exact hc 1
      | 2, _ => exact hc 2
      | 3, _ => exact hc 3
      | 4, _ => exact hc 4
      | 5, _ => exact hc 5

theorem tab_of_laid {W : World} (h : laidMetH Tryd.prog laidL W) : Tab W := by
  rw [MakeChecks.laidMetH_plain _ _ _ (by kernel_rfl)] at h
  have a := rules_of_head h
  have b := names_of_head h.tail
  exact ⟨World.block_lt_of_cell? W ⟨1, 0, none⟩ (b 0 (by decide)), fun k hk => (a k hk).1, fun k hk => (a k hk).2.1, fun k hk => (a k hk).2.2.1, fun k hk => (a k hk).2.2.2, b⟩

theorem zs_of_cells {k : IntKind} : ∀ (l : List Value), (∀ i, i < l.length → ∃ z, l[i]? = some (.int k z) ∧ (Lit.int k z).wf = true) → ∃ zs : List Int, l = zs.map (fun z => Value.int k z) ∧ ∀ z ∈ zs, (Lit.int k z).wf = true
  | [], _ => ⟨[], rfl, by simp⟩
  | v :: l, h => by
    obtain ⟨z, hz, hw⟩ := h 0 (by simp)
    obtain ⟨zs, rfl, hws⟩ := zs_of_cells l fun i hi => by simpa using h (i + 1) (by simpa using hi)
    refine ⟨z :: zs, ?_, ?_⟩
    · simp at hz; rw [hz]; rfl
    · intro y hy
      rcases List.mem_cons.1 hy with rfl | hy
      · exact hw
      · exact hws y hy

/-- An array of integers, handed over by value. -/
theorem open_arr {H : Type} {enc : TypeId × Value → H} {P : Program} {W : World} {r : Reach} {b0 base : Nat} {spare : Nat → Bool} {held : Bool} {t e : TypeId} {n : Nat} {k : IntKind} {v : Value} {d : DataW H} {p : List MemPlace}
    (ht : P.underlying t = some (.array n e)) (he : P.underlying e = some (.int k)) (hce : P.cellsOf e = 1) (hct : P.cellsOf t = n)
    (hv : Value.okWide P W r b0 t v) (h : DataW.Trod enc P W base spare held t v d p) :
    ∃ zs : List Int, zs.length = n ∧ v = .agg (zs.map fun z => Value.int k z).toArray ∧ ∀ z ∈ zs, (Lit.int k z).wf = true := by
  simp only [Value.okWide, ht] at hv
  obtain ⟨⟨l⟩, rfl, hsz, _⟩ := hv
  obtain ⟨fuel, hf⟩ := h
  obtain ⟨xs, m, rfl, _, _, hxl, hel⟩ := DataW.trod_array ht hf
  have hl : l.length = n := by rw [← hct]; simpa using hsz
  obtain ⟨zs, rfl, hw⟩ := zs_of_cells (k := k) l fun i hi => by
    have hi' : i < n := by omega
    have h1 := hel i hi'
    rw [List.getElem?_eq_getElem (by omega), hce] at h1
    obtain ⟨z, hz, _, hw⟩ := DataW.trod_int he h1
    refine ⟨z, ?_, hw⟩
    have := congrArg (·[0]?) hz
    simpa [Value.cells, List.getElem?_take, List.getElem?_drop] using this
  exact ⟨zs, by simpa using hl, rfl, hw⟩

theorem list2 {α : Type} : ∀ (zs : List α), zs.length = 2 → ∃ a b, zs = [a, b]
  | [a, b], _ => ⟨a, b, rfl⟩

theorem ds_of_cells {H : Type} {enc : TypeId × Value → H} {W : World} {base : Nat} {spare : Nat → Bool} {held : Bool} {n : Nat} {cs : List Value} {x : DataW H × List MemPlace} (hl : cs.length = 4)
    (h : DataW.trod enc Tryd.prog W base spare held n 23 cs = some x) : ∃ o : Ds, cs = [.int .i64 o.k, .int .i64 o.o, .int .i64 o.r, .int .i64 o.e] := by
  obtain ⟨xs, k, hk, hxy, _, hxl, hf⟩ := DataW.trod_struct Tryd.underlying23 h
  match cs, hl, xs, hxl with
  | [u0, u1, u2, u3], _, [y0, y1, y2, y3], _ =>
    have g0 := hf 0 _ rfl
    have g1 := hf 1 _ rfl
    have g2 := hf 2 _ rfl
    have g3 := hf 3 _ rfl
    simp [cells3] at g0 g1 g2 g3
    obtain ⟨z0, e0, _, _⟩ := DataW.trod_int Tryd.underlying3 g0
    obtain ⟨z1, e1, _, _⟩ := DataW.trod_int Tryd.underlying3 g1
    obtain ⟨z2, e2, _, _⟩ := DataW.trod_int Tryd.underlying3 g2
    obtain ⟨z3, e3, _, _⟩ := DataW.trod_int Tryd.underlying3 g3
    simp at e0 e1 e2 e3
    exact ⟨⟨z0, z1, z2, z3⟩, by rw [e0, e1, e2, e3]⟩

/-- A descriptor, handed over by value. -/
theorem ds_of_arg {H : Type} {enc : TypeId × Value → H} {W : World} {r : Reach} {b0 : Nat} {base : Nat} {spare : Nat → Bool} {held : Bool} {v : Value} {d : DataW H} {p : List MemPlace}
    (hv : Value.okWide Tryd.prog W r b0 23 v) (h : DataW.Trod enc Tryd.prog W base spare held 23 v d p) : ∃ x : Ds, v = dV x := by
  simp only [Value.okWide, Tryd.underlying23] at hv
  obtain ⟨⟨l⟩, rfl, hsz, _⟩ := hv
  obtain ⟨fuel, hf⟩ := h
  have hl : l.length = 4 := by rw [← cells23]; simpa using hsz
  obtain ⟨o, ho⟩ := ds_of_cells (cs := l) hl hf
  subst ho
  exact ⟨o, rfl⟩
end Go.Proofs.YtacifhfkadnklaaDoor
