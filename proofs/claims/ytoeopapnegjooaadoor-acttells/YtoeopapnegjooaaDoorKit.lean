/- What every statement of this seat shares: the variables as the rows list them, how acts, lists of acts, texts and numbers come in as arguments. -/
import Derived.Test.YtoeopapnegjooaaDoorRows
import Derived.Test.YtoeopapnegjooaaDoorG2
import Derived.RowKitTokens
import Derived.Lay
import Derived.ProofKit
import Derived.LaidMore
import Derived.OpenShut
import Derived.ShutString
import Derived.ChangeOld
import Derived.ChangeMaps5
import Derived.Stop.LaidErr
import Derived.Stop.Joined
import Derived.Lib.LaidTab
import Derived.Deep.Slices
namespace Go.Proofs.YtoeopapnegjooaaDoor
open Go.ChangeShapes Go.WideShapes Go.ChangeAt Go.RowKit Go.Deep
set_option maxRecDepth 100000

theorem own : ownKnob Tryd.prog.godebug = none := by kernel_rfl
theorem laidOut : laidOutB Tryd.prog = true := by kernel_rfl

abbrev laidL : List (String × DataW Unit) := [("math/bits.deBruijn32tab", Rows.laid_math_bits_deBruijn32tab), ("math/bits.deBruijn64tab", Rows.laid_math_bits_deBruijn64tab), ("internal/strconv.uint64pow10", Rows.laid_internal_strconv_uint64pow10), ("unicode/utf8.acceptRanges", Rows.laid_unicode_utf8_acceptRanges), ("strconv.ErrRange", Rows.laid_strconv_ErrRange), ("strconv.ErrSyntax", Rows.laid_strconv_ErrSyntax), ("matryoshka/act.forms", Rows.laid_matryoshka_act_forms), ("unicode/utf8.first", Rows.laid_unicode_utf8_first)]
theorem door_met (os : Os) (args : Array Value) : laidMetH Tryd.prog laidL ((World.laidAll Tryd.prog os laidL).forCall (fun _ _ => 0) ⟨#[], args, []⟩).memory := by
  rw [MakeChecks.laidMetH_plain _ _ _ (by kernel_rfl)]
  exact laidMet_laidAll _ (by kernel_rfl) (by kernel_rfl)

theorem g0 : Tryd.prog.globalNamed "matryoshka/act.forms" = some 0 := by kernel_rfl
theorem g1 : Tryd.prog.globalNamed "internal/strconv.uint64pow10" = some 1 := by kernel_rfl
theorem g2 : Tryd.prog.globalNamed "strconv.ErrSyntax" = some 2 := by kernel_rfl
theorem g3 : Tryd.prog.globalNamed "strconv.ErrRange" = some 3 := by kernel_rfl
theorem t0 : (Tryd.prog.globals[0]?).map (·.type) = some 96 := by kernel_rfl
theorem t1 : (Tryd.prog.globals[1]?).map (·.type) = some 118 := by kernel_rfl
theorem t2 : (Tryd.prog.globals[2]?).map (·.type) = some 93 := by kernel_rfl
theorem t3 : (Tryd.prog.globals[3]?).map (·.type) = some 93 := by kernel_rfl
theorem cells3 : Tryd.prog.cellsOf 3 = 1 := by kernel_rfl
theorem cells9 : Tryd.prog.cellsOf 9 = 1 := by kernel_rfl
theorem cells33 : Tryd.prog.cellsOf 33 = 1 := by kernel_rfl
theorem cells40 : Tryd.prog.cellsOf 40 = 4 := by kernel_rfl
theorem cells57 : Tryd.prog.cellsOf 57 = 2 := by kernel_rfl
theorem cells74 : Tryd.prog.cellsOf 74 = 3 := by kernel_rfl
theorem cells96 : Tryd.prog.cellsOf 96 = 12 := by kernel_rfl
theorem cells118 : Tryd.prog.cellsOf 118 = 20 := by kernel_rfl
theorem cells136 : Tryd.prog.cellsOf 136 = 1 := by kernel_rfl
theorem star : "*" ++ "errors.errorString" = "*errors.errorString" := by decide
theorem row134 (u : TypeId) (h : Tryd.prog.typeName? 3 u = some "*errors.errorString") : u = 134 :=
  typeName_ptr_named (nm := "errors.errorString") (by rw [star]; kernel_rfl) (by kernel_rfl) (by decide) u (by rw [star]; exact h)
theorem pow_eq : (Rows.laid_internal_strconv_uint64pow10 : DataW Unit) = Lib.tabData .u64 Lib.pow10Tab := by rfl

theorem form_of_cells {W : World} {base : Nat} {spare : Nat → Bool} {held : Bool} {n : Nat} {cs : List Value} {p : List MemPlace} {a c : Int} {bs : List UInt8}
    (h : DataW.trod (fun _ => ()) Tryd.prog W base spare held n 74 cs = some (.agg [.lit (.int .i64 a), .lit (.string bs), .lit (.int .i64 c)], p)) : cs = [.int .i64 a, .string ⟨bs.toArray⟩, .int .i64 c] := by
  obtain ⟨xs, k, hk, hxy, hl, hxl, hf⟩ := DataW.trod_struct Tryd.underlying74 h
  rw [cells74] at hl
  match cs, hl, xs, hxl with
  | [v0, v1, v2], _, [y0, y1, y2], _ =>
    have f0 := hf 0 _ rfl
    have f1 := hf 1 _ rfl
    have f2 := hf 2 _ rfl
    simp [cells3, cells9] at f0 f1 f2
    obtain ⟨z0, e0, d0, _⟩ := DataW.trod_int Tryd.underlying3 f0
    obtain ⟨z1, e1, d1, _⟩ := DataW.trod_string Tryd.underlying9 f1
    obtain ⟨z2, e2, d2, _⟩ := DataW.trod_int Tryd.underlying3 f2
    subst d0 d1 d2
    simp at e0 e1 e2 hxy
    obtain ⟨⟨q0, q1, q2⟩, _⟩ := hxy
    rw [e0, e1, e2, q0, q1, q2]

theorem forms_of_head {W : World} {rest : List (String × DataW Unit)} (h : laidMet Tryd.prog (("matryoshka/act.forms", Rows.laid_matryoshka_act_forms) :: rest) W) : Forms W := by
  obtain ⟨ps, ⟨g', t', cs, fuel, p, q, hg', ht', hvar, hd, _, _⟩, _⟩ := h
  obtain rfl := Option.some.inj (g0.symm.trans hg')
  obtain rfl := Option.some.inj (t0.symm.trans ht')
  obtain ⟨xs, m, _, ex, hl, hxl, hel⟩ := DataW.trod_array Tryd.underlying96 hd
  rw [cells96] at hl
  have hc : ∀ i, W.cell? ⟨0, i, none⟩ = cs[i]? := fun i => World.var?_cell hg' hvar i
  obtain ⟨cl⟩ := cs
  simp only [] at hl hc hel
  match xs, hxl with
  | [y0, y1, y2, y3], _ =>
    have k0 := hel 0 (by decide)
    have k1 := hel 1 (by decide)
    have k2 := hel 2 (by decide)
    have k3 := hel 3 (by decide)
    rw [cells74] at k0 k1 k2 k3
    simp [Rows.laid_matryoshka_act_forms] at ex
    obtain ⟨⟨z0, z1, z2, z3⟩, _⟩ := ex
    obtain ⟨a0, b0⟩ := y0
    obtain ⟨a1, b1⟩ := y1
    obtain ⟨a2, b2⟩ := y2
    obtain ⟨a3, b3⟩ := y3
    simp only [] at z0 z1 z2 z3
    subst z0 z1 z2 z3
    have c0 := form_of_cells k0
    have c1 := form_of_cells k1
    have c2 := form_of_cells k2
    have c3 := form_of_cells k3
    match cl, hl with
    | [v0, v1, v2, v3, v4, v5, v6, v7, v8, v9, v10, v11], _ =>
      simp at c0 c1 c2 c3
      obtain ⟨rfl, rfl, rfl⟩ := c0
      obtain ⟨rfl, rfl, rfl⟩ := c1
      obtain ⟨rfl, rfl, rfl⟩ := c2
      obtain ⟨rfl, rfl, rfl⟩ := c3
      exact ⟨hc 0, hc 1, hc 2, hc 3, hc 4, hc 5, hc 6, hc 7, hc 8, hc 9, hc 10, hc 11⟩

theorem std_of_laid {W : World} (h : laidMetH Tryd.prog laidL W) : Std W := by
  rw [MakeChecks.laidMetH_plain _ _ _ (by kernel_rfl)] at h
  have h2 := h.tail.tail
  rw [pow_eq] at h2
  have h4 := h2.tail.tail
  have h5 := h4.tail
  have h6 := h5.tail
  obtain ⟨a, s, hv, _⟩ := laid_sentinel h4 g3 t3 Tryd.underlying93 row134 Tryd.underlying134 Tryd.underlying136 rfl rfl Tryd.underlying9 cells136 cells9
  obtain ⟨a', s', hv', _⟩ := laid_sentinel h5 g2 t2 Tryd.underlying93 row134 Tryd.underlying134 Tryd.underlying136 rfl rfl Tryd.underlying9 cells136 cells9
  exact ⟨forms_of_head h6, Lib.tabIs_of_head g1 t1 Tryd.underlying118 Tryd.underlying33 cells33 cells118 h2, ⟨_, _, hv'⟩, ⟨_, _, hv⟩⟩

theorem add_none (b off i : Nat) : ((⟨b, off, none⟩ : Addr).add i) = ⟨b, off + i, none⟩ := by by_cases h : i = 0 <;> simp [Addr.add, h]

theorem ac_of_cells {H : Type} {enc : TypeId × Value → H} {W : World} {base : Nat} {spare : Nat → Bool} {held : Bool} {n : Nat} {cs : List Value} {x : DataW H × List MemPlace} (hl : cs.length = 4)
    (h : DataW.trod enc Tryd.prog W base spare held n 40 cs = some x) : ∃ o : Ac, cs = [.int .i64 o.kd, .int .i64 o.ad, .int .u64 o.a, .int .u64 o.b] ∧ o.Ok := by
  obtain ⟨xs, k, hk, hxy, _, hxl, hf⟩ := DataW.trod_struct Tryd.underlying40 h
  match cs, hl, xs, hxl with
  | [u0, u1, u2, u3], _, [y0, y1, y2, y3], _ =>
    have g0 := hf 0 _ rfl
    have g1 := hf 1 _ rfl
    have g2 := hf 2 _ rfl
    have g3 := hf 3 _ rfl
    simp [cells3, cells33] at g0 g1 g2 g3
    obtain ⟨z0, e0, _, w0⟩ := DataW.trod_int Tryd.underlying3 g0
    obtain ⟨z1, e1, _, w1⟩ := DataW.trod_int Tryd.underlying3 g1
    obtain ⟨z2, e2, _, w2⟩ := DataW.trod_int Tryd.underlying33 g2
    obtain ⟨z3, e3, _, w3⟩ := DataW.trod_int Tryd.underlying33 g3
    simp at e0 e1 e2 e3
    have b1 := bounds_i64 w1
    have b2 := bounds_u64 w2
    have b3 := bounds_u64 w3
    exact ⟨⟨z0, z1, z2, z3⟩, by rw [e0, e1, e2, e3], by simp; omega, b2.1, by simp; omega, b3.1, by simp; omega⟩

/-- An act, handed over by value. -/
theorem act_of_arg {H : Type} {enc : TypeId × Value → H} {W : World} {r : Reach} {b0 : Nat} {base : Nat} {spare : Nat → Bool} {held : Bool} {v : Value} {d : DataW H} {p : List MemPlace}
    (hv : Value.okWide Tryd.prog W r b0 40 v) (h : DataW.Trod enc Tryd.prog W base spare held 40 v d p) : ∃ x : Ac, v = acV x ∧ x.Ok := by
  simp only [Value.okWide, Tryd.underlying40] at hv
  obtain ⟨⟨l⟩, rfl, hsz, _⟩ := hv
  obtain ⟨fuel, hf⟩ := h
  have hl : l.length = 4 := by rw [← cells40]; simpa using hsz
  obtain ⟨o, ho, hk⟩ := ac_of_cells (cs := l) hl hf
  subst ho
  exact ⟨o, rfl, hk⟩

/-- Acts, handed over. -/
def Acts (w : World) (q : Option Addr) (l : List Ac) : Prop :=
  l ≠ [] → ∃ g off, q = some ⟨g, off, none⟩ ∧ g < w.heap.size ∧ ∀ i, i < l.length → w.cell? ⟨g, off + i * 4, none⟩ = some (.int .i64 (l.getD i noAc).kd) ∧ w.cell? ⟨g, off + i * 4 + 1, none⟩ = some (.int .i64 (l.getD i noAc).ad) ∧ w.cell? ⟨g, off + i * 4 + 2, none⟩ = some (.int .u64 (l.getD i noAc).a) ∧ w.cell? ⟨g, off + i * 4 + 3, none⟩ = some (.int .u64 (l.getD i noAc).b)
theorem Acts.script {w0 w : World} {q : Option Addr} {l : List Ac} {p b : Nat} (h : Acts w0 q l) (hB : Below w0.heap.size w0 w) (hp : w0.heap.size ≤ p) (hb : w0.heap.size ≤ b) : Script w p b q l := by
  intro hne
  obtain ⟨g, off, rfl, hg, hc⟩ := h hne
  have hs := hB.size
  refine ⟨g, off, rfl, ⟨by omega, by omega, by omega⟩, fun i hi => ?_⟩
  have e : ∀ j, w.cell? ⟨g, j, none⟩ = w0.cell? ⟨g, j, none⟩ := fun j => hB.cell (p := ⟨g, j, none⟩) hg
  rw [e, e, e, e]
  exact hc i hi

theorem acts_of_arg {H : Type} {enc : TypeId × Value → H} {W : World} {r : Reach} {b0 : Nat} {v : Value} {d : DataW H} {p : List MemPlace}
    (hv : Value.okWide Tryd.prog W r b0 22 v) (h : DataW.Trod enc Tryd.prog W 0 (fun _ => true) true 22 v d p) :
    ∃ q n c l, v = .slice q n c ∧ n ≤ maxLen ∧ l.length = n ∧ n ≤ c ∧ Acts W q l := by
  obtain ⟨q, n, c, rfl⟩ := okWide_slice Tryd.underlying22 hv
  obtain ⟨fuel, hf⟩ := h
  rcases open_slice Tryd.underlying22 hf with ⟨hcs, _⟩ | ⟨⟨b, off, spot⟩, len', cap', m, k, D, Pl, hcs, _, hl, hm, hmm, _, hel⟩
  · simp [Value.cells] at hcs
    obtain ⟨rfl, rfl, rfl⟩ := hcs
    exact ⟨none, 0, 0, [], rfl, Nat.zero_le _, rfl, Nat.le_refl _, fun h => absurd rfl h⟩
  · simp [Value.cells] at hcs
    obtain ⟨rfl, rfl, rfl⟩ := hcs
    have hmn : n ≤ m := by rw [hmm]; simpa using hl
    have each : ∀ i, i < n → ∃ o : Int × Int × Int × Int, W.cell? ((⟨b, off, spot⟩ : Addr).add (i * 4)) = some (.int .i64 o.1) ∧ W.cell? ((⟨b, off, spot⟩ : Addr).add (i * 4 + 1)) = some (.int .i64 o.2.1) ∧ W.cell? ((⟨b, off, spot⟩ : Addr).add (i * 4 + 2)) = some (.int .u64 o.2.2.1) ∧ W.cell? ((⟨b, off, spot⟩ : Addr).add (i * 4 + 3)) = some (.int .u64 o.2.2.2) := by
      intro i hi
      obtain ⟨cs', h1, h2⟩ := hel i (by omega)
      rw [cells40] at h1
      obtain ⟨_, hlen, hcell⟩ := World.cells?_some h1
      obtain ⟨o, rfl, _⟩ := ac_of_cells hlen h2
      have e0 := hcell 0 (by omega)
      have e1 := hcell 1 (by omega)
      have e2 := hcell 2 (by omega)
      have e3 := hcell 3 (by omega)
      rw [add_add] at e0 e1 e2 e3
      exact ⟨(o.kd, o.ad, o.a, o.b), by simpa using e0, by simpa using e1, by simpa using e2, by simpa using e3⟩
    obtain ⟨z', hz⟩ := choose_lt each
    let z : Nat → Ac := fun i => ⟨(z' i).1, (z' i).2.1, (z' i).2.2.1, (z' i).2.2.2⟩
    have hlen : ((List.range n).map z).length = n := by simp
    refine ⟨_, n, c, (List.range n).map z, rfl, by omega, hlen, hl, fun hne => ?_⟩
    have hn0 : 0 < n := by
      rcases Nat.eq_zero_or_pos n with h0 | h0
      · subst h0; exact absurd (by simp) hne
      · exact h0
    have hc0 := (hz 0 hn0).1
    have hspot : spot = none := by simpa [Addr.add] using World.cell?_spot hc0
    subst hspot
    refine ⟨b, off, rfl, World.block_lt_of_cell? W _ (by simpa [Addr.add] using hc0), fun i hi => ?_⟩
    rw [hlen] at hi
    obtain ⟨f0, f1, f2, f3⟩ := hz i hi
    rw [add_none] at f0 f1 f2 f3
    rw [f0, show off + i * 4 + 1 = off + (i * 4 + 1) by omega, f1, show off + i * 4 + 2 = off + (i * 4 + 2) by omega, f2, show off + i * 4 + 3 = off + (i * 4 + 3) by omega, f3]
    have e : ((List.range n).map z).getD i noAc = z i := by simp [List.getD, hi]
    rw [e]
    exact ⟨rfl, rfl, rfl, rfl⟩

theorem zs_of_cells {k : IntKind} : ∀ (l : List Value), (∀ i, i < l.length → ∃ z, l[i]? = some (.int k z) ∧ (Lit.int k z).wf = true) → ∃ zs : List Int, l = zs.map (fun z => Value.int k z) ∧ ∀ z ∈ zs, (Lit.int k z).wf = true
  | [], _ => ⟨[], rfl, by simp⟩
  | v :: l, h => by
    obtain ⟨z, hz, hw⟩ := h 0 (by simp)
    obtain ⟨zs, rfl, hws⟩ := zs_of_cells l fun i hi => by simpa using h (i + 1) (by simpa using hi)
    refine ⟨z :: zs, ?_, ?_⟩
    · simp at hz; rw [hz]; rfl
    · intro y hy
      rcases List.mem_cons.1 hy with rfl | hy
      · exact hw
      · exact hws y hy
/-- An array of integers, handed over by value. -/
theorem open_arr {H : Type} {enc : TypeId × Value → H} {P : Program} {W : World} {r : Reach} {b0 base : Nat} {spare : Nat → Bool} {held : Bool} {t e : TypeId} {n : Nat} {k : IntKind} {v : Value} {d : DataW H} {p : List MemPlace}
    (ht : P.underlying t = some (.array n e)) (he : P.underlying e = some (.int k)) (hce : P.cellsOf e = 1) (hct : P.cellsOf t = n)
    (hv : Value.okWide P W r b0 t v) (h : DataW.Trod enc P W base spare held t v d p) :
    ∃ zs : List Int, zs.length = n ∧ v = .agg (zs.map fun z => Value.int k z).toArray ∧ ∀ z ∈ zs, (Lit.int k z).wf = true := by
  simp only [Value.okWide, ht] at hv
  obtain ⟨⟨l⟩, rfl, hsz, _⟩ := hv
  obtain ⟨fuel, hf⟩ := h
  obtain ⟨xs, m, rfl, _, _, hxl, hel⟩ := DataW.trod_array ht hf
  have hl : l.length = n := by rw [← hct]; simpa using hsz
  obtain ⟨zs, rfl, hw⟩ := zs_of_cells (k := k) l fun i hi => by
    have hi' : i < n := by omega
    have h1 := hel i hi'
    rw [List.getElem?_eq_getElem (by omega), hce] at h1
    obtain ⟨z, hz, _, hw⟩ := DataW.trod_int he h1
    refine ⟨z, ?_, hw⟩
    have := congrArg (·[0]?) hz
    simpa [Value.cells, List.getElem?_take, List.getElem?_drop] using this
  exact ⟨zs, by simpa using hl, rfl, hw⟩
theorem list2 {α : Type} : ∀ (zs : List α), zs.length = 2 → ∃ a b, zs = [a, b]
  | [a, b], _ => ⟨a, b, rfl⟩
end Go.Proofs.YtoeopapnegjooaaDoor
