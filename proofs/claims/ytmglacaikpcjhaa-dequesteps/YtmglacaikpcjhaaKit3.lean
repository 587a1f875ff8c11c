/- How a case comes in as an argument. -/
import Derived.Test.YtmglacaikpcjhaaKit2
namespace Go.Proofs.Ytmglacaikpcjhaa
open Go.ChangeShapes Go.WideShapes Go.ChangeAt Go.RowKit Go.Deep

/-- A case: a deque, what its owner does, how many thieves, who goes on, how many words. -/
structure Cs where
  za : Nat
  zs : Nat
  vq : Option Addr
  vn : Nat
  vc : Nat
  zp : Nat
  pq : Option Addr
  pn : Nat
  pc : Nat
  zw : Nat
abbrev csC (c : Cs) : Array Value := #[.int .u8 c.za, .int .u8 c.zs, .slice c.vq c.vn c.vc, .int .u8 c.zp, .slice c.pq c.pn c.pc, .int .u8 c.zw]
structure CsOk (W : World) (c : Cs) (f z : Nat → Nat) : Prop where
  nl : PL W c.vq c.vn f
  pl : PL W c.pq c.pn z
  ba : c.za < 256
  bs : c.zs < 256
  bp : c.zp < 256
  bw : c.zw < 256
theorem cells24 : Try.prog.cellsOf 24 = 6 := by kernel_rfl
theorem cells22 : Try.prog.cellsOf 22 = 1 := by kernel_rfl
set_option maxRecDepth 100000 in
theorem case_of_arg {H : Type} {enc : TypeId × Value → H} {W : World} {r : Reach} {b0 : Nat} {v : Value} {d : DataW H} {p : List MemPlace}
    (hv : Value.okWide Try.prog W r b0 24 v) (h : DataW.Trod enc Try.prog W 0 (fun _ => true) true 24 v d p) :
    ∃ (c : Cs) (f z : Nat → Nat), v = .agg (csC c) ∧ CsOk W c f z := by
  simp only [Value.okWide, Try.underlying24] at hv
  obtain ⟨⟨l⟩, rfl, hsz, _⟩ := hv
  obtain ⟨fuel, hf⟩ := h
  have hl : l.length = 6 := by rw [← cells24]; simpa using hsz
  have hf' : DataW.trod enc Try.prog W 0 (fun _ => true) true fuel 24 l = some (d, p) := hf
  obtain ⟨xs, k, hk, hxy, _, hxl, hfl⟩ := DataW.trod_struct Try.underlying24 hf'
  match l, hl, xs, hxl with
  | [u0, u1, u2, u3, u4, u5], _, [y0, y1, y2, y3, y4, y5], _ =>
    have g0 := hfl 0 _ rfl
    have g1 := hfl 1 _ rfl
    have g2 := hfl 2 _ rfl
    have g3 := hfl 3 _ rfl
    have g4 := hfl 4 _ rfl
    have g5 := hfl 5 _ rfl
    simp [cells5, cells22] at g0 g1 g2 g3 g4 g5
    obtain ⟨z0, e0, _, w0⟩ := DataW.trod_int Try.underlying5 g0
    obtain ⟨z1, e1, _, w1⟩ := DataW.trod_int Try.underlying5 g1
    obtain ⟨vq, vn, vc, f, e2, hN⟩ := pl_of_cells g2
    obtain ⟨z3, e3, _, w3⟩ := DataW.trod_int Try.underlying5 g3
    obtain ⟨pq, pn, pc, z, e4, hP⟩ := pl_of_cells g4
    obtain ⟨z5, e5, _, w5⟩ := DataW.trod_int Try.underlying5 g5
    simp at e0 e1 e3 e5
    obtain ⟨n0, rfl⟩ := Int.eq_ofNat_of_zero_le (bounds_u8 w0).1
    obtain ⟨n1, rfl⟩ := Int.eq_ofNat_of_zero_le (bounds_u8 w1).1
    obtain ⟨n3, rfl⟩ := Int.eq_ofNat_of_zero_le (bounds_u8 w3).1
    obtain ⟨n5, rfl⟩ := Int.eq_ofNat_of_zero_le (bounds_u8 w5).1
    have b0 := bounds_u8 w0
    have b1 := bounds_u8 w1
    have b3 := bounds_u8 w3
    have b5 := bounds_u8 w5
    exact ⟨⟨n0, n1, vq, vn, vc, n3, pq, pn, pc, n5⟩, f, z, by rw [e0, e1, e2, e3, e4, e5], hN, hP, by simp only []; omega, by simp only []; omega, by simp only []; omega, by simp only []; omega⟩
end Go.Proofs.Ytmglacaikpcjhaa
