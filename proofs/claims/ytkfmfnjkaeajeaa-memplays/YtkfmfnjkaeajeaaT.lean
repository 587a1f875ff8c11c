/- Two memories side by side, apart from one another: what a call to one of them leaves of the other. No conditions. -/
import Derived.Test.YtkfmfnjkaeajeaaS
namespace Go.Proofs.Ytkfmfnjkaeajeaa
open Go.RowKit

/-- Two memories that were made since w0, apart from one another. -/
structure Two (u : TypeId) (w0 w : World) (p b : Nat) (s : St) (p' b' : Nat) (s' : St) : Prop where
  m1 : Mem 53 w p b s
  m2 : Mem u w p' b' s'
  bel : Below w0.heap.size w0 w
  h1 : w0.heap.size ≤ p
  h2 : w0.heap.size ≤ b
  h3 : w0.heap.size ≤ p'
  h4 : w0.heap.size ≤ b'
  n1 : p ≠ p'
  n2 : p ≠ b'
  n3 : b ≠ p'
  n4 : b ≠ b'
theorem Two.left {u : TypeId} {w0 w w' : World} {p b p' b' : Nat} {s s' t : St} (h : Two u w0 w p b s p' b' s') (k : Turns 53 p b w w' t) : Two u w0 w' p b t p' b' s' :=
  ⟨k.1, h.m2.but k.2 (fun e => h.n1 e.symm) (fun e => h.n3 e.symm) (fun e => h.n2 e.symm) (fun e => h.n4 e.symm), h.bel.trans (k.2.below h.bel.size h.h1 h.h2), h.h1, h.h2, h.h3, h.h4, h.n1, h.n2, h.n3, h.n4⟩
theorem Two.right {u : TypeId} {w0 w w' : World} {p b p' b' : Nat} {s s' t : St} (h : Two u w0 w p b s p' b' s') (k : Turns u p' b' w w' t) : Two u w0 w' p b s p' b' t :=
  ⟨h.m1.but k.2 h.n1 h.n2 h.n3 h.n4, k.1, h.bel.trans (k.2.below h.bel.size h.h3 h.h4), h.h1, h.h2, h.h3, h.h4, h.n1, h.n2, h.n3, h.n4⟩
theorem Two.below {u : TypeId} {w0 w w' : World} {p b p' b' : Nat} {s s' : St} (h : Two u w0 w p b s p' b' s') (k : Below w.heap.size w w') : Two u w0 w' p b s p' b' s' :=
  ⟨h.m1.below k, h.m2.below k, h.bel.trans (k.mono h.bel.size), h.h1, h.h2, h.h3, h.h4, h.n1, h.n2, h.n3, h.n4⟩
theorem Two.mk' {u : TypeId} {w0 w w' : World} {p b p' b' : Nat} {s s' : St} (h : Kn w0 w p b s) (k : Mem u w' p' b' s') (hp : w.heap.size ≤ p') (hb : w.heap.size ≤ b') (hB : Below w.heap.size w w') : Two u w0 w' p b s p' b' s' := by
  have h1 := h.mem.lt
  have h2 := h.bel.size
  exact ⟨h.mem.below hB, k, h.bel.trans (hB.mono h.bel.size), h.hp, h.hb, by omega, by omega, by omega, by omega, by omega, by omega⟩
end Go.Proofs.Ytkfmfnjkaeajeaa
