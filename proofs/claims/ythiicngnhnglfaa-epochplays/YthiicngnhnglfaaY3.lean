/- What a round of EpochPlays tests of both sides behind each call is told alike. No conditions beyond what Ok says. -/
import Derived.Test.YthiicngnhnglfaaY2
namespace Go.Proofs.Ythiicngnhnglfaa
open Go.RowKit

theorem Tz.tests {w0 w : World} {p b m q r z B : Nat} {o : Cl} {s : Ep} (h : Tz w0 p b m q r z o w s s) (k : Ok B s) (hB : B ≤ 1000000) :
    Below w.heap.size w w.drew ∧ w.drew.cell? ⟨q, 0, none⟩ = some (.int .i64 (s.n : Nat)) ∧
    (∀ W, Below w.heap.size w W → Calls Try.prog 23 #[.pointer (some ⟨p, 0, none⟩)] W fun v w' => v = .returned (.int .i64 (s.n : Nat)) ∧ w'.cell? ⟨q, 0, none⟩ = some (.int .i64 (s.n : Nat)) ∧ Below w.heap.size w w') ∧
    (∀ W, Below w.heap.size w W → Calls Try.prog 24 #[.pointer (some ⟨p, 0, none⟩)] W fun v w' => ∃ u, v = .returned u ∧ w'.cell? ⟨q, 0, none⟩ = some (.int .i64 (s.n : Nat)) ∧ Below w.heap.size w w' ∧ Lies w' u (waL s)) ∧
    (∀ W u, Below w.heap.size w W → Lies W u (waL s) → Calls Try.prog 25 #[.pointer (some ⟨q, 0, none⟩)] W fun v w' => ∃ u2, v = .returned u2 ∧ w'.cell? ⟨q, 0, none⟩ = some (.int .i64 (s.n : Nat)) ∧ Below w.heap.size w w' ∧ Lies w' u (waL s) ∧ Lies w' u2 (waL s)) ∧
    (∀ W u v, Below w.heap.size w W → Lies W u (waL s) → Lies W v (waL s) → Calls Try.prog 18 #[u, v] W fun x w' => x = .returned (.bool true) ∧ w'.cell? ⟨q, 0, none⟩ = some (.int .i64 (s.n : Nat)) ∧ Below w.heap.size w w') := by
  obtain ⟨c, v, hc0, -⟩ := h.tw.rf.heads
  have up : ∀ W, Below w.heap.size w W → W.cell? ⟨q, 0, none⟩ = some (.int .i64 (s.n : Nat)) := fun W hW => (hW.cell (p := ⟨q, 0, none⟩) h.tw.rf.lt.1).trans hc0
  have hd : Below w.heap.size w w.drew := (Below.refl _ _).drew
  refine ⟨hd, up _ hd, fun W hW => ?_, fun W hW => ?_, fun W u hW hL => ?_, fun W u v hW h1 h2 => ?_⟩
  · refine (now_at (h.below hW).tw.ep k.pos).mono ?_
    rintro v w' ⟨a, hw⟩
    rw [hw]
    exact ⟨a, up _ hW, hW⟩
  · exact ((h.below hW).wait k hB).mono fun _ _ ⟨u, a, l, c⟩ => ⟨u, a, up _ (bgo hW c), bgo hW c, l⟩
  · exact ((h.below hW).rwait k hB).mono fun _ _ ⟨u, a, l, c⟩ => ⟨u, a, up _ (bgo hW c), bgo hW c, hL.below c, l⟩
  · exact (same_any h1 h2).mono fun _ _ ⟨a, c⟩ => ⟨a, up _ (bgo hW c), bgo hW c⟩
end Go.Proofs.Ythiicngnhnglfaa
