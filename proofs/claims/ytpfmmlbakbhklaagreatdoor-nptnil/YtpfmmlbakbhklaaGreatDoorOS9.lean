/- Lists of frames' numbers that lie in memory, and what the comparison of two such lists (Ints) returns where they are the same. -/
import Derived.Test.YtpfmmlbakbhklaaGreatDoorOS6
namespace Go.Proofs.YtpfmmlbakbhklaaGreatDoor.O
open Go.RowKit

/-- A slice that reads as the numbers xs. -/
def Lies (w : World) (v : Value) (xs : List Nat) : Prop :=
  xs.length ≤ 65536 ∧ ∃ q c, v = .slice q xs.length c ∧ (xs ≠ [] → ∃ b off, q = some ⟨b, off, none⟩ ∧ b < w.heap.size ∧ ∀ i, i < xs.length → w.cell? ⟨b, off + i, none⟩ = some (.int .i64 (xs.getD i 0 : Nat)))
theorem Lies.below {w w' : World} {v : Value} {xs : List Nat} (h : Lies w v xs) (hb : Below w.heap.size w w') : Lies w' v xs := by
  obtain ⟨hV, q, c, rfl, hc⟩ := h
  refine ⟨hV, q, c, rfl, fun hne => ?_⟩
  obtain ⟨b, off, rfl, h1, h2⟩ := hc hne
  exact ⟨b, off, rfl, Nat.lt_of_lt_of_le h1 hb.size, fun i hi => (hb.cell (p := ⟨b, off + i, none⟩) h1).trans (h2 i hi)⟩
theorem Lies.of_owns {w : World} {base : Nat} {v : Value} {xs : List Nat} (h : w.ownsRow base 3 1 v xs.length (ints xs)) (hl : xs.length ≤ 65536) : Lies w v xs := by
  refine ⟨hl, ?_⟩
  have hcs : ∀ {g : Nat}, v.ownBlock = some g → _ := fun {g} hg => h.cells (g := g) hg
  have hlt := h.lt
  obtain ⟨_, ⟨rfl, hn⟩ | ⟨g, cap, cur, rfl, _, _, _⟩⟩ := h
  · have : xs = [] := List.eq_nil_of_length_eq_zero hn
    subst this
    exact ⟨none, 0, rfl, fun h => absurd rfl h⟩
  · refine ⟨some ⟨g, 0, none⟩, cap, rfl, fun _ => ⟨g, 0, rfl, (hlt g rfl).2, fun i hi => ?_⟩⟩
    have := hcs rfl i (.int .i64 (xs[i] : Nat)) (by simp [ints, hi])
    have ha : ((⟨g, 0, none⟩ : Addr).add i) = ⟨g, i, none⟩ := by by_cases h : i = 0 <;> simp [Addr.add, h]
    rw [ha] at this
    simpa [List.getD, hi] using this

set_option maxHeartbeats 400000 in
theorem same_nil (p q : Option Addr) (c d : Nat) (w : World) :
    Calls Tryz.prog 15 #[.slice p 0 c, .slice q 0 d] w fun e w' => e = .returned (.bool true) ∧ w' = w := by
  go_enter Tryz.func15, Tryz.ntmps15
  go_wp2
  refine wp_loop_rounds 1 ?_
  rw [rounds_succ]
  go_wp2
  go_ret
  exact ⟨rfl, rfl⟩

set_option maxHeartbeats 800000 in
theorem same_some (b1 o1 b2 o2 c d n : Nat) (f : Nat → Int) (w : World) (hn : n ≤ 65536)
    (h1 : ∀ i, i < n → w.cell? ⟨b1, o1 + i, none⟩ = some (.int .i64 (f i))) (h2 : ∀ i, i < n → w.cell? ⟨b2, o2 + i, none⟩ = some (.int .i64 (f i))) :
    Calls Tryz.prog 15 #[.slice (some ⟨b1, o1, none⟩) n c, .slice (some ⟨b2, o2, none⟩) n d] w fun e w' => e = .returned (.bool true) ∧ Below w.heap.size w w' := by
  go_enter Tryz.func15, Tryz.ntmps15
  go_wp2
  go_loopw [5] (fun i wr => ∃ k m : Nat, k ≤ n ∧ i = .int .i64 k ∧ wr = w.drewN m) (fun i _ => n - (intOf i).toNat)
  case atStart => exact ⟨0, 0, Nat.zero_le _, rfl, rfl⟩
  case round =>
    obtain ⟨k, m, hk, rfl, hwr⟩ := hrel
    have HW : Hid (wr = w.drewN m) := hwr
    have hcell : ∀ a, wr.cell? a = w.cell? a := fun a => by rw [hwr]; simp
    by_cases hlt : k < n
    · have c1 := (hcell _).trans (h1 k hlt)
      have c2 := (hcell _).trans (h2 k hlt)
      clear hwr hcell h1 h2
      generalize f k = x at c1 c2
      go_wp2
      go_quiet (fail)
      go_wp2
      refine ⟨⟨k + 1, m + nq, by omega, by go_num, ?_⟩, by simp [intOf]; omega⟩
      rw [HW.out]; simp [World.drewN_drewN]
    · clear hwr hcell h1 h2
      go_wp2
      go_ret
      refine ⟨rfl, ?_⟩
      rw [HW.out]; exact below_drewN (Below.refl _ _) m

theorem same_any {w : World} {u v : Value} {xs : List Nat} (h : Lies w u xs) (k : Lies w v xs) :
    Calls Tryz.prog 15 #[u, v] w fun e w' => e = .returned (.bool true) ∧ Below w.heap.size w w' := by
  obtain ⟨hn, p, c, rfl, hp⟩ := h
  obtain ⟨_, q, d, rfl, hq⟩ := k
  by_cases hne : xs = []
  · subst hne
    refine (same_nil p q c d w).mono ?_
    rintro e w' ⟨rfl, hw⟩
    rw [hw]
    exact ⟨rfl, Below.refl _ _⟩
  · obtain ⟨b1, o1, rfl, _, h1⟩ := hp hne
    obtain ⟨b2, o2, rfl, _, h2⟩ := hq hne
    exact same_some b1 o1 b2 o2 c d xs.length (fun i => (xs.getD i 0 : Nat)) w hn h1 h2
end Go.Proofs.YtpfmmlbakbhklaaGreatDoor.O
