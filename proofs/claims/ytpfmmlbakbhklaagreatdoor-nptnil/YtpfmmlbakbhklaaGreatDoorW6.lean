/- The calls of package mem by states: what each returns and leaves is a function of the words and counts alone; two rows of the same words compare as the same. Conditions: the counts are below 2^62. -/
import Derived.Test.YtpfmmlbakbhklaaGreatDoorW5
namespace Go.Proofs.YtpfmmlbakbhklaaGreatDoor
open Go.RowKit

/-- A slice that reads as the words xs. -/
def Lies (w : World) (v : Value) (xs : List Int) : Prop :=
  xs.length ≤ 65536 ∧ ∃ q c, v = .slice q xs.length c ∧ (xs ≠ [] → ∃ b off, q = some ⟨b, off, none⟩ ∧ b < w.heap.size ∧ ∀ i, i < xs.length → w.cell? ⟨b, off + i, none⟩ = some (.int .u64 (xs.getD i 0)))
theorem Lies.below {w w' : World} {v : Value} {xs : List Int} (h : Lies w v xs) (hb : Below w.heap.size w w') : Lies w' v xs := by
  obtain ⟨hV, q, c, rfl, hc⟩ := h
  refine ⟨hV, q, c, rfl, fun hne => ?_⟩
  obtain ⟨b, off, rfl, h1, h2⟩ := hc hne
  exact ⟨b, off, rfl, Nat.lt_of_lt_of_le h1 hb.size, fun i hi => (hb.cell (p := ⟨b, off + i, none⟩) h1).trans (h2 i hi)⟩
theorem Lies.nil (w : World) (q : Option Addr) (c : Nat) : Lies w (.slice q 0 c) [] := ⟨by simp, q, c, rfl, fun h => absurd rfl h⟩
theorem IsRow.lies {w : World} {g n c : Nat} {xs : List Int} (h : IsRow w g xs) (hn : xs.length = n) (ht : n ≤ 65536) : Lies w (.slice (some ⟨g, 0, none⟩) n c) xs := by
  subst hn
  exact ⟨ht, _, c, rfl, fun _ => ⟨g, 0, rfl, h.lt, fun i hi => by rw [Nat.zero_add]; exact h.cell i hi⟩⟩

set_option maxHeartbeats 400000 in
theorem same_nil (p q : Option Addr) (c d : Nat) (w : World) :
    Calls Tryz.prog 28 #[.slice p 0 c, .slice q 0 d] w fun e w' => e = .returned (.bool true) ∧ w' = w := by
  go_enter Tryz.func28, Tryz.ntmps28
  go_wp2
  refine wp_loop_rounds 1 ?_
  rw [rounds_succ]
  go_wp2
  go_ret
  exact ⟨rfl, rfl⟩

set_option maxHeartbeats 800000 in
theorem same_some (b1 o1 b2 o2 c d n : Nat) (f : Nat → Int) (w : World) (hn : n ≤ 65536)
    (h1 : ∀ i, i < n → w.cell? ⟨b1, o1 + i, none⟩ = some (.int .u64 (f i))) (h2 : ∀ i, i < n → w.cell? ⟨b2, o2 + i, none⟩ = some (.int .u64 (f i))) :
    Calls Tryz.prog 28 #[.slice (some ⟨b1, o1, none⟩) n c, .slice (some ⟨b2, o2, none⟩) n d] w fun e w' => e = .returned (.bool true) ∧ Below w.heap.size w w' := by
  go_enter Tryz.func28, Tryz.ntmps28
  go_wp2
  go_loopw [5] (fun i wr => ∃ k m : Nat, k ≤ n ∧ i = .int .i64 k ∧ wr = w.drewN m) (fun i _ => n - (intOf i).toNat)
  case atStart => exact ⟨0, 0, Nat.zero_le _, rfl, rfl⟩
  case round =>
    obtain ⟨k, m, hk, rfl, hwr⟩ := hrel
    have HW : Hid (wr = w.drewN m) := hwr
    have hcell : ∀ a, wr.cell? a = w.cell? a := fun a => by rw [hwr]; simp
    by_cases hlt : k < n
    · have c1 := (hcell _).trans (h1 k hlt)
      have c2 := (hcell _).trans (h2 k hlt)
      clear hwr hcell h1 h2
      generalize f k = x at c1 c2
      go_wp2
      go_quiet (fail)
      go_wp2
      refine ⟨⟨k + 1, m + nq, by omega, by go_num, ?_⟩, by simp [intOf]; omega⟩
      rw [HW.out]; simp [World.drewN_drewN]
    · clear hwr hcell h1 h2
      go_wp2
      go_ret
      refine ⟨rfl, ?_⟩
      rw [HW.out]; exact below_drewN (Below.refl _ _) m

theorem same_any {w : World} {u v : Value} {xs : List Int} (h : Lies w u xs) (k : Lies w v xs) :
    Calls Tryz.prog 28 #[u, v] w fun e w' => e = .returned (.bool true) ∧ Below w.heap.size w w' := by
  obtain ⟨hn, p, c, rfl, hp⟩ := h
  obtain ⟨_, q, d, rfl, hq⟩ := k
  by_cases hne : xs = []
  · subst hne
    refine (same_nil p q c d w).mono ?_
    rintro e w' ⟨rfl, hw⟩
    rw [hw]
    exact ⟨rfl, Below.refl _ _⟩
  · obtain ⟨b1, o1, rfl, _, h1⟩ := hp hne
    obtain ⟨b2, o2, rfl, _, h2⟩ := hq hne
    exact same_some b1 o1 b2 o2 c d xs.length (fun i => xs.getD i 0) w hn h1 h2

/-- What Words tells. -/
def wordsV (s : St) (a m : Int) : List Int := if allB s.xs.length a m = true then cut s.xs a.toNat m.toNat else []
theorem words_any {w : World} {p b : Nat} {s : St} (h : Mem 124 w p b s) (a m : Int) (hm : m ≤ 9223372036854775807) :
    Calls Tryz.prog 29 #[.pointer (some ⟨p, 0, none⟩), .int .i64 a, .int .i64 m] w fun e w' => ∃ v, e = .returned v ∧ Lies w' v (wordsV s a m) ∧ Below w.heap.size w w' := by
  cases hA : allB s.xs.length a m
  · refine (words_no h a m hm hA).mono ?_
    rintro e w' ⟨rfl, hw⟩
    rw [hw]
    simp only [wordsV, hA]
    exact ⟨_, rfl, Lies.nil _ _ _, Below.refl _ _⟩
  · have ⟨h1, h2, h3⟩ := allB_yes.1 hA
    obtain ⟨i, rfl⟩ := Int.eq_ofNat_of_zero_le h2
    obtain ⟨j, rfl⟩ := Int.eq_ofNat_of_zero_le (show 0 ≤ m by omega)
    have ht := h.top
    refine (words_yes h i j (by omega) (by omega)).mono ?_
    rintro e w' ⟨rfl, hR, hB⟩
    simp only [wordsV, hA]
    exact ⟨_, rfl, hR.lies (cut_length (by omega)) (by omega), hB⟩
end Go.Proofs.YtpfmmlbakbhklaaGreatDoor
