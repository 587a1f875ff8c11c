/- The calls of package mem by states: what each returns and leaves is a function of the words and counts alone; two rows of the same words compare as the same. Conditions: the counts are below 2^62. -/
import Derived.Test.YtmglacaikpcjhaaW3
namespace Go.Proofs.Ytmglacaikpcjhaa
open Go.RowKit

/-- A call that turns words p, b from s to s'. -/
abbrev Turns (t : TypeId) (p b : Nat) (w w' : World) (s' : St) : Prop := Mem t w' p b s' ∧ But p b w w'

theorem nat_of {a : Int} {n : Nat} (h : inB n a = true) : ∃ i : Nat, a = i ∧ i < n := by
  have := inB_yes.1 h
  exact ⟨a.toNat, by omega, by omega⟩

theorem load_any {w : World} {p b : Nat} {s : St} {k : Nat} (h : Mem 78 w p b s) (c : Cnt s k) (hk : k ≤ bnd) (a : Int) :
    Calls Try.prog 27 #[.pointer (some ⟨p, 0, none⟩), .int .i64 a] w fun e w' => e = .returned (.tuple #[.int .u64 (loadV s a), .int .i64 (errV s a)]) ∧ Turns 78 p b w w' (loadT s a) := by
  unfold bnd at hk
  have := c.d0
  have := c.d1
  cases ha : there s a
  · refine (load_out (by decide) (fault_no h a ha)).mono ?_
    rintro e w' ⟨rfl, hw⟩
    rw [hw]
    simp only [loadV, errV, loadT, ha]
    exact ⟨rfl, h, But.refl _ _ _⟩
  · obtain ⟨i, rfl, hi⟩ := nat_of ha
    refine (load_in h i hi c.d0 (by omega)).mono ?_
    rintro e w' ⟨rfl, hw⟩
    rw [hw]
    simp only [loadV, errV, loadT, ha]
    exact ⟨rfl, h.done _, But.setCell _ _ _ _ _ (Or.inl rfl)⟩

theorem store_any {w : World} {p b : Nat} {s : St} {k : Nat} (h : Mem 78 w p b s) (c : Cnt s k) (hk : k ≤ bnd) (a v : Int) :
    Calls Try.prog 66 #[.pointer (some ⟨p, 0, none⟩), .int .i64 a, .int .u64 v] w fun e w' => e = .returned (.int .i64 (errV s a)) ∧ Turns 78 p b w w' (storeT s a v) := by
  unfold bnd at hk
  have := c.d1
  have := c.l1
  cases ha : there s a
  · refine (store_out (by decide) (fault_no h a ha)).mono ?_
    rintro e w' ⟨rfl, hw⟩
    rw [hw]
    simp only [errV, storeT, ha]
    exact ⟨rfl, h, But.refl _ _ _⟩
  · obtain ⟨i, rfl, hi⟩ := nat_of ha
    refine (store_in h i v hi c.d0 (by omega) c.l0 (by omega)).mono ?_
    rintro e w' ⟨rfl, hw⟩
    rw [hw]
    simp only [errV, storeT, ha]
    exact ⟨rfl, h.laidW i v, But.laidW _ _ _ _ _ _ _⟩

theorem cas_any {w : World} {p b : Nat} {s : St} {k : Nat} (h : Mem 78 w p b s) (c : Cnt s k) (hk : k ≤ bnd) (a o v : Int) :
    Calls Try.prog 67 #[.pointer (some ⟨p, 0, none⟩), .int .i64 a, .int .u64 o, .int .u64 v] w fun e w' => e = .returned (.tuple #[.bool (casV s a o), .int .i64 (errV s a)]) ∧ Turns 78 p b w w' (casT s a o v) := by
  unfold bnd at hk
  have := c.d1
  have := c.l1
  cases ha : there s a
  · refine (cas_out (by decide) (fault_no h a ha)).mono ?_
    rintro e w' ⟨rfl, hw⟩
    rw [hw]
    simp only [errV, casT, casV, ha]
    exact ⟨rfl, h, But.refl _ _ _⟩
  · obtain ⟨i, rfl, hi⟩ := nat_of ha
    by_cases hx : s.xs.getD i 0 = o
    · refine (cas_yes h i o v hi hx c.d0 (by omega) c.l0 (by omega)).mono ?_
      rintro e w' ⟨rfl, hw⟩
      rw [hw]
      have hx' : s.xs.getD (i : Int).toNat 0 = o := hx
      have hb : (s.xs.getD (i : Int).toNat 0 == o) = true := by rw [hx']; exact beq_self_eq_true _
      simp only [errV, casT, casV, ha, hb, if_pos hx']
      exact ⟨rfl, h.laidW i v, But.laidW _ _ _ _ _ _ _⟩
    · refine (cas_not h i o v hi hx c.d0 (by omega)).mono ?_
      rintro e w' ⟨rfl, hw⟩
      rw [hw]
      have hx' : ¬ s.xs.getD (i : Int).toNat 0 = o := hx
      have hb : (s.xs.getD (i : Int).toNat 0 == o) = false := beq_eq_false_iff_ne.2 hx'
      simp only [errV, casT, casV, ha, hb, if_neg hx']
      exact ⟨rfl, h.done _, But.setCell _ _ _ _ _ (Or.inl rfl)⟩

theorem add_any {w : World} {p b : Nat} {s : St} {k : Nat} (h : Mem 78 w p b s) (c : Cnt s k) (hk : k ≤ bnd) (a v : Int) :
    Calls Try.prog 68 #[.pointer (some ⟨p, 0, none⟩), .int .i64 a, .int .u64 v] w fun e w' => e = .returned (.tuple #[.int .u64 (loadV s a), .int .i64 (errV s a)]) ∧ Turns 78 p b w w' (addT s a v) := by
  unfold bnd at hk
  have := c.d1
  have := c.l1
  cases ha : there s a
  · refine (add_out (by decide) (fault_no h a ha)).mono ?_
    rintro e w' ⟨rfl, hw⟩
    rw [hw]
    simp only [loadV, errV, addT, storeT, ha]
    exact ⟨rfl, h, But.refl _ _ _⟩
  · obtain ⟨i, rfl, hi⟩ := nat_of ha
    refine (add_in h i v hi c.d0 (by omega) c.l0 (by omega)).mono ?_
    rintro e w' ⟨rfl, hw⟩
    rw [hw]
    simp only [loadV, errV, addT, storeT, ha]
    exact ⟨rfl, h.laidW i _, But.laidW _ _ _ _ _ _ _⟩

theorem below_drewN {w0 w : World} {B : Nat} (h : Below B w0 w) : ∀ n, Below B w0 (w.drewN n)
  | 0 => h
  | n + 1 => (below_drewN h n).drew
/-- A slice that reads as the words xs. -/
def Lies (w : World) (v : Value) (xs : List Int) : Prop :=
  xs.length ≤ 65536 ∧ ∃ q c, v = .slice q xs.length c ∧ (xs ≠ [] → ∃ b off, q = some ⟨b, off, none⟩ ∧ b < w.heap.size ∧ ∀ i, i < xs.length → w.cell? ⟨b, off + i, none⟩ = some (.int .u64 (xs.getD i 0)))
theorem Lies.below {w w' : World} {v : Value} {xs : List Int} (h : Lies w v xs) (hb : Below w.heap.size w w') : Lies w' v xs := by
  obtain ⟨hV, q, c, rfl, hc⟩ := h
  refine ⟨hV, q, c, rfl, fun hne => ?_⟩
  obtain ⟨b, off, rfl, h1, h2⟩ := hc hne
  exact ⟨b, off, rfl, Nat.lt_of_lt_of_le h1 hb.size, fun i hi => (hb.cell (p := ⟨b, off + i, none⟩) h1).trans (h2 i hi)⟩
theorem Lies.nil (w : World) (q : Option Addr) (c : Nat) : Lies w (.slice q 0 c) [] := ⟨by simp, q, c, rfl, fun h => absurd rfl h⟩
theorem IsRow.lies {w : World} {g n c : Nat} {xs : List Int} (h : IsRow w g xs) (hn : xs.length = n) (ht : n ≤ 65536) : Lies w (.slice (some ⟨g, 0, none⟩) n c) xs := by
  subst hn
  exact ⟨ht, _, c, rfl, fun _ => ⟨g, 0, rfl, h.lt, fun i hi => by rw [Nat.zero_add]; exact h.cell i hi⟩⟩

set_option maxHeartbeats 400000 in
theorem same_nil (p q : Option Addr) (c d : Nat) (w : World) :
    Calls Try.prog 21 #[.slice p 0 c, .slice q 0 d] w fun e w' => e = .returned (.bool true) ∧ w' = w := by
  go_enter Try.func21, Try.ntmps21
  go_wp2
  refine wp_loop_rounds 1 ?_
  rw [rounds_succ]
  go_wp2
  go_ret
  exact ⟨rfl, rfl⟩

set_option maxHeartbeats 800000 in
theorem same_some (b1 o1 b2 o2 c d n : Nat) (f : Nat → Int) (w : World) (hn : n ≤ 65536)
    (h1 : ∀ i, i < n → w.cell? ⟨b1, o1 + i, none⟩ = some (.int .u64 (f i))) (h2 : ∀ i, i < n → w.cell? ⟨b2, o2 + i, none⟩ = some (.int .u64 (f i))) :
    Calls Try.prog 21 #[.slice (some ⟨b1, o1, none⟩) n c, .slice (some ⟨b2, o2, none⟩) n d] w fun e w' => e = .returned (.bool true) ∧ Below w.heap.size w w' := by
  go_enter Try.func21, Try.ntmps21
  go_wp2
  go_loopw [5] (fun i wr => ∃ k m : Nat, k ≤ n ∧ i = .int .i64 k ∧ wr = w.drewN m) (fun i _ => n - (intOf i).toNat)
  case atStart => exact ⟨0, 0, Nat.zero_le _, rfl, rfl⟩
  case round =>
    obtain ⟨k, m, hk, rfl, hwr⟩ := hrel
    have HW : Hid (wr = w.drewN m) := hwr
    have hcell : ∀ a, wr.cell? a = w.cell? a := fun a => by rw [hwr]; simp
    by_cases hlt : k < n
    · have c1 := (hcell _).trans (h1 k hlt)
      have c2 := (hcell _).trans (h2 k hlt)
      clear hwr hcell h1 h2
      generalize f k = x at c1 c2
      go_wp2
      go_quiet (fail)
      go_wp2
      refine ⟨⟨k + 1, m + nq, by omega, by go_num, ?_⟩, by simp [intOf]; omega⟩
      rw [HW.out]; simp [World.drewN_drewN]
    · clear hwr hcell h1 h2
      go_wp2
      go_ret
      refine ⟨rfl, ?_⟩
      rw [HW.out]; exact below_drewN (Below.refl _ _) m

theorem same_any {w : World} {u v : Value} {xs : List Int} (h : Lies w u xs) (k : Lies w v xs) :
    Calls Try.prog 21 #[u, v] w fun e w' => e = .returned (.bool true) ∧ Below w.heap.size w w' := by
  obtain ⟨hn, p, c, rfl, hp⟩ := h
  obtain ⟨_, q, d, rfl, hq⟩ := k
  by_cases hne : xs = []
  · subst hne
    refine (same_nil p q c d w).mono ?_
    rintro e w' ⟨rfl, hw⟩
    rw [hw]
    exact ⟨rfl, Below.refl _ _⟩
  · obtain ⟨b1, o1, rfl, _, h1⟩ := hp hne
    obtain ⟨b2, o2, rfl, _, h2⟩ := hq hne
    exact same_some b1 o1 b2 o2 c d xs.length (fun i => xs.getD i 0) w hn h1 h2

end Go.Proofs.Ytmglacaikpcjhaa
