/- What whole returns of a reader that is not done, and of one whose values are all alike. Conditions: it is one that Read gave. -/
import Derived.Test.YtkdgjgbmbdmmfaaY4
namespace Go.Proofs.Ytkdgjgbmbdmmfaa
open Go.RowKit

set_option maxRecDepth 100000 in
set_option maxHeartbeats 600000 in
theorem whole_no (w : World) (g : Nat) (n mo : Int) (cd : w.cell? ⟨g, 22, none⟩ = some (.bool false)) :
    Calls Try.prog 15 #[.pointer (some ⟨g, 0, none⟩), .int .i64 n, .int .i64 mo] w fun e w' => e = .returned (.bool true) ∧ Below w.heap.size w w' := by
  go_enter Try.func15, Try.ntmps15
  go_wp2_with fail
  refine (values_no _ g cd).mono ?_
  rintro e w2 ⟨rfl, hw2⟩
  rw [hw2]
  clear hw2 w2
  go_wp2
  go_ret
  exact ⟨rfl, Below.refl _ _⟩

set_option maxRecDepth 100000 in
set_option maxHeartbeats 1000000 in
theorem whole_yes {w : World} {g : Nat} {r : Rd} (h : IsRd w g r) (n : Nat) (mo : Nat) (hn : r.x.n = (n : Int)) (h1 : 1 ≤ n) (h16 : n ≤ 16) (hmo : mo ≤ 1000) (hd : r.d = true) (hA : Alike n mo (fun j => r.x.vs.getD j 0)) :
    Calls Try.prog 15 #[.pointer (some ⟨g, 0, none⟩), .int .i64 n, .int .i64 mo] w fun e w' => e = .returned (.bool true) ∧ Below w.heap.size w w' := by
  obtain ⟨c, c0, c1, hc⟩ := hA
  have hu := h.2
  have HV := hid (values_yes h n hn h16 hd)
  have hcells : ∀ (W : World) (G : Nat), IsRow W G (r.x.vs.take n) → ∀ i, i < n → W.cell? ⟨G, i, none⟩ = some (.int .u64 c) := by
    intro W G hR i hi
    rw [hR.cell i (by simp; omega)]
    have e : (r.x.vs.take n).getD i 0 = r.x.vs.getD i 0 := by simp [List.getD, hi]
    rw [e]
    have := hc i hi
    simp only [] at this
    rw [this]
  have HC := hid hcells
  clear h hn hd hc hcells hu
  have hcc : (c != c) = false := by simp
  have hw : wrap64 (mo : Int) = (mo : Int) := by simp (disch := omega) only [IntWalk.wrap64_in]
  have hle : decide ((mo : Int) < c) = false := by simp; omega
  have hmu : IntKind.u64.wrap (mo : Int) = (mo : Int) := by simp [IntKind.wrap, IntKind.bits, IntKind.signed]; omega
  go_enter Try.func15, Try.ntmps15
  go_wp2_with fail
  refine HV.out.mono ?_
  rintro e w2 ⟨rfl, hR, hB⟩
  have HCE := hid (HC.out w2 _ hR)
  have HB := hid hB
  have hlt := hR.lt
  clear hR hB HV HC
  go_wp2
  go_loopw [9] (fun i wr => ∃ k m : Nat, k ≤ n ∧ i = .int .i64 k ∧ wr = w2.drewN m) (fun i _ => n - (intOf i).toNat)
  case atStart => exact ⟨0, 0, Nat.zero_le _, rfl, rfl⟩
  case round =>
    obtain ⟨k, m, hk, rfl, hwr⟩ := hrel
    have HW : Hid (wr = w2.drewN m) := hwr
    have hcell : ∀ a, wr.cell? a = w2.cell? a := fun a => by rw [hwr]; simp
    by_cases hlt2 : k < n
    · have e1 := (hcell _).trans (HCE.out k hlt2)
      have e0 := (hcell _).trans (HCE.out 0 (by omega))
      clear hwr hcell
      have hk0 : (0 : Int) ≤ (k : Int) := Int.natCast_nonneg k
      have hkn : (k : Int) < (n : Int) := Int.ofNat_lt.2 hlt2
      have hn0 : (0 : Int) < (n : Int) := by omega
      go_wp2
      go_quiet (fail)
      go_wp2
      refine ⟨⟨k + 1, m + nq, by omega, by go_num, ?_⟩, by simp [intOf]; omega⟩
      rw [HW.out]; simp [World.drewN_drewN]
    · have ek : k = n := by omega
      subst ek
      clear hwr hcell
      have hbb : ((k : Int) == (k : Int)) = true := by simp
      go_wp2
      go_ret
      refine ⟨rfl, ?_⟩
      rw [HW.out]; exact below_drewN HB.out m
end Go.Proofs.Ytkdgjgbmbdmmfaa
