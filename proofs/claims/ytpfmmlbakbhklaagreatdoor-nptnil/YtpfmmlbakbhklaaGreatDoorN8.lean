/- What isEmpty and retire return and leave. Conditions: the words and frames lie in memory. -/
import Derived.Test.YtpfmmlbakbhklaaGreatDoorN7
namespace Go.Proofs.YtpfmmlbakbhklaaGreatDoor
open Go.RowKit

set_option maxHeartbeats 400000 in
theorem notZero_at (x : Int) (w : World) : Calls Tryz.prog 144 #[.int .u64 x] w fun r w' => r = .returned (.bool (x != 0)) ∧ w' = w := by
  go_enter Tryz.func144, Tryz.ntmps144
  go_wp2
  go_ret
  exact ⟨rfl, rfl⟩
set_option maxHeartbeats 1000000 in
theorem index_some (b off c n : Nat) (f : Nat → Int) (z : Bool) (hzz : z = true ↔ ∀ i, i < n → f i = 0) (w : World) (hn : n ≤ 65536) (h1 : ∀ i, i < n → w.cell? ⟨b, off + i, none⟩ = some (.int .u64 (f i))) :
    Calls Tryz.prog 171 #[.slice (some ⟨b, off, none⟩) n c, .func (.func 144) #[] #[]] w fun r w' => (∃ x : Int, r = .returned (.int .i64 x) ∧ decide (0 ≤ x) = !z) ∧ w' = w := by
  have HH := hid h1
  have HB := hid hzz
  clear h1 hzz
  go_enter Tryz.func171, Tryz.ntmps171
  go_wp2
  go_loopw [8] (fun i wr => ∃ k : Nat, k ≤ n ∧ i = .int .i64 k ∧ wr = w ∧ ∀ j, j < k → f j = 0) (fun i _ => n - (intOf i).toNat)
  case atStart => exact ⟨0, Nat.zero_le _, rfl, rfl, fun j hj => by omega⟩
  case round =>
    obtain ⟨k, hk, rfl, rfl, hz⟩ := hrel
    have HZ := hid hz
    clear hz
    by_cases hlt : k < n
    · have c1 := HH.out k hlt
      have HX := hid (fun W => notZero_at (f k) W)
      have HF := hid (show ∃ x, f k = x from ⟨_, rfl⟩)
      by_cases hx : f k = 0
      · rw [hx] at c1 HX
        have HX0 := hid hx
        clear hx
        go_wp2_with fail
        refine (HX.out _).mono ?_
        rintro r w2 ⟨rfl, rfl⟩
        go_wp2
        refine ⟨⟨k + 1, by omega, by go_num, by trivial, fun j hj => ?_⟩, by simp [intOf]; omega⟩
        rcases Nat.lt_or_ge j k with h | h
        · exact HZ.out j h
        · obtain rfl : j = k := by omega
          exact HX0.out
      · have hxb : (f k != 0) = true := by simpa using hx
        have HX1 := hid hx
        rw [hxb] at HX
        have HX2 := hid (show z = false by
          cases hz : z
          · rfl
          · exact absurd (HB.out.1 hz k hlt) HX1.out)
        generalize f k = x at c1 HX
        clear hx HF hxb HX1 HZ
        go_wp2_with fail
        refine (HX.out _).mono ?_
        rintro r w2 ⟨rfl, rfl⟩
        go_wp2
        go_ret
        refine ⟨⟨_, rfl, ?_⟩, rfl⟩
        rw [HX2.out, decide_eq_true (by omega)]
        rfl
    · have HG := hid (show k = n by omega)
      go_wp2
      go_ret
      refine ⟨⟨_, rfl, ?_⟩, rfl⟩
      rw [HB.out.2 (fun i hi => HZ.out i (by have := HG.out; omega))]
      rfl
theorem index_nil (q : Option Addr) (c : Nat) (w : World) :
    Calls Tryz.prog 171 #[.slice q 0 c, .func (.func 144) #[] #[]] w fun r w' => (∃ x : Int, r = .returned (.int .i64 x) ∧ x = -1) ∧ w' = w := by
  go_enter Tryz.func171, Tryz.ntmps171
  go_wp2
  refine wp_loop_rounds 1 ?_
  rw [rounds_succ]
  go_wp2
  go_ret
  exact ⟨⟨_, rfl, rfl⟩, rfl⟩
theorem allZ (xs : List Int) : (xs.all fun x => x == 0) = decide (∀ i, i < xs.length → xs.getD i 0 = 0) := by
  rw [Bool.eq_iff_iff, List.all_eq_true, decide_eq_true_eq]
  constructor
  · intro h i hi
    have := h _ (List.getElem_mem hi)
    simpa [List.getD, hi] using this
  · intro h x hx
    obtain ⟨i, hi, rfl⟩ := List.mem_iff_getElem.1 hx
    have := h i hi
    simpa [List.getD, hi] using this
theorem index_at {w : World} {v : Value} {xs : List Int} (h : Lies w v xs) :
    Calls Tryz.prog 171 #[v, .func (.func 144) #[] #[]] w fun r w' => (∃ x : Int, r = .returned (.int .i64 x) ∧ decide (0 ≤ x) = !(xs.all fun x => x == 0)) ∧ w' = w := by
  obtain ⟨hn, q, c, rfl, hq⟩ := h
  by_cases hne : xs = []
  · subst hne
    refine (index_nil q c w).mono ?_
    rintro r w' ⟨⟨x, rfl, rfl⟩, rfl⟩
    exact ⟨⟨_, rfl, rfl⟩, rfl⟩
  · obtain ⟨b, off, rfl, -, h1⟩ := hq hne
    refine (index_some b off c xs.length (fun i => xs.getD i 0) (xs.all fun x => x == 0) (by rw [allZ, decide_eq_true_eq]) w hn h1).mono ?_
    rintro r w' ⟨⟨x, rfl, hx⟩, rfl⟩
    exact ⟨⟨_, rfl, hx⟩, rfl⟩
set_option maxHeartbeats 400000 in
theorem contains_at {w : World} {v : Value} {xs : List Int} (h : Lies w v xs) :
    Calls Tryz.prog 143 #[v, .func (.func 144) #[] #[]] w fun r w' => r = .returned (.bool (!(xs.all fun x => x == 0))) ∧ w' = w := by
  have HI := hid (index_at h)
  generalize (!(xs.all fun x => x == 0)) = b at *
  clear h
  go_enter Tryz.func143, Tryz.ntmps143
  go_wp2_with fail
  refine HI.out.mono ?_
  rintro r w2 ⟨⟨x, rfl, hx⟩, rfl⟩
  have HX := hid hx
  clear hx
  go_wp2
  go_ret
  exact ⟨by rw [← HX.out]; rfl, rfl⟩
section
variable {u : Si} {w : World} {t : Nat} {st o root : Int} {s : Sm} {k : Nat}
set_option maxHeartbeats 400000 in
theorem empty_at (hT : IsT u w t st o root) (h : Wo u w s k) (fr v : Int) :
    Calls Tryz.prog 102 #[.pointer (some ⟨t, 0, none⟩), .agg (tbC fr v)] w fun r w' => r = .returned (.bool (empW s.xs fr)) ∧ Below w.heap.size w w' := by
  have hB := below_alloc w (.cells #[.int .i64 fr, .int .i64 v] 93)
  have HB := hid hB
  have HC := hid (words_at (hT.below hB) (h.below hB) fr v)
  have c0 := cell_new w #[.int .i64 fr, .int .i64 v] 93 0 rfl
  have c1 := cell_new w #[.int .i64 fr, .int .i64 v] 93 1 rfl
  have HE := hid (fun W (x : Value) (hl : Lies W x (cutW s.xs (P.at' fr 0 0) 16)) => contains_at hl)
  have HR := hid (show empW s.xs fr = ((cutW s.xs (P.at' fr 0 0) 16).all fun x => x == 0) from rfl)
  rw [HR.out]
  generalize ((cutW s.xs (P.at' fr 0 0) 16).all fun x => x == 0) = b at *
  clear hT h hB HR
  show Calls Tryz.prog 102 #[.pointer (some ⟨t, 0, none⟩), .agg #[.int .i64 fr, .int .i64 v]] w _
  go_enter Tryz.func102, Tryz.ntmps102
  go_wp2_with fail
  refine HC.out.mono ?_
  rintro r w2 ⟨x, rfl, hL, hB2⟩
  have HE2 := hid (HE.out w2 x hL)
  have HB2 := hid hB2
  clear hL hB2
  go_wp2_with fail
  refine HE2.out.mono ?_
  rintro r w3 ⟨rfl, rfl⟩
  cases b
  all_goals
    go_wp2
    go_ret
    exact ⟨rfl, P.bgo HB.out HB2.out⟩
set_option maxHeartbeats 1000000 in
theorem retire_at (hT : IsT u w t st o root) (h : Wo u w s k) (f : Int) :
    Calls Tryz.prog 73 #[.pointer (some ⟨t, 0, none⟩), .int .i64 f] w fun r w' => r = .returned (.tuple #[]) ∧ Wo u w' ⟨s.xs, O.tL s.ds f 5 o⟩ k ∧ Ch u w w' := by
  have HW := hid h
  have hT1 := hT.below (Below.refl w.heap.size w).drew
  have hW1 := h.drew
  obtain ⟨-, -, c2, c3, -⟩ := hT1.cells
  have HC := hid (O.turn_at hW1.pool f 5 o hW1.tab)
  have hS : ∀ w', Ch u w.drew w' → w'.cell? ⟨t, 2, none⟩ = some (.pointer (some ⟨u.pp, 0, none⟩)) ∧ w'.cell? ⟨t, 3, none⟩ = some (.int .i64 o) := fun w' c => ⟨(hT1.ch hW1 c).cells.2.2.1, (hT1.ch hW1 c).cells.2.2.2.1⟩
  have HS := hid hS
  generalize O.tL s.ds f 5 o = ds' at *
  generalize O.tE s.ds f 5 o = ee at *
  clear hT h hT1 hW1 hS
  go_enter Tryz.func73, Tryz.ntmps73
  go_wp2
  go_region_held3 (fun w' => w'.cell? ⟨t, 2, none⟩ = some (.pointer (some ⟨u.pp, 0, none⟩)) ∧ w'.cell? ⟨t, 3, none⟩ = some (.int .i64 o)) (first | exact ⟨c2, c3⟩ | assumption)
    (first | (go_at_call 112; refine HC.out.mono ?_; rintro r w2 ⟨rfl, hP2, hB2⟩; have hS2 := HS.out _ (.of_bt hB2); have HP2 := hid hP2; have HB2 := hid hB2; clear hP2 hB2))
  all_goals
    have hW2 : Wo u w2 ⟨s.xs, ds'⟩ k := HW.out.drew.turn HP2.out HB2.out
    have hC2 : Ch u w w2 := (Ch.of_below (Below.refl _ _).drew).trans (.of_bt HB2.out)
    have HW2 := hid hW2
    have HC2 := hid hC2
    clear hW2 hC2 hS2 c2 c3
    go_wp2
    go_end0
    exact ⟨rfl, HW2.out, HC2.out⟩
end
end Go.Proofs.YtpfmmlbakbhklaaGreatDoor
