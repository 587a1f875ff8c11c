/- What each small call of the document's answer (within, Right, leads, Name) returns, for every argument: the same functions as the program's; the world's old blocks are as they were. -/
import Derived.Test.YtpfmmlbakbhklaaGreatDoorOD2
namespace Go.Proofs.YtpfmmlbakbhklaaGreatDoor.O
open Go.RowKit

set_option maxHeartbeats 400000 in
theorem within_any (n b : Int) (w : World) :
    Calls Tryz.prog 190 #[.int .i64 n, .int .i64 b] w fun e w' => e = .returned (.bool (btw n 0 b)) ∧ w' = w := by
  by_cases h1 : 0 ≤ n
  · by_cases h2 : n ≤ b
    · have e : btw n 0 b = true := btw_yes.2 ⟨h1, h2⟩
      rw [e]; clear e
      go_enter Tryz.func190, Tryz.ntmps190
      go_wp2
      go_ret
      exact ⟨rfl, rfl⟩
    · have e : btw n 0 b = false := btw_no.2 (fun h => h2 h.2)
      rw [e]; clear e
      go_enter Tryz.func190, Tryz.ntmps190
      go_wp2
      go_ret
      exact ⟨rfl, rfl⟩
  · have e : btw n 0 b = false := btw_no.2 (fun h => h1 h.1)
    rw [e]; clear e
    go_enter Tryz.func190, Tryz.ntmps190
    go_wp2
    go_ret
    exact ⟨rfl, rfl⟩
theorem within_yes (n b : Int) (w : World) (h : btw n 0 b = true) :
    Calls Tryz.prog 190 #[.int .i64 n, .int .i64 b] w fun e w' => e = .returned (.bool true) ∧ w' = w := by
  rw [← h]; exact within_any n b w
theorem within_no (n b : Int) (w : World) (h : btw n 0 b = false) :
    Calls Tryz.prog 190 #[.int .i64 n, .int .i64 b] w fun e w' => e = .returned (.bool false) ∧ w' = w := by
  rw [← h]; exact within_any n b w

theorem below_one (w : World) (o : Obj) : Below w.heap.size w (w.alloc o) := (Below.refl _ _).alloc (Nat.le_refl _) _

set_option maxRecDepth 100000 in
set_option maxHeartbeats 400000 in
theorem rright_out (k o r e : Int) (w : World) (h : (btw k 0 5 && (btw o 0 16 && (btw r 0 65535 && btw e 0 4294967295))) = false) :
    Calls Tryz.prog 155 #[.agg #[.int .i64 k, .int .i64 o, .int .i64 r, .int .i64 e]] w fun x w' => x = .returned (.bool false) ∧ Below w.heap.size w w' := by
  have hB := hid (below_one w (.cells #[.int .i64 k, .int .i64 o, .int .i64 r, .int .i64 e] 91))
  cases h1 : btw k 0 5
  · have H1 := hid h1
    clear h h1
    go_enter Tryz.func155, Tryz.ntmps155
    go_wp2_with fail
    refine (within_no _ _ _ H1.out).mono ?_
    rintro x w1 ⟨rfl, rfl⟩
    go_wp2
    go_ret
    exact ⟨rfl, hB.out⟩
  · cases h2 : btw o 0 16
    · have H1 := hid h1
      have H2 := hid h2
      clear h h1 h2
      go_enter Tryz.func155, Tryz.ntmps155
      go_wp2_with fail
      refine (within_yes _ _ _ H1.out).mono ?_
      rintro x w1 ⟨rfl, rfl⟩
      go_wp2_with fail
      refine (within_no _ _ _ H2.out).mono ?_
      rintro x w1 ⟨rfl, rfl⟩
      go_wp2
      go_ret
      exact ⟨rfl, hB.out⟩
    · cases h3 : btw r 0 65535
      · have H1 := hid h1
        have H2 := hid h2
        have H3 := hid h3
        clear h h1 h2 h3
        go_enter Tryz.func155, Tryz.ntmps155
        go_wp2_with fail
        refine (within_yes _ _ _ H1.out).mono ?_
        rintro x w1 ⟨rfl, rfl⟩
        go_wp2_with fail
        refine (within_yes _ _ _ H2.out).mono ?_
        rintro x w1 ⟨rfl, rfl⟩
        go_wp2_with fail
        refine (within_no _ _ _ H3.out).mono ?_
        rintro x w1 ⟨rfl, rfl⟩
        go_wp2
        go_ret
        exact ⟨rfl, hB.out⟩
      · have H1 := hid h1
        have H2 := hid h2
        have H3 := hid h3
        have H4 : Hid (btw e 0 4294967295 = false) := hid (by simpa [h1, h2, h3] using h)
        clear h h1 h2 h3
        go_enter Tryz.func155, Tryz.ntmps155
        go_wp2_with fail
        refine (within_yes _ _ _ H1.out).mono ?_
        rintro x w1 ⟨rfl, rfl⟩
        go_wp2_with fail
        refine (within_yes _ _ _ H2.out).mono ?_
        rintro x w1 ⟨rfl, rfl⟩
        go_wp2_with fail
        refine (within_yes _ _ _ H3.out).mono ?_
        rintro x w1 ⟨rfl, rfl⟩
        go_wp2_with fail
        refine (within_no _ _ _ H4.out).mono ?_
        rintro x w1 ⟨rfl, rfl⟩
        go_wp2
        go_ret
        exact ⟨rfl, hB.out⟩

theorem bool_eq {a b : Bool} {p : Prop} (h1 : a = true ↔ p) (h2 : b = true ↔ p) : a = b := by rw [Bool.eq_iff_iff, h1, h2]

set_option maxRecDepth 100000 in
set_option maxHeartbeats 1000000 in
theorem rright_in (k o r e : Int) (w : World) (h1 : btw k 0 5 = true) (h2 : btw o 0 16 = true) (h3 : btw r 0 65535 = true) (h4 : btw e 0 4294967295 = true) (b : Bool)
    (hb : b = true ↔ ((k ≤ 1 → o = 0 ∧ r = 0 ∧ e = 0) ∧ (k = 2 → o = 0 ∧ e = 0) ∧ (k = 3 ∨ k = 4 → 1 ≤ o ∧ e = 0) ∧ (k = 5 → r = 0))) :
    Calls Tryz.prog 155 #[.agg #[.int .i64 k, .int .i64 o, .int .i64 r, .int .i64 e]] w fun x w' => x = .returned (.bool b) ∧ Below w.heap.size w w' := by
  have hB := hid (below_one w (.cells #[.int .i64 k, .int .i64 o, .int .i64 r, .int .i64 e] 91))
  have hk := btw_yes.1 h1
  have ho := btw_yes.1 h2
  have H1 := hid h1
  have H2 := hid h2
  have H3 := hid h3
  have H4 := hid h4
  clear h1 h2 h3 h4
  have ways : (k = 0 ∨ k = 1 ∨ k = 2 ∨ k = 3 ∨ k = 4 ∨ k = 5) := by omega
  have HO := hid ho
  clear hk ho
  rcases ways with rfl | rfl | rfl | rfl | rfl | rfl
  all_goals
    simp only [Int.reduceLE, Int.reduceEq, false_implies, true_and, and_true, forall_const, or_false, or_true, or_self] at hb
    have HA := hid hb
    clear hb
    go_enter Tryz.func155, Tryz.ntmps155
    go_wp2_with fail
    refine (within_yes _ _ _ H1.out).mono ?_
    rintro x w1 ⟨rfl, rfl⟩
    go_wp2_with fail
    refine (within_yes _ _ _ H2.out).mono ?_
    rintro x w1 ⟨rfl, rfl⟩
    go_wp2_with fail
    refine (within_yes _ _ _ H3.out).mono ?_
    rintro x w1 ⟨rfl, rfl⟩
    go_wp2_with fail
    refine (within_yes _ _ _ H4.out).mono ?_
    rintro x w1 ⟨rfl, rfl⟩
    go_wp2
    all_goals
      go_ret
      refine ⟨ret_bool ?_, below_one _ _⟩
      have hA := HA.out
      have hO := HO.out
      rw [Bool.eq_iff_iff, hA]
      clear hA
      first
        | (simp [*]; done)
        | (simp only [beq_iff_eq, Bool.false_eq_true, false_iff]; omega)
        | (simp; omega)

theorem rright_at (d : Ds) (w : World) :
    Calls Tryz.prog 155 #[dV d] w fun x w' => x = .returned (.bool (rt d)) ∧ Below w.heap.size w w' := by
  cases h : (btw d.k 0 5 && (btw d.o 0 16 && (btw d.r 0 65535 && btw d.e 0 4294967295)))
  · refine (rright_out d.k d.o d.r d.e w h).mono fun x w' ⟨a, b⟩ => ⟨a.trans (ret_bool ?_), b⟩
    symm
    rw [← Bool.not_eq_true, rt_iff]
    intro hr
    have : (btw d.k 0 5 && (btw d.o 0 16 && (btw d.r 0 65535 && btw d.e 0 4294967295))) = true := by
      simp only [Bool.and_eq_true, btw_yes]; omega
    rw [h] at this
    cases this
  · have h' := h
    simp only [Bool.and_eq_true] at h'
    obtain ⟨h1, h2, h3, h4⟩ := h'
    refine rright_in d.k d.o d.r d.e w h1 h2 h3 h4 _ ?_
    have g1 := btw_yes.1 h1
    have g2 := btw_yes.1 h2
    have g3 := btw_yes.1 h3
    have g4 := btw_yes.1 h4
    rw [rt_iff]
    exact ⟨fun x => x.2, fun x => ⟨⟨g1.1, g1.2, g2.1, g2.2, g3.1, g3.2, g4.1, g4.2⟩, x⟩⟩
theorem rright_yes (d : Ds) (w : World) (h : rt d = true) :
    Calls Tryz.prog 155 #[dV d] w fun x w' => x = .returned (.bool true) ∧ Below w.heap.size w w' := by
  rw [← h]; exact rright_at d w
theorem rright_no (d : Ds) (w : World) (h : rt d = false) :
    Calls Tryz.prog 155 #[dV d] w fun x w' => x = .returned (.bool false) ∧ Below w.heap.size w w' := by
  rw [← h]; exact rright_at d w
end Go.Proofs.YtpfmmlbakbhklaaGreatDoor.O
