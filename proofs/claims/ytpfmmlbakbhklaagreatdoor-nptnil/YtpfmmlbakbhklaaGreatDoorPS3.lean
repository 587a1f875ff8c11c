/- What Index, At and Span return, the program's and the document's, for every number; the world's old blocks are as they were. -/
import Derived.Test.YtpfmmlbakbhklaaGreatDoorPS1
namespace Go.Proofs.YtpfmmlbakbhklaaGreatDoor.P
open Go.RowKit

def sp (v : Int) : Int := if v = 0 then 1 else if v = 1 then 16 else if v = 2 then 256 else if v = 3 then 4096 else 0
def ix (n v : Int) : Int := if btw n 0 65535 && btw v 0 3 then n / sp v % 16 else -1
def at' (f n v : Int) : Int := if decide (0 ≤ ix n v) && btw f 0 4095 then 16 * f + ix n v else -1
theorem lev {v : Int} (h : btw v 0 3 = true) : v = 0 ∨ v = 1 ∨ v = 2 ∨ v = 3 := by have := btw_yes.1 h; omega
theorem sp_no {v : Int} (h : btw v 0 3 = false) : sp v = 0 := by
  have := btw_no.1 h
  unfold sp
  repeat' split
  all_goals omega
theorem ix_no {n v : Int} (h : btw v 0 3 = false) : ix n v = -1 := by simp [ix, h]
theorem ix_far {n v : Int} (h : btw n 0 65535 = false) : ix n v = -1 := by simp [ix, h]
theorem ix_yes {n v : Int} (h : btw n 0 65535 = true) (h' : btw v 0 3 = true) : ix n v = n / sp v % 16 := by simp [ix, h, h']
theorem ix_lt (n v : Int) : -1 ≤ ix n v ∧ ix n v < 16 := by
  unfold ix
  split
  · omega
  · omega

set_option maxRecDepth 100000 in
set_option maxHeartbeats 400000 in
theorem span_at (v : Int) (w : World) : Calls Tryz.prog 85 #[.int .i64 v] w fun x w' => x = .returned (.int .i64 (sp v)) ∧ w' = w := by
  cases h : btw v 0 3
  · rw [sp_no h]
    have U1 := hid h
    clear h
    go_enter Tryz.func85, Tryz.ntmps85
    go_wp2_with fail
    refine (it_at (isLevel_at _ _) U1.out).mono ?_
    rintro v w1 ⟨rfl, hw⟩
    rw [hw]
    clear hw w1
    go_wp2
    go_ret
    exact ⟨rfl, rfl⟩
  · have U1 := hid h
    rcases lev h with rfl | rfl | rfl | rfl
    all_goals clear h
    · 
      go_enter Tryz.func85, Tryz.ntmps85
      go_wp2_with fail
      refine (it_at (isLevel_at _ _) U1.out).mono ?_
      rintro v w1 ⟨rfl, hw⟩
      rw [hw]
      clear hw w1
      go_wp2
      go_ret
      exact ⟨rfl, rfl⟩
    · 
      go_enter Tryz.func85, Tryz.ntmps85
      go_wp2_with fail
      refine (it_at (isLevel_at _ _) U1.out).mono ?_
      rintro v w1 ⟨rfl, hw⟩
      rw [hw]
      clear hw w1
      go_wp2
      go_ret
      exact ⟨rfl, rfl⟩
    · 
      go_enter Tryz.func85, Tryz.ntmps85
      go_wp2_with fail
      refine (it_at (isLevel_at _ _) U1.out).mono ?_
      rintro v w1 ⟨rfl, hw⟩
      rw [hw]
      clear hw w1
      go_wp2
      go_ret
      exact ⟨rfl, rfl⟩
    · 
      go_enter Tryz.func85, Tryz.ntmps85
      go_wp2_with fail
      refine (it_at (isLevel_at _ _) U1.out).mono ?_
      rintro v w1 ⟨rfl, hw⟩
      rw [hw]
      clear hw w1
      go_wp2
      go_ret
      exact ⟨rfl, rfl⟩

set_option maxRecDepth 100000 in
set_option maxHeartbeats 400000 in
theorem rspan_at (v : Int) (w : World) : Calls Tryz.prog 154 #[.int .i64 v] w fun x w' => x = .returned (.int .i64 (sp v)) ∧ Below w.heap.size w w' := by
  by_cases h1 : 0 ≤ v
  · by_cases h2 : v ≤ 3
    · rcases lev (btw_t h1 h2) with rfl | rfl | rfl | rfl
      · 
        go_enter Tryz.func154, Tryz.ntmps154
        go_wp2
        go_ret
        exact ⟨rfl, below_one _ _⟩
      · 
        go_enter Tryz.func154, Tryz.ntmps154
        go_wp2
        go_ret
        exact ⟨rfl, below_one _ _⟩
      · 
        go_enter Tryz.func154, Tryz.ntmps154
        go_wp2
        go_ret
        exact ⟨rfl, below_one _ _⟩
      · 
        go_enter Tryz.func154, Tryz.ntmps154
        go_wp2
        go_ret
        exact ⟨rfl, below_one _ _⟩
    · rw [sp_no (btw_f2 h2)]
      go_enter Tryz.func154, Tryz.ntmps154
      go_wp2
      go_ret
      exact ⟨rfl, bel0 _⟩
  · rw [sp_no (btw_f1 h1)]
    go_enter Tryz.func154, Tryz.ntmps154
    go_wp2
    go_ret
    exact ⟨rfl, bel0 _⟩

theorem n_at {fn : FuncId} {args : Array Value} {w : World} {b c : Int} (h : Calls Tryz.prog fn args w fun v w' => v = .returned (.int .i64 b) ∧ w' = w) (hb : b = c) :
    Calls Tryz.prog fn args w fun v w' => v = .returned (.int .i64 c) ∧ w' = w := by
  subst hb; exact h
theorem nb_at {fn : FuncId} {args : Array Value} {w : World} {b c : Int} (h : Calls Tryz.prog fn args w fun v w' => v = .returned (.int .i64 b) ∧ Below w.heap.size w w') (hb : b = c) :
    Calls Tryz.prog fn args w fun v w' => v = .returned (.int .i64 c) ∧ Below w.heap.size w w' := by
  subst hb; exact h

set_option maxRecDepth 100000 in
set_option maxHeartbeats 400000 in
theorem index_at (n v : Int) (w : World) : Calls Tryz.prog 145 #[.int .i64 n, .int .i64 v] w fun x w' => x = .returned (.int .i64 (ix n v)) ∧ w' = w := by
  cases h0 : btw n 0 65535
  · rw [ix_far h0]
    have U0 := hid h0
    clear h0
    go_enter Tryz.func145, Tryz.ntmps145
    go_wp2_with fail
    refine (it_at (isPage_at _ _) U0.out).mono ?_
    rintro v w1 ⟨rfl, hw⟩
    rw [hw]
    clear hw w1
    go_wp2
    go_ret
    exact ⟨rfl, rfl⟩
  · cases h : btw v 0 3
    · rw [ix_no h]
      have U0 := hid h0
      have U1 := hid h
      clear h h0
      go_enter Tryz.func145, Tryz.ntmps145
      go_wp2_with fail
      refine (it_at (isPage_at _ _) U0.out).mono ?_
      rintro v w1 ⟨rfl, hw⟩
      rw [hw]
      clear hw w1
      go_wp2_with fail
      refine (it_at (isLevel_at _ _) U1.out).mono ?_
      rintro v w1 ⟨rfl, hw⟩
      rw [hw]
      clear hw w1
      go_wp2
      go_ret
      exact ⟨rfl, rfl⟩
    · rw [ix_yes h0 h]
      have U0 := hid h0
      have U1 := hid h
      obtain ⟨k1, k2⟩ := btw_yes.1 h0
      rcases lev h with rfl | rfl | rfl | rfl
      all_goals clear h h0
      · 
        go_enter Tryz.func145, Tryz.ntmps145
        go_wp2_with fail
        refine (it_at (isPage_at _ _) U0.out).mono ?_
        rintro v w1 ⟨rfl, hw⟩
        rw [hw]
        clear hw w1
        go_wp2_with fail
        refine (it_at (isLevel_at _ _) U1.out).mono ?_
        rintro v w1 ⟨rfl, hw⟩
        rw [hw]
        clear hw w1
        go_wp2
        go_ret
        exact ⟨ret_int (by simp [sp]), rfl⟩
      · 
        go_enter Tryz.func145, Tryz.ntmps145
        go_wp2_with fail
        refine (it_at (isPage_at _ _) U0.out).mono ?_
        rintro v w1 ⟨rfl, hw⟩
        rw [hw]
        clear hw w1
        go_wp2_with fail
        refine (it_at (isLevel_at _ _) U1.out).mono ?_
        rintro v w1 ⟨rfl, hw⟩
        rw [hw]
        clear hw w1
        go_wp2
        go_ret
        exact ⟨ret_int (by simp [sp]), rfl⟩
      · 
        go_enter Tryz.func145, Tryz.ntmps145
        go_wp2_with fail
        refine (it_at (isPage_at _ _) U0.out).mono ?_
        rintro v w1 ⟨rfl, hw⟩
        rw [hw]
        clear hw w1
        go_wp2_with fail
        refine (it_at (isLevel_at _ _) U1.out).mono ?_
        rintro v w1 ⟨rfl, hw⟩
        rw [hw]
        clear hw w1
        go_wp2
        go_ret
        exact ⟨ret_int (by simp [sp]), rfl⟩
      · 
        go_enter Tryz.func145, Tryz.ntmps145
        go_wp2_with fail
        refine (it_at (isPage_at _ _) U0.out).mono ?_
        rintro v w1 ⟨rfl, hw⟩
        rw [hw]
        clear hw w1
        go_wp2_with fail
        refine (it_at (isLevel_at _ _) U1.out).mono ?_
        rintro v w1 ⟨rfl, hw⟩
        rw [hw]
        clear hw w1
        go_wp2
        go_ret
        exact ⟨ret_int (by simp [sp]), rfl⟩

set_option maxRecDepth 100000 in
set_option maxHeartbeats 400000 in
theorem rindex_at (n v : Int) (w : World) : Calls Tryz.prog 115 #[.int .i64 n, .int .i64 v] w fun x w' => x = .returned (.int .i64 (ix n v)) ∧ Below w.heap.size w w' := by
  by_cases g1 : 0 ≤ n
  · by_cases g2 : n ≤ 65535
    · cases h : btw v 0 3
      · rw [ix_no h]
        have U1 := hid (sp_no h)
        clear h
        go_enter Tryz.func115, Tryz.ntmps115
        go_wp2_with fail
        refine (nb_at (rspan_at _ _) U1.out).mono ?_
        rintro v w1 ⟨rfl, hB⟩
        have HB1 := hid hB
        clear hB
        (try simp only [])
        go_wp2
        go_ret
        exact ⟨rfl, HB1.out⟩
      · rw [ix_yes (btw_t g1 g2) h]
        rcases lev h with rfl | rfl | rfl | rfl
        all_goals clear h
        · 
          go_enter Tryz.func115, Tryz.ntmps115
          go_wp2_with fail
          refine (nb_at (c := 1) (rspan_at 0 _) (by rfl)).mono ?_
          rintro v w1 ⟨rfl, hB⟩
          have HB1 := hid hB
          clear hB
          (try simp only [])
          go_wp2_with fail
          refine (nb_at (c := 1) (rspan_at 0 _) (by rfl)).mono ?_
          rintro v w2 ⟨rfl, hB⟩
          have HB := hid (bgo HB1.out hB)
          clear hB
          (try simp only [])
          go_wp2
          go_ret
          refine ⟨ret_int ?_, HB.out⟩
          simp [sp]
        · 
          go_enter Tryz.func115, Tryz.ntmps115
          go_wp2_with fail
          refine (nb_at (c := 16) (rspan_at 1 _) (by rfl)).mono ?_
          rintro v w1 ⟨rfl, hB⟩
          have HB1 := hid hB
          clear hB
          (try simp only [])
          go_wp2_with fail
          refine (nb_at (c := 16) (rspan_at 1 _) (by rfl)).mono ?_
          rintro v w2 ⟨rfl, hB⟩
          have HB := hid (bgo HB1.out hB)
          clear hB
          (try simp only [])
          go_wp2
          go_ret
          refine ⟨ret_int ?_, HB.out⟩
          simp [sp]
        · 
          go_enter Tryz.func115, Tryz.ntmps115
          go_wp2_with fail
          refine (nb_at (c := 256) (rspan_at 2 _) (by rfl)).mono ?_
          rintro v w1 ⟨rfl, hB⟩
          have HB1 := hid hB
          clear hB
          (try simp only [])
          go_wp2_with fail
          refine (nb_at (c := 256) (rspan_at 2 _) (by rfl)).mono ?_
          rintro v w2 ⟨rfl, hB⟩
          have HB := hid (bgo HB1.out hB)
          clear hB
          (try simp only [])
          go_wp2
          go_ret
          refine ⟨ret_int ?_, HB.out⟩
          simp [sp]
        · 
          go_enter Tryz.func115, Tryz.ntmps115
          go_wp2_with fail
          refine (nb_at (c := 4096) (rspan_at 3 _) (by rfl)).mono ?_
          rintro v w1 ⟨rfl, hB⟩
          have HB1 := hid hB
          clear hB
          (try simp only [])
          go_wp2_with fail
          refine (nb_at (c := 4096) (rspan_at 3 _) (by rfl)).mono ?_
          rintro v w2 ⟨rfl, hB⟩
          have HB := hid (bgo HB1.out hB)
          clear hB
          (try simp only [])
          go_wp2
          go_ret
          refine ⟨ret_int ?_, HB.out⟩
          simp [sp]
    · rw [ix_far (btw_f2 g2)]
      go_enter Tryz.func115, Tryz.ntmps115
      go_wp2
      go_ret
      exact ⟨rfl, bel0 _⟩
  · rw [ix_far (btw_f1 g1)]
    go_enter Tryz.func115, Tryz.ntmps115
    go_wp2
    go_ret
    exact ⟨rfl, bel0 _⟩

set_option maxRecDepth 100000 in
set_option maxHeartbeats 400000 in
theorem place_at (f n v : Int) (w : World) : Calls Tryz.prog 103 #[.int .i64 f, .int .i64 n, .int .i64 v] w fun x w' => x = .returned (.int .i64 (at' f n v)) ∧ w' = w := by
  have U1 := hid (fun w => index_at n v w)
  obtain ⟨k1, k2⟩ := ix_lt n v
  unfold at'
  generalize ix n v = i at *
  by_cases h1 : 0 ≤ i
  · rw [show decide (0 ≤ i) = true by simp [h1], Bool.true_and]
    cases h2 : btw f 0 4095
    · have U2 := hid h2
      clear h2
      go_enter Tryz.func103, Tryz.ntmps103
      go_wp2_with fail
      refine (U1.out _).mono ?_
      rintro v w1 ⟨rfl, hw⟩
      rw [hw]
      clear hw w1
      go_wp2_with fail
      refine (it_at (isFrame_at _ _) U2.out).mono ?_
      rintro v w1 ⟨rfl, hw⟩
      rw [hw]
      clear hw w1
      go_wp2
      go_ret
      exact ⟨rfl, rfl⟩
    · have U2 := hid h2
      obtain ⟨k3, k4⟩ := btw_yes.1 h2
      clear h2
      go_enter Tryz.func103, Tryz.ntmps103
      go_wp2_with fail
      refine (U1.out _).mono ?_
      rintro v w1 ⟨rfl, hw⟩
      rw [hw]
      clear hw w1
      go_wp2_with fail
      refine (it_at (isFrame_at _ _) U2.out).mono ?_
      rintro v w1 ⟨rfl, hw⟩
      rw [hw]
      clear hw w1
      go_wp2
      go_ret
      exact ⟨ret_int (by simp), rfl⟩
  · rw [show decide (0 ≤ i) = false by simp [h1]]
    go_enter Tryz.func103, Tryz.ntmps103
    go_wp2_with fail
    refine (U1.out _).mono ?_
    rintro v w1 ⟨rfl, hw⟩
    rw [hw]
    clear hw w1
    go_wp2
    go_ret
    exact ⟨rfl, rfl⟩


set_option maxRecDepth 100000 in
set_option maxHeartbeats 400000 in
theorem rplace_at (f n v : Int) (w : World) : Calls Tryz.prog 80 #[.int .i64 f, .int .i64 n, .int .i64 v] w fun x w' => x = .returned (.int .i64 (at' f n v)) ∧ Below w.heap.size w w' := by
  have U1 := hid (fun w => rindex_at n v w)
  obtain ⟨k1, k2⟩ := ix_lt n v
  unfold at'
  generalize ix n v = i at *
  by_cases h1 : 0 ≤ i
  · rw [show decide (0 ≤ i) = true by simp [h1], Bool.true_and]
    by_cases g1 : 0 ≤ f
    · by_cases g2 : f ≤ 4095
      · rw [btw_t g1 g2]
        go_enter Tryz.func80, Tryz.ntmps80
        go_wp2_with fail
        refine (U1.out _).mono ?_
        rintro v w1 ⟨rfl, hB⟩
        have HB1 := hid hB
        clear hB
        (try simp only [])
        go_wp2
        go_ret
        exact ⟨ret_int (by simp), HB1.out⟩
      · rw [btw_f2 g2]
        go_enter Tryz.func80, Tryz.ntmps80
        go_wp2_with fail
        refine (U1.out _).mono ?_
        rintro v w1 ⟨rfl, hB⟩
        have HB1 := hid hB
        clear hB
        (try simp only [])
        go_wp2
        go_ret
        exact ⟨rfl, HB1.out⟩
    · rw [btw_f1 g1]
      go_enter Tryz.func80, Tryz.ntmps80
      go_wp2_with fail
      refine (U1.out _).mono ?_
      rintro v w1 ⟨rfl, hB⟩
      have HB1 := hid hB
      clear hB
      (try simp only [])
      go_wp2
      go_ret
      exact ⟨rfl, HB1.out⟩
  · rw [show decide (0 ≤ i) = false by simp [h1]]
    go_enter Tryz.func80, Tryz.ntmps80
    go_wp2_with fail
    refine (U1.out _).mono ?_
    rintro v w1 ⟨rfl, hB⟩
    have HB1 := hid hB
    clear hB
    (try simp only [])
    go_wp2
    go_ret
    exact ⟨rfl, HB1.out⟩

end Go.Proofs.YtpfmmlbakbhklaaGreatDoor.P
