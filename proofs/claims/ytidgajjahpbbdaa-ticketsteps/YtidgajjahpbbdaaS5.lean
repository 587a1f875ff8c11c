/- What a holder's Step returns and leaves: functions of the words and the holder alone. Conditions: a holder is one that Lock.Holder gave; the counts are below 2^62. -/
import Derived.Test.YtidgajjahpbbdaaS3
import Derived.Test.YtidgajjahpbbdaaS4
namespace Go.Proofs.Ytidgajjahpbbdaa
open Go.RowKit

/-- All that was there is as it was, but for the blocks g, p and b. -/
structure But3 (g p b : Nat) (w w' : World) : Prop where
  os : w'.os = w.os
  tape : w'.tape = w.tape
  output : w'.output = w.output
  size : w.heap.size ≤ w'.heap.size
  block : ∀ k, k < w.heap.size → k ≠ g → k ≠ p → k ≠ b → w'.heap[k]? = w.heap[k]?
theorem But3.of_below {g p b : Nat} {w w' : World} (h : Below w.heap.size w w') : But3 g p b w w' := ⟨h.os, h.tape, h.output, h.size, fun k hk _ _ _ => h.block k hk⟩
theorem But3.of_but {g p b : Nat} {w w' : World} (h : But p b w w') : But3 g p b w w' := ⟨h.os, h.tape, h.output, h.size, fun k hk _ h1 h2 => h.block k hk h1 h2⟩
theorem But3.of_one {g p b : Nat} {w w' : World} (h : But g g w w') : But3 g p b w w' := ⟨h.os, h.tape, h.output, h.size, fun k hk h1 _ _ => h.block k hk h1 h1⟩
theorem But3.trans {g p b : Nat} {x y z : World} (h : But3 g p b x y) (k : But3 g p b y z) : But3 g p b x z :=
  ⟨k.os.trans h.os, k.tape.trans h.tape, k.output.trans h.output, Nat.le_trans h.size k.size, fun i hi a c d => (k.block i (Nat.lt_of_lt_of_le hi h.size) a c d).trans (h.block i hi a c d)⟩
theorem But3.bel {g p b : Nat} {w0 w w' : World} (h : But3 g p b w w') (k : Below w0.heap.size w0 w) (h1 : w0.heap.size ≤ g) (h2 : w0.heap.size ≤ p) (h3 : w0.heap.size ≤ b) : Below w0.heap.size w0 w' :=
  ⟨h.os.trans k.os, h.tape.trans k.tape, h.output.trans k.output, Nat.le_trans k.size h.size, fun i hi => (h.block i (Nat.lt_of_lt_of_le hi k.size) (by omega) (by omega) (by omega)).trans (k.block i hi)⟩

/-- The state of words and of a holder. -/
structure Hs (w : World) (p b g : Nat) (s : St) (x : Ho) : Prop where
  mem : Mem 59 w p b s
  ho : IsHo w g x
  gp : g ≠ p
  gb : g ≠ b
theorem Hs.below {w w' : World} {p b g : Nat} {s : St} {x : Ho} (h : Hs w p b g s x) (k : Below w.heap.size w w') : Hs w' p b g s x := ⟨h.mem.below k, h.ho.below k, h.gp, h.gb⟩

def hT (s : St) (x : Ho) : St := if (hNext x).kd = 0 then s else doT s (hNext x)
def hX (s : St) (x : Ho) : Ho := if (hNext x).kd = 0 then x else hGo x (doR s (hNext x))

theorem hNext_zero {x : Ho} (h : (hNext x).kd = 0) : hNext x = ⟨0, 0, 0, 0⟩ := by
  unfold hNext at h ⊢
  by_cases h0 : x.st = 0
  · rw [if_pos h0] at h; exact absurd h (by simp)
  · rw [if_neg h0] at h ⊢
    by_cases h1 : x.st = 1
    · rw [if_pos h1] at h; exact absurd h (by simp)
    · rw [if_neg h1] at h ⊢
      by_cases h2 : x.st = 2 ∧ x.lv = true
      · rw [if_pos h2] at h; exact absurd h (by simp)
      · rw [if_neg h2]

set_option maxRecDepth 100000 in
set_option maxHeartbeats 600000 in
theorem hstep_0 {w : World} {p b g : Nat} {s : St} {x : Ho} (h : Hs w p b g s x) (ok : HOk x) (hz : hNext x = ⟨0, 0, 0, 0⟩) :
    Calls Try.prog 16 #[.pointer (some ⟨g, 0, none⟩), .pointer (some ⟨p, 0, none⟩)] w fun e w' => e = .returned (.int .i64 x.st) ∧ Hs w' p b g s x ∧ But3 g p b w w' := by
  have HW := hid h
  have HN := hid (hnext_at h.ho ok)
  rw [hz] at HN
  clear h ok hz
  go_enter Try.func16, Try.ntmps16
  go_wp2_with fail
  refine (hNone_at HW.out.ho).mono ?_
  rintro e w1 ⟨rfl, hw1⟩
  rw [hw1]
  clear hw1 w1
  go_wp2_with fail
  refine HN.out.mono ?_
  rintro e w2 ⟨rfl, K2⟩
  have h2 := HW.out.below (bel_trans K2 (below_alloc w2 (.cells (acC ⟨0, 0, 0, 0⟩) 41)))
  have H2 := hid h2
  have HB := hid (bel_trans K2 (below_alloc w2 (.cells (acC ⟨0, 0, 0, 0⟩) 41)))
  have c3 := h2.ho.hc.c3
  have d0 := (IsAc.new w2 ⟨0, 0, 0, 0⟩).c0
  have d1 := (IsAc.new w2 ⟨0, 0, 0, 0⟩).c1
  have d2 := (IsAc.new w2 ⟨0, 0, 0, 0⟩).c2
  have d3 := (IsAc.new w2 ⟨0, 0, 0, 0⟩).c3
  clear h2 K2 HN
  go_wp2
  go_ret
  exact ⟨rfl, H2.out, But3.of_below HB.out⟩

set_option maxRecDepth 100000 in
set_option maxHeartbeats 600000 in
theorem hstep_go {w : World} {p b g : Nat} {s : St} {x : Ho} {k : Nat} (h : Hs w p b g s x) (ok : HOk x) (c : Cnt s k) (hk : k ≤ bnd) (hz : ((hNext x).kd == 0) = false) :
    Calls Try.prog 16 #[.pointer (some ⟨g, 0, none⟩), .pointer (some ⟨p, 0, none⟩)] w fun e w' => e = .returned (.int .i64 (hGo x (doR s (hNext x))).st) ∧ Hs w' p b g (doT s (hNext x)) (hGo x (doR s (hNext x))) ∧ But3 g p b w w' := by
  have HW := hid h
  have HN := hid (hnext_at h.ho ok)
  have HD : Hid (∀ {w' : World}, Mem 59 w' p b s → Calls Try.prog 26 #[.pointer (some ⟨p, 0, none⟩), acV (hNext x)] w' fun e w'' => e = .returned (reV (doR s (hNext x))) ∧ Turns 59 p b w' w'' (doT s (hNext x))) := hid (fun hm => do_at hm c hk (hNext x))
  clear h ok c hk
  generalize hNext x = a at *
  generalize doT s a = s' at *
  generalize doR s a = r at *
  obtain ⟨rv, ro, re⟩ := r
  obtain ⟨ak, ad, aa, ab⟩ := a
  simp only [] at hz
  generalize hx' : hGo x ⟨rv, ro, re⟩ = x'
  have HX := hid hx'
  clear hx'
  have hz2 : (ak != 0) = true := by simpa using hz
  go_enter Try.func16, Try.ntmps16
  go_wp2_with fail
  refine (hNone_at HW.out.ho).mono ?_
  rintro e w1 ⟨rfl, hw1⟩
  rw [hw1]
  clear hw1 w1
  go_wp2_with fail
  refine HN.out.mono ?_
  rintro e w2 ⟨rfl, K2⟩
  have h2 := HW.out.below (bel_trans K2 (below_alloc w2 (.cells (acC ⟨ak, ad, aa, ab⟩) 41)))
  have H2 := hid h2
  have HB := hid (bel_trans K2 (below_alloc w2 (.cells (acC ⟨ak, ad, aa, ab⟩) 41)))
  have d0 := (IsAc.new w2 ⟨ak, ad, aa, ab⟩).c0
  have d1 := (IsAc.new w2 ⟨ak, ad, aa, ab⟩).c1
  have d2 := (IsAc.new w2 ⟨ak, ad, aa, ab⟩).c2
  have d3 := (IsAc.new w2 ⟨ak, ad, aa, ab⟩).c3
  clear h2 K2 HN
  go_wp2_with fail
  refine (HD.out H2.out.mem).mono ?_
  rintro e w3 ⟨rfl, T⟩
  have h3 : Hs w3 p b g s' x := ⟨T.1, H2.out.ho.keep (T.2.block _ H2.out.ho.lt H2.out.gp H2.out.gb), H2.out.gp, H2.out.gb⟩
  have H3 := hid h3
  have HB3 : Hid (But3 g p b w w3) := hid ((But3.of_below HB.out).trans (But3.of_but T.2))
  clear T h3 HB H2 d0 d1 d2 d3 HD
  go_wp2_with fail
  refine (hgo_at H3.out.ho ⟨rv, ro, re⟩).mono ?_
  rintro e w4 ⟨rfl, h4, B4⟩
  rw [HX.out] at h4
  have c3 := h4.hc.c3
  have H4 := hid h4
  have HB4 := hid B4
  clear h4 B4
  go_wp2
  go_ret
  exact ⟨rfl, ⟨H3.out.mem.but HB4.out H3.out.gp.symm H3.out.gp.symm H3.out.gb.symm H3.out.gb.symm, H4.out, H3.out.gp, H3.out.gb⟩, HB3.out.trans (But3.of_one HB4.out)⟩

theorem hstep_at {w : World} {p b g : Nat} {s : St} {x : Ho} {k : Nat} (h : Hs w p b g s x) (ok : HOk x) (c : Cnt s k) (hk : k ≤ bnd) :
    Calls Try.prog 16 #[.pointer (some ⟨g, 0, none⟩), .pointer (some ⟨p, 0, none⟩)] w fun e w' => e = .returned (.int .i64 (hX s x).st) ∧ Hs w' p b g (hT s x) (hX s x) ∧ But3 g p b w w' := by
  unfold hT hX
  by_cases hz : (hNext x).kd = 0
  · rw [if_pos hz, if_pos hz]; exact hstep_0 h ok (hNext_zero hz)
  · rw [if_neg hz, if_neg hz]; exact hstep_go h ok c hk (beq_eq_false_iff_ne.2 hz)
set_option maxHeartbeats 400000 in
theorem step_nil (w : World) (q : Option Addr) :
    Calls Try.prog 16 #[.pointer none, .pointer q] w fun e w' => e = .returned (.int .i64 0) ∧ w' = w := by
  go_enter Try.func16, Try.ntmps16
  go_wp2_with fail
  refine (hNone_nil w).mono ?_
  rintro e w1 ⟨rfl, hw1⟩
  rw [hw1]
  clear hw1 w1
  go_wp2
  go_ret
  exact ⟨rfl, rfl⟩
end Go.Proofs.Ytidgajjahpbbdaa
