/- What lay, Pin and Unpin return and leave, for every epochs that lie in memory and every number. No conditions beyond what Ok says of epochs that New gave. -/
import Derived.Test.YthiicngnhnglfaaS1
namespace Go.Proofs.Ythiicngnhnglfaa
open Go.RowKit

set_option maxHeartbeats 400000 in
theorem lay_none {w : World} {v : Value} (h : NoE w v) (f a : Int) (x : Bool) :
    Calls Try.prog 27 #[v, .int .i64 f, .agg #[.bool x, .int .i64 a]] w fun e w' => e = .returned (.int .i64 10) ∧ Below w.heap.size w w' := by
  have HC := hid (fault_none (h.below (below_one w (.cells #[.bool x, .int .i64 a] 55))) f)
  have HB := hid (below_one w (.cells #[.bool x, .int .i64 a] 55))
  clear h
  go_enter Try.func27, Try.ntmps27
  go_wp2_with fail
  refine HC.out.mono ?_
  rintro e w1 ⟨rfl, rfl⟩
  go_wp2
  go_ret
  exact ⟨rfl, HB.out⟩
set_option maxHeartbeats 400000 in
theorem lay_out {w : World} {p b m : Nat} {s : Ep} (h : IsE w p b m s) (hp : 1 ≤ s.P.length) (f a : Int) (x : Bool) (hf : ¬ isC s f) :
    Calls Try.prog 27 #[.pointer (some ⟨p, 0, none⟩), .int .i64 f, .agg #[.bool x, .int .i64 a]] w fun e w' => e = .returned (.int .i64 2) ∧ Below w.heap.size w w' := by
  have HC := hid (fault_out (h.alloc (.cells #[.bool x, .int .i64 a] 55)) hp f hf)
  have HB := hid (below_one w (.cells #[.bool x, .int .i64 a] 55))
  clear h hf
  go_enter Try.func27, Try.ntmps27
  go_wp2_with fail
  refine HC.out.mono ?_
  rintro e w1 ⟨rfl, rfl⟩
  go_wp2
  go_ret
  exact ⟨rfl, HB.out⟩
set_option maxRecDepth 100000 in
set_option maxHeartbeats 1000000 in
theorem lay_same {w : World} {p b m : Nat} {s : Ep} (h : IsE w p b m s) (hp : 1 ≤ s.P.length) (h8 : s.P.length ≤ 8) (i : Nat) (hi : i < s.P.length) (a : Int) (x : Bool) (hx : (s.P.getD i none).isSome = x) :
    Calls Try.prog 27 #[.pointer (some ⟨p, 0, none⟩), .int .i64 i, .agg #[.bool x, .int .i64 a]] w fun e w' => e = .returned (.int .i64 6) ∧ Below w.heap.size w w' := by
  have h' := h.alloc (.cells #[.bool x, .int .i64 a] 55)
  have HC := hid (fault_in h' hp i hi)
  have HB := hid (below_one w (.cells #[.bool x, .int .i64 a] 55))
  have hA := heap_alloc_new w (.cells #[.bool x, .int .i64 a] 55)
  have q0 := cell_of (i := 0) hA rfl
  obtain ⟨c, -, hc, -, -⟩ := h'.heads
  obtain ⟨c0, -⟩ := h'.cells i hi
  rw [hx] at c0
  have hxx : (x == x) = true := by cases x <;> rfl
  clear h h' hp hx hA
  have hw : IntKind.i64.wrap (i : Int) = i := i64w (by omega) (by omega)
  generalize s.P.length = n at hc hi h8
  go_enter Try.func27, Try.ntmps27
  go_wp2_with fail
  refine HC.out.mono ?_
  rintro e w1 ⟨rfl, rfl⟩
  go_wp2
  go_quiet (fail)
  go_wp2
  go_ret
  exact ⟨rfl, below_drewN HB.out _⟩
set_option maxRecDepth 100000 in
set_option maxHeartbeats 1000000 in
theorem lay_ok {w : World} {p b m : Nat} {s : Ep} (h : IsE w p b m s) (hp : 1 ≤ s.P.length) (h8 : s.P.length ≤ 8) (i : Nat) (hi : i < s.P.length) (v : Option Nat) (hx : (s.P.getD i none).isSome = !v.isSome) :
    Calls Try.prog 27 #[.pointer (some ⟨p, 0, none⟩), .int .i64 i, .agg #[.bool v.isSome, .int .i64 (v.getD 0 : Nat)]] w fun e w' => e = .returned (.int .i64 0) ∧ IsE w' p b m ⟨s.n, s.P.set i v, s.L⟩ ∧ Bt p b m w w' := by
  have h' := h.alloc (.cells #[.bool v.isSome, .int .i64 (v.getD 0 : Nat)] 55)
  have HC := hid (fault_in h' hp i hi)
  have HB := hid (below_one w (.cells #[.bool v.isSome, .int .i64 (v.getD 0 : Nat)] 55))
  have hA := heap_alloc_new w (.cells #[.bool v.isSome, .int .i64 (v.getD 0 : Nat)] 55)
  have q0 := cell_of (i := 0) hA rfl
  obtain ⟨c, -, hc, -, -⟩ := h'.heads
  obtain ⟨c0, -⟩ := h'.cells i hi
  rw [hx] at c0
  have H' := hid h'
  have HA := hid hA
  have HI := hid hi
  generalize hy : v.isSome = y at *
  generalize hz : v.getD 0 = z at *
  have HY := hid hy
  have HZ := hid hz
  have hxx : ((!y) == y) = false := by cases y <;> rfl
  clear h h' hp hx hA hy hz
  have hw : IntKind.i64.wrap (i : Int) = i := i64w (by omega) (by omega)
  generalize hn : s.P.length = n at hc hi h8
  have HN := hid hn
  clear hn
  go_enter Try.func27, Try.ntmps27
  go_wp2_with fail
  refine HC.out.mono ?_
  rintro e w1 ⟨rfl, rfl⟩
  go_wp2
  go_quiet (fail)
  have hq := below_drewN (Below.refl (w.alloc (.cells #[.bool y, .int .i64 z] 55)).heap.size (w.alloc (.cells #[.bool y, .int .i64 z] 55))) nq
  have HB2 := hid (bgo HB.out hq)
  have hE := H'.out.below hq
  have hA2 := stay hq HA.out
  clear hq q0 c0 hc
  obtain ⟨c, -, hc, -, -⟩ := hE.heads
  rw [HN.out] at hc
  have q0 := cell_of (i := 0) hA2 rfl
  have q1 := cell_of (i := 1) hA2 rfl
  obtain ⟨c0, c1⟩ := hE.cells i HI.out
  have f0 := hE.free (i * 2)
  have f1 := hE.free (i * 2 + 1)
  have HE := hid hE
  clear hE hA2
  generalize (w.alloc (.cells #[.bool y, .int .i64 z] 55)).drewN nq = W at *
  go_wp2_with fail
  go_region
  all_goals
    go_wp2
    go_ret
    refine ⟨rfl, ?_, ((Bt.of_below HB2.out).trans ((Bt.setRow _ _ _).trans (Bt.setRow _ _ _))).drew⟩
    have := HE.out.set i HI.out v
    rw [HY.out, HZ.out] at this
    exact this.drew
theorem pin_none {w : World} {v : Value} (h : NoE w v) (f : Int) :
    Calls Try.prog 10 #[v, .int .i64 f] w fun e w' => e = .returned (.int .i64 10) ∧ Below w.heap.size w w' := by
  have HH := hid h
  clear h
  go_enter Try.func10, Try.ntmps10
  go_wp2_with fail
  refine (now_none HH.out).mono ?_
  rintro e w1 ⟨rfl, rfl⟩
  go_wp2_with fail
  refine (lay_none HH.out f 0 true).mono ?_
  rintro e w2 ⟨rfl, hB⟩
  have HB := hid hB
  clear hB
  go_wp2
  go_ret
  exact ⟨rfl, HB.out⟩
theorem unpin_none {w : World} {v : Value} (h : NoE w v) (f : Int) :
    Calls Try.prog 12 #[v, .int .i64 f] w fun e w' => e = .returned (.int .i64 10) ∧ Below w.heap.size w w' := by
  have HH := hid h
  clear h
  go_enter Try.func12, Try.ntmps12
  go_wp2_with fail
  refine (lay_none HH.out f 0 false).mono ?_
  rintro e w2 ⟨rfl, hB⟩
  have HB := hid hB
  clear hB
  go_wp2
  go_ret
  exact ⟨rfl, HB.out⟩
/-- Whatever lay leaves: a pin is laid, or not. -/
theorem lay_at {w : World} {p b m B : Nat} {s : Ep} (h : IsE w p b m s) (k : Ok B s) (f : Int) (v : Option Nat) :
    Calls Try.prog 27 #[.pointer (some ⟨p, 0, none⟩), .int .i64 f, .agg #[.bool v.isSome, .int .i64 (v.getD 0 : Nat)]] w fun e w' =>
      e = .returned (.int .i64 (if isC s f then (if (pinOf s f).isSome = v.isSome then 6 else 0) else 2)) ∧ IsE w' p b m (if isC s f ∧ (pinOf s f).isSome ≠ v.isSome then ⟨s.n, s.P.set f.toNat v, s.L⟩ else s) ∧ Bt p b m w w' := by
  by_cases hf : isC s f
  · obtain ⟨i, rfl⟩ : ∃ i : Nat, f = i := ⟨f.toNat, by have := hf.1; omega⟩
    have hi : i < s.P.length := by have := hf.2; omega
    by_cases hx : (s.P.getD i none).isSome = v.isSome
    · have hx' : (pinOf s i).isSome = v.isSome := hx
      refine (lay_same h k.pos k.cpus i hi _ _ hx).mono ?_
      rintro e w' ⟨rfl, hB⟩
      rw [if_pos hf, if_pos hx', if_neg (fun h => h.2 hx')]
      exact ⟨rfl, h.below hB, Bt.of_below hB⟩
    · have hx' : ¬ (pinOf s i).isSome = v.isSome := hx
      refine (lay_ok h k.pos k.cpus i hi v (by revert hx; cases (s.P.getD i none).isSome <;> cases v.isSome <;> simp)).mono ?_
      rintro e w' ⟨rfl, hE, hB⟩
      rw [if_pos hf, if_neg hx', if_pos ⟨hf, hx'⟩]
      exact ⟨rfl, hE, hB⟩
  · refine (lay_out h k.pos f _ _ hf).mono ?_
    rintro e w' ⟨rfl, hB⟩
    rw [if_neg hf, if_neg (fun h => hf h.1)]
    exact ⟨rfl, h.below hB, Bt.of_below hB⟩
theorem pin_at {w : World} {p b m B : Nat} {s : Ep} (h : IsE w p b m s) (k : Ok B s) (f : Int) :
    Calls Try.prog 10 #[.pointer (some ⟨p, 0, none⟩), .int .i64 f] w fun e w' => e = .returned (.int .i64 (pinE s f)) ∧ IsE w' p b m (pinS s f) ∧ Bt p b m w w' := by
  have HL := hid (lay_at h k f (some s.n))
  have HN := hid (now_at h k.pos)
  have HR : Hid (∀ w', IsE w' p b m (if isC s f ∧ (pinOf s f).isSome ≠ true then ⟨s.n, s.P.set f.toNat (some s.n), s.L⟩ else s) → IsE w' p b m (pinS s f)) := by
    intro w' h
    unfold pinS pinE
    by_cases h1 : isC s f
    · by_cases h2 : (pinOf s f).isSome = true
      · rw [if_neg (fun h => h.2 h2)] at h
        rw [if_pos h1, if_pos h2, if_neg (by decide)]; exact h
      · rw [if_pos ⟨h1, h2⟩] at h
        rw [if_pos h1, if_neg h2, if_pos rfl]; exact h
    · rw [if_neg (fun h => h1 h.1)] at h
      rw [if_neg h1, if_neg (by decide)]; exact h
  have he : (if isC s f then (if (pinOf s f).isSome = true then 6 else 0) else 2 : Int) = pinE s f := rfl
  simp only [Option.isSome_some, Option.getD_some] at HL
  rw [he] at HL
  clear h k he
  generalize pinE s f = x at *
  go_enter Try.func10, Try.ntmps10
  go_wp2_with fail
  refine HN.out.mono ?_
  rintro e w1 ⟨rfl, rfl⟩
  go_wp2_with fail
  refine HL.out.mono ?_
  rintro e w2 ⟨rfl, hE, hB⟩
  have HE := hid hE
  have HB := hid hB
  clear hB hE
  go_wp2
  go_ret
  exact ⟨rfl, HR.out _ HE.out, HB.out⟩
theorem unpin_at {w : World} {p b m B : Nat} {s : Ep} (h : IsE w p b m s) (k : Ok B s) (f : Int) :
    Calls Try.prog 12 #[.pointer (some ⟨p, 0, none⟩), .int .i64 f] w fun e w' => e = .returned (.int .i64 (unE s f)) ∧ IsE w' p b m (unS s f) ∧ Bt p b m w w' := by
  have HL := hid (lay_at h k f none)
  have HR : Hid (∀ w', IsE w' p b m (if isC s f ∧ (pinOf s f).isSome ≠ false then ⟨s.n, s.P.set f.toNat none, s.L⟩ else s) → IsE w' p b m (unS s f)) := by
    intro w' h
    unfold unS unE
    by_cases h1 : isC s f
    · by_cases h2 : (pinOf s f).isSome = true
      · rw [if_pos ⟨h1, by rw [h2]; decide⟩] at h
        rw [if_pos h1, if_pos h2, if_pos rfl]; exact h
      · rw [if_neg (fun h => h.2 (by simpa using h2))] at h
        rw [if_pos h1, if_neg h2, if_neg (by decide)]; exact h
    · rw [if_neg (fun h => h1 h.1)] at h
      rw [if_neg h1, if_neg (by decide)]; exact h
  have he : (if isC s f then (if (pinOf s f).isSome = false then 6 else 0) else 2 : Int) = unE s f := by
    unfold unE
    cases (pinOf s f).isSome <;> rfl
  simp only [Option.isSome_none, Option.getD_none] at HL
  rw [he] at HL
  clear h k he
  generalize unE s f = x at *
  go_enter Try.func12, Try.ntmps12
  go_wp2_with fail
  refine HL.out.mono ?_
  rintro e w2 ⟨rfl, hE, hB⟩
  have HE := hid hE
  have HB := hid hB
  clear hB hE
  go_wp2
  go_ret
  exact ⟨rfl, HR.out _ HE.out, HB.out⟩
end Go.Proofs.Ythiicngnhnglfaa
