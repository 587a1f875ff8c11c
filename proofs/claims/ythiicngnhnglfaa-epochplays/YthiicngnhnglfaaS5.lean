/- What Advance, New, Copy and Retire (whatever the number) return and leave, for every epochs that lie in memory and every number. No conditions beyond what Ok says of epochs that New gave, some calls ago. -/
import Derived.Test.YthiicngnhnglfaaS4
namespace Go.Proofs.Ythiicngnhnglfaa
open Go.RowKit Go.Maps

theorem retire_at {w : World} {p b m B : Nat} {s : Ep} (h : IsE w p b m s) (k : Ok B s) (hB : B ≤ 1000000) (f : Int) (hf : f < 9223372036854775808) :
    Calls Try.prog 14 #[.pointer (some ⟨p, 0, none⟩), .int .i64 f] w fun e w' => e = .returned (.int .i64 (retE s f)) ∧ IsE w' p b m (retS s f) ∧ Bt p b m w w' := by
  by_cases h0 : f < 0
  · have he : retE s f = 1 := by unfold retE; rw [if_pos h0]
    refine (retire_neg h k.pos f h0).mono ?_
    rintro e w' ⟨rfl, hw⟩
    rw [hw, he]
    unfold retS
    rw [he, if_neg (by decide)]
    exact ⟨rfl, h, Bt.refl _ _ _ _⟩
  · obtain ⟨i, rfl⟩ : ∃ i : Nat, f = i := ⟨f.toNat, by omega⟩
    by_cases hW : hasW i s.L = true
    · have he : retE s i = 5 := by unfold retE; rw [if_neg h0, Int.toNat_natCast, if_pos hW]
      refine (retire_twice h k.pos i (by omega) hW).mono ?_
      rintro e w' ⟨rfl, hw⟩
      rw [hw, he]
      unfold retS
      rw [he, if_neg (by decide)]
      exact ⟨rfl, h, Bt.refl _ _ _ _⟩
    · have he : retE s i = 0 := by unfold retE; rw [if_neg h0, Int.toNat_natCast, if_neg hW]
      refine (retire_ok h k hB i (by omega) (by simpa using hW)).mono ?_
      rintro e w' ⟨rfl, hE, hB⟩
      rw [he]
      unfold retS
      rw [he, if_pos rfl, Int.toNat_natCast]
      exact ⟨rfl, hE, hB⟩

/-! ### Advance -/
set_option maxHeartbeats 400000 in
theorem advance_none {w : World} {v : Value} (h : NoE w v) :
    Calls Try.prog 16 #[v] w fun e w' => e = .returned (.bool false) ∧ w' = w := by
  have HH := hid h
  clear h
  go_enter Try.func16, Try.ntmps16
  go_wp2_with fail
  refine (isNone_yes HH.out).mono ?_
  rintro e w1 ⟨rfl, rfl⟩
  go_wp2
  go_ret
  exact ⟨rfl, rfl⟩
theorem adv_no {s : Ep} {k : Nat} (hk : k < s.P.length) (h : late s.n (s.P.getD k none) = true) : advT s = false := by
  have hm : s.P.getD k none ∈ s.P := by simp [List.getD, hk]
  unfold advT
  rw [List.any_eq_true.2 ⟨_, hm, h⟩]
  rfl
theorem adv_yes {s : Ep} (h : ∀ k, k < s.P.length → late s.n (s.P.getD k none) = false) : advT s = true := by
  unfold advT
  have : s.P.any (late s.n) = false := by
    rw [List.any_eq_false]
    intro x hx
    obtain ⟨k, hk, rfl⟩ := List.getElem_of_mem hx
    have := h k hk
    simpa [List.getD, hk] using this
  rw [this]
  rfl
set_option maxRecDepth 100000 in
set_option maxHeartbeats 1000000 in
theorem advance_at {w : World} {p b m B : Nat} {s : Ep} (h : IsE w p b m s) (k : Ok B s) (hB : B ≤ 1000000) :
    Calls Try.prog 16 #[.pointer (some ⟨p, 0, none⟩)] w fun e w' => e = .returned (.bool (advT s)) ∧ IsE w' p b m (advS s) ∧ Bt p b m w w' := by
  have HN := hid (isNone_no h k.pos)
  have HE := hid h
  have htop := k.top
  have hcp := k.cpus
  obtain ⟨c, hc0, hc1, -, -⟩ := h.heads
  have HC := hid (fun (i : Nat) (hi : i < s.P.length) => h.cells i hi)
  clear h k
  go_enter Try.func16, Try.ntmps16
  go_wp2_with fail
  refine HN.out.mono ?_
  rintro e w1 ⟨rfl, rfl⟩
  go_wp2_with fail
  go_loopw [12] (fun i wr => ∃ j : Nat, j ≤ s.P.length ∧ i = .int .i64 j ∧ Below w1.heap.size w1 wr ∧ ∀ l, l < j → late s.n (s.P.getD l none) = false) (fun i _ => s.P.length - (intOf i).toNat)
  case atStart => exact ⟨0, Nat.zero_le _, rfl, Below.refl _ _, fun l hl => by omega⟩
  case round =>
    obtain ⟨j, hj, rfl, hBw, hl⟩ := hrel
    have HL := hid hl
    have HBw := hid hBw
    have hE := HE.out.below hBw
    clear hl hBw hc0 hc1
    obtain ⟨c', hc0, -, -, hf0⟩ := hE.heads
    by_cases hlt : j < s.P.length
    · obtain ⟨q0, q1⟩ := hE.cells j hlt
      have hw : IntKind.i64.wrap ((j : Int) + 1) = (j : Int) + 1 := i64w (by omega) (by omega)
      have HLt : Hid (late s.n (s.P.getD j none) = ((s.P.getD j none).isSome && (s.P.getD j none).getD 0 != s.n)) := rfl
      generalize hp : s.P.getD j none = pj at *
      have HP := hid hp
      clear hp
      generalize pj.isSome = x at *
      generalize pj.getD 0 = y at *
      have HEr := hid (hE.alloc (.cells #[.bool x, .int .i64 y] 55))
      clear hE hf0
      have step : ∀ d, late s.n (s.P.getD j none) = false → Hid (∀ l, l < j → late s.n (s.P.getD l none) = false) → d < j + 1 → late s.n (s.P.getD d none) = false := by
        intro d h1 h2 h3
        by_cases e : d = j
        · rw [e]; exact h1
        · exact h2.out d (by omega)
      have HStep := hid step
      clear step
      cases x
      · have hz : late s.n (s.P.getD j none) = false := by rw [HP.out]; exact HLt.out
        have HZ := hid hz
        clear hz
        go_wp2_with fail
        go_quiet (fail)
        go_wp2
        go_roundw
        case rel =>
          exact ⟨j + 1, by omega, by go_num, below_drewN (bgo HBw.out (below_one _ _)) _, fun d hd => HStep.out d HZ.out HL.out hd⟩
        case measure => simp [intOf]; omega
      · by_cases hy : y = s.n
        · have hz : late s.n (s.P.getD j none) = false := by rw [HP.out, HLt.out, hy]; simp
          have HZ := hid hz
          have hd : ((y : Int) != (s.n : Int)) = false := by rw [hy]; simp
          obtain ⟨ca, ha0, -, -, -⟩ := HEr.out.heads
          clear hz hy hc0
          go_wp2_with fail
          go_quiet (fail)
          go_wp2
          go_roundw
          case rel =>
            exact ⟨j + 1, by omega, by go_num, below_drewN (bgo HBw.out (below_one _ _)) _, fun d hd => HStep.out d HZ.out HL.out hd⟩
          case measure => simp [intOf]; omega
        · have hz : late s.n (s.P.getD j none) = true := by rw [HP.out, HLt.out]; simpa using hy
          have HZ := hid (adv_no hlt hz)
          have hd : ((y : Int) != (s.n : Int)) = true := by simpa using (by omega : ¬ (y : Int) = (s.n : Int))
          obtain ⟨ca, ha0, -, -, -⟩ := HEr.out.heads
          clear hz hy hc0
          go_wp2_with fail
          go_quiet (fail)
          go_wp2
          go_ret
          rw [HZ.out]
          unfold advS
          rw [HZ.out, if_neg (by decide)]
          have hq := below_drewN (bgo HBw.out (below_one wr (.cells #[.bool true, .int .i64 y] 55))) nq
          exact ⟨rfl, HE.out.below hq, Bt.of_below hq⟩
    · have hT : advT s = true := adv_yes fun d hd => HL.out d (by omega)
      have HT := hid hT
      have hw : IntKind.i64.wrap ((s.n : Int) + 1) = (s.n : Int) + 1 := i64w (by omega) (by omega)
      have HEr := hid hE
      clear hT hE
      go_wp2
      go_ret
      rw [HT.out]
      unfold advS
      rw [HT.out, if_pos rfl]
      have := HEr.out.setN (s.n + 1)
      rw [show ((s.n + 1 : Nat) : Int) = (s.n : Int) + 1 by omega] at this
      exact ⟨rfl, this, (Bt.of_below HBw.out).trans (Bt.setHead _ _ _)⟩

/-! ### New -/
theorem info55 : (Try.prog.info? 55).map (fun i => (i.zero, i.size, i.bytes)) = some (some (.agg #[.bool false, .int .i64 0]), 2, 16) := by kernel_rfl
theorem flat_pc (k : Nat) : pc (List.replicate k none) = (List.range (k * 2)).map fun i => if i % 2 = 0 then Value.bool false else .int .i64 0 := by
  induction k with
  | zero => rfl
  | succ k ih =>
    have e : pc (List.replicate (k + 1) none) = pc (List.replicate k none) ++ [.bool false, .int .i64 0] := by
      rw [List.replicate_succ', pc, List.flatMap_append]
      rfl
    rw [e, ih, show (k + 1) * 2 = k * 2 + 1 + 1 by omega, List.range_succ, List.range_succ]
    simp
theorem made2 (k : Nat) : madeCells #[(.bool false : Value), .int .i64 0] (k * 2) = ⟨pc (List.replicate k none)⟩ := by
  apply Array.toList_inj.1
  rw [flat_pc]
  apply List.ext_getElem
  · simp [madeCells]
  · intro i h1 h2
    simp only [madeCells, Array.toList_map, List.getElem_map, List.getElem_range, Array.getElem_toList, Array.getElem_range]
    have h3 : i % 2 < 2 := Nat.mod_lt _ (by decide)
    generalize i % 2 = r at h3
    match r, h3 with
    | 0, _ => rfl
    | 1, _ => rfl
theorem isE_new (w : World) (k : Nat) :
    IsE (((w.alloc (.cells (madeCells #[(.bool false : Value), .int .i64 0] (k * 2)) 55)).alloc (.map #[] 0)).alloc (.cells #[.int .i64 0, .slice (some ⟨w.heap.size, 0, none⟩) k k, .map (some (w.heap.size + 1))] 51)) (w.heap.size + 1 + 1) w.heap.size (w.heap.size + 1) (ep0 k) := by
  obtain ⟨a, b, c⟩ := three_new w (.cells (madeCells #[(.bool false : Value), .int .i64 0] (k * 2)) 55) (.map #[] 0) (.cells #[.int .i64 0, .slice (some ⟨w.heap.size, 0, none⟩) k k, .map (some (w.heap.size + 1))] 51)
  refine ⟨⟨k, ?_⟩, ⟨[], ?_⟩, ?_, by omega⟩
  · simpa [ep0] using c
  · rw [List.append_nil]
    show _ = some (Obj.cells ⟨pc (List.replicate k none)⟩ 55 (0, 0))
    rw [← made2]; exact a
  · have := (World.ownsMap_made (w.alloc (.cells (madeCells #[(.bool false : Value), .int .i64 0] (k * 2)) 55)) Try.prog 3 (plainElem (H := Unit) Try.prog 3)).alloc (.cells #[.int .i64 0, .slice (some ⟨w.heap.size, 0, none⟩) k k, .map (some (w.heap.size + 1))] 51)
    rw [World.size_alloc] at this
    exact this
set_option maxRecDepth 100000 in
set_option maxHeartbeats 1000000 in
theorem new_yes (k : Nat) (w : World) (h1 : 1 ≤ k) (h2 : k ≤ 8) :
    Calls Try.prog 8 #[.int .i64 k] w fun e w' => e = .returned (.tuple #[.pointer (some ⟨w.heap.size + 1 + 1, 0, none⟩), .int .i64 0]) ∧ IsE w' (w.heap.size + 1 + 1) w.heap.size (w.heap.size + 1) (ep0 k) ∧ Below w.heap.size w w' := by
  have hmk : ∀ W : World, (Instr.makeSlice 47 (.int .i64 (k : Int)) (.int .i64 (k : Int))).run Try.prog W = .ok (.slice (some ⟨W.heap.size, 0, none⟩) k k) (W.alloc (.cells (madeCells #[(.bool false : Value), .int .i64 0] (k * 2)) 55)) := by
    intro W
    obtain ⟨i, hi, hzz⟩ := Option.map_eq_some_iff.1 info55
    simp only [Prod.mk.injEq] at hzz
    obtain ⟨hz, hs, hb⟩ := hzz
    have hr := run_make (P := Try.prog) W 47 55 i _ Try.underlying47 hi hz .i64 .i64 k k (by omega) (Int.le_refl _) (by rw [hb]; omega) (by omega)
    simp only [Int.toNat_natCast, hs] at hr
    exact hr
  have hmm := @run_makeMap Try.prog
  have hN := hid (isE_new w k)
  go_enter Try.func8, Try.ntmps8
  go_wp2
  go_ret2
  exact ⟨rfl, hN.out, bthree w _ _ _⟩
set_option maxHeartbeats 400000 in
theorem new_no (n : Int) (w : World) (h : ¬ (1 ≤ n ∧ n ≤ 8)) :
    Calls Try.prog 8 #[.int .i64 n] w fun e w' => e = .returned (.tuple #[.pointer none, .int .i64 1]) ∧ w' = w := by
  by_cases h1 : n < 1
  · clear h
    go_enter Try.func8, Try.ntmps8
    go_wp2
    go_ret2
    exact ⟨rfl, rfl⟩
  · have h2 : 8 < n := by omega
    clear h
    go_enter Try.func8, Try.ntmps8
    go_wp2
    go_ret2
    exact ⟨rfl, rfl⟩
end Go.Proofs.Ythiicngnhnglfaa
